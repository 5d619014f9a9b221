import PyProof.Rows.All
import Wide.All
import OpenK.AllK
import Wide.FinOn
import Lean
import PyProof.EqAt
import PyProof.EqKinds
import PyProof.TupleCall
import PySem.Challenge.RW_againbook_k39_whole_again_is_the_run
set_option Elab.async false
set_option linter.all false
set_option maxRecDepth 100000
set_option genSizeOf false
set_option compiler.extract_closed false
set_option bootstrap.genMatcherCode false
open Option renaming some->δ,none->θ,map_eq_some_iff->dt,isSome_iff_exists->pw
open List renaming length->ο,toArray->ε,getElem?_eq_some_iff->ξ,mem_singleton->τ,mem_cons->Ξ,mem_append->γ,mem_map->dg,range->eC,lookup->fJ,mem_append_right->ge,mem_iff_getElem->gr,getElem?_eq_getElem->hY,replicate->ic,mem_append_left->js,nodup_cons->ly,mem_iff_getElem?->mF,cons->pe,mem_range->pk
open PySem renaming Addr->ζ,Value->η,Shared->ι,wpAny->π,model->χ,Str->ρ,sizeLine->υ,Program->ω,starEach->Δ,mainGlobals->Φ,Around->bx,World->bS,FuncData->bU,Stmt->cv,strKind->cJ,Heap->db,Expr->dr,Builtin->dw,backTo->eT,Obj->fx,Scope->hJ,codeAny->ib,holding->iu,sizeLine->kv
open Bool renaming true->μ,false->ν,eq_false_iff->lq
open PySem.Value renaming ref->Θ,none->ab,type->de,int->gs,str->ks,bool->mS
open Or renaming inl->ψ,inr->fz
open PySem.Builtin.SmallTypes renaming nextOf->Ω,ownedTupleIsFree->bF,ownedTupleHandOut->kw
open PySem.W renaming Frag->Ψ,keepIn->fr,methodObj->mT,takerIn->on,OpenLaw->oS,fnOf->pz
open Array renaming getElem?_eq_some_iff->β,toList->lu
open PySem.Obj renaming mapSeq->bm,mapFields->fv,putSet->kz
open PySem.Builtin.Tuple renaming tupleExact->ea,tupleItemsOf->ny
open PySem.Builtin.List renaming listSameRef->ef,listTooLong->ff,listExtendWith->fy,listLengthHint->im,listSubscript?->nz,listAllItems->nI
open PySem.Heap renaming SameBut->ey,ExtBut->mI
open PySem.Builtin.Slice renaming slicePlaces->fR,sliceAdjust->iv,sliceApplied->mU
open PySem.F renaming slot_zip_getattribute->ir,called_tuple->mu
local macro_rules|`(tactic|erw[$t:term])=>if t.raw[0].getId.getPrefix== `F then `(tactic|(refine $t;intro)) else `(tactic|refine $t)
local macro_rules|`(tactic|rwa[$t:term])=>`(tactic|exact $t)
local macro_rules|`(tactic|let $d:letDecl)=>`(tactic|have $d:letDecl)
local macro_rules|`(↑$a)=>`(some (.ref $a))
local macro_rules|`(tactic|let ⟨$x,*⟩:=$t)=>do{let y←x.getElems.mapM fun|`($i:ident)=>`(Lean.Parser.Tactic.rcasesPatLo|$i:ident)|_=>`(Lean.Parser.Tactic.rcasesPatLo|_);`(tactic|obtain ⟨$y,*⟩:=$t)}
local macro_rules|`(-$n:ident)=>`(($n).heap.objs.size)
local macro_rules|`(∅)=>`(λ_ _=>rfl)
local macro_rules|`(($t:term :))=>`(by simpa using $t)
local macro_rules|`(‹$h›)=>`({$(Lean.mkIdent `s) with heap:=$h})
abbrev ri:=@List
abbrev rm:=@Option
def ms:0≤kv:=by decide
def io:1≤kv:=by decide
def bN:2≤kv:=by decide
def gE:3≤kv:=by decide
def sd:4≤kv:=by decide
set_option maxHeartbeats 4000000
open PySem.W (keepIn Frag nsIn kitOne fnOf mg_of codeIn findIn mroIn isFn mg_none_of kia_one typeIn emptyDict clsIn instObj hasDictIn kitAny specialIn callWith_K excIn lookIn plainGet notCls tailIn)
noncomputable section
def LB{p:Prop}(h:p:=by decide):p:=h
def LA{p:Prop}(h:p:=by omega):p:=h
def N09{p:Prop}(h:p:=by omega+splitDisjunctions):p:=h
def Lz{p:Prop}(h:p:=by simp):p:=h
def Ly{p:Prop}(h:p:=by decide +kernel):p:=h
def Lx{p:Prop}(h:p:=by rfl):p:=h
def Z{α:Sort u}{a:α}:a=a:=rfl
def Wa{p:Prop}(h:p:=by first|decide|rfl):p:=h
def Wb{p:Prop}(h:p:=by first |exact .inl Z |exact .inr Z |assumption):p:=h
local macro_rules|`(↥$p)=>`(autoParam $p Wa._auto_1)
open PySem renaming wpAny_bind->Me,wpAny_pure->Mh,wpAny_holding->MJ,wpAny_field->MO,wpAny_call_entry->MY,wpAny_callSpecial?_slot->M1,wpAny_newObj_type->M4,builtinLookup_eq_fast->M8,boot_len->M9,wpAny_setField->Nc,wpAny_seqItems->Ni,wpAny_mono->Nk,wpAny_Call_Name_kw->Nl,wpAny_rule->Nx,typeLookup_type->NC,codeAny_builtin->ND,mem_of_lookup->NJ,isSubtype_type->NV,wpAny_setState_of->NW,wpAny_specialOf->NZ,wpAny_typeOf->N7,plainId_quiet->Oh,wpAny_isInstance->Oj,sizeLine_eq->Op,wpAny_setField_rec->Ou,wpAny_passesOwn->Ox,wpAny_standAt->Oy,wpAny_attempt->Oz,wpAny_askSetting->ON,codeAny_mono->OP,wpAny_setEntries_of->OR,wpAny_newList->OT,wpAny_execs_nil->OU,wpAny_pyIter_tuple->OX,wpAny_newTuple->O0,tupleKind_room_in1->Pn,wpAny_truthy_bool->PL,wpAny_pyIter_list->PM,wpAny_of_eq->PQ,fits_of_scanBound->PU,entryFor_of_tree->Rh,wpAny_updateSeq->Rm,codeAny_handlers_test->Rq,wpAny_loadPart->Rs,wpAny_fieldsOf->Rt,isSubtype_stop->Ry,entryFor_alias->Rz,wpAny_handleBy_cons->RG,call_meets->RQ,wpAny_sequenceKey->R0,wpAny_pyIter_slot->R6,wpAny_execs_cons->Sn,noFill_tuple_add->So,codeAny_of_tree->SK,wpAny_runValue->SV,wpAny_listPart->SW,wpAny_call->SX,wpAny_bindName->SY,wpAny_onRaise->Tj,wpAny_comprehension_free->Tk,seq_tuple_add->Tn,wpAny_pyNext_list_item->TB,seqIndex_neg->TF,concat_meets->TK,callType_new->TN,wpAny_pyNext_list_end->T3,wpAny_isTrue_Compare1->T4,wpAny_updateSeq_pair->Ua,wpAny_loadName_local->Ub,wpAny_letGo->Uc,seqIndex_of->Ud,codeAny_extend_loopS->Ue,wpAny_loadName_cell->Uk,wpAny_load->Uu,wpAny_Name->Uv,wpAny_storeSet_of->Uy,wpAny_pyIter_enum->Uz,wpAny_assign_Name->UA,wpAny_Assign_Name->UB,slot_list_setitem->UC,merged_length_le->UL,callType_codes->Vk
open List renaming getElem?_eq_getElem->Mf,length_map->Mi,length_append->Ml,size_toArray->Mm,mem_cons_self->Mz,getElem?_map->MH,mem_append_right->MK,mem_cons_of_mem->ML,mem_of_getElem?->MM,map_append->MS,length_take->MT,not_mem_nil->MU,length_cons->MV,mem_of_mem_take->M',take_length->Np,lookup_cons->Nq,getElem?_eq_none->Nv,mem_append_left->NB,map_cons->NH,take_add_one->NQ,forIn_cons->NR,take_of_length_le->NY,length_drop->N4,getElem?_append_right->N6,getElem?_append_left->N9,mem_append->Oa,find?_cons->Ob,take_sublist->Oc,map_map->Od,getElem?_set_ne->Oe,mem_cons->Og,length_singleton->Oq,take_succ->OA,getD_eq_getElem?_getD->OB,forIn_nil->OD,getElem_mem->OE,getElem?_set_self->OV,getElem?_reverse->OZ,length_set->O2,mem_singleton->O7,getElem?_zip_eq_some->Pa,reverse_cons->Pf,length_range->Pg,map_take->Pj,append_cancel_right->Pk,any_cons->Pl,all_eq_true->Pq,getElem_cons_drop->PV,of_mem_zip->P6,take_append_drop->Ra,length_replicate->Rb,length_filter_le->Rc,nodup_nil->Rj,mem_of_mem_drop->Rk,filterMap_cons->Rp,append_assoc->RF,eraseIdx_eq_take_drop_succ->RL,ext_getElem->RO,nodup_cons->RV,length_zip->RW,length_nil->RX,append_nil->RY,length_eraseIdx_of_lt->Sl,mem_or_eq_of_mem_set->Su,drop_eq_getElem_cons->Sv,all_cons->SG,getElem?_replicate->SM,append_cancel_left->SN,length_reverse->Tq,getElem?_drop->Tv,forIn_toArray->Tw,filter_append->Tx,getElem?_inj->TR,any_eq_false->TU,zipIdx_cons->T5,append_inj'->T6,any_eq_true->T7,zipIdx_nil->Ug,mem_filter->Uh,take_take->Um,drop_zero->Uo,map_drop->Ux,map_set->UF,map_nil->UG
open PySem.Heap renaming get?_push_of_some->Mg,lt_size->Mn,get?_push_size->Mo,get?_update_other->MG,get?_update_self->M0,size_push->Na,size_update->RP,get?_update_ne->Ts
open Nat renaming le_refl->Mj,ne_of_lt->Mt,zero_le->Mu,le_trans->Mw,lt_of_lt_of_le->MD,ne_of_gt->Nf,lt_irrefl->Nt,lt_succ_self->NF,le_succ->NG,succ_le_succ->NM,lt_of_le_of_lt->NN,lt_succ_of_lt->Of,le_add_right->Oi,le_of_lt->Ol,min_eq_left->Oo,not_lt_zero->O4,le_of_not_lt->Px,le_max_right->Py,zero_add->PY,sub_self->PZ,lt_or_ge->P0,le_of_eq->P5,le_max_left->P',sub_zero->RI,lt_of_succ_lt->RJ,min_le_left->Sd,add_sub_cancel'->Tt,add_le_add_left->Tu,le_add_left->Ul,max_assoc->UD,mod_lt->Vo
open PyProof.Rows renaming wpS_bind->Mp,wpS_pure->Mr,callWith_type1->M6,wpS_forRange->Nb,wpS_mono->NT,boot_tuple->N0,slot_tuple_getitem->N8,listUpdate_at->O5,boot_isinstance->O8,wpS_modify->Pm,wpS_get->PJ,seqEpoch_at->PR,wpS_lift->Rg,entry_list_sort->Ro,slot_list_sort->Ru,boot_sorted->RB,args_list_sort->RC,plain_sorted->Sa,entry_sorted->Sb,args_sorted1->Sc,kind_sorted->Sy,list_sort_plain->SI,get?_update_seq->SJ,size_push'->Ta,boot_str->Tb,boot_reversed->To,subscriptTail_builtinR->TC,listItems_at->TJ,collect_list->TM,Subscript_->Uw,boot_dict->UM,tupleItemsOf_->Vb,iadd_int->Vc,entry_tuple_getitem->Vd,callWith_builtin1->Ve,boot_zip->Vf,boot_enumerate->Vg,boot_dict->Vh,args_tuple_getitem->Vi,slicePart_none->Vj,boot_set->Vl,boot_int->Vm
open Bool renaming false_ne_true->Mq,false_eq_true->Ms,and_eq_true->Nz,not_true->OM,eq_iff_iff->P7,and_false->Rl,or_false->SH,not_eq_true'->TY,eq_false_iff->TZ,false_and->Ut,true_or->UK
open Array renaming length_toList->ME,getElem?_eq_getElem->Nj,getElem?_toList->Nu,toList_push->Pb,getElem?_eq_none->PH,size_extract->Rr,size_append->RD,toList_append->Ti,size_map->Uj
open PySem.F renaming plainAttrs_list->MF,type_list_append->MP,slot_list_append->MQ,slot_tuple_iterator_next->Nr,slot_zip_next->NA,type_list_extend->OG,slot_list_extend->OH,args_tuple_iterator_next_1->OJ,plain_list_iadd->OK,args_zip_next_1->OL,entry_tuple_iterator_next->OQ,entry_zip_next->OS,args_object_init_2->O3,args_tuple_add_2->O9,entry_tuple_add->Pe,slot_tuple_add->Po,plainAttrs_str->Pp,type_str_join->Pt,slot_str_join->Pu,slot_dict_get->Pw,plain_proto_collect->RM,entry_proto_collect->RN,plain_extend_loop->RU,plain_tuple_new->Sf,entry_list_iadd->Si,args_dict_get_3->Sj,entry_dict_get->Sr,slot_set_iter->SE,plain_set_new->SF,args_list_extend_2->TX,entry_list_extend->T8,slot_list_extend->Ui
open PySem.Obj renaming data_mapFields->MW,isFreed_of_fields->Nw,cls_mapFields->OY
open PySem.PassesOwn renaming never->M3,leaving->SQ
open Option.some renaming inj->M5
open Int renaming emod_lt_of_pos->M7,toNat_natCast->Ng,emod_nonneg->No,fdiv_eq_ediv_of_nonneg->Sw,eq_ofNat_of_zero_le->SR,toNat_of_nonneg->Tz,ediv_nonneg->Uq
open PySem.Around renaming under_plainId->Nh
open PySem.AutoSeq1 renaming wpAny_loadPart'->NK
open PySem.Heap.SameBut renaming update->NO,refl->Sx
open PySem.W renaming mg_none_of->NP,kia_one->Pd,methodCall_KW->Pr,plainGet_of->Ri,mg_of->Rv,looks_mroIn->Rx,callWith_K->RS,cellsFrom_some->Sq,callWith_K0->SO,kitx_list->Te,kitx_dict->Tf,looks_typeIn->TH
open PySem.Calls renaming spliced_cons->N5,spliced_nil->Ot,call_function_entry->OF,callWith_builtin->Pz,Name_function_global->Se,evalArgs_plain->Td
open PyProof.Rows.F renaming plain_set_update_loop->On,entry_set_update_loop->Ph
open PySem.Value renaming isStrOf_shape->O1
open PySem.W.KFB renaming if_not->PX,if_so->Vn
open Option renaming getD_none->RE,isNone_some->Tg,isNone_none->Th,isSome_map->Tp
open PySem.Heap.IsSliceOf renaming new->RZ
open PySem.W.Looks renaming of_pure->Ss,ld->Uf,here->UN
open PySem.SeqAt.EqAt renaming str_int->Sz,int_str->SA,int_int->SD,tuple_int->Us,str_str->UH,int_int->UJ
open PySem.Heap.DictOf renaming new->SU
open PySem.IsL renaming isList->Tc
open StateT renaming run_pure->TQ
open PyProof.Rows.IsTup renaming new->TW
open PySem.ItemsOf renaming nil->Up
open PySem.Meets renaming of_wp->UE
open PySem.EqMixed renaming ne_str_int->UO,ne_str_bool->UP,ne_int_str->UQ,ne_bool_str->UR,eq_str_int->UT,eq_str_bool->UU,eq_int_str->UV,eq_bool_str->UW
open PySem.Within renaming cons->UX
open PySem.EqNone renaming ne_str_none->UY,ne_none_str->UZ,ne_none_none->U0,ne_none_int->U1,ne_none_bool->U2,ne_int_none->U3,ne_bool_none->U4,eq_str_none->U5,eq_none_str->U6,eq_none_none->U7,eq_none_int->U8,eq_none_bool->U9,eq_int_none->U',eq_bool_none->Va
def Mv:=@if_pos
def Mx:=@if_neg
def My:=@decide_eq_false
def MN:=@decide_eq_true
def MX:=@Ne.symm
def MZ:=@congrArg
def Nn:=@of_decide_eq_true
def Ny:=@if_false
def NE:=@bne_self_eq_false
def Om:=@bind_congr
def Ov:=@beq_self_eq_true
def O6:=@if_true
def P8:=@or_false
def P9:=@of_decide_eq_false
def Sm:=@Iff.rfl
def Ur:=@PySem.Heap.IsTupleIter.at
def Vp:=@PySem.Heap.IsList.at
local macro_rules|`(#[$x,*])=>`(⟨$x,*⟩)
local macro_rules|`(tactic|omega)=>`(tactic|lia)
namespace _L
open PySem PySem.Spec PyProof.Rows
abbrev bu:=Sum Int ρ
def i6:bu->η->Bool
 | .inl k,v=>Value.isInt k v
 | .inr x,v=>Value.isStrOf x v
def Ii(w:bS):bu->Int
 | .inl k=>hashInt k
 | .inr x=>hashStr w x
def j4:∀{k:bu} {v:η},i6 k v=μ->(∃i t,k=Sum.inl i/\v=gs i t)∨(∃x t,k=Sum.inr x/\v=ks x t)
 | .inl i,v,h=>by let⟨t,e⟩:=Value.isInt_shape (k:=i) (v:=v) h;rwa[.inl #[i,t,Z,e]]
 | .inr x,v,h=>by let⟨t,e⟩:=O1 (x:=x) (v:=v) h;rwa[.inr #[x,t,Z,e]]
def ZU(i:Int)(t:Tok):i6 (.inl i) (.int i t)=μ:=by simp [i6,Value.isInt]
def ZV(x:ρ)(t:Tok):i6 (.inr x) (.str x t)=μ:=by simp [i6,Value.isStrOf]
def Cm(a b:Int):decide ((Sum.inl a:bu)=Sum.inl b)=(a==b):=by
 by_cases e:a=b
 .subst e;simp
 .let h:¬(Sum.inl a:bu)=Sum.inl b:=λq=>e (Sum.inl.inj q);rw[My h];exact(beq_eq_false_iff_ne.mpr e).symm
def Cp(a b:ρ):decide ((Sum.inr a:bu)=Sum.inr b)=decide (a=b):=by
 by_cases e:a=b
 .subst e;simp
 .let h:¬(Sum.inr a:bu)=Sum.inr b:=λq=>e (Sum.inr.inj q);rw[My h,My e]
def Cn(a:Int)(b:ρ):decide ((Sum.inl a:bu)=Sum.inr b)=ν:=My (λq=>nomatch q)
def Co(a:ρ)(b:Int):decide ((Sum.inr a:bu)=Sum.inl b)=ν:=My (λq=>nomatch q)
def aZ(p:ω)(w:bS):PySem.KeyKind p w bu where
 is:=i6
 hash:=Ii w
 inj:=λv a b d c=>by
  rcases j4 d with ⟨i,t,rfl,rfl⟩ | ⟨x,t,rfl,rfl⟩
  .rcases j4 c with ⟨j,u,rfl,e⟩ | ⟨y,u,rfl,e⟩
   .injection e with E _;rw[E]
   .rwa[nomatch e]
  .rcases j4 c with ⟨j,u,rfl,e⟩ | ⟨y,u,rfl,e⟩
   .rwa[nomatch e]
   .injection e with E _;rw[E]
 byValue:=λk v h=>by rcases j4 h with ⟨i,t,rfl,rfl⟩ | ⟨x,t,rfl,rfl⟩<;>rfl
 pyHash:=λH h=>by
  rcases j4 H with ⟨i,t,rfl,rfl⟩ | ⟨x,t,rfl,rfl⟩
  .rwa[wpAny_pyHash_int h]
  .rwa[wpAny_pyHash_str h]
 eqBool:=λf H h=>by
  rcases j4 f with ⟨i,t,rfl,rfl⟩ | ⟨x,t,rfl,rfl⟩
  .rcases j4 H with ⟨j,u,rfl,rfl⟩ | ⟨y,u,rfl,rfl⟩
   .rw[Cm]at h;rwa[wpAny_eqBool_int h]
   .rw[Cn]at h;rwa[SA i t y u _ _ _ _ h]
  .rcases j4 H with ⟨j,u,rfl,rfl⟩ | ⟨y,u,rfl,rfl⟩
   .rw[Co]at h;rwa[Sz x t j u _ _ _ _ h]
   .rw[Cp]at h;rwa[wpAny_eqBool_str h]
 «strs»:=λk x t v h=>by
  rcases j4 h with ⟨i,u,rfl,e⟩ | ⟨y,u,rfl,e⟩
  .rwa[nomatch e]
  .injection e with E _;subst E;cases v<;>rfl
def XY(p:ω)(w:bS)(i:Int)(t:Tok):(aZ p w).is (.inl i) (.int i t)=μ:=ZU i t
def XZ(p:ω)(w:bS)(x:ρ)(t:Tok):(aZ p w).is (.inr x) (.str x t)=μ:=ZV x t
end _L
namespace _L
open PySem PySem.Spec PyProof.Rows
inductive V where
 |non |bl (b:Bool) |int (i:Int) |str (x:ρ) |byt (b:Array UInt8) |flt (b:UInt64) |ref (a:ζ) |ty (n:String)
 deriving DecidableEq
set_option genInjectivity false
def aE:V->η->Prop
 | .non,u=>u=ab
 | .bl b,u=>u=mS b
 | .int i,u=>∃t,u=gs i t
 | .str x,u=>∃t,u=ks x t
 | .byt b,u=>∃t,u=Value.bytes b t
 | .flt b,u=>∃t,u=Value.float b t
 | .ref a,u=>u=Θ a
 | .ty n,u=>u=de n
abbrev ay:ri V->ri η->Prop:=Paired aE
def ay.length(r:ay x u):ο x=ο u:=Paired.length r
theorem ay.get:∀{X:ri V} {U:ri η} {i:Nat} {x:V},ay X U->X[i]?=δ x->∃u,U[i]?=δ u/\aE x u
 |_,_,_,_,.nil,e=>by simp at e
 |_,_,0,_,.cons r _,e=>by simp at e;subst e;exact#[_,Z,r]
 |_,_,i+1,x,.cons _ t,e=>by let⟨u,h,H⟩:=ay.get (i:=i) (x:=x) t (e:);exact#[u,by simpa using h,H]
theorem ay.set(r:aE x u):∀{X:ri V} {U:ri η} (i:Nat),ay X U->ay (X.set i x) (U.set i u)
 |_,_,_,.nil=>.nil
 |_,_,0,.cons _ t=>.cons r t
 |_,_,i+1,.cons q t=>.cons q (ay.set r i t)
theorem ay.append{x y:ri V}{u w:ri η}(h:ay x u)(s:ay y w):ay (x++y) (u++w):=by
 induction h with
 |nil=>rwa[s]
 |cons r _ f=>rwa[.cons r f]
theorem ay.take:∀{x:ri V} {u:ri η} (n:Nat),ay x u->ay (x.take n) (u.take n)
 |_,_,0,_ |_,_,_+1,.nil=>.nil
 |_,_,n+1,.cons r t=>.cons r (ay.take n t)
theorem ay.drop:∀{x:ri V} {u:ri η} (n:Nat),ay x u->ay (x.drop n) (u.drop n)
 |_,_,0,r=>r
 |_,_,_+1,.nil=>.nil
 |_,_,n+1,.cons _ t=>ay.drop n t
def dX:rm V->rm η->Prop
 |some v,δ u=>aE v u
 |none,θ=>True
 |_,_=>False
def KV{a:Type}:ri (a×V)->ri (a×η)->Prop:=Paired λ(p:a×V) (q:a×η)=>p.1=q.1/\aE p.2 q.2
def kV:bu->V
 | .inl i=>.int i
 | .inr x=>.str x
inductive HO where
 |lst (xs:ri V)
 |tup (xs:ri V)
 |dK (kvs:ri (bu×V)) |dT (kvs:ri (ri bu×V))
 |set (S:Int->Bool) (n:Nat)
 |ins (C dx:ζ) (fs:ri (ρ×V))
 |own (x:ζ)
 |xd (fs:ri (ρ×V))
 |met (f x:ζ)
 |rng (lo hi:Int)
 |frz (o:fx) (u:HO)
 |tbl (ps:Array η)
 |ext (φ:db->Prop)
abbrev Hp:=ζ->rm HO
def ah(H:Hp)(a:ζ)(o:HO):Hp:=λb=>if b=a then δ o else H b
def jc:ah H a o a=δ o:=by unfold ah;rw[Mv Z]
def ji(h:b≠a):ah H a o b=H b:=by unfold ah;rw[Mx h]
def jN{H:Hp}(h:H a=δ o)(c:H b=δ u)(d:o≠u):a≠b:=by intro e;subst e;rw[h]at c;rwa[d (M5 c)]
def jk{H:Hp}(h:H a=δ o)(c:H b=θ):a≠b:=by intro e;subst e;rw[h]at c;cases c
section
variable (P:ω)(w:bS)
def aK(H:Hp)(h:db)(a:ζ):HO->Prop
 | .lst X=>ο X<=υ/\∃(i:ri η) (n:Nat),ay X i/\h.get? a=δ { cls:=.type "list",data:=.seq i.toArray n }
 | .tup X=>ο X<=υ/\∃i:ri η,ay X i/\IsTup h a i.toArray
 | .dK k=>ο k<=υ/\(a==sysModules)=ν/\∃c,KV k c/\h.DictOf (aZ P w) a c
 | .dT k=>ο k<=υ/\(a==sysModules)=ν/\∃X:ri (ri bu×ζ×η),
   Paired (λ(p:ri bu×V) (q:ri bu×ζ×η)=>p.1=q.1/\H q.2.1=δ (.tup$ p.1.map kV)/\aE p.2 q.2.2) k X/\
   ∃o e E,h.get? a=δ o/\o.ExactDict/\o.data= .dict e E/\e.toList=X.map (entryOfKey$ tupleKind$ aZ P w)/\(X.map (·.1)).Nodup
 | .set S n=>h.SetOf (intKind P w) a S n
 | .ins C d F=>H d=δ (.own a)/\ο F<=1000/\d≠a/\h.get? a=δ (instObj C d)/\
   ∃m,h.Ns1 d m/\(∀f,dX (F.lookup f)$ m f)/\PySem.Within m (F.map (·.1))
 | .own _=>∃o,h.get? a=δ o
 | .xd F=>∃m,h.Ns1 a m/\∀f,dX (F.lookup f) (m f)
 | .rng lo l=>∃t u v,h.get? a=δ { cls:=.type "range",data:=.fields (ε [.int lo t,.int l u,.int 1 v]) }
 | .frz o u=>h.get? a=δ o/\aK H h a u
 | .tbl r=>h.get? a=δ { cls:=.none,data:=.fields r }
 | .met f x=>h.get? a=δ (mT (.ref f) (.ref x))
 | .ext b=>b h/\(∃o,h.get? a=δ o)/\∀g j:db,b g->(∀o,g.get? a=δ o->j.get? a=δ o)->b j
def eQ(H:Hp)(h:db):Prop:=∀a o,H a=δ o->aK P w H h a o
end
section
variable {P:ω}{w:bS}{H H':Hp}{h h':db}{a:ζ}{o:HO}
def aK.lt(x:aK P w H h a o):a < h.objs.size:=by
 cases o with
 |lst X=>let⟨_,_,_,_,e⟩:=x;rwa[Mn e]
 |tup X=>let⟨_,_,_,p⟩:=x;rwa[p.lt]
 |dK k |dT k=>let⟨_,_,_,_,o,_,_,e,_⟩:=x;rwa[Mn e]
 |set S n=>let⟨o,_,_,_,e,_⟩:=x;rwa[Mn e]
 |ins C d F=>let⟨_,_,_,e,_⟩:=x;rwa[Mn e]
 |own y=>let⟨_,e⟩:=x;rwa[Mn e]
 |xd F=>obtain⟨_,⟨_,_,_,e,_⟩,_⟩:=x;rwa[Mn e]
 |rng lo b=>let⟨_,_,_,e⟩:=x;rwa[Mn e]
 |frz O u=>let⟨e,_⟩:=x;rwa[Mn e]
 |tbl c |met f y=>rwa[Mn (show h.get? a=δ _ from x)]
 |ext g=>obtain⟨_,⟨_,e⟩,_⟩:=x;rwa[Mn e]
theorem Paired.mapP{c d:Type}{F G:c->d->Prop}{l:ri c}{L:ri d}(h:Paired F l L)(f:∀a b,F a b->G a b):Paired G l L:=by
 induction h with
 |nil=>rwa[.nil]
 |cons r _ t=>rwa[.cons (f _ _ r) t]
def aK.stay(x:aK P w H h a o)(k:∀b u,(b=a∨H b=δ (.own a))->h.get? b=δ u->h'.get? b=δ u)
  (s:∀b,H b=δ (.own a)->H' b=δ (.own a)) (A:∀b X,H b=δ (.tup X)->H' b=δ (.tup X)):aK P w H' h' a o:=by
 induction o with
 |lst X=>let⟨z,i,n,r,e⟩:=x;exact#[z,i,n,r,k _ _ (.inl Z) e]
 |tup X=>let⟨z,i,r,O,e,c⟩:=x;exact#[z,i,r,O,k _ _ (.inl Z) e,c]
 |dK K=>let⟨z,y,V,r,O,E,g,e,c⟩:=x;exact#[z,y,V,r,O,E,g,k _ _ (.inl Z) e,c]
 |dT K=>let⟨z,y,X,r,O,E,g,e,c⟩:=x;exact#[z,y,X,Paired.mapP r λp q z=>#[z.1,A _ _ z.2.1,z.2.2],O,E,g,k _ _ (.inl Z) e,c]
 |set S n=>let⟨O,E,g,t,e,c⟩:=x;exact#[O,E,g,t,k _ _ (.inl Z) e,c]
 |ins C D F=>obtain⟨d,z,N,e,m,⟨j,E,g,B,c⟩,r⟩:=x;exact#[s _ d,z,N,k _ _ (.inl Z) e,m,#[j,E,g,k _ _ (.inr d) B,c],r]
 |own y=>let⟨O,e⟩:=x;exact#[O,k _ _ (.inl Z) e]
 |xd F=>obtain⟨m,⟨j,E,g,e,c⟩,r⟩:=x;exact#[m,#[j,E,g,k _ _ (.inl Z) e,c],r]
 |rng lo G=>let⟨t,u,v,e⟩:=x;exact#[t,u,v,k _ _ (.inl Z) e]
 |frz O u I=>let⟨e,q⟩:=x;exact#[k _ _ (.inl Z) e,I q]
 |tbl l=>have e:h.get? a=δ { cls:=.none,data:=.fields l }:=x;show h'.get? a=δ { cls:=.none,data:=.fields l };rwa[k a _ (.inl Z) e]
 |met f y=>have e:h.get? a=δ (mT (.ref f)$ .ref y):=x;show h'.get? a=δ (mT (.ref f)$ .ref y);rwa[k a _ (.inl Z) e]
 |ext J=>obtain⟨p,⟨o,e⟩,st⟩:=x;exact#[st _ _ p λo q=>k _ _ (.inl Z) q,#[o,k _ _ (.inl Z) e],st]
def eQ.lt(x:eQ P w H h)(e:H a=δ o):a < h.objs.size:=(x a o e).lt
def eQ.fresh(x:eQ P w H h)(e:h.objs.size<=a):H a=θ:=by
 cases q:H a with
 |none=>rfl
 |some u=>rwa[absurd (MD (x.lt q) e) (Nt _)]
def eQ.kept(x:eQ P w H h)(k:∀b u,h.get? b=δ u->h'.get? b=δ u):eQ P w H h':=λa o e=>
 (x a o e).stay (λb u _ q=>k b u q) (λ_ q=>q) λ_ _ q=>q
def eQ.laid(x:eQ P w H h)(k:∀b u,h.get? b=δ u->h'.get? b=δ u)(g:h.objs.size<=a)(n:aK P w (ah H a o) h' a o):eQ P w (ah H a o) h':=λb u e=>by
 let d:=x.fresh g;by_cases f:b=a
 .subst f;rw[jc]at e;cases e;rwa[n]
 .rw[ji f]at e;exact(x b u e).stay (λc v _ q=>k c v q) (λc q=>by rw[ji$ jk q d];rwa[q]) λc X q=>by rw[ji$ jk q d];rwa[q]
end
def Rd(H:Hp)(a:ζ)(u:HO):Prop:=H a=δ u∨∃o,H a=δ (.frz o u)
def Rd.ok{P:ω}(r:Rd H a u)(x:eQ P w H h):aK P w H h a u:=by
 rcases r with r | ⟨o,r⟩
 .rwa[x a u r]
 .let⟨_,q⟩:=x a _ r;rwa[q]
def Ex:rm HO->Prop
 |some (.lst _) |some (.dK _) |some (.dT _) |some (.set _ _) |some (.ins _ _ _) |some (.ext _)=>True
 |_=>False
section
variable {P:ω}{w:bS}{H:Hp}{h h':db}{x e:ζ}{o':HO}
def eQ.write(o:eQ P w H h)(m:Ex (H x))(i:e=x∨H e=δ (.own x))(k:∀b u,b≠e->h.get? b=δ u->h'.get? b=δ u)(f:∃u,h'.get? e=δ u)
  (g:aK P w (ah H x o') h' x o'):eQ P w (ah H x o') h':=λb u q=>by
 let n:∀c y,H c=δ (.own y)->c≠x:=λc y r z=>by subst z;rw[r]at m;rwa[m]
 let N:∀c X,H c=δ (.tup X)->c≠x:=λc X r z=>by subst z;rw[r]at m;rwa[m]
 by_cases d:b=x
 .subst d;rw[jc]at q;cases q;rwa[g]
 .rw[ji d]at q;by_cases a:b=e
  .let Q:H b=δ (.own x):=by
    rcases i with z |z
    .rwa[absurd (a.trans z) d]
    .rw[a];rwa[z]
   rw[q]at Q;cases Q;let⟨v,j⟩:=f;exact#[v,by rw[a];rwa[j]]
  .refine(o b u q).stay (λc v hc r=>k c v ?_ r) (λc r=>by rw[ji$ n c b r];rwa[r]) λc X r=>by rw[ji$ N c X r];exact r
   rcases hc with rfl |hc
   .rwa[a]
   .rintro rfl;rcases i with z |z
    .rwa[n c b hc z]
    .rw[hc]at z;cases z;rwa[d Z]
end
structure Un(fs ex:ri ζ)(H H':Hp)(h h':db):Prop where
 keep:∀b o,h.get? b=δ o->H b=θ->b∉fs->b∉ex->h'.get? b=δ o
 slot:∀b o,h.get? b=δ o->H b=θ->b∈fs->b∉ex->∃sl,h'.get? b=δ { o with slots:=sl }
 free:∀b o,h.get? b=δ o->H b=θ->b∉ex->H' b=θ
 there:∀b o,h.get? b=δ o->b∉ex->∃o',h'.get? b=δ o'
 tups:∀b xs,H b=δ (.tup xs)->H' b=δ (.tup xs)
 frzs:∀b o u,H b=δ (.frz o u)->H' b=δ (.frz o u)
 tbls:∀b ps,H b=δ (.tbl ps)->∃more,H' b=δ (.tbl$ ps++more)
section
variable {fs fs' ex ex':ri ζ}{H H1 H2:Hp}{h h1 h2 h':db}{a x e:ζ}{o:HO}
def Un.any(u:Un fs ex H H1 h h1)(q:h.get? b=δ O)(n:H b=θ)(c:b∉ex):∃s,h1.get? b=δ { O with slots:=s }:=by
 by_cases d:b∈fs
 .rwa[u.slot b O q n d c]
 .exact#[O.slots,u.keep b O q n d c]
def Un.kept(k:∀b u,h.get? b=δ u->h'.get? b=δ u):Un fs ex H H h h':=
 #[λb O q _ _ _=>k b O q,λb O q _ _ _=>#[O.slots,k b O q],λ_ _ _ n _=>n,λb O q _=>#[O,k b O q],λ_ _ q=>q,λ_ _ _ q=>q,λ_ p q=>#[(ε []),by rw[q];simp]]
def Un.refl:Un fs ex H H h h:=Un.kept λ_ _ q=>q
def Un.laid(k:∀b u,h.get? b=δ u->h'.get? b=δ u)(d:h.objs.size<=a)(c:H a=θ):Un fs ex H (ah H a o) h h' where
 keep:=λb u q _ _ _=>k b u q
 slot:=λb u q _ _ _=>#[u.slots,k b u q]
 free:=λb u q n _=>by rw[ji$ Mt$ MD (Mn q) d];rwa[n]
 there:=λb u q _=>#[u,k b u q]
 tups:=λb X q=>by rw[ji$ jk q c];rwa[q]
 frzs:=λb u X q=>by rw[ji$ jk q c];rwa[q]
 tbls:=λb p q=>#[(ε []),by rw[ji$ jk q c,q];simp]
def Un.write(m:Ex (H x))(j:e=x∨H e=δ (.own x))(k:∀b u,b≠e->h.get? b=δ u->h'.get? b=δ u)(d:∃u,h'.get? e=δ u):Un fs ex H (ah H x o) h h':=by
 let g:∀b,H b=θ->b≠x:=λb n z=>by subst z;rw[n]at m;rwa[m]
 let i:∀b,H b=θ->b≠e:=λb n z=>by
  subst z;rcases j with r |r
  .rwa[g b n r]
  .rw[n]at r;cases r
 let f:∀b u,H b=δ u->¬Ex (δ u)->b≠x:=λb u q N z=>by subst z;rw[q]at m;rwa[N m]
 refine#[λb u q n _ _=>k b u (i b n) q,λb u q n _ _=>#[u.slots,k b u (i b n) q],λb u q n _=>by rw[ji$ g b n];exact n,λb u q _=>?_,
  λb X q=>by rw[ji$ f b _ q λz=>z];rwa[q],λb u X q=>by rw[ji$ f b _ q λz=>z];rwa[q],λb p q=>#[(ε []),by rw[ji$ f b _ q λz=>z,q];simp]]
 by_cases c:b=e
 .subst c;rwa[d]
 .exact#[u,k b u c q]
end
def HA(h:db)(H:Hp):ri ζ:=(eC h.objs.size).filter λa=>(H a).isSome
def lE(h:db)(H:Hp):db:=PySem.W.hideAll h (HA h H)
def ZW(h:db)(H:Hp):(lE h H).objs.size=h.objs.size:=PySem.W.hideAll_size _ _
def tO{h:db}{H:Hp}(e:h.get? b=δ o)(n:H b=θ):(lE h H).get? b=δ o:=
 PySem.W.hideAll_get _ e λa=>by let q:(H b).isSome=μ:=(List.mem_filter.mp a).2;rw[n]at q;simp at q
def yd(e:(lE h H).get? b=δ o):h.get? b=δ o/\H b=θ:=by
 let E:h.get? b=δ o:=PySem.W.of_hideAll (HA h H) e;erw[#[E,?_]];cases q:H b with
 |none=>rfl
 |some x=>have a:b∈HA h H:=List.mem_filter.mpr #[pk.mpr$ Mn E,by simp [q]];let z:(lE h H).get? b=θ:=PySem.W.hideAll_none (HA h H) a;rw[z]at e;cases e
end _L
open _L.V renaming str->qr,int->qs,ref->rb
namespace _L
open PySem PySem.Spec PyProof.Rows
structure Mod(K:Ψ)(mg:ρ->rm η)(base:db):Prop where
 kin:K.In base
 glob:base.Ns Φ mg
 blt:∃mb,base.Ns builtinsNs mb/\∀x:ρ,x≠"__name__"->mb x=bootBuiltins x
 nolimit:base.NoLimit
structure Cx where
 prog:ω
 w:bS
 K:Ψ
 mg:ρ->rm η
 base:db
 A:bx
 N:ri ρ
 s₀:ι
 H₀:Hp
 env:Env
 outer:ri Env
 stack:ri Env
 ex:ri ζ
 fn:ρ->Bool
 calm:Bool
 pn:ri (ζ×fx)
 xe:η->ι->Prop
def i5(l:ri Env):ri ζ:=l.filterMap (·.frame)
abbrev Cx.fs(X:Cx):ri ζ:=i5 X.outer
def Hk(s:hJ)(x:ρ):Prop:=s.names.lookup x=δ .local∨s.names.lookup x=δ .cell∨s.names.lookup x=δ .free
def sA(s:hJ)(x:ρ):Prop:=s.names.lookup x=δ .local∨s.names.lookup x=δ .cell
def HJ(e:Env)(h:db)(m:ρ->rm η)(x:ρ)(u:η):Prop:=
 (e.kindOf x=δ .local/\m x=δ u)∨((e.kindOf x=δ .cell∨e.kindOf x=δ .free)/\∃c,e.cells.lookup x=δ c/\h.IsCell c (δ u))
structure Cx.Ok(X:Cx):Prop where
 mod:Mod X.K X.mg X.base
 kind:X.env.scope.kind= .function
 glob:X.env.globals=Φ
 blt:X.env.builtins=builtinsNs
 above:X.s₀.heap.objs.size<=X.env.locals
 inj:∀x y c,X.env.cells.lookup x=δ c->X.env.cells.lookup y=δ c->x=y
 has:∀x,(X.env.kindOf x=δ .cell∨X.env.kindOf x=δ .free)->∃c,X.env.cells.lookup x=δ c
 cab:∀x c,X.fn x=μ->X.env.cells.lookup x=δ c->X.s₀.heap.objs.size<=c
 hd:X.calm=μ->X.A.handled=θ
 frames:X.A.frames=δ X.stack
 stk:X.stack=X.outer∨(X.stack=X.env::X.outer/\X.env.frame=δ X.env.locals)
 exf:∀b∈X.ex,b≠X.env.locals/\∀x c,X.env.cells.lookup x=δ c->c≠b
 bs:∀b o,X.base.get? b=δ o->X.s₀.heap.get? b=δ o/\X.H₀ b=θ
 bsz:X.base.objs.size<=X.s₀.heap.objs.size
 noex:∀b o,X.base.get? b=δ o->b∉X.ex
 exfs:∀b∈X.ex,b∉X.fs
 funs:X.s₀.heap.FunFrames X.base X.outer
 frf:∀b∈X.fs,X.H₀ b=θ
structure ap(X:Cx)(pins:ri (ζ×fx))(σ:ri (rm V))(H:Hp)(s:ι):Prop where
 ok:X.Ok
 os:s.os=X.s₀.os
 bare:AllBare s.gens
 base:Un X.fs X.ex X.H₀ H X.s₀.heap s.heap
 loc:∃m,s.heap.Ns X.env.locals m/\∀(i:Nat) (x:ρ) (v:V),X.N[i]?=δ x->σ[i]?=δ (δ v)->Hk X.env.scope x->∃u,aE v u/\HJ X.env s.heap m x u
 cell:∀x c,X.env.cells.lookup x=δ c->∃v,s.heap.IsCell c v
 free:H X.env.locals=θ
 freeC:∀x c,X.env.cells.lookup x=δ c->H c=θ
 pin:∀p∈X.pn++pins,s.heap.get? p.1=δ p.2/\H p.1=θ/\p.1≠X.env.locals/\p.1∉X.fs/\∀v,p.2.data≠ .cell v
 hok:eQ X.prog X.w H s.heap
 len:ο σ=ο X.N
section
variable {X:Cx}{pins:ri (ζ×fx)}{σ:ri (rm V)}{H H':Hp}{s:ι}{h':db}
def Cx.Ok.nofr(O:X.Ok)(e:X.base.get? b=δ o):b∉X.fs:=λh=>by let:=(O.funs.mem h).1;rw[e]at this;cases this
def ap.bs(I:ap X pins σ H s):∀b o,X.base.get? b=δ o->s.heap.get? b=δ o/\H b=θ:=λb o e=>
 #[I.base.keep b o (I.ok.bs b o e).1 (I.ok.bs b o e).2 (I.ok.nofr e)$ I.ok.noex b o e,I.base.free b o (I.ok.bs b o e).1 (I.ok.bs b o e).2$ I.ok.noex b o e]
def ap.bk(I:ap X pins σ H s):∀b o,X.base.get? b=δ o->s.heap.get? b=δ o:=λb o e=>(I.bs b o e).1
def ap.mod(I:ap X pins σ H s):Mod X.K X.mg X.base:=I.ok.mod
def ap.kIn(I:ap X pins σ H s):X.K.In s.heap:=I.ok.mod.kin.keeps I.bk
def ap.lt(I:ap X pins σ H s):X.env.locals < -s:=by let⟨_,h,_⟩:=I.loc;rwa[h.lt]
def ap.sz(I:ap X pins σ H s):X.s₀.heap.objs.size<=-s:=Mw I.ok.above (Ol I.lt)
def ap.nofs(I:ap X pins σ H s)(h:-s<=a):a∉X.fs:=λb=>by let⟨_,o,c,_⟩:=I.ok.funs.mem b;rwa[absurd (MD (Mn c)$ Mw I.sz h)$ Nt _]
def ap.cne(I:ap X pins σ H s):∀x c,X.env.cells.lookup x=δ c->c≠X.env.locals:=λx c e z=>by let⟨v,o,b,d⟩:=I.cell x c e;obtain⟨m,⟨O,E,f,h,a,_⟩,_⟩:=I.loc;rw[z,h]at b;cases b;rw[a]at d;cases d
def ap.funs(I:ap X pins σ H s):s.heap.FunFrames X.base X.outer:=by
 let all:∀(l:ri Env),(∀b∈i5 l,b∈X.fs)->X.s₀.heap.FunFrames X.base l->s.heap.FunFrames X.base l:=by
  intro l;induction l with
  |nil=>intro _ _;trivial
  |cons E r i=>intro d f;obtain⟨g,⟨L,o,h,j,k,m⟩,n⟩:=f;let a:L∈X.fs:=d L (by unfold i5;rw[List.filterMap_cons,h];rwa[List.mem_cons_self]);let⟨S,e⟩:=I.base.slot L o k (I.ok.frf L a) a λz=>I.ok.exfs L z a;exact#[g,#[L,_,h,j,e,m],i (λb c=>d b (by unfold i5;rw[List.filterMap_cons,h];rwa[List.mem_cons_of_mem _ c])) n]
 rwa[all X.outer (λ_ c=>c) I.ok.funs]
def ap.stack(I:ap X pins σ H s):s.heap.FunFrames X.base X.stack:=by
 rcases I.ok.stk with e | ⟨e,h⟩
 .rw[e];rwa[I.funs]
 .rw[e];let⟨m,a,_⟩:=I.loc;erw[.cons (by rw[I.ok.kind];decide) h a ?_ I.funs];rwa[Heap.get?_none_of_le$ Mw I.ok.bsz I.ok.above]
def ap.stkSub(I:ap X pins σ H s):∀b∈i5 X.stack,b∈X.env.locals::X.fs:=λb h=>by
 rcases I.ok.stk with e | ⟨e,a⟩
 .rw[e]at h;rwa[ML _ h]
 .rw[e]at h;unfold i5 at h;rw[Rp,a]at h;rwa[h]
def ap.stkFree(I:ap X pins σ H s):∀b∈i5 X.stack,H b=θ:=λb hb=>by
 rcases Ξ.mp (I.stkSub b hb) with e |hb
 .rw[e];rwa[I.free]
 .let⟨_,o,h,_⟩:=I.ok.funs.mem hb;rwa[I.base.free b o h (I.ok.frf b hb) λz=>I.ok.exfs b z hb]
def ap.step{g':Array GenState}{d':Drawn}{ch:ri ζ}(I:ap X pins σ H s)
  (a:∀b∈ch,(b∈X.ex∨X.s₀.heap.objs.size<=b)/\b≠X.env.locals/\(∀x c,X.env.cells.lookup x=δ c->c≠b)/\∀p∈X.pn++pins,p.1≠b)
  (K:∀b o,b≠X.env.locals->b∉X.fs->b∉ch->s.heap.get? b=δ o->H b=θ->h'.get? b=δ o)
  (S:∀b o,b≠X.env.locals->b∈X.fs->b∉ch->s.heap.get? b=δ o->H b=θ->∃J,h'.get? b=δ { o with slots:=J }) (f:∀b o,b∉ch->s.heap.get? b=δ o->H b=θ->H' b=θ)
  (t:∀b o,b∉ch->s.heap.get? b=δ o->∃O,h'.get? b=δ O)
  (T:∀b j,H b=δ (.tup j)->H' b=δ (.tup j)) (F:∀b o u,H b=δ (.frz o u)->H' b=δ (.frz o u)) (B:∀b P,H b=δ (.tbl P)->∃M,H' b=δ (.tbl$ P++M))
  (ns:∀m,s.heap.Ns X.env.locals m->h'.Ns X.env.locals m) (L:eQ X.prog X.w H' h') (hg:AllBare g'):
  ap X pins σ H' { s with heap:=h',gens:=g',drawn:=d',toks:=t' }:=by
 let D:∀b o,X.s₀.heap.get? b=δ o->b≠X.env.locals:=λb o e=>Mt (MD (Mn e) I.ok.above);let g:∀b o,X.s₀.heap.get? b=δ o->b∉X.ex->b∉ch:=λb o e h y=>by
  rcases(a b y).1 with z |z
  .rwa[h z]
  .rwa[absurd (MD (Mn e) z)$ Nt _]
 let C:∀x c,X.env.cells.lookup x=δ c->∀v,s.heap.IsCell c v->h'.IsCell c v:=λx c e v #[o,A,Q]=>by
  let N:c∉ch:=λz=>(a c z).2.2.1 x c e Z;by_cases U:c∈X.fs
  .let⟨J,q⟩:=S c o (I.cne x c e) U N A (I.freeC x c e);exact#[_,q,Q]
  .exact#[o,K c o (I.cne x c e) U N A$ I.freeC x c e,Q]
 erw[#[I.ok,I.os,hg,#[λb o e n y h=>?_,λb o e n y h=>?_,λb o e n h=>?_,λb o e h=>?_,λb j e=>T b j (I.base.tups b j e),λb o j e=>F b o j (I.base.frzs b o j e),λb P e=>?_],?_,λx c e=>?_,?_,λx c e=>?_,λp W=>?_,L,I.len]]
 .rwa[K b o (D b o e) y (g b o e h) (I.base.keep b o e n y h)$ I.base.free b o e n h]
 .let⟨J,E⟩:=I.base.slot b o e n y h;let⟨R,G⟩:=S b _ (D b o e) y (g b o e h) E (I.base.free b o e n h);exact#[R,G]
 .let⟨O,E⟩:=I.base.there b o e h;rwa[f b O (g b o e h) E$ I.base.free b o e n h]
 .let⟨O,E⟩:=I.base.there b o e h;rwa[t b O (g b o e h) E]
 .let⟨m1,E⟩:=I.base.tbls b P e;let⟨m2,G⟩:=B b _ E;exact#[m1++m2,by rw[G,Array.append_assoc]]
 .let⟨m,hn,hl⟩:=I.loc;erw[#[m,ns m hn,λi x v E G e3=>?_]];let⟨u,r,l⟩:=hl i x v E G e3;erw[#[u,r,?_]];rcases l with l | ⟨k,c,e,z⟩
  .rwa[.inl l]
  .rwa[.inr #[k,c,e,C x c e _ z]]
 .let⟨v,z⟩:=I.cell x c e;exact#[v,C x c e v z]
 .obtain⟨m,⟨o,_,_,A,_⟩,_⟩:=I.loc;rwa[f _ o (λz=>(a _ z).2.1 Z) A I.free]
 .let⟨v,o,A,Q⟩:=I.cell x c e;rwa[f c o (λz=>(a c z).2.2.1 x c e Z) A$ I.freeC x c e]
 .let⟨e,n,Y,nf,d⟩:=I.pin p W;let N:p.1∉ch:=λz=>(a p.1 z).2.2.2 p W Z;exact#[K p.1 p.2 Y nf N e n,f p.1 p.2 N e n,Y,nf,d]
def ap.un{t':Nat}(I:ap X pins σ H s)(u:Un X.fs [] H H' s.heap h')(a:eQ X.prog X.w H' h'):ap X pins σ H' { s with heap:=h',toks:=t' }:=by
 obtain⟨m,⟨o,j,k,f,r⟩,_⟩:=id I.loc;let⟨S,g⟩:=u.any f I.free Lz;exact I.step (g':=s.gens) (d':=s.drawn) (ch:=[]) (λ_ z=>nomatch z) (λb o _ c _ e n=>u.keep b o e n c Lz) (λb o _ c _ e n=>u.slot b o e n c Lz) (λb o _ e n=>u.free b o e n Lz) (λb o _ e=>u.there b o e Lz) u.tups u.frzs u.tbls (λM i=>by
  let⟨O,E,d,h,R⟩:=i;rw[f]at h;cases h;exact#[_,E,d,g,R]) a I.bare
def ap.call{g':Array GenState}{t':Nat}{d':Drawn}{ch:ri ζ}(I:ap X pins σ H s)(u:Un (i5 X.stack) ch H H' s.heap h')(f:eQ X.prog X.w H' h')(k:AllBare g')
  (a:∀b∈ch,(b∈X.ex∨X.s₀.heap.objs.size<=b)/\b≠X.env.locals/\(∀x c,X.env.cells.lookup x=δ c->c≠b)/\∀p∈X.pn++pins,p.1≠b):
  ap X pins σ H' { s with heap:=h',gens:=g',drawn:=d',toks:=t' }:=by
 obtain⟨m,⟨o,t,v,j,r⟩,_⟩:=id I.loc;let⟨S,g⟩:=u.any j I.free λz=>(a _ z).2.1 Z;exact I.step (ch:=ch) a (λb o g l h e n=>u.keep b o e n (λz=>(Ξ.mp$ I.stkSub b z).elim g l) h) (λb o _ _ h e n=>u.any e n h) (λb o h e n=>u.free b o e n h) (λb o h e=>u.there b o e h) u.tups u.frzs u.tbls (λM q=>by
  let⟨O,E,i,d,R⟩:=q;rw[j]at d;cases d;exact#[_,E,i,g,R]) f k
def ap.turned{t':Nat}{it:ζ}(I:ap X pins σ H s)(k:∀b o,b≠it->s.heap.get? b=δ o->h'.get? b=δ o)(d:H it=θ)(a:it≠X.env.locals)
  (f:it∈X.ex∨X.s₀.heap.objs.size<=it) (g:∀x c,X.env.cells.lookup x=δ c->c≠it) (i:∀p∈X.pn++pins,p.1≠it):ap X pins σ H { s with heap:=h',toks:=t' }:=by
 let N:∀b u,H b=δ u->b≠it:=λb u e z=>by rw[z,d]at e;cases e
 refine I.step (g':=s.gens) (d':=s.drawn) (ch:=[it]) (λb j=>?_) (λb o _ _ h e _=>k b o (λz=>h (by simp [z])) e) (λb o _ _ h e _=>#[o.slots,k b o (λz=>h (by simp [z])) e]) (λ_ _ _ _ n=>n)
  (λb o h e=>#[o,k b o (λz=>h (by simp [z])) e]) (λ_ _ e=>e) (λ_ _ _ e=>e) (λb P e=>#[(ε []),by rw[e];simp]) (λm l=>?_) (λb u e=>?_) I.bare
 .let e:b=it:=by simpa using j
  subst e;exact#[f,a,g,i]
 .let⟨o,E,t,w,r⟩:=l;exact#[o,E,t,k _ o (MX a) w,r]
 .erw[(I.hok b u e).stay (λc v h q=>k c v ?_ q) (λ_ q=>q) λ_ _ q=>q];rcases h with z |z
  .rw[z];rwa[N b u e]
  .rwa[N c _ z]
def ap.tok(I:ap X pins σ H s)(t:Nat):ap X pins σ H { s with toks:=t }:=I.un (h':=s.heap) (t':=t) Un.refl I.hok
def ap.kept{t':Nat}(I:ap X pins σ H s)(k:∀b u,s.heap.get? b=δ u->h'.get? b=δ u):ap X pins σ H { s with heap:=h',toks:=t' }:=I.un (Un.kept k) (I.hok.kept k)
def ap.laid{a:ζ}{o:HO}{t':Nat}(I:ap X pins σ H s)(k:∀b u,s.heap.get? b=δ u->h'.get? b=δ u)(h:-s<=a)(n:aK X.prog X.w (ah H a o) h' a o):
  ap X pins σ (ah H a o) { s with heap:=h',toks:=t' }:=I.un (Un.laid k h$ I.hok.fresh h) (I.hok.laid k h n)
def ap.write{x e:ζ}{o:HO}{t':Nat}(I:ap X pins σ H s)(m:Ex (H x))(a:e=x∨H e=δ (.own x))(k:∀b u,b≠e->s.heap.get? b=δ u->h'.get? b=δ u)(h:∃u,h'.get? e=δ u)
  (n:aK X.prog X.w (ah H x o) h' x o):ap X pins σ (ah H x o) { s with heap:=h',toks:=t' }:=I.un (Un.write m a k h) (I.hok.write m a k h n)
def ap.pins_of{pins':ri (ζ×fx)}(I:ap X pins σ H s)(h:∀p∈pins',s.heap.get? p.1=δ p.2/\H p.1=θ/\p.1≠X.env.locals/\p.1∉X.fs/\∀v,p.2.data≠ .cell v):ap X pins' σ H s:=
 #[I.ok,I.os,I.bare,I.base,I.loc,I.cell,I.free,I.freeC,λp a=>(γ.mp a).elim (λz=>I.pin p (NB _ z)) (h p),I.hok,I.len]
def Xp{N:ri ρ}(h:N.Nodup){i j:Nat}{x:ρ}(a:N[i]?=δ x)(b:N[j]?=δ x):i=j:=by let⟨c,e⟩:=ξ.mp a;let⟨d,E⟩:=ξ.mp b;exact(List.getElem_inj h).mp (e.trans E.symm)
def Qu{v:V}{Q:Unit->ι->Prop}(I:ap X pins σ H s)(hN:X.N.Nodup)(L:X.N[i]?=δ x)(l:sA X.env.scope x)(r:aE v u)
  (h:∀s',ap X pins (σ.set i$ δ v) H s'->(∃a,ey a s.heap s'.heap/\(a=X.env.locals∨X.env.cells.lookup x=δ a))->Q () s') (hf:autoParam (X.fn x=μ∨X.env.scope.names.lookup x=δ .local) Wb._auto_1):π M A (storeName X.env x u) Q E s:=by
 let⟨m,hn,hl⟩:=id I.loc;let O:(X.env.scope.kind== .class||(X.env.scope.kind== .module&&X.env.locals != X.env.globals))=ν:=by rw[I.ok.kind];rfl
 let D:i < ο σ:=by rw[I.len];exact(ξ.mp L).1
 let F:=I.cne;let t:∀{a:ζ} {h':db},(∃o,s.heap.get? a=δ o/\H a=θ)->ey a s.heap h'->eQ X.prog X.w H h':=λ{a h'} ha f b ob e=>by
  let⟨_,_,B⟩:=ha;erw[(I.hok b ob e).stay (λc W hc q=>(f.2 c ?_).trans q) (λ_ q=>q) λ_ _ q=>q];rintro rfl;rcases hc with rfl |hc
  .rw[B]at e;cases e
  .rw[B]at hc;cases hc
 rcases l with hk |hk
 .erw[wpAny_storeName_local hk hn (λh' h0 f=>?_) O];let⟨oL,_,_,h1,_⟩:=id hn;refine h _ #[I.ok,I.os,I.bare,#[λb o e n G l=>?_,λb o e n G l=>?_,I.base.free,λb o e l=>?_,I.base.tups,I.base.frzs,I.base.tbls],#[_,h0,λj y v' g C e3=>?_],λy c e=>?_,I.free,I.freeC,λp hp=>?_,t #[oL,h1,I.free] f,by simpa using I.len] #[_,f,.inl Z]
  .exact(f.2 b$ Mt$ MD (Mn e) I.ok.above).trans (I.base.keep b o e n G l)
  .let⟨sl,g⟩:=I.base.slot b o e n G l;exact#[sl,(f.2 b$ Mt$ MD (Mn e) I.ok.above).trans g]
  .let⟨o',g⟩:=I.base.there b o e l;exact#[o',(f.2 b$ Mt$ MD (Mn e) I.ok.above).trans g]
  .by_cases J:j=i
   .subst J;rw[L]at g;cases g;rw[OV D]at C;cases C;exact#[u,r,.inl #[hk,Lz]]
   .rw[Oe$ MX J]at C;let⟨u',r',q⟩:=hl j y v' g C e3;erw[#[u',r',?_]];rcases q with ⟨k,e⟩ | ⟨k,c,e,z⟩
    .erw[.inl #[k,?_]];let:y≠x:=λe=>J (Xp hN g$ e▸L);simp [this,e]
    .rwa[.inr #[k,c,e,z.sameBut f$ F y c e]]
  .let⟨W,z⟩:=I.cell y c e;exact#[W,z.sameBut f$ F y c e]
  .let⟨e,n,U,nf,d⟩:=I.pin p hp;exact#[(f.2 p.1 U).trans e,n,U,nf,d]
 .let K:X.fn x=μ:=by
   rcases hf with z |z
   .rwa[z]
   .rw[z]at hk;cases hk
  let⟨c,hc⟩:=I.ok.has x (.inl hk);let⟨W,z⟩:=I.cell x c hc;erw[wpAny_storeName_cell I.ok.kind hk hc z (λh' P f=>?_)];let⟨oc,R,S⟩:=id z;erw[h ‹h'› #[I.ok,I.os,I.bare,#[λb o e n G l=>?_,λb o e n G l=>?_,I.base.free,λb o e l=>?_,I.base.tups,I.base.frzs,I.base.tbls],#[m,hn.sameBut f$ MX$ F x c hc,λj y v' g C e3=>?_],λy Y e=>?_,I.free,I.freeC,λp hp=>?_,t #[oc,R,I.freeC x c hc] f,by simpa using I.len] #[c,f,.inr hc]]
  .exact(f.2 b$ Mt$ MD (Mn e)$ I.ok.cab x c K hc).trans (I.base.keep b o e n G l)
  .let⟨sl,g⟩:=I.base.slot b o e n G l;exact#[sl,(f.2 b$ Mt$ MD (Mn e)$ I.ok.cab x c K hc).trans g]
  .let⟨o',g⟩:=I.base.there b o e l;exact#[o',(f.2 b$ Mt$ MD (Mn e)$ I.ok.cab x c K hc).trans g]
  .by_cases J:j=i
   .subst J;rw[L]at g;cases g;rw[OV D]at C;cases C;exact#[u,r,.inr #[.inl hk,c,hc,P]]
   .rw[Oe$ MX J]at C;let⟨u',r',q⟩:=hl j y v' g C e3;erw[#[u',r',?_]];rcases q with q | ⟨k,Y,e,z'⟩
    .rwa[.inl q]
    .erw[.inr #[k,Y,e,z'.sameBut f ?_]];rintro rfl;rwa[J$ Xp hN g$ I.ok.inj _ _ _ e hc▸L]
  .by_cases T:Y=c
   .subst T;exact#[_,P]
   .let⟨w2,z2⟩:=I.cell y Y e;exact#[w2,z2.sameBut f T]
  .let⟨e,n,U,nf,d⟩:=I.pin p hp;erw[#[(f.2 p.1 ?_).trans e,n,U,nf,d]];intro q;rw[q,R]at e;let q':oc=p.2:=M5 e;rwa[d W (by rw[<- q'];rwa[S])]
def zw{Q:Unit->ι->Prop}(I:ap X pins σ H s)(a:X.N.Nodup)(b:X.N[i]?=δ x)(c:sA X.env.scope x)(r:aE v u)
  (h:∀S,ap X pins (σ.set i$ δ v) H S->Q () S) (d:autoParam (X.fn x=μ∨X.env.scope.names.lookup x=δ .local) Wb._auto_1):π M A (storeName X.env x u) Q E s:=
 Qu I a b c r (λS e _=>h S e) d
def ap.call'{S:ι}{ch:ri ζ}(I:ap X pins σ H s)(d:S.os=s.os)(u:Un (i5 X.stack) ch H H' s.heap S.heap)(h:eQ X.prog X.w H' S.heap)(f:AllBare S.gens)
  (a:∀b∈ch,(b∈X.ex∨X.s₀.heap.objs.size<=b)/\b≠X.env.locals/\(∀x c,X.env.cells.lookup x=δ c->c≠b)/\∀p∈X.pn++pins,p.1≠b):ap X pins σ H' S:=by
 let⟨h',g',d',t',o⟩:=S;let e:o=s.os:=d;subst e;rwa[I.call (g':=g') (t':=t') (d':=d') u h f a]
end
abbrev XK:=η->rm ζ->Hp->Prop
abbrev St:=ri (rm V)
abbrev VK:=V->Hp->Prop
abbrev TE:=St->Hp->VK->Prop
abbrev TT:=St->Hp->(Bool->Hp->Prop)->Prop
abbrev TA:=St->Hp->(ri V->Hp->Prop)->Prop
structure a9 where
 nx:St->Hp->Prop
 rt:VK
 bk:St->Hp->Prop:=λ_ _=>False
 ct:St->Hp->Prop:=λ_ _=>False
abbrev TS:=a9->St->Hp->Prop
inductive EP(X:Cx)(a:ri (ζ×fx))(d:St)(Q:VK)(u:η)(c:ι):Prop
 |mk(v b:_)(_:ap X a d b c)(_:aE v u)(_:Q v b)
inductive TP(X:Cx)(a:ri (ζ×fx))(e:St)(Q:Bool->Hp->Prop)(b:Bool)(d:ι):Prop
 |mk(c:_)(_:ap X a e c d)(_:Q b c)
inductive AP(X:Cx)(a:ri (ζ×fx))(f:St)(Q:ri V->Hp->Prop)(d:ri η)(c:ι):Prop
 |mk(e b:_)(_:ap X a f b c)(_:ay e d)(_:Q e b)
def SP(X:Cx)(p:ri (ζ×fx))(D:a9)(f:Flow)(s:ι):Prop:=
 match f with
 | .next=>∃a H,ap X p a H s/\D.nx a H
 | .brk=>∃a H,ap X p a H s/\D.bk a H
 | .cont=>∃a H,ap X p a H s/\D.ct a H
 | .ret u=>∃v a H,ap X p a H s/\aE v u/\D.rt v H
def PE(X:Cx)(e:dr)(t:TE):Prop:=
 ∀(p:ri (ζ×fx)) (s:ι) (a:St) (H:Hp) (Q:VK),ap X p a H s->t a H Q->π (χ X.prog X.w) X.A (eval e X.env) (EP X p a Q) X.xe s
def PT(X:Cx)(e:dr)(t:TT):Prop:=
 ∀(p:ri (ζ×fx)) (s:ι) (a:St) (H:Hp) (Q:Bool->Hp->Prop),ap X p a H s->t a H Q->π (χ X.prog X.w) X.A (isTrue e X.env$ eval e X.env) (TP X p a Q) X.xe s
def PW(X:Cx)(e:dr)(t:TT):Prop:=
 ∀(W:Sem η) (p:ri (ζ×fx)) (s:ι) (a:St) (H:Hp) (Q:Bool->Hp->Prop),ap X p a H s->t a H Q->π (χ X.prog X.w) X.A (isTrue e X.env W) (TP X p a Q) X.xe s
def PW.pt{X:Cx}{e:dr}{t:TT}(h:PW X e t):PT X e t:=h _
def PA(X:Cx)(e:ri dr)(t:TA):Prop:=
 ∀(P:Pos) (p:ri (ζ×fx)) (s:ι) (a:St) (H:Hp) (Q:ri V->Hp->Prop),ap X p a H s->t a H Q->π (χ X.prog X.w) X.A (spliced$ eT P$ Δ e X.env) (AP X p a Q) X.xe s
def PS(X:Cx)(st:cv)(t:TS):Prop:=
 ∀(p:ri (ζ×fx)) (s:ι) (a:St) (H:Hp) (D:a9),ap X p a H s->t D a H->π (χ X.prog X.w) X.A (exec st X.env) (SP X p D) X.xe s
def mn(X:Cx)(st:ri cv)(t:TS):Prop:=
 ∀(p:ri (ζ×fx)) (s:ι) (a:St) (H:Hp) (D:a9),ap X p a H s->t D a H->π (χ X.prog X.w) X.A (execs st X.env) (SP X p D) X.xe s
def aU{b:Type}{t:Sem b}{Q q:b->ι->Prop}{M:Model}{A:bx}{E:η->ι->Prop}{s:ι}(h:π M A t Q E s)(H:∀a s,Q a s->q a s):π M A t q E s:=Nk h H λ_ _ x=>x
section
variable {X:Cx}
inductive a8(i:Nat)(a:St)(H:Hp)(Q:VK):Prop
 |mk(v:_)(_:a[i]?=δ (δ v))(_:Q v H)
def tC(v:V):TE:=λ_ H Q=>Q v H
def Dq(j:X.N[i]?=δ x)(k:Hk X.env.scope x)(b:↥((x==("__debug__":ρ))=ν))(d:↥((x==("__classdict__":ρ))=ν)):PE X (.Name x n) (a8 i):=by
 intro p s o H Q I h;let⟨v,e,h⟩:=h;let⟨m,q,t⟩:=I.loc;let⟨u,r,l⟩:=t i x v j e k;let f:EP X p o Q u s:=#[v,H,I,r,h];rcases l with ⟨hk,w⟩ | ⟨hk,c,g,a⟩
 .rwa[Uv (Ub I.ok.kind hk q w f) b]
 .rcases hk with hk |hk
  .rwa[Uv (Uk I.ok.kind hk g a f) b]
  .rwa[Uv (wpAny_loadName_free I.ok.kind hk g a f d) b]
def jf{i j p}:PE X (.Constant (.int i) j p) (tC$ .int i):=λ_ _ _ H _ I h=>wpAny_Constant_int #[.int i,H,I.tok _,#[_,Z],h]
def uG{b j p}:PE X (.Constant (.bool b) j p) (tC$ .bl b):=λ_ _ _ H _ I h=>Constant_bool #[.bl b,H,I,Z,h]
def zH{j p}:PE X (.Constant .none j p) (tC .non):=λ_ _ _ H _ I h=>Constant_none #[.non,H,I,Z,h]
def jl{x j p}:PE X (.Constant (.str x) j p) (tC$ .str x):=λ_ _ _ H _ I h=>Calls.Constant_str #[.str x,H,I.tok _,#[_,Z],h]
def Gl(X:Cx)(x:ρ):Prop:=X.env.kindOf x=δ .globalImplicit
def zh{Q:η->ι->Prop}(I:ap X p e H s)(a:Gl X x)(b:X.mg x=δ u)(h:Q u s)
  (c:↥((x==("__debug__":ρ))=ν)):π (χ X.prog X.w) X.A (eval (.Name x d) X.env) Q E s:=
 Se I.ok.kind a (Calls.loadGlobal_global (by rw[I.ok.glob];rwa[I.mod.glob.keeps I.bk]) b h) c
def zq{Q:η->ι->Prop}(I:ap X p j H s)(a:Gl X x)(b:X.mg x=θ)(c:bootBuiltins x=δ u)(h:Q u s)
  (d:↥(x≠"__name__")) (e:↥((x==("__debug__":ρ))=ν)):π (χ X.prog X.w) X.A (eval (.Name x f) X.env) Q E s:=by
 let⟨m,g,i⟩:=I.mod.blt;rwa[Se I.ok.kind a (Calls.loadGlobal_builtin (by rw[I.ok.glob];rwa[I.mod.glob.keeps I.bk]) b (by rw[I.ok.blt];rwa[g.keeps I.bk]) ((i x d).trans c) h) e]
def q8{v:V}(a:Gl X x)(b:X.mg x=δ u)(r:aE v u)(c:↥((x==("__debug__":ρ))=ν)):PE X (.Name x p) (tC v):=
 λ_ _ _ H _ I h=>zh I a b #[v,H,I,r,h] c
def q9{v:V}(a:Gl X x)(b:X.mg x=θ)(c:bootBuiltins x=δ u)(r:aE v u)(d:↥(x≠"__name__"))(e:↥((x==("__debug__":ρ))=ν)):PE X (.Name x p) (tC v):=
 λ_ _ _ H _ I h=>zq I a b c #[v,H,I,r,h] d e
variable {a b:dr}{ta tb:TE}{pos:Pos}
def PC(X:Cx)(o:CmpOp)(a b:dr)(t:TE):Prop:=
 ∀(p:ri (ζ×fx)) (s:ι) (d:St) (H:Hp) (Q:VK),ap X p d H s->t d H Q->
  π (χ X.prog X.w) X.A (eval a X.env) (λv S=>π (χ X.prog X.w) X.A (eval b X.env) (λu c=>π (χ X.prog X.w) X.A (compareOp o v u) (EP X p d Q) X.xe c) X.xe S) X.xe s
def ID(ta:TE):TE:=λc H Q=>ta c H λx h=>Q (.bl$ decide$ x= .non) h
def aE.none_iff(r:aE x v):(v==ab)=decide (x= .non):=by
 cases x with
 |non |bl _=>cases r;rfl
 |int _ |str _ |byt _ |flt _=>let⟨t,rfl⟩:=r;rfl
 |ref _ |ty _=>cases r;rfl
def uF{j p}(c:PE X a ta):PC X .Is a (.Constant .none j p) (ID ta):=by intro P s d H Q I h;erw[aU (c P s d H _ I h) λv S z=>?_];let⟨x,e,i,r,q⟩:=z;rwa[Constant_none$ is_none_gen #[.bl _,e,i,by rw[r.none_iff];rfl,q]]
inductive I9(Q:Bool->Hp->Prop)(x:V)(a:Hp):Prop
 |mk(c:_)(_:x= .bl c)(_:Q c a)
def tB(t:TE):TT:=λc H Q=>t c H (I9 Q)
def Yf(h:PC X o a b t)(e:behindInMarks o b=ν:=by first |exact n _ LB LB |rfl):PT X (.Compare a [o] [b] pos) (tB t):=by intro p s f H Q I g;erw[T4 (aU (h p s f H _ I g) λv S e=>aU e λu m i=>aU i λc w z=>?_) e];let⟨x,j,k,r,l⟩:=z;let⟨d,rfl,q⟩:=l;cases r;rwa[PL #[j,k,q]]
def Ki(h:PE X e t)(c:∀w,isTrue e X.env w=(do let v <- w;standAt e.pos;iu [v] (truthy v)):=by intro _;rfl):PT X e (tB t):=by intro p s f H Q I g;erw[isTrue_plain (aU (h p s f H _ I g) λv S z=>?_)$ c _];let⟨x,i,j,r,k⟩:=z;let⟨d,rfl,q⟩:=k;cases r;rwa[PL #[i,j,q]]
variable {tA tB':TT}{rest:ri dr}
def Iy(t u:TT):TT:=λd H Q=>t d H λc h=>if c=μ then u d h Q else Q ν h
def Ln(t u:TT):TT:=λd H Q=>t d H λc h=>if c=μ then Q μ h else u d h Q
def IE(t:TT):TT:=λd H Q=>t d H λc h=>Q (!c) h
def zF(d:PT X a tA):PW X (.BoolOp .And [a] pos) tA:=by
 intro w p s f H Q I h;erw[isTrue_and$ aU (d p s f H Q I h) λc S e=>?_];cases c with
 |true=>rwa[isTrue_and_nil e]
 |false=>rwa[e]
def Jr(d:PT X a tA):PW X (.BoolOp .Or [a] pos) tA:=by
 intro w p s f H Q I h;erw[isTrue_or$ aU (d p s f H Q I h) λc S e=>?_];cases c with
 |false=>rwa[isTrue_or_nil e]
 |true=>rwa[e]
def qh(f:PT X a tA)(g:PW X (.BoolOp .And (b::rest) pos) tB'):PW X (.BoolOp .And (a::b::rest) pos) (Iy tA tB'):=by
 intro w p s d H Q I h;erw[isTrue_and$ aU (f p s d H _ I h) λc S z=>?_];let⟨e,i,q⟩:=z;cases c with
 |true=>rwa[g w p S d e Q i q]
 |false=>exact#[e,i,q]
def Qm(f:PT X a tA)(g:PW X (.BoolOp .Or (b::rest) pos) tB'):PW X (.BoolOp .Or (a::b::rest) pos) (Ln tA tB'):=by
 intro w p s d H Q I h;erw[isTrue_or$ aU (f p s d H _ I h) λc S z=>?_];let⟨e,i,q⟩:=z;cases c with
 |true=>exact#[e,i,q]
 |false=>rwa[g w p S d e Q i q]
def Yg(e:PT X a tA):PT X (.UnaryOp .Not a pos) (IE tA):=by intro p s f H Q I h;rwa[isTrue_not$ aU (e p s f H (λc d=>Q (!c) d) I h) λc S #[d,i,q]=>#[d,i,q]]
def Lm(t:TT)(ta tb:TE):TE:=λd H Q=>t d H λc h=>if c=μ then ta d h Q else tb d h Q
def kM(g:PT X c tA)(j:PE X a ta)(k:PE X b tb):PE X (.IfExp c a b pos) (Lm tA ta tb):=by
 intro p s e H Q I h;erw[wpAny_IfExp$ aU (g p s e H _ I h) λd S z=>?_];let⟨f,i,q⟩:=z;cases d with
 |true=>rwa[j p S e f Q i q]
 |false=>rwa[k p S e f Q i q]
end
def aI(K:Ψ)(H:Hp)(a:ζ)(x:ri V):Prop:=
 Rd H a (.lst x)∨
  ∃(o:fx) (i:Array η) (n:Nat),K.lookup a=δ o/\o.cls= .type "list"/\o.dict=θ/\o.data= .seq i n/\i.size<=υ/\ay x i.toList
def aD(K:Ψ)(H:Hp)(a:ζ)(x:ri V):Prop:=
 Rd H a (.tup x)∨
  ∃(o:fx) (i:Array η) (n:Nat),K.lookup a=δ o/\o.cls= .type "tuple"/\o.data= .seq i n/\i.size<=υ/\ay x i.toList
def HV:η->rm V
 | .none=>δ .non
 | .bool b=>δ (.bl b)
 | .int i _=>δ (.int i)
 | .str x _=>δ (.str x)
 | .bytes b _=>δ (.byt b)
 | .float b _=>δ (.flt b)
 | .ref a=>↑a
 | .type n=>δ (.ty n)
 |_=>θ
def aE.abs(r:aE x u):HV u=δ x:=by
 cases x with
 |non |bl _=>cases r;rfl
 |int _ |str _ |byt _ |flt _=>let⟨t,rfl⟩:=r;rfl
 |ref _ |ty _=>cases r;rfl
def aE.inj{x:V}(r:aE x u)(q:aE y u):x=y:=M5 (r.abs.symm.trans q.abs)
theorem ay.inj{x y:ri V}{u:ri η}(h:ay x u)(k:ay y u):x=y:=by
 induction h generalizing y with
 |nil=>cases k;rfl
 |cons r _ f=>cases k with
  |cons R T=>rw[r.inj R,f T]
section
variable {X:Cx}{pins:ri (ζ×fx)}{σ:St}{H:Hp}{s:ι}{a:ζ}{xs ys:ri V}
def aI.of{K:Ψ}(h:H a=δ (.lst xs)):aI K H a xs:=.inl (.inl h)
def aD.of{K:Ψ}(h:H a=δ (.tup xs)):aD K H a xs:=.inl (.inl h)
def ap.list(I:ap X pins σ H s)(h:aI X.K H a xs):∃i:ri η,ay xs i/\PlainL s.heap a i.toArray/\ο xs<=υ:=by
 rcases h with h | ⟨o,i,n,b,c,d,f,g,r⟩
 .let⟨z,i,n,r,e⟩:=h.ok I.hok;exact#[i,r,#[_,n,e,Z,Z,Z],z]
 .erw[#[i.toList,r,#[o,n,I.kIn a o b,c,d,by simpa using f],?_]];let e:=r.length;simp only[ME]at e;omega
def ap.tuple(I:ap X pins σ H s)(h:aD X.K H a xs):∃i:ri η,ay xs i/\IsTup s.heap a i.toArray/\ο xs<=υ:=by
 rcases h with h | ⟨o,i,n,b,c,d,f,r⟩
 .let⟨z,i,r,p⟩:=h.ok I.hok;exact#[i,r,p,z]
 .erw[#[i.toList,r,#[o,I.kIn a o b,c,n,by simpa using d],?_]];let e:=r.length;simp only[ME]at e;omega
def ap.list_inj(I:ap X pins σ H s)(h:aI X.K H a xs)(c:aI X.K H a ys):xs=ys:=by
 obtain⟨b,r,⟨o,n,e,_,_,d⟩,_⟩:=I.list h;obtain⟨i,R,⟨O,N,E,_,_,D⟩,_⟩:=I.list c;rw[e]at E;cases E;rw[d]at D;injection D with f _;let:b=i:=by simpa using MZ lu f
 subst this;rwa[r.inj R]
def ap.tuple_inj(I:ap X pins σ H s)(h:aD X.K H a xs)(c:aD X.K H a ys):xs=ys:=by
 obtain⟨b,r,⟨o,e,_,n,d⟩,_⟩:=I.tuple h;obtain⟨i,R,⟨O,E,_,N,D⟩,_⟩:=I.tuple c;rw[e]at E;cases E;rw[d]at D;injection D with f _;let:b=i:=by simpa using MZ lu f
 subst this;rwa[r.inj R]
end
abbrev Cx.wish(X:Cx)(E:η->ι->Prop):Cx:={ X with xe:=E }
abbrev Cx.nox(X:Cx):Cx:=X.wish λ_ _=>False
def Cx.Ok.wish{X:Cx}(o:X.Ok)(E:η->ι->Prop):(X.wish E).Ok:=
 #[o.mod,o.kind,o.glob,o.blt,o.above,o.inj,o.has,o.cab,o.hd,o.frames,o.stk,o.exf,o.bs,o.bsz,o.noex,o.exfs,o.funs,o.frf]
def Cx.Ok.unwish{X:Cx}(o:(X.wish E).Ok):X.Ok:=
 #[o.mod,o.kind,o.glob,o.blt,o.above,o.inj,o.has,o.cab,o.hd,o.frames,o.stk,o.exf,o.bs,o.bsz,o.noex,o.exfs,o.funs,o.frf]
section
variable {X:Cx}{pins:ri (ζ×fx)}{σ:St}{H:Hp}{s:ι}{E:η->ι->Prop}
def ap.wish(I:ap X pins σ H s)(E:η->ι->Prop):ap (X.wish E) pins σ H s:=#[I.ok.wish E,I.os,I.bare,I.base,I.loc,I.cell,I.free,I.freeC,I.pin,I.hok,I.len]
def ap.unwish(I:ap (X.wish E) pins σ H s):ap X pins σ H s:=#[I.ok.unwish,I.os,I.bare,I.base,I.loc,I.cell,I.free,I.freeC,I.pin,I.hok,I.len]
def SP.unwish(h:SP (X.wish E) pins D f c):SP X pins D f c:=by
 cases f with
 |next |brk |cont=>let⟨a,b,I,q⟩:=h;exact#[a,b,I.unwish,q]
 |ret u=>let⟨v,a,b,I,r,q⟩:=h;exact#[v,a,b,I.unwish,r,q]
def mn.nox{st:ri cv}(h:mn X.nox st t):mn X st t:=λpins s σ H D I a=>
 Nk (h pins s σ H D (I.wish _) a) (λ_ _ q=>q.unwish) λ_ _ z=>False.elim z
end
section
variable {X:Cx}{st:cv}{rest:ri cv}{t u:TS}{e:dr}{te:TE}{pos:Pos}
def wf:TS:=λD a H=>D.nx a H
def eO(t u:TS):TS:=λD a H=>t { D with nx:=u D } a H
def jp:mn X [] wf:=λ_ _ a H _ I h=>OU #[a,H,I,h]
def jd(b:PS X st t)(c:mn X rest u):mn X (st::rest) (eO t u):=by
 intro p s d H D I h;erw[Sn$ aU (b p s d H { D with nx:=u D } I h) λf S q=>?_];cases f with
 |next=>let⟨a,g,i,q⟩:=q;rwa[c p S a g D i q]
 |ret v |brk |cont=>rwa[q]
def jg(a:PS X st t):mn X [st] t:=by
 intro p s b H D I h;erw[Sn$ aU (a p s b H D I h) λf S q=>?_];cases f with
 |next=>rwa[OU q]
 |ret v |brk |cont=>rwa[q]
def ap.quiet(I:ap X p a H s):interactive X.env=ν:=by simp [interactive,I.ok.kind]
def pG(te:TE):TS:=λD a H=>te a H λ_ h=>D.nx a h
def jQ(b:PE X e te)(c:↥(swapsWith e θ pos.line X.env=pure ν)):PS X (.Expr e pos) (pG te):=by intro p s a H D I h;rwa[wpAny_Expr_any (aU (b p s a H _ I h) λv S #[x,d,i,r,q]=>#[a,d,i,q]) I.quiet c]
def gF(te:TE):TS:=λD a H=>te a H D.rt
def jo(b:PE X e te):PS X (.Return (δ e) pos) (gF te):=by intro p s a H D I h;rwa[wpAny_Return_some$ aU (b p s a H _ I h) λv S #[x,c,i,r,q]=>#[x,a,c,i,r,q]]
def iX(c:TT)(t u:TS):TS:=λD a H=>c a H λb h=>if b=μ then t D a h else u D a h
def jw{c:dr}{a b:ri cv}{T:TT}(j:PT X c T)(k:mn X a t)(l:mn X b u):PS X (.If c a b pos) (iX T t u):=by
 intro p s f H D I h;erw[wpAny_If$ aU (j p s f H _ I h) λd S z=>?_];let⟨g,i,q⟩:=z;cases d with
 |true=>rwa[k p S f g D i q]
 |false=>rwa[l p S f g D i q]
end
abbrev TG:=V->St->Hp->(St->Hp->Prop)->Prop
abbrev xh:=ri V->St->Hp->(St->Hp->Prop)->Prop
def PG(X:Cx)(T:dr)(t:TG):Prop:=
 ∀(p:ri (ζ×fx)) (s:ι) (b:St) (H:Hp) (v:V) (u:η) (Q:St->Hp->Prop),ap X p b H s->aE v u->t v b H Q->
  π (χ X.prog X.w) X.A (assign T X.env u) (λ_ S=>∃a h,ap X p a h S/\Q a h) X.xe s
def Ei(X:Cx)(T:ri dr)(t:xh):Prop:=
 ∀(p:ri (ζ×fx)) (s:ι) (b:St) (H:Hp) (v:ri V) (u:ri η) (Q:St->Hp->Prop),ap X p b H s->ay v u->t v b H Q->
  π (χ X.prog X.w) X.A (assignInOrder ((assignEach T X.env).map (·.2)) u) (λ_ S=>∃a h,ap X p a h S/\Q a h) X.xe s
abbrev BB:=V->V->V->Hp->(Hp->Prop)->Prop
def EA(X:Cx)(t:BB):Prop:=
 ∀(p:ri (ζ×fx)) (s:ι) (a:St) (H:Hp) (o i v:V) (O I u:η) (Q:Hp->Prop),ap X p a H s->aE o O->aE i I->aE v u->t o i v H Q->
  π (χ X.prog X.w) X.A (setItem O I u) (λ_ S=>∃h,ap X p a h S/\Q h) X.xe s
abbrev HP:=V->V->Hp->VK->Prop
def IR(X:Cx)(o:Operator)(t:HP):Prop:=
 ∀(p:ri (ζ×fx)) (s:ι) (a:St) (H:Hp) (x y:V) (v u:η) (Q:VK),ap X p a H s->aE x v->aE y u->t x y H Q->
  π (χ X.prog X.w) X.A (inplaceOp o v u) (EP X p a Q) X.xe s
section
variable {X:Cx}{pos:Pos}
def bo(i:Nat):TG:=λv a H Q=>Q (a.set i$ δ v) H
def jy{i:Nat}{x:ρ}(a:X.N.Nodup)(b:X.N[i]?=δ x)(c:sA X.env.scope x)(d:autoParam (X.fn x=μ∨X.env.scope.names.lookup x=δ .local) Wb._auto_1):PG X (.Name x pos) (bo i):=by intro p s f H v u Q I r h;rwa[UA$ zw I a b c r (λS e=>#[_,H,e,h]) d]
def tH:xh:=λv a H Q=>v=[]/\Q a H
inductive dB(t:TG)(u:xh)(a:ri V)(b:St)(H:Hp)(Q:St->Hp->Prop):Prop
 |mk(v r:_)(_:a=v::r)(_:t v b H λσ' H'=>u r σ' H' Q)
def kN:Ei X [] tH:=by intro p s a H v u Q I r h;let⟨e,h⟩:=h;subst e;cases r;rwa[assignInOrder_nil #[a,H,I,h]]
def jC(b:PG X e t)(c:Ei X E u)
  (d:↥((assignEach (e::E) X.env).map (·.2)=assign e X.env::(assignEach E X.env).map (·.2))):Ei X (e::E) (dB t u):=by
 intro p s f H V U Q I r h;let⟨v,k,g,h⟩:=h;subst g;cases r with
 |cons r R=>rw[d];erw[assignInOrder_cons$ aU (b p s f H _ _ _ I r h) λ_ S z=>?_];let⟨a,i,j,q⟩:=z;rwa[c p S a i _ _ Q j R q]
inductive p8(K:Ψ)(n:Nat)(t:xh)(v:V)(c:St)(H:Hp)(Q:St->Hp->Prop):Prop
 |mk(a b:_)(_:v= .ref a)(_:aD K H a b)(_:ο b=n)(_:t b c H Q)
def zQ{n:Nat}(g:X.calm=μ)(h:Ei X E t)
  (i:↥((assignEach E X.env).length=n)) (c:↥((assignEach E X.env).findIdx? (·.1)=θ)):PG X (.Tuple E k pos) (p8 X.K n t):=by
 intro p s f H v u Q I r d;let⟨a,x,j,l,m,d⟩:=d;subst j;cases r;let⟨q,R,w,B⟩:=I.tuple l;erw[assign_Tuple_tuple (I.ok.hd g) w (by simp [i,<- m,R.length]) c λy z=>?_];let A:ap X p f H ‹y›:=I.kept (t':=s.toks) λb o e=>z b o (Mt$ Mn e) e;rwa[h p _ f H x _ Q A (R:) d]
def BZ(T b:TE)(t:BB):TG:=λv a H Q=>T a H λo h=>b a h λi c=>t o i v c λd=>Q a d
def qN{o i:dr}{T c:TE}{t:BB}(d:PE X o T)(e:PE X i c)(f:EA X t)
  (g:∀v,assign (.Subscript o i pos) X.env v=(do
   let O <- iu [v] (eval o X.env)
   let a <- iu [v,O] (eval i X.env)
   standAt pos
   iu [v,O,a] (setItem O a v)
   release [v,O,a] []):=by intro _;rfl):PG X (.Subscript o i pos) (BZ T c t):=by
 intro p s b H v u Q I r h;rw[g];erw[Me$ MJ$ aU (d p s b H _ I h) λO S z=>?_];let⟨x,j,k,R,q⟩:=z;erw[Me$ MJ$ aU (e p S b j _ k q) λa l z=>?_];let⟨y,m,n,w,A⟩:=z;erw[Me$ Oy$ Me$ MJ$ aU (f p l b m x y v O a u _ n R w r A) λ_ E z=>?_];let⟨B,C,D⟩:=z;rwa[wpAny_release #[b,B,C,D]]
def dZ(t:TE)(g:TG):TS:=λD a H=>t a H λx h=>g x a h D.nx
def zg{t e:dr}{T:TE}{g:TG}(b:PE X e T)(c:PG X t g)(d:↥(swapsWithSole [t] e pos.line X.env=pure ν))(f:↥(swappedStores [t] e X.env=pure θ))
  (i:↥((assignEach [t] X.env).map (·.2)=[assign t X.env])):PS X (.Assign [t] e pos) (dZ T g):=by
 intro p s a H D I h;erw[wpAny_Assign_stores (aU (b p s a H _ I h) λv S z=>?_) d f];let⟨x,j,k,r,Q⟩:=z;rw[i];rwa[aU (c p S a j x v _ k r Q) λ_ l q=>q]
def kY{i:Nat}{x:ρ}{e:dr}{t:TE}{p:Pos}(a:X.N.Nodup)(b:X.N[i]?=δ x)(c:sA X.env.scope x)(d:PE X e t)(f:↥(swapsWith e (δ$ .Name x p) pos.line X.env=pure ν))(g:autoParam (X.fn x=μ∨X.env.scope.names.lookup x=δ .local) Wb._auto_1):
  PS X (.Assign [.Name x p] e pos) (dZ t$ bo i):=by
 intro P s j H D I h;erw[UB (aU (d P s j H _ I h) λv S z=>?_) f];let⟨y,k,l,r,q⟩:=z;rwa[zw l a b c r (λn m=>#[_,k,m,q]) g]
inductive Gs(i:Nat)(a:TE)(b:HP)(D:a9)(c:St)(H:Hp):Prop
 |mk(x:_)(_:c[i]?=δ (δ x))(_:a c H λy H1=>b x y H1 λz H2=>D.nx (c.set i (δ z)) H2)
def Ds{i:Nat}(q:X.N.Nodup)(g:X.N[i]?=δ x)(f:sA X.env.scope x)(t:PE X e T)(B:IR X o C)(E:autoParam (X.fn x=μ∨X.env.scope.names.lookup x=δ .local) Wb._auto_1):
  PS X (.AugAssign (.Name x j) o e pos) (Gs i T C):=by
 intro p s n H D I h;let⟨v,F,h⟩:=h;let⟨m,J,K⟩:=I.loc;let V:Hk X.env.scope x:=by rcases f with k |k;rwa[.inl k];rwa[.inr$ .inl k]
 let⟨u,r,l⟩:=K i x v g F V;erw[wpAny_AugAssign_Name ?_];let G:π (χ X.prog X.w) X.A (eval e X.env) (λw S=>π (χ X.prog X.w) X.A (inplaceOp o u w) (λr d=>π (χ X.prog X.w) X.A (storeName X.env x r) (λ_=>SP X p D .next) X.xe d) X.xe S) X.xe s:=by erw[aU (t p s n H _ I h) λw L a=>?_];let⟨y,M,O,R,Q⟩:=a;erw[aU (B p L n M v y u w _ O r R Q) λz s2 a=>?_];let⟨zv,P,U,W,Y⟩:=a;rwa[zw U q g f W (λs3 I3=>#[_,P,I3,Y]) E]
 rcases l with ⟨hk,hm⟩ | ⟨hk,c,hc,b⟩
 .rwa[Ub I.ok.kind hk J hm G]
 .rcases hk with hk |hk
  .rwa[Uk I.ok.kind hk hc b G]
  .rcases f with k |k
   .let:X.env.scope.names.lookup x=δ .free:=hk;rw[k]at this;cases this
   .let:X.env.scope.names.lookup x=δ .free:=hk;rw[k]at this;cases this
inductive IZ(f:Int->Int->Int)(x y:V)(H:Hp)(Q:VK):Prop
 |mk(i j:_)(_:x= .int i)(_:y= .int j)(_:Q (.int (f i j)) H)
def Ci:IR X .Add (IZ λi j=>i+j):=by intro p s a H x y v u Q I r R h;let⟨i,j,e,E,q⟩:=h;subst e;subst E;let⟨t,rfl⟩:=r;let⟨T,rfl⟩:=R;rwa[iadd_int #[.int _,H,I.tok _,#[_,Z],q]]
end
section
variable {X:Cx}{pos:Pos}
def wn(c:TT)(t:TS):TS:=λD a H=>∃W:Nat->St->Hp->Prop,(∃m,W m a H)/\∀m a H,W m a H->
 c a H λb h=>if b=μ then ∃N:St->Hp->Prop,(∀d e,N d e->∃M,M < m/\W M d e)/\t { D with nx:=N,ct:=N,bk:=D.nx } a h else D.nx a h
def Ks(o:PassesOwn (χ X.prog X.w) X.A X.env X.xe)(E:PT X c T)(F:mn X B G):PS X (.While c B [] pos) (wn T G):=by
 intro p s J H D I h;obtain⟨W,⟨M,K⟩,t⟩:=h;erw[wpAny_While$ codeAny_whileLoop (λn S=>∃e r,ap X p e r S/\W n e r) ?_ M #[J,H,I,K]];rintro n L ⟨d,u,O,P⟩;erw[Ox o$ aU (E p L d u _ O$ t n d u P) λb R z=>?_];let⟨x,y,q⟩:=z;cases b with
 |true=>
  let⟨N,C,q⟩:=q;rw[Mv Z];erw[Ox o$ aU (F p R d x _ y q) λf U Q=>?_];cases f with
  |next |cont=>let⟨a,g,i,j⟩:=Q;let⟨m,k,l⟩:=C a g j;exact#[m,k,a,g,i,l]
  |brk |ret v=>rwa[Q]
 |false=>rw[Mx Mq];rwa[OU #[d,x,y,q]]
end
structure It where
 go:Nat->Hp->Prop
 yld:Nat->Hp->V->Hp->Prop
 stop:Nat->Hp->Prop
def fi(X:Cx)(P:ri (ζ×fx))(H:Hp)(b:ζ):Prop:=
 H b=θ/\b≠X.env.locals/\b∉X.fs/\(b∈X.ex∨X.s₀.heap.objs.size<=b)/\(∀x c,X.env.cells.lookup x=δ c->c≠b)/\∀p∈X.pn++P,p.1≠b
def ap.fpOk{X:Cx}{d:Hp}(I:ap X a i H s)(h:-s<=b)(f:d b=θ):fi X a d b:=by
 erw[#[f,Nf$ MD I.lt h,I.nofs h,.inr$ Mw I.sz h,λx c e z=>?_,λp g z=>?_]]
 .let⟨v,q⟩:=I.cell x c e;rwa[absurd (MD q.lt (by rw[z];rwa[h]))$ Nt _]
 .rwa[absurd (MD (Mn (I.pin p g).1) (by rw[z];rwa[h]))$ Nt _]
structure nS(P:ω)(w:bS)(K:Ψ)(tg:dr)(J:It)(fp:ri ζ)(it:ζ)(tn:Nat->db->Prop):Prop where
 mem:it∈fp
 obj:∀i h,tn i h->∀b∈fp,∃o,h.get? b=δ o/\∀v,o.data≠ .cell v
 keep:∀i h h',tn i h->(∀b∈fp,∀o,h.get? b=δ o->h'.get? b=δ o)->tn i h'
 item:∀(X:Cx),X.prog=P->X.w=w->X.K=K->X.calm=μ->∀(i:Nat) (pins:ri (ζ×fx)) (s:ι) (σ:St) (H:Hp) (E:η->ι->Prop),ap X pins σ H s->(∀b∈fp,fi X pins H b)->tn i s.heap->J.go i H->
  π (χ P w) X.A (pyNext$ .ref it) (λr s1=>∃u,r=δ u/\
   π (χ P w) X.A (letOwnedTupleGo tg (.ref it) u) (λ_ s2=>∃x H',ap X pins σ H' s2/\aE x u/\J.yld i H x H'/\tn (i+1) s2.heap/\∀b∈fp,H' b=θ) E s1) E s
 done:∀(X:Cx),X.prog=P->X.w=w->X.K=K->X.calm=μ->∀(i:Nat) (pins:ri (ζ×fx)) (s:ι) (σ:St) (H:Hp) (E:η->ι->Prop),ap X pins σ H s->(∀b∈fp,fi X pins H b)->tn i s.heap->J.stop i H->
  π (χ P w) X.A (pyNext$ .ref it) (λr s1=>r=θ/\ap X pins σ H s1) E s
 self:∀(A:bx) (i:Nat) (s:ι) (Q:η->ι->Prop) (E:η->ι->Prop),tn i s.heap->Q (.ref it) s->π (χ P w) A (pyIter$ .ref it) Q E s
abbrev TI:=St->Hp->(It->Hp->Prop)->Prop
def IQ(X:Cx)(p:ri (ζ×fx))(a:St)(T:dr)(R:It->Hp->Prop)(i:η)(s:ι):Prop:=
 ∃(I:ζ) (f:ri ζ) (t:Nat->db->Prop) (J:It) (H:Hp),i= .ref I/\ap X p a H s/\nS X.prog X.w X.K T J f I t/\t 0 s.heap/\(∀b∈f,fi X p H b)/\R J H
def PI(X:Cx)(t iter:dr)(W:TI):Prop:=
 ∀(p:ri (ζ×fx)) (s:ι) (a:St) (H:Hp) (R:It->Hp->Prop),ap X p a H s->W a H R->
  π (χ X.prog X.w) X.A (eval iter X.env) (λv S=>π (χ X.prog X.w) X.A (pyIter v) (IQ X p a t R) X.xe S) X.xe s
def Y5{s : ι}{n : String}{Q : Unit -> ι -> Prop}(a : s.heap.get? i = δ o)(b : o.cls = .type n)(c : o.data = .fields v)
    (d : ["enumerate", "zip", "dict_itemiterator", "dict_reverseitemiterator", "odict_iterator", "itertools.zip_longest", "itertools.pairwise"].contains n = ν) (H : Q () s) : π M A (letOwnedTupleGo t (.ref i) u) Q E s := by
  unfold letOwnedTupleGo;cases t <;> first
    | rwa[Mh H]
    | (cases u <;> first
        | rwa[Mh H]
        | (refine Me (Uu a ?_)
           rw [b, c];show π M A (if (["enumerate", "zip", "dict_itemiterator", "dict_reverseitemiterator", "odict_iterator", "itertools.zip_longest", "itertools.pairwise"].contains n && v[0]? == δ (rawInt _)) = μ then _ else _) Q E s;rw [Mx (by intro h; rw [d, Ut] at h; cases h)];rwa[Mh H]))
def wS(K:Ψ)(a:ζ):It:=
 #[λi H=>∃X x,aI K H a X/\X[i]?=δ x,λi H x h=>h=H/\∀X,aI K H a X->X[i]?=δ x,λi H=>∃X,aI K H a X/\ο X<=i]
def wT(K:Ψ)(a:ζ):It:=
 #[λi H=>∃X x,aD K H a X/\X[i]?=δ x,λi H x h=>h=H/\∀X,aD K H a X->X[i]?=δ x,λi H=>∃X,aD K H a X/\ο X<=i]
def wJ(lo:Int)(n:Nat):It:=#[λi _=>i < n,λi H x h=>h=H/\x= .int (lo+i),λi _=>n<=i]
def ZX{P:ω}{K:Ψ}(a g:ζ):nS P w K tg (wS K a) [g] g (λi h=>h.IsListIter g a i) where
 mem:=by simp
 obj:=λi h st b j=>by
  let e:b=g:=by simpa using j
  subst e;let⟨o,e,c,d⟩:=st;exact#[o,e,λv z=>by rw[d]at z;cases z]
 keep:=λi h l st k=>st.at λo e=>k g Lz o e
 item:=by intro X q r t L i f s M H E I m st y;subst q r t;let⟨N,x,n,A⟩:=y;let⟨B,R,p,O⟩:=I.list n;let⟨u,Q,T⟩:=R.get A;let⟨F,C,U,D,G,J⟩:=m g Lz;erw[TB st p.isList (x:=u) (Q:) λl S V=>?_];let W:ap X f M H ‹l›:=I.turned (t':=s.toks) (λb o j e=>(V.2 b j).trans e) F C D G J;let⟨o,e,c,d⟩:=id S;exact#[u,Z,Y5 (s:=‹l›) e c d LB #[x,H,W,T,#[Z,λys Y=>by rw[I.list_inj Y n];rwa[A]],S,λb j=>(m b j).1]]
 done:=by intro X q r t L i f s M H E I m st y;subst q r t;let⟨N,n,A⟩:=y;let⟨B,R,p,O⟩:=I.list n;let⟨F,C,U,D,G,J⟩:=m g Lz;let hl:=R.length;rwa[T3 (I.ok.hd L) st p.isList (by simp;omega) λl eb=>#[Z,I.turned (t':=s.toks) (λb o j e=>eb b o j e) F C D G J]]
 self:=λ_ _ _ _ _ st h=>wpAny_pyIter_listiter st h
def Yr{P:ω}{K:Ψ}(a g:ζ):nS P w K tg (wT K a) [g] g (λi h=>h.IsTupleIter g a i) where
 mem:=by simp
 obj:=λi h st b j=>by
  let e:b=g:=by simpa using j
  subst e;let⟨o,e,c,d⟩:=st;exact#[o,e,λv z=>by rw[d]at z;cases z]
 keep:=λi h m st k=>st.at λo e=>k g Lz o e
 item:=by intro X r t y L i f s M H E I n st A;subst r t y;let⟨N,x,q,B⟩:=A;let⟨l,R,p,O⟩:=I.tuple q;let⟨u,Q,T⟩:=R.get B;let⟨F,C,U,D,G,J⟩:=n g Lz;erw[wpAny_pyNext_tuple_item st (show s.heap.IsTuple a l.toArray from p) (x:=u) (Q:) λm S V=>?_];let W:ap X f M H ‹m›:=I.turned (t':=s.toks) (λb o j e=>(V.2 b j).trans e) F C D G J;let⟨o,e,c,d⟩:=id S;exact#[u,Z,Y5 (s:=‹m›) e c d LB #[x,H,W,T,#[Z,λys Y=>by rw[I.tuple_inj Y q];rwa[B]],S,λb j=>(n b j).1]]
 done:=by intro X r t y L i f s M H E I n st A;subst r t y;let⟨N,q,B⟩:=A;let⟨l,R,p,O⟩:=I.tuple q;let⟨F,C,U,D,G,J⟩:=n g Lz;let hl:=R.length;rwa[wpAny_pyNext_tuple_end (I.ok.hd L) st (show s.heap.IsTuple a l.toArray from p) (by simp;omega) λm eb=>#[Z,I.turned (t':=s.toks) (λb o j e=>eb b o j e) F C D G J]]
 self:=λ_ _ _ _ _ st h=>wpAny_pyIter_tupleiter st h
def Ys{P:ω}{K:Ψ}(a:ζ)(lo:Int)(n:Nat):nS P w K M (wJ lo n) [a] a (λi h=>IsRangeIter h a (lo+(i:Nat)*1) ((n:Int) - (i:Nat)) 1) where
 mem:=by simp
 obj:=λi h st b c=>by
  let e:b=a:=by simpa using c
  subst e;exact#[_,st,λv z=>by
   let B:Data.fields _=Data.cell v:=z;cases B]
 keep:=λi h d st k=>k a Lz _ st
 item:=by intro X g j l m i p s A H E I f st q;subst g j l;let⟨F,r,C,u,x,y⟩:=f a Lz;let W:=Walks.range (prog:=X.prog) (w:=X.w) (I.ok.hd m) a lo 1 n;erw[W.item i s _ _ q st λv d T D S G=>?_];let⟨t,rfl⟩:=D;let J:ap X p A H { s with heap:=d,toks:=T }:=I.turned (λb o c e=>G b o (c:) e) F r u x y;erw[#[_,Z,Y5 (s:={ s with heap:=d,toks:=T }) (n:="range_iterator") S Z Z LB #[.int$ lo+i,H,J,#[t,?_],#[Z,Z],S,λb c=>(f b c).1]]];rw[Int.mul_one]
 done:=by intro X g j l m i p s A H E I f st q;subst g j l;let⟨F,r,C,u,x,y⟩:=f a Lz;rwa[wpAny_pyNext_range_end (I.ok.hd m) st (by let:n<=i:=q;omega) λd L=>#[Z,I.turned (t':=s.toks) (λb o c e=>L b o c e) F r u x y]]
 self:=λ_ _ _ _ _ st h=>wpAny_pyIter_rangeiter st h
section
variable {X:Cx}{tg:dr}
inductive tP(K:Ψ)(R:It->Hp->Prop)(x:V)(b:Hp):Prop
 |mk(a:_)(_:x= .ref a)(_:∃xs,aI K b a xs)(_:R (wS K a) b)
def AV(K:Ψ)(t:TE):TI:=λa H R=>t a H (tP K R)
inductive AX(K:Ψ)(R:It->Hp->Prop)(x:V)(b:Hp):Prop
 |mk(a:_)(_:x= .ref a)(_:∃xs,aD K b a xs)(_:R (wT K a) b)
def Ih(K:Ψ)(t:TE):TI:=λa H R=>t a H (AX K R)
def qA(c:PE X l t):PI X tg l (AV X.K t):=by
 intro P s d H R I h;erw[aU (c P s d H _ I h) λv S z=>?_];let⟨x,f,i,r,Q⟩:=z;obtain⟨a,e,⟨m,g⟩,q⟩:=Q;subst e;cases r;let⟨j,n,p,u⟩:=i.list g;erw[PM p.isList ?_];erw[#[-S,[-S],_,_,f,Z,i.kept (t':=S.toks) λb o e=>Mg _ e,ZX a _,#[_,Mo _ Z,Z,Z],λb k=>?_,q]];let e:b=-S:=by simpa using k
 subst e;rwa[i.fpOk (Mj _)$ i.hok.fresh$ Mj _]
def qi(d:PE X l t):PI X tg l (Ih X.K t):=by
 intro P s f H R I h;erw[aU (d P s f H _ I h) λv S z=>?_];let⟨x,g,i,r,Q⟩:=z;obtain⟨a,e,⟨m,j⟩,q⟩:=Q;subst e;cases r;let⟨c,n,p,u⟩:=i.tuple j;erw[OX (show S.heap.IsTuple a c.toArray from p) ?_];erw[#[-S,[-S],_,_,g,Z,i.kept (t':=S.toks) λb o e=>Mg _ e,Yr a _,#[_,Mo _ Z,Z,Z],λb k=>?_,q]];let e:b=-S:=by simpa using k
 subst e;rwa[i.fpOk (Mj _)$ i.hok.fresh$ Mj _]
def Xq{R:It->Hp->Prop}{lo:Int}(I:ap X p a H s)(c: -(2 ^ 62)<=lo)(d:lo < 2 ^ 62)(f: -(2 ^ 62)<=h)(g:h < 2 ^ 62)
  (q:R (wJ lo (h - lo).toNat) H):π (χ X.prog X.w) X.A (pyIter$ .ref (-s)) (IQ X p a tg R) E { s with heap:=s.heap.push { cls:=.type "range",data:=.fields (ε [.int lo t,.int h u,.int 1 v]) },toks:=T }:=by
 erw[wpAny_pyIter_range (IsRange.new ..) (small_one c d f g) ?_];let i:ap X p a H { s with heap:=s.heap.push { cls:=.type "range",data:=.fields (ε [.int lo t,.int h u,.int 1 v]) },toks:=T }:=I.kept λb o e=>Mg _ e;refine#[(s.heap.push { cls:=.type "range",data:=.fields (ε [.int lo t,.int h u,.int 1 v]) }).objs.size,[(s.heap.push { cls:=.type "range",data:=.fields (ε [.int lo t,.int h u,.int 1 v]) }).objs.size],_,_,H,Z,
  i.kept (t':=T) λb o e=>Mg _ e,Ys _ lo (h - lo).toNat,?_,λb j=>?_,q]
 .let k:lo+((0:Nat):Int)*1=lo:=by simp
  let l:(((h - lo).toNat:Nat):Int) - ((0:Nat):Int)=Builtin.Range.rangeSize lo h 1:=by rw[rangeSize_one];split<;>omega
  show IsRangeIter _ _ (lo+((0:Nat):Int)*1) ((((h - lo).toNat:Nat):Int) - ((0:Nat):Int)) 1;rw[k,l];rwa[Mo _ Z]
 .let e:b=(s.heap.push { cls:=.type "range",data:=.fields (ε [.int lo t,.int h u,.int 1 v]) }).objs.size:=by simpa using j
  subst e;rwa[i.fpOk (Mj _)$ i.hok.fresh$ Mj _]
inductive tQ(R:It->Hp->Prop)(b:ri V)(a:Hp):Prop
 |mk(j:Int)(_:b=[.int j])(_:-(2 ^ 62)<=j)(_:j < 2 ^ 62)(_:R (wJ 0 j.toNat) a)
def Fb(t:TA):TI:=λa H R=>t a H (tQ R)
inductive tR(R:It->Hp->Prop)(b:ri V)(a:Hp):Prop
 |mk(i j:Int)(_:b=[.int i,.int j])(_:-(2 ^ 62)<=i/\i < 2 ^ 62/\ -(2 ^ 62)<=j/\j < 2 ^ 62)(_:R (wJ i (j - i).toNat) a)
def Fc(t:TA):TI:=λa H R=>t a H (tR R)
def kI{a:dr}{T:TA}{p P:Pos}(c:Gl X "range")(d:X.mg "range"=θ)(f:PA X [a] T)(g:↥(Δ [a] X.env=[(ν,eval a X.env)])):PI X tg (.Call (.Name "range" p) [a] [] P) (Fb T):=by
 intro b s i H R I h;erw[Call_$ zq I c d boot_range$ M6 (aU (f P b s i H _ I h) λu S z=>?_) g Z];let⟨v,o,k,l,Q⟩:=z;let⟨j,e,Q,m,q⟩:=Q;subst e;cases l with
 |cons r n=>cases n;let⟨t,rfl⟩:=r;rwa[call_range_1$ Xq k LA LA Q m (q:)]
def Qv(g:Gl X "range")(k:X.mg "range"=θ)(l:PA X [a,b] T)(m:↥(Δ [a,b] X.env=[(ν,eval a X.env),(ν,eval b X.env)]))(c:↥(Δ [b] X.env=[(ν,eval b X.env)])):
  PI X tg (.Call (.Name "range" p) [a,b] [] d) (Fc T):=by
 intro P s n H R I h;erw[Call_$ zq I g k boot_range$ M6 (aU (l d P s n H _ I h) λU S #[V,z,o,u,Q]=>?_) (by rw[m,c]) (by rw[c];rfl)];obtain⟨i,j,e,⟨Q,v,w,x⟩,q⟩:=Q;subst e;cases u with
 |cons r f=>
  cases f with
  |cons y f=>cases f;let⟨t,rfl⟩:=r;let⟨A,rfl⟩:=y;rwa[call_range_2$ Xq o Q v w x q]
def Ah(w:TI)(g:TG)(t:TS):TS:=λD a H=>w a H λJ d=>∃W:Nat->Nat->St->Hp->Prop,(∃m,W 0 m a d)/\∀i m a H,W i m a H->
 (J.stop i H/\D.nx a H)∨(J.go i H/\∃N:St->Hp->Prop,(∀b h,N b h->∃M,M < m/\W (i+1) M b h)/\∀x h,J.yld i H x h->g x a h λc e=>t { D with nx:=N,ct:=N,bk:=D.nx } c e)
def lH(f:ri ζ)(h:db):ri (ζ×fx):=f.filterMap λb=>(h.get? b).map λo=>(b,o)
def zd{h:db}(H:b∈f)(e:h.get? b=δ o):(b,o)∈lH f h:=List.mem_filterMap.mpr #[b,H,by rw[e];rfl]
def ZY(H:p∈lH f h):p.1∈f/\h.get? p.1=δ p.2:=by
 let⟨b,a,e⟩:=List.mem_filterMap.mp H;cases q:h.get? b with
 |none=>rw[q]at e;cases e
 |some o=>rw[q]at e;let E:(b,o)=p:=M5 e;subst E;exact#[a,q]
def ap.pinned(I:ap X a c H s)(g:∀b∈f,fi X a H b)(i:∀b∈f,∃o,s.heap.get? b=δ o/\∀v,o.data≠ .cell v):ap X (a++lH f s.heap) c H s:=
 I.pins_of λp j=>(γ.mp j).elim (λz=>I.pin p (MK _ z)) λz=>by let⟨h,e⟩:=ZY z;let⟨F,k,l,_⟩:=g p.1 h;let⟨o,E,d⟩:=i p.1 h;rw[e]at E;cases E;exact#[e,F,k,l,d]
def ap.unpinned(I:ap X (a++c) b H s):ap X a b H s:=I.pins_of λp h=>I.pin p (MK _$ NB _ h)
def kh{iter:dr}{B:ri cv}{wi:TI}{g:TG}{tb:TS}{P:Pos}(C:PassesOwn (χ X.prog X.w) X.A X.env X.xe)(hc:X.calm=μ)(hi:PI X tg iter wi)(hg:PG X tg g)(c:mn X B tb)
  (hs:∀x,foldedSetIterable iter X.env x=pure x:=by intro _;rfl):PS X (.For tg iter B [] P) (Ah wi g tb):=by
 intro p s σ H D I h;erw[wpAny_For (aU (hi p s σ H _ I h) λv s1 h1=>aU h1 λi0 s2 h2=>?_) hs];obtain⟨it,F,tn,J,H2,e,I2,T,O,f2,W,⟨m0,w0⟩,E⟩:=h2;subst e;let S:∀{t:Hp},(∀b∈F,t b=θ)->∀b∈F,fi X p t b:=λhn b c=>#[hn b c,(f2 b c).2];erw[codeAny_forLoop_any (λn s'=>∃i j t,ap X p j t s'/\tn i s'.heap/\(∀b∈F,t b=θ)/\W i n j t) ?_ m0 #[0,σ,H2,I2,O,λb c=>(f2 b c).1,w0]];rintro n s3 ⟨i,k,M,I3,G,K,w3⟩;rcases E i n k M w3 with ⟨stop,qn⟩ | ⟨go,N,hN,step⟩
 .erw[Ox C$ aU (T.done X Z Z Z hc i p s3 k M X.xe I3 (S K) G stop) λr s4 z=>?_];let⟨R,I4⟩:=z;subst R;rwa[OU #[k,M,I4,qn]]
 .erw[Ox C$ aU (T.item X Z Z Z hc i p s3 k M X.xe I3 (S K) G go) λr s4 z=>?_];let⟨u,R,h4⟩:=z;subst R;erw[Ox C$ aU h4 λ_ s5 z=>?_];let⟨x,H5,I5,r5,y5,y,U⟩:=z;let V:=I5.pinned (S U) (T.obj _ _ y);erw[Ox C$ aU (hg _ s5 k H5 x u _ V r5$ step x H5 y5) λ_ s6 z=>?_];let⟨Y,H6,I6,q6⟩:=z;erw[Ox C$ aU (c _ s6 Y H6 _ I6 q6) λf s7 Q=>?_];let again:∀{a:St} {l:Hp},ap X (p++lH F s5.heap) a l s7->N a l->∃m,m < n/\∃i j t,ap X p j t s7/\tn i s7.heap/\(∀b∈F,t b=θ)/\W i m j t:=λ{a l} q L=>by let⟨m',hm,w7⟩:=hN a l L;erw[#[m',hm,i+1,a,l,q.unpinned,T.keep _ _ _ y λb c o e=>(q.pin (b,o)$ MK _$ MK _$ zd c e).1,λb c=>?_,w7]];let⟨o,e,d⟩:=T.obj _ _ y b c;exact(q.pin (b,o)$ MK _$ MK _$ zd c e).2.1
  cases f with
  |next |cont=>let⟨a,l,q,L⟩:=Q;rwa[again q L]
  |brk=>let⟨a,l,q,Q⟩:=Q;exact#[a,l,q.unpinned,Q]
  |ret v=>let⟨x7,a,l,q,r7,Q⟩:=Q;exact#[x7,a,l,q.unpinned,r7,Q]
end
def tw{K:Ψ}{a:ζ}{X:ri V}{g:TG}{t:TS}{D:a9}{b:St}{H:Hp}(Pv:Nat->St->Hp->Prop)(k:Pv 0 b H)(l:∀i b H,i<=ο X->Pv i b H->aI K H a X)
  (n:∀i x b H,X[i]?=δ x->Pv i b H->g x b H λc j=>t { D with nx:=Pv (i+1),ct:=Pv (i+1),bk:=D.nx } c j) (o:∀b H,Pv X.length b H->D.nx b H):
  ∃W:Nat->Nat->St->Hp->Prop,(∃m,W 0 m b H)/\∀i m b H,W i m b H->
   ((wS K a).stop i H/\D.nx b H)∨((wS K a).go i H/\∃N:St->Hp->Prop,(∀d h,N d h->∃M,M < m/\W (i+1) M d h)/\∀x h,(wS K a).yld i H x h->g x b h λc j=>t { D with nx:=N,ct:=N,bk:=D.nx } c j):=by
 erw[#[λi m b H=>m=ο X - i/\i<=ο X/\Pv i b H,#[X.length,Lz,Mu _,k],?_]];rintro i m b H ⟨rfl,r,p⟩;let q:=l i b H r p;by_cases f:i < ο X
 .erw[.inr #[#[X,X[i],q,by simp [f]],Pv$ i+1,λd h P=>#[ο X - (i+1),N09,Z,f,P],λx h y=>?_]];let⟨e,y⟩:=y;subst e;rwa[n i x b _ (y X q) p]
 .let e:i=ο X:=by omega
  subst e;rwa[.inl #[#[X,q,Mj _],o b H p]]
def xJ{K:Ψ}{a:ζ}{X:ri V}{g:TG}{t:TS}{D:a9}{b:St}{H:Hp}(Pv:Nat->St->Hp->Prop)(k:Pv 0 b H)(l:∀i b H,i<=ο X->Pv i b H->aD K H a X)
  (n:∀i x b H,X[i]?=δ x->Pv i b H->g x b H λc j=>t { D with nx:=Pv (i+1),ct:=Pv (i+1),bk:=D.nx } c j) (o:∀b H,Pv X.length b H->D.nx b H):
  ∃W:Nat->Nat->St->Hp->Prop,(∃m,W 0 m b H)/\∀i m b H,W i m b H->
   ((wT K a).stop i H/\D.nx b H)∨((wT K a).go i H/\∃N:St->Hp->Prop,(∀d h,N d h->∃M,M < m/\W (i+1) M d h)/\∀x h,(wT K a).yld i H x h->g x b h λc j=>t { D with nx:=N,ct:=N,bk:=D.nx } c j):=by
 erw[#[λi m b H=>m=ο X - i/\i<=ο X/\Pv i b H,#[X.length,Lz,Mu _,k],?_]];rintro i m b H ⟨rfl,r,p⟩;let q:=l i b H r p;by_cases f:i < ο X
 .erw[.inr #[#[X,X[i],q,by simp [f]],Pv$ i+1,λd h P=>#[ο X - (i+1),LA,Z,f,P],λx h y=>?_]];let⟨e,y⟩:=y;subst e;rwa[n i x b _ (y X q) p]
 .let e:i=ο X:=by omega
  subst e;rwa[.inl #[#[X,q,Mj _],o b H p]]
def Qw{lo:Int}{n:Nat}{g:TG}{t:TS}{D:a9}{a:St}{H:Hp}(Pv:Nat->St->Hp->Prop)(j:Pv 0 a H)
  (k:∀i a H,i < n->Pv i a H->g (.int$ lo+i) a H λb f=>t { D with nx:=Pv (i+1),ct:=Pv (i+1),bk:=D.nx } b f) (l:∀a H,Pv n a H->D.nx a H):
  ∃W:Nat->Nat->St->Hp->Prop,(∃m,W 0 m a H)/\∀i m a H,W i m a H->
   ((wJ lo n).stop i H/\D.nx a H)∨((wJ lo n).go i H/\∃N:St->Hp->Prop,(∀c h,N c h->∃M,M < m/\W (i+1) M c h)/\∀x h,(wJ lo n).yld i H x h->g x a h λb f=>t { D with nx:=N,ct:=N,bk:=D.nx } b f):=by
 erw[#[λi m a H=>m=n - i/\i<=n/\Pv i a H,#[n,Lz,Mu _,j],?_]];rintro i m a H ⟨rfl,o,p⟩;by_cases d:i < n
 .erw[.inr #[d,Pv$ i+1,λc h P=>#[n - (i+1),N09,Z,d,P],λx h y=>?_]];let⟨e,y⟩:=y;subst e y;rwa[k i a _ d p]
 .let e:i=n:=by omega
  subst e;rwa[.inl #[Mj _,l a H p]]
abbrev R2:=V->V->Hp->VK->Prop
def eW(X:Cx)(f:η->η->Sem η)(r:R2):Prop:=
 ∀(p:ri (ζ×fx)) (s:ι) (a:St) (H:Hp) (x y:V) (v u:η) (Q:VK),ap X p a H s->aE x v->aE y u->r x y H Q->
  π (χ X.prog X.w) X.A (f v u) (EP X p a Q) X.xe s
def HS(X:Cx)(f:η->Sem η)(r:V->Hp->VK->Prop):Prop:=
 ∀(p:ri (ζ×fx)) (s:ι) (a:St) (H:Hp) (x:V) (v:η) (Q:VK),ap X p a H s->aE x v->r x H Q->
  π (χ X.prog X.w) X.A (f v) (EP X p a Q) X.xe s
def dA(X:Cx)(f:η)(r:ri V->Hp->VK->Prop):Prop:=
 ∀(p:ri (ζ×fx)) (s:ι) (a:St) (H:Hp) (x:ri V) (u:ri η) (Q:VK),ap X p a H s->ay x u->r x H Q->
  π (χ X.prog X.w) X.A (call f u) (EP X p a Q) X.xe s
def HR(X:Cx)(r:V->Hp->(Bool->Hp->Prop)->Prop):Prop:=
 ∀(p:ri (ζ×fx)) (s:ι) (a:St) (H:Hp) (x:V) (v:η) (Q:Bool->Hp->Prop),ap X p a H s->aE x v->r x H Q->
  π (χ X.prog X.w) X.A (truthy v) (TP X p a Q) X.xe s
def dU(r:R2)(t T:TE):TE:=λa H Q=>t a H λx h=>T a h λy b=>r x y b Q
def Lo(r:V->Hp->VK->Prop)(t:TE):TE:=λa H Q=>t a H λx h=>r x h Q
inductive rI(C:Int->Int->Prop)(g:Int->Int->V)(x y:V)(H:Hp)(Q:VK):Prop
 |mk(i j:_)(_:x= .int i)(_:y= .int j)(_:C i j)(_:Q (g i j) H)
inductive wN(g:Int->Int->V)(x y:V)(H:Hp)(Q:VK):Prop
 |mk(i j:_)(_:x= .int i)(_:y= .int j)(_:Q (g i j) H)
inductive rU(g:Int->V)(x:V)(H:Hp)(Q:VK):Prop
 |mk(i:_)(_:x= .int i)(_:Q (g i) H)
section
variable {X:Cx}{a b c:dr}{ta tb tc:TE}{pos:Pos}
def BM(k:PE X a ta)(l:PE X b tb){R:V->V->Hp->Prop}(I:ap X p e H s)
  (h:ta e H λx j=>tb e j λy d=>R x y d)  {f:η->η->Sem η}
  (m:∀v u i x y d,ap X p e d i->aE x v->aE y u->R x y d->π (χ X.prog X.w) X.A (f v u) Q X.xe i):
  π (χ X.prog X.w) X.A (eval a X.env) (λv S=>π (χ X.prog X.w) X.A (eval b X.env) (λu g=>π (χ X.prog X.w) X.A (f v u) Q X.xe g) X.xe S) X.xe s:=by
 erw[aU (k p s e H _ I h) λv n z=>?_];let⟨x,j,o,r,q⟩:=z;erw[aU (l p n e j _ o q) λu i z=>?_];let⟨y,d,t,B,C⟩:=z;rwa[m v u i x y d t r B C]
def ju{o:Operator}{r:R2}(d:eW X (binaryOp o) r)(e:PE X a ta)(f:PE X b tb):PE X (.BinOp a o b pos) (dU r ta tb):=by intro p s g H Q I h;rwa[wpAny_BinOp$ BM e f I h λv u S x y i j R k q=>d p S g i x y v u Q j R k q]
def uH(e:HS X (unaryOp o) r)(f:PE X a ta):PE X (.UnaryOp o a pos) (Lo r ta):=by intro p s d H Q I h;rwa[UnaryOp_$ aU (f p s d H _ I h) λv S #[x,g,i,R,q]=>e p S d g x v Q i R q]
def Fz{f:η->η->Sem η}{C:Int->Int->Prop}{g:Int->Int->Int}
  (rule:∀(i j:Int) (t u:Tok) (s:ι) (Q:η->ι->Prop) (E:η->ι->Prop),C i j->Q (.int (g i j) s.toks) { s with toks:=s.toks+1 }->π (χ X.prog X.w) X.A (f (.int i t)$ .int j u) Q E s):
  eW X f (rI C λi j=>.int (g i j)):=by
 intro p s e H x y v u Q I r R h;let⟨i,j,rfl,rfl,d,q⟩:=h;let⟨t,rfl⟩:=r;let⟨T,rfl⟩:=R;rwa[rule i j t T s _ _ d #[.int$ g i j,H,I.tok _,#[_,Z],q]]
def FD{f:η->η->Sem η}{g:Int->Int->Int}
  (rule:∀(i j:Int) (t u:Tok) (s:ι) (Q:η->ι->Prop) (E:η->ι->Prop),Q (.int (g i j) s.toks) { s with toks:=s.toks+1 }->π (χ X.prog X.w) X.A (f (.int i t)$ .int j u) Q E s):
  eW X f (wN λi j=>.int (g i j)):=by
 intro p s d H x y v u Q I r R h;let⟨i,j,rfl,rfl,q⟩:=h;let⟨t,rfl⟩:=r;let⟨T,rfl⟩:=R;rwa[rule i j t T s _ _ #[.int$ g i j,H,I.tok _,#[_,Z],q]]
def Dc{f:η->η->Sem η}{g:Int->Int->Bool}
  (rule:∀(i j:Int) (t u:Tok) (s:ι) (Q:η->ι->Prop) (E:η->ι->Prop),Q (.bool$ g i j) s->π (χ X.prog X.w) X.A (f (.int i t)$ .int j u) Q E s):
  eW X f (wN λi j=>.bl (g i j)):=by
 intro p s d H x y v u Q I r R h;let⟨i,j,rfl,rfl,q⟩:=h;let⟨t,rfl⟩:=r;let⟨T,rfl⟩:=R;rwa[rule i j t T s _ _ #[.bl$ g i j,H,I,Z,q]]
def HE(i j:Int):Prop:=0 < j/\j < 1073741824
def HF(i j:Int):Prop:=0<=j/\j<=1000000/\i.natAbs < 2 ^ 64
def wP(i j:Int):Prop:=(-(2 ^ 64) < i/\i < 2 ^ 64)∨(-(2 ^ 64) < j/\j < 2 ^ 64)
def wP.ok(h:wP i j):IntMulOk i j:=by
 rcases h with ⟨H,d⟩ | ⟨H,d⟩
 .rwa[.of_left$ intBits_le_64 H d]
 .rwa[.of_right$ intBits_le_64 H d]
def jW:eW X (binaryOp .Add) (wN λi j=>.int (i+j)):=FD λ_ _ _ _ _ _ _ q=>add_int q
def ki:eW X (binaryOp .Sub) (wN λi j=>.int (i - j)):=FD λ_ _ _ _ _ _ _ q=>sub_int q
def zr:eW X (binaryOp .Mult) (rI wP λi j=>.int (i*j)):=Fz λ_ _ _ _ _ _ _ h q=>mul_int q h.ok
def yv:eW X (binaryOp .FloorDiv) (rI HE λi j=>.int (i / j)):=Fz λi j _ _ _ _ _ h q=>by let H:(0:Int) < j:=h.1;let d:j < 1073741824:=h.2;rwa[floordiv_int LA (by rw[Sw i LA];rwa[q])$ .inl$ PyProof.noPylong_small N09]
def zc:eW X (binaryOp .Mod) (rI (λ_ j=>0 < j) λi j=>.int (i % j)):=Fz λi j _ _ _ _ _ h q=>by let H:(0:Int) < j:=h;rwa[mod_int' LA (by rw[Int.fmod_eq_emod_of_nonneg i LA];rwa[q])]
def Js:eW X (binaryOp .Pow) (rI HF λi j=>.int (i ^ j.toNat)):=Fz λ_ _ _ _ _ _ _ h q=>pow_int_small h.1 h.2.1 h.2.2 q
def Lq{f:η->Sem η}{g:Int->Int}
  (rule:∀(i:Int) (t:Tok) (s:ι) (Q:η->ι->Prop) (E:η->ι->Prop),Q (.int (g i) s.toks) { s with toks:=s.toks+1 }->π (χ X.prog X.w) X.A (f$ .int i t) Q E s):
  HS X f (rU λi=>.int (g i)):=by
 intro p s d H x v Q I r h;let⟨i,rfl,q⟩:=h;let⟨t,rfl⟩:=r;rwa[rule i t s _ _ #[.int$ g i,H,I.tok _,#[_,Z],q]]
def Yh:HS X (unaryOp .USub) (rU λi=>.int (Neg.neg i)):=Lq λ_ _ _ _ _ q=>neg_int q
end
def Gf:V->V->Bool
 | .non,.non=>μ | .non,.int _=>μ | .int _,.non=>μ | .non,.bl _=>μ | .bl _,.non=>μ | .non,.str _=>μ | .str _,.non=>μ
 | .int _,.int _=>μ | .bl _,.bl _=>μ | .str _,.str _=>μ | .byt _,.byt _=>μ
 | .int _,.str _=>μ | .str _,.int _=>μ | .bl _,.str _=>μ | .str _,.bl _=>μ
 |_,_=>ν
def FM:R2:=λx y H Q=>Gf x y=μ/\Q (.bl$ decide$ x=y) H
def Lj:R2:=λx y H Q=>Gf x y=μ/\Q (.bl (!decide (x=y))) H
def Zf:decide (qs i=qs j)=(i==j):=by rw[P7];simp
def sP:decide (V.bl i=V.bl j)=(i==j):=by rw[P7];simp
def Zg:decide (qr i=qr j)=(i==j):=by rw[P7];simp
def Zh:decide (V.byt i=V.byt j)=(i.toList==j.toList):=by rw[P7];cases i;cases j;simp
section
variable {X:Cx}{a b c:dr}{ta tb tc:TE}{pos:Pos}
def jO{Q:VK}(I:ap X p d H s)(q:Q (.bl k) H)(e:k=f):EP X p d Q (.bool f) s:=by subst e;exact#[.bl k,H,I,Z,q]
def qD:eW X (compareOp .Eq) FM:=by
 intro p s e H x y v u Q I R r h;let⟨d,q⟩:=h;cases x with
 |non=>
  cases R;cases y with
  |non=>cases r;rwa[U7 (jO I q Lz)]
  |bl j=>cases r;rwa[U9 (jO I q Lz)]
  |int j=>let⟨T,rfl⟩:=r;rwa[U8 (jO I q Lz)]
  |str j=>let⟨T,rfl⟩:=r;rwa[U6 (jO I q Lz)]
  |_=>rwa[absurd (show ν=μ from d) Mq]
 |bl i=>
  cases R;cases y with
  |non=>cases r;rwa[Va (jO I q Lz)]
  |bl j=>cases r;rwa[eq_bool (jO I q sP)]
  |str j=>let⟨T,rfl⟩:=r;rwa[UW (jO I q Lz)]
  |_=>rwa[absurd (show ν=μ from d) Mq]
 |int i=>
  let⟨t,rfl⟩:=R;cases y with
  |non=>cases r;rwa[U' (jO I q Lz)]
  |int j=>let⟨T,rfl⟩:=r;rwa[eq_int (jO I q Zf)]
  |str j=>let⟨T,rfl⟩:=r;rwa[UV (jO I q Lz)]
  |_=>rwa[absurd (show ν=μ from d) Mq]
 |str i=>
  let⟨t,rfl⟩:=R;cases y with
  |non=>cases r;rwa[U5 (jO I q Lz)]
  |bl j=>cases r;rwa[UU (jO I q Lz)]
  |int j=>let⟨T,rfl⟩:=r;rwa[UT (jO I q Lz)]
  |str j=>let⟨T,rfl⟩:=r;rwa[eq_str (jO I q Zg)]
  |_=>rwa[absurd (show ν=μ from d) Mq]
 |byt i=>
  let⟨t,rfl⟩:=R;cases y with
  |byt j=>let⟨T,rfl⟩:=r;rwa[PySem.W.eq_bytes (jO I q Zh)]
  |_=>rwa[absurd (show ν=μ from d) Mq]
 |_=>cases y<;>rwa[absurd (show ν=μ from d) Mq]
def Qn:eW X (compareOp .NotEq) Lj:=by
 intro p s e H x y v u Q I R r h;let⟨d,q⟩:=h;cases x with
 |non=>
  cases R;cases y with
  |non=>cases r;rwa[U0 (jO I q Lz)]
  |bl j=>cases r;rwa[U2 (jO I q Lz)]
  |int j=>let⟨T,rfl⟩:=r;rwa[U1 (jO I q Lz)]
  |str j=>let⟨T,rfl⟩:=r;rwa[UZ (jO I q Lz)]
  |_=>rwa[absurd (show ν=μ from d) Mq]
 |bl i=>
  cases R;cases y with
  |non=>cases r;rwa[U4 (jO I q Lz)]
  |bl j=>cases r;rwa[ne_bool (jO I q (MZ not sP))]
  |str j=>let⟨T,rfl⟩:=r;rwa[UR (jO I q Lz)]
  |_=>rwa[absurd (show ν=μ from d) Mq]
 |int i=>
  let⟨t,rfl⟩:=R;cases y with
  |non=>cases r;rwa[U3 (jO I q Lz)]
  |int j=>let⟨T,rfl⟩:=r;rwa[ne_int (jO I q (MZ not Zf))]
  |str j=>let⟨T,rfl⟩:=r;rwa[UQ (jO I q Lz)]
  |_=>rwa[absurd (show ν=μ from d) Mq]
 |str i=>
  let⟨t,rfl⟩:=R;cases y with
  |non=>cases r;rwa[UY (jO I q Lz)]
  |bl j=>cases r;rwa[UP (jO I q Lz)]
  |int j=>let⟨T,rfl⟩:=r;rwa[UO (jO I q Lz)]
  |str j=>let⟨T,rfl⟩:=r;rwa[ne_str (jO I q (MZ not Zg))]
  |_=>rwa[absurd (show ν=μ from d) Mq]
 |byt i=>
  let⟨t,rfl⟩:=R;cases y with
  |byt j=>let⟨T,rfl⟩:=r;rwa[PySem.W.ne_bytes (jO I q (MZ not Zh))]
  |_=>rwa[absurd (show ν=μ from d) Mq]
 |_=>cases y<;>rwa[absurd (show ν=μ from d) Mq]
def Qo:eW X (compareOp .Lt) (wN λi j=>.bl (decide$ i < j)):=Dc λ_ _ _ _ _ _ _ q=>lt_int q
def JF:eW X (compareOp .Gt) (wN λi j=>.bl (decide$ j < i)):=Dc λ_ _ _ _ _ _ _ q=>gt_int q
def uE:eW X (compareOp .GtE) (wN λi j=>.bl (decide$ j<=i)):=Dc λ_ _ _ _ _ _ _ q=>ge_int q
def Yi:eW X (compareOp .Is) (λx y H Q=>y= .non/\Q (.bl$ decide$ x= .non) H):=by
 intro p s d H x y v u Q I r R h;let⟨rfl,q⟩:=h;cases R;erw[is_none_gen$ jO I q ?_];cases x<;>first
  | (cases r;rfl)
  | (let⟨t,rfl⟩:=r;rfl)
def yw:eW X (compareOp .IsNot) (λx y H Q=>y= .non/\Q (.bl (!decide (x= .non))) H):=by
 intro p s d H x y v u Q I r R h;let⟨rfl,q⟩:=h;cases R;erw[isnot_none_gen$ jO I q ?_];cases x<;>first
  | (cases r;rfl)
  | (let⟨t,rfl⟩:=r;rfl)
def aG(b:dr)(h:↥(o≠ .In))(H:↥(o≠ .NotIn)):behindInMarks o b=ν:=by
 let e:(o==CmpOp.In)=ν:=by cases o<;>first |rfl |exact absurd Z h
 let E:(o==CmpOp.NotIn)=ν:=by cases o<;>first |rfl |exact absurd Z H
 cases b<;>simp [behindInMarks,e,E]
def Q0(d:eW X (compareOp o) r)(e:PE X a ta)(f:PE X b tb)(g:behindInMarks o b=ν):PE X (.Compare a [o] [b] pos) (dU r ta tb):=by intro p s i H Q I h;rwa[wpAny_Compare1 (BM e f I h λv u S x y j k R l q=>d p S i j x y v u Q k R l q) g]
inductive wj(Q:Bool->Hp->Prop)(x:V)(a:Hp):Prop
 |mk(k:_)(_:x= .bl k)(_:Q k a)
def lv(t:TE):TT:=λd H Q=>t d H (wj Q)
def jA{o:CmpOp}{r:R2}(f:eW X (compareOp o) r)(g:PE X a ta)(i:PE X b tb)(j:behindInMarks o b=ν):PT X (.Compare a [o] [b] pos) (lv$ dU r ta tb):=by
 intro p s d H Q I h;refine T4 (aU (g p s d H _ I h) λv S #[x,l,m,R,q]=>aU (i p S d l _ m q) λu n #[y,t,w,A,B]=>
  aU (f p n d t x y v u _ w R A B) λc G #[z,C,D,E,k,e,F]=>?_) j
 subst e;cases E;rwa[PL #[C,D,F]]
def EC(K:Ψ)(x:V)(H:Hp)(k:Bool):Prop:=
 match x with
 | .non=>k=ν
 | .bl b=>k=b
 | .int i=>k=(i != 0)
 | .str y=>y.length<=υ/\k=((y.length:Int) != 0)
 | .byt y=>y.size<=υ/\k=((y.size:Int) != 0)
 | .ref p=>(∃d,aI K H p d/\k=!d.isEmpty)∨(∃d,aD K H p d/\k=!d.isEmpty)∨∃e,H p=δ (.dK e)/\k=!e.isEmpty
 |_=>False
def Yt{d:Type}{k:ri (d×V)}{v:ri (d×η)}(r:KV k v):(!v.isEmpty)=!k.isEmpty:=by cases r<;>rfl
def KE(r:ay x i):(!i.toArray.isEmpty)=!x.isEmpty:=by cases r<;>simp
def eh:(υ:Nat) < 2 ^ 63:=by rw[Op];decide
def D3:HR X (λx H Q=>∃k,EC X.K x H k/\Q k H):=by
 intro o s B H x v Q I R h;let⟨k,e,q⟩:=h;let C:=eh;let D:υ=16777216:=Op;cases x with
 |non=>cases R;let E:k=ν:=e;subst E;rwa[truthy_none #[H,I,q]]
 |bl b=>cases R;let E:k=b:=e;subst E;rwa[PL #[H,I,q]]
 |int i=>let⟨t,rfl⟩:=R;let E:k=(i != 0):=e;subst E;rwa[PySem.P.truthy_int #[H,I,q]]
 |str y=>let⟨t,rfl⟩:=R;obtain⟨z,E⟩:y.length<=υ/\k=((y.length:Int) != 0):=e;subst E;rwa[PySem.P.truthy_str LA #[H,I.tok _,q]]
 |byt y=>let⟨t,rfl⟩:=R;obtain⟨z,E⟩:y.size<=υ/\k=((y.size:Int) != 0):=e;subst E;rwa[PySem.W.truthy_bytes LA #[H,I.tok _,q]]
 |ref p=>
  cases R;let E:(∃g,aI X.K H p g/\k=!g.isEmpty)∨(∃g,aD X.K H p g/\k=!g.isEmpty)∨∃d,H p=δ (.dK d)/\k=!d.isEmpty:=e;rcases E with ⟨g,j,E⟩ | ⟨g,j,E⟩ | ⟨d,j,E⟩
  .subst E;let⟨l,r,n,u⟩:=I.list j;let f:=r.length;rwa[wpAny_truthy_list n.isList (by simp only[Mm];omega) #[H,I.tok _,by rw[KE r];rwa[q]]]
  .subst E;let⟨l,r,n,u⟩:=I.tuple j;let f:=r.length;rwa[truthy_tuple n (by simp only[Mm];omega) #[H,I.tok _,by rw[KE r];rwa[q]]]
  .subst E;obtain⟨u,A,V,r,m⟩:ο d<=υ/\(p==sysModules)=ν/\∃V,KV d V/\s.heap.DictOf (aZ X.prog X.w) p V:=I.hok p _ j;let f:ο d=ο V:=Paired.length r;rwa[wpAny_truthy_dict A m LA #[H,I.tok _,by rw[Yt r];rwa[q]]]
 |_=>exact(show False from e).elim
def uN(f:PE X a ta)(g:∀w,isTrue a X.env w=(do let v <- w;standAt a.pos;iu [v] (truthy v))):
  PT X a (λd H Q=>ta d H λx e=>∃k,EC X.K x e k/\Q k e):=by
 intro p s d H Q I h;rwa[isTrue_plain (aU (f p s d H _ I h) λv S #[x,i,j,r,q]=>D3 p S d i x v Q j r q)$ g _]
inductive Ji(x y:V)(H:Hp)(Q:VK):Prop
 |mk(i j:_)(_:x= .str i)(_:y= .str j)(_:i.length+j.length<=υ)(_:Q (.str (i++j)) H)
def zE:eW X (binaryOp .Add) Ji:=by intro p s e H x y v u Q I r R h;let⟨i,j,rfl,rfl,d,q⟩:=h;let⟨t,rfl⟩:=r;let⟨T,rfl⟩:=R;rwa[add_str (λT f=>#[.str$ i++j,H,I.tok _,#[_,Z],q]) d]
def eG(r:ay [x] U):∃u,U=[u]/\aE x u:=by
 cases r with
 |cons R d=>cases d;exact#[_,Z,R]
def wB(r:ay [x,y] U):∃u w,U=[u,w]/\aE x u/\aE y w:=by
 cases r with
 |cons R d=>
  cases d with
  |cons e f=>cases f;exact#[_,_,Z,R,e]
inductive JH(a:ri V)(H:Hp)(Q:VK):Prop
 |mk(i j:_)(_:a=[.int i,.int j])(_:Q (.int (if j > i then j else i)) H)
def ZZ(e:X.calm=μ):dA X (.builtin "max") JH:=by
 intro p s f H x U Q I r h;let⟨i,j,rfl,q⟩:=h;obtain⟨u,w,rfl,⟨t,rfl⟩,⟨T,rfl⟩⟩:=wB r;erw[max_two_ints (I.ok.hd e) λg l k=>#[_,H,I.kept k,?_,q]];by_cases d:j > i
 .rw[Mv d,Mv d];exact#[_,Z]
 .rw[Mx d,Mx d];exact#[_,Z]
inductive JI(a:ri V)(H:Hp)(Q:VK):Prop
 |mk(i j:_)(_:a=[.int i,.int j])(_:Q (.int (if j < i then j else i)) H)
def Z0(e:X.calm=μ):dA X (.builtin "min") JI:=by
 intro p s f H x U Q I r h;let⟨i,j,rfl,q⟩:=h;obtain⟨u,w,rfl,⟨t,rfl⟩,⟨T,rfl⟩⟩:=wB r;erw[min_two_ints (I.ok.hd e) λg l k=>#[_,H,I.kept k,?_,q]];by_cases d:j < i
 .rw[Mv d,Mv d];exact#[_,Z]
 .rw[Mx d,Mx d];exact#[_,Z]
def Jy:dA X (.type "int") (λx H Q=>(∃i,x=[.int i]/\Q (.int i) H)∨∃k,x=[.bl k]/\Q (.int (if k then 1 else 0)) H):=by
 intro p s d H x U Q I r h;rcases h with ⟨i,rfl,q⟩ | ⟨k,rfl,q⟩
 .let⟨u,rfl,t,rfl⟩:=eG r;rwa[call_int_int #[.int i,H,I,#[_,Z],q]]
 .let⟨u,rfl,R⟩:=eG r;cases R;rwa[call_int_bool #[.int (if k then 1 else 0),H,I.tok _,#[_,Z],q]]
end
structure nR(h:db)(x dx C:ζ)(mA:ρ->rm η):Prop where
 obj:h.get? x=δ (instObj C dx)
 ns:h.Ns1 dx mA
 ne:dx≠x
def Z1{h:db}(n:h.Ns1 d m):∃O,h.get? d=δ O/\∀name,lookIn name O=δ (m name):=by
 let⟨o,E,j,b,c,f,_,g⟩:=n;erw[#[o,b,λname=>?_]];let e:=g name;unfold nsFind findBy at e;rw[<- Array.find?_toList]at e;unfold lookIn;rw[c];dsimp only;split
 .rename_i y q
  rw[q]at e;rwa[MZ δ e]
 .rename_i q
  rw[q]at e;let a:E.toList.any (·.refKey)=ν:=by rw[TU];intro y i;let⟨z,t,H⟩:=f y (Array.mem_toList_iff.mp i);simp [DictEntry.refKey,H]
  let A:¬E.toList.any (·.refKey)=μ:=by rw[a];rwa[Mq]
  rw[Mx A];rwa[MZ δ e]
def nR.look(I:nR h x d C m):∃o,PySem.W.InstAt h x (instObj C d) C (δ o)/\∀name,lookIn name o=δ (m name):=
 let #[o,H,a]:=Z1 I.ns
 #[o,#[I.obj,Z,Z,H],a]
section
variable {prog:ω}{w:bS}{A:bx}{E:η->ι->Prop}{s:ι}{K:Ψ}{x dx C f:ζ}{mA:ρ->rm η}{name:ρ}{v:η}
def xM{Q:η->ι->Prop}(X:K.In s.heap)(I:nR s.heap x dx C mA)(a:plainGet K C name=μ)(b:hasDictIn K C=μ)
  (c:findIn K (.ref C) name=δ θ) (d:mA name=δ v) (H:PySem.W.handedIn v=μ) (h:Q v { s with toks:=s.toks+1 }):
  π (χ prog w) A (getAttr (.ref x) name e) Q E s:=by
 let⟨o,J,g⟩:=I.look;rwa[PySem.W.get_value X J (Ri a).1 (PySem.W.findObj_own b c Z (by rw[g,d])) H h]
def tJ{Q:η×ri η->ι->Prop}(X:K.In s.heap)(I:nR s.heap x dx C mA)(H:plainGet K C name=μ)
  (a:findIn K (.ref C) name=δ (↑f)) (b:isFn K (.ref f)=μ) (c:mA name=θ) (h:Q (.ref f,[.ref x]) s):
  π (χ prog w) A (getMethod (.ref x) name p) Q E s:=by
 let⟨o,J,d⟩:=I.look;rwa[PySem.W.method_fn X J (Ri H).1 (Ri H).2 a (beq_iff_eq.mp b) (by show(lookIn name o).map (·.isSome)=δ ν;rw[d,c];rfl) h]
def y7{Q:Unit->ι->Prop}(X:K.In s.heap)(I:nR s.heap x dx C mA)
  (k:findIn K (.ref C) "__setattr__"=δ (δ$ .builtin "object.__setattr__")) (l:PySem.W.plainOver K C=μ) (m:on K C name=δ θ) (n:hasDictIn K C=μ)
  (o:PySem.Within mA N) (p:ο N<=υ)
  (h:∀d,nR d x dx C (λy=>if y=name then δ v else mA y)->ey dx s.heap d->Q () { s with heap:=d,toks:=s.toks+2 }):
  π (χ prog w) A (setAttr (.ref x) name v) Q E s:=by
 let⟨O,J,B⟩:=I.look;erw[PySem.W.set_plain X J k$ PySem.W.osa_open (s:={ s with toks:=s.toks+1 }) (r:=θ) X J l m λb=>?_];let⟨D,q,e⟩:=PySem.W.any_some n;let t:s.heap.get? x=δ #[.ref C,δ dx,.plain,(ε [])]:=I.obj;erw[Me$ Mh$ Me$ Me$ Rs t$ Me$ UN (s:={ s with toks:=s.toks+1 }) (PySem.W.looks_clsIn X q) ?_];rw[e];erw[Mh (a:=δ dx)$ Me$ Mh$ Me ?_];erw[wpAny_nsSet1 (s:={ s with toks:=s.toks+1 }) I.ns λd H c=>?_];let⟨F,u,z,g,i,j⟩:=H.count (UX name v o);erw[Me$ wpAny_lookBehind g (by rw[i];rwa[pastItsLine_dict$ Mw j (by rw[MV];omega)]) ?_];rwa[Mh$ h _ #[(c.2 _$ MX I.ne).trans I.obj,H,I.ne] c]
def tY{R:Result->ι->Prop}(X:K.In s.heap)(H:PySem.W.makesIn K C=μ)
  (b:findIn K (.ref C) "__init__"=δ (↑f)) (c:typeIn K (.ref f)=δ (.type "function"))
  (h:ib (χ prog w) (A.under$ .builtin "type.__call__" #[.ref C::a,k]) (.call (.ref f) #[.ref (-s+1)::a,k]) (PySem.W.InitBack (-s+1) R)
   ‹(s.heap.push emptyDict).push (instObj C (-s))›):
  ib (χ prog w) A (.call (.ref C) #[a,k]) R s:=by
 let⟨e,g,d,t,os⟩:=s;rwa[PySem.W.make_core (PySem.W.makes_of X H) (PySem.W.looks_findIn X b) (λS=>PySem.W.bind_fn X S c) (.inl Z) h]
end
def em(f:ρ)(v:V):ri (ρ×V)->ri (ρ×V)
 | []=>[(f,v)]
 | (g,x)::r=>if g=f then (g,v)::r else (g,x)::em f v r
theorem JJ(f g:ρ)(v:V):∀F:ri (ρ×V),(em f v F).lookup g=if g=f then δ v else F.lookup g
 | []=>by
  show fJ g [(f,v)]=_;by_cases h:g=f
  .let H:(g==f)=μ:=beq_iff_eq.mpr h;simp only[fJ,H,Mv h]
  .let H:(g==f)=ν:=beq_eq_false_iff_ne.mpr h;simp only[fJ,H,Mx h]
 | (k,x)::r=>by
  let i:=JJ f g v r;rw[show em f v ((k,x)::r)=(if k=f then (k,v)::r else (k,x)::em f v r) from Z];by_cases a:k=f
  .rw[Mv a];by_cases h:g=k
   .let H:(g==k)=μ:=beq_iff_eq.mpr h;simp only[fJ,H,Mv$ h.trans a]
   .let H:(g==k)=ν:=beq_eq_false_iff_ne.mpr h;simp only[fJ,H,Mx (λe:g=f=>h (e.trans a.symm))]
  .rw[Mx a];by_cases h:g=k
   .let H:(g==k)=μ:=beq_iff_eq.mpr h;simp only[fJ,H,Mx (λe:g=f=>a (h.symm.trans e))]
   .let H:(g==k)=ν:=beq_eq_false_iff_ne.mpr h;simp only[fJ,H];rwa[i]
theorem Jz(f:ρ)(v:V):∀F:ri (ρ×V),f∈(em f v F).map (·.1)/\∀g,g∈F.map (·.1)->g∈(em f v F).map (·.1)
 | []=>#[by simp [em],λg h=>by simp at h]
 | (k,x)::r=>by
  let⟨i,I⟩:=Jz f v r;rw[show em f v ((k,x)::r)=(if k=f then (k,v)::r else (k,x)::em f v r) from Z];by_cases H:k=f
  .rw[Mv H];subst H;exact#[Lz,λg h=>by simpa using h]
  .rw[Mx H];refine#[?_,λg h=>?_]
   .rw[NH];rwa[ML _ i]
   .rw[NH]at h ⊢;rcases Ξ.mp h with e |e
    .rwa[Ξ.mpr$ .inl e]
    .rwa[ML _$ I g e]
theorem JK(f:ρ)(v:V):∀F:ri (ρ×V),(em f v F).length<=ο F+1
 | []=>by simp [em]
 | (k,x)::r=>by
  let i:=JK f v r;rw[show em f v ((k,x)::r)=(if k=f then (k,v)::r else (k,x)::em f v r) from Z];by_cases h:k=f
  .rw[Mv h,MV,MV];omega
  .rw[Mx h,MV,MV];omega
def dX.some_of{v:V}{o:rm η}(r:dX (δ v) o):∃u,o=δ u/\aE v u:=by
 cases o with
 |none=>exact(show False from r).elim
 |some u=>exact#[u,Z,r]
def dX.none_of(r:dX θ o):o=θ:=by
 cases o with
 |none=>rfl
 |some u=>exact(show False from r).elim
def Z2(r:aE v u):PySem.W.handedIn u=μ:=by
 cases v with
 |non=>cases (show u=ab from r);rfl
 |bl b=>cases (show u=mS b from r);rfl
 |int i=>let⟨t,e⟩:=(show ∃t,u=gs i t from r);cases e;rfl
 |str x=>let⟨t,e⟩:=(show ∃t,u=ks x t from r);cases e;rfl
 |byt b=>let⟨t,e⟩:=(show ∃t,u=Value.bytes b t from r);cases e;rfl
 |flt b=>let⟨t,e⟩:=(show ∃t,u=Value.float b t from r);cases e;rfl
 |ref a=>cases (show u=Θ a from r);rfl
 |ty n=>cases (show u=de n from r);rfl
section
variable {P:ω}{w:bS}{H H':Hp}{h h':db}{a C dx:ζ}{fs fs':ri (ρ×V)}
def JX(b:eQ P w H h)(e:H a=δ (.ins C dx fs)):∃m,nR h a dx C m/\(∀f,dX (fs.lookup f)$ m f)/\PySem.Within m (fs.map (·.1))/\ο fs<=1000/\H dx=δ (.own a):=by let⟨d,z,N,o,m,n,r,q⟩:=(show aK P w H h a (.ins C dx fs) from b a _ e);exact#[m,#[o,n,N],r,q,z,d]
end
structure pJ(K:Ψ)(C:ζ):Prop where
 pg:plainGet K C Str.empty=μ
 hd:hasDictIn K C=μ
 po:PySem.W.plainOver K C=μ
 sa:findIn K (.ref C) "__setattr__"=δ (δ$ .builtin "object.__setattr__")
def pJ.get{K:Ψ}(c:pJ K C)(f:ρ):plainGet K C f=μ:=c.pg
def aW(K:Ψ)(C:ζ)(f:ρ):Prop:=findIn K (.ref C) f=δ θ
def aW.taker{K:Ψ}(n:aW K C f):on K C f=δ θ:=by unfold on;rw[show findIn K (.ref C) f=δ θ from n];rfl
structure a7(K:Ψ)(C:ζ)(m:ρ)(f:ζ):Prop where
 at_:findIn K (.ref C) m=δ (↑f)
 fn:isFn K (.ref f)=μ
 kp:fr K (.ref f)=μ
section
variable {X:Cx}{pins:ri (ζ×fx)}{σ:St}{H:Hp}{s:ι}{a C dx:ζ}{fs:ri (ρ×V)}{f:ρ}{v:V}{A:bx}{E:η->ι->Prop}
def KF{Q:η->ι->Prop}(I:ap X pins σ H s)(e:H a=δ (.ins C dx fs))(c:pJ X.K C)(n:aW X.K C f)(l:fs.lookup f=δ v)
  (h:∀u S,ap X pins σ H S->aE v u->Q u S):π (χ X.prog X.w) A (getAttr (.ref a) f b) Q E s:=by
 let⟨m,O,r,_,_,_⟩:=JX I.hok e;let⟨u,d,R⟩:=dX.some_of (v:=v) (o:=m f) (by rw[<- l];rwa[r f]);rwa[xM I.kIn O (c.get f) c.hd n d (Z2 R)$ h u _ (I.tok _) R]
def KG{Q:η×ri η->ι->Prop}(I:ap X pins σ H s)(e:H a=δ (.ins C dx fs))(c:pJ X.K C)(k:a7 X.K C m g)(l:fs.lookup m=θ)
  (h:Q (.ref g,[.ref a]) s):π (χ X.prog X.w) A (getMethod (.ref a) m p) Q E s:=by
 let⟨M,O,r,_,_,_⟩:=JX I.hok e;let b:M m=θ:=dX.none_of (by rw[<- l];rwa[r m]);rwa[tJ I.kIn O (c.get m) k.at_ k.fn b h]
def KH{Q:Unit->ι->Prop}(I:ap X pins σ H s)(e:H a=δ (.ins C dx fs))(c:pJ X.K C)(n:aW X.K C f)(F:ο fs < 1000)(R:aE y u)
  (h:∀S,ap X pins σ (ah H a$ .ins C dx$ em f y fs) S->Q () S):π (χ X.prog X.w) A (setAttr (.ref a) f u) Q E s:=by
 let⟨m,O,r,W,_,i⟩:=JX I.hok e;let j:(fs.map (·.1)).length<=υ:=by rw[Mi,Op];omega
 erw[y7 I.kIn O c.sa c.po n.taker c.hd W j λk d l=>h _ ?_];let p:∃o,k.get? dx=δ o:=let #[o,_,_,t,_]:=d.ns;#[o,t]
 erw[I.write (x:=a) (e:=dx) (by rw[e];rwa[True.intro]) (.inr i) (λb q B z=>(l.2 b B).trans z) p ?_];erw[#[by rw[ji O.ne];rwa[i],?_,O.ne,d.obj,_,d.ns,λg=>?_,λg D=>?_]]
 .let:=JK f y fs;omega
 .show dX ((em f y fs).lookup g) (if g=f then δ u else m g);rw[JJ];by_cases q:g=f
  .rw[Mv q,Mv q];rwa[R]
  .rw[Mx q,Mx q];rwa[r g]
 .by_cases q:g=f
  .rw[q];exact(Jz f y fs).1
  .erw[(Jz f y fs).2 g (W g λz=>D ?_)];show(if g=f then δ u else m g)=θ;rw[Mx q];rwa[z]
def ap.made(I:ap X pins σ H s):ap X pins σ (ah (ah H (-s)$ .own$ -s+1) (-s+1)$ .ins C (-s) [])
  ‹(s.heap.push emptyDict).push (instObj C (-s))›:=by
 let c:(s.heap.push emptyDict).get? (-s)=δ emptyDict:=Mo s.heap Z;let d:((s.heap.push emptyDict).push$ instObj C (-s)).get? (-s+1)=δ (instObj C (-s)):=by let:=Mo (s.heap.push emptyDict) (o:=instObj C (-s)) Z;rw[Na]at this;assumption
 let g:(s.heap.push emptyDict).Ns (-s) (λ_=>θ):=#[emptyDict,(ε []),_,c,Z,(λe h=>absurd h Lz),λ_=>Z];let i:=I.laid (a:=-s) (o:=.own (-s+1)) (h':=s.heap.push emptyDict) (t':=s.toks) (λb u q=>Mg _ q) (Mj _) #[_,c];erw[i.laid (a:=-s+1) (o:=.ins C (-s) []) (t':=s.toks) (λb u q=>Mg _ q) (P5$ Na _ _) ?_];let n:-s≠-s+1:=Mt (NF _);erw[#[by rw[ji n,jc],Mu _,n,d,λ_=>θ,(Heap.Ns1.of_empty g).at λo q=>Mg _ q,λ_=>True.intro,λy j=>absurd Z j]]
def xt{f:ρ}{s:ι}(c:attributeBase e f b (eval e b)=eval e b)
  (h:π (χ p w) A (eval e b) (λo S=>π (χ p w) A (getAttr o f μ) Q E S) E s):π (χ p w) A (eval (.Attribute e f d) b) Q E s:=
 Attribute_any_ h (by rw[arm_eval_Attribute,c])
end
inductive Bn(K:Ψ)(f:ρ)(Q:VK)(x:V)(b:Hp):Prop
 |mk(a C c d v:_)(_:x= .ref a)(_:b a=δ (.ins C c d))(_:pJ K C)(_:aW K C f)(_:d.lookup f=δ v)(_:Q v b)
def IC(K:Ψ)(t:TE)(f:ρ):TE:=λa H Q=>t a H (Bn K f Q)
inductive Be(K:Ψ)(f:ρ)(D:a9)(e:St)(y x:V)(b:Hp):Prop
 |mk(a C c d:_)(_:x= .ref a)(_:b a=δ (.ins C c d))(_:pJ K C)(_:aW K C f)(_:ο d < 1000)(_:D.nx e (ah b a (.ins C c (em f y d))))
def Ip(K:Ψ)(t T:TE)(f:ρ):TS:=λD a H=>T a H λy h=>t a h (Be K f D a y)
def Ew(X:Cx)(o:Operator)(r:V->V->Hp->VK->Prop):Prop:=
 ∀(p:ri (ζ×fx)) (s:ι) (a:St) (H:Hp) (x y:V) (u v:η) (Q:VK),ap X p a H s->aE x u->aE y v->r x y H Q->π (χ X.prog X.w) X.A (inplaceOp o u v) (EP X p a Q) X.xe s
inductive mz(K:Ψ)(g:TE)(e:V->V->Hp->VK->Prop)(f:ρ)(D:a9)(h:St)(x:V)(b:Hp):Prop
 |mk(a C c d v:_)(_:x= .ref a)(_:b a=δ (.ins C c d))(_:pJ K C)(_:aW K C f)(_:d.lookup f=δ v)(_:g h b λy H2=>e v y H2 λz H3=>∃dx' fs',H3 a=δ (.ins C dx' fs')/\ο fs' < 1000/\D.nx h (ah H3 a (.ins C dx' (em f z fs'))))
def yO(K:Ψ)(t T:TE)(r:V->V->Hp->VK->Prop)(f:ρ):TS:=λD a H=>t a H (mz K T r f D a)
section
variable {X:Cx}{o e value:dr}{f:ρ}{pos pos' tpos:Pos}{ta tv:TE}
def kU(b:PE X e ta)(d:attributeBase e f X.env (eval e X.env)=eval e X.env):PE X (.Attribute e f pos) (IC X.K ta f):=by intro p s g H Q I h;erw[xt d$ aU (b p s g H _ I h) λu S z=>?_];let⟨x,i,j,r,a,C,D,F,v,E,k,c,n,l,q⟩:=z;subst E;obtain rfl:u=Θ a:=r;rwa[KF j k c n l λU t m R=>#[v,i,m,R,q]]
def qj(d:PE X o ta)(g:PE X value tv)(i:swapsWith value (δ$ .Attribute o f pos') pos.line X.env=pure ν):PS X (.Assign [.Attribute o f pos'] value pos) (Ip X.K ta tv f):=by intro p s b H D I h;erw[plainObj_wpAny_Assign_Attribute (aU (g p s b H _ I h) λu S #[y,j,k,r,q]=>aU (d p S b j _ k q) λO w z=>?_) i];let⟨x,A,m,R,a,C,B,F,E,t,c,n,l,Q⟩:=z;subst E;obtain rfl:O=Θ a:=R;rwa[KH m t c n l r λG v=>#[b,_,v,Q]]
def Z3{O:Operator}{r:V->V->Hp->VK->Prop}(i:PE X o ta)(j:PE X value tv)(g:Ew X O r):PS X (.AugAssign (.Attribute o f tpos) O value pos) (yO X.K ta tv r f):=by intro p s d H D I h;erw[wpAny_AugAssign_AttributeAny$ aU (i p s d H _ I h) λk s1 b=>?_];let⟨x,m,t,R,a,C,dx,fs,v,w,A,c,n,l,q⟩:=b;subst w;obtain rfl:k=Θ a:=R;erw[KF t A c n l λu S B F=>aU (j p S d m _ B q) λW G #[y,J,L,M,Q]=>aU (g p G d J v y u W _ L F M Q) λw4 s4 b=>?_];let⟨z,H3,N,P,T,U,E,Y,q4⟩:=b;rwa[KH N E c n Y P λs5 I5=>#[d,_,I5,q4]]
inductive FL(x y:V)(H:Hp)(Q:VK):Prop
 |mk(i j:_)(_:x= .int i)(_:y= .int j)(_:Q (.int (i+j)) H)
def Ce:Ew X .Add FL:=by rintro p s a H x y u v Q I r R ⟨i,j,rfl,rfl,q⟩;let⟨t,rfl⟩:=(show ∃t,u=gs i t from r);let⟨T,rfl⟩:=(show ∃T,v=gs j T from R);rwa[Vc #[.int$ i+j,H,I.tok _,#[_,Z],q]]
end
section
variable {X:Cx}{pins:ri (ζ×fx)}{σ:St}{H:Hp}{s:ι}{A:bx}{E:η->ι->Prop}{Q:η->ι->Prop}{c:η}{b:Bool}
inductive gK(K:Ψ)(H:Hp):V->η->Prop where
 |non:gK K H .non (.type "NoneType")
 |bl (x:Bool):gK K H (.bl x) (.type "bool")
 |int (i:Int):gK K H (.int i) (.type "int")
 |str (x:ρ):gK K H (.str x) (.type "str")
 |flt (x:UInt64):gK K H (.flt x) (.type "float")
 |lst {a:ζ} {xs:ri V} (e:H a=δ (.lst xs)):gK K H (.ref a) (.type "list")
 |frz {a:ζ} {o:fx} {xs:ri V} (e:H a=δ (.frz o (.lst xs))):gK K H (.ref a) (.type "list")
 |tup {a:ζ} {xs:ri V} (e:H a=δ (.tup xs)):gK K H (.ref a) (.type "tuple")
 |dK {a:ζ} {kvs:ri (bu×V)} (e:H a=δ (.dK kvs)):gK K H (.ref a) (.type "dict")
 |dT {a:ζ} {kvs:ri (ri bu×V)} (e:H a=δ (.dT kvs)):gK K H (.ref a) (.type "dict")
 |ins {a C dx:ζ} {fs:ri (ρ×V)} (e:H a=δ (.ins C dx fs)) (cl:pJ K C) (ha:findIn K (.ref C) "__class__"=δ (δ (.builtin "object.__class__")))
   (hn:specialIn K (.builtin "object.__class__") "__get__"=δ (δ$ .builtin "getset_descriptor.__get__")) (htk:PySem.W.takesIn K (.builtin "object.__class__")=δ μ)
   (hm:mroIn K C (.type "object")=δ μ):gK K H (.ref a) (.ref C)
def Z4(I:ap X pins σ H s)(r:aE x u)(T:gK X.K H x t)(e:kitOne X.K t c=δ b)(h:∀v,Q (.bool b) { s with toks:=v }):
  π (χ X.prog X.w) A (call (.builtin "isinstance") [u,c]) Q E s:=by
 cases T with
 |non=>cases (show u=ab from r);rwa[Pd PySem.W.kitx_none I.kIn True.intro e (λz=>nomatch z) h]
 |bl y=>cases (show u=mS y from r);rwa[Pd PySem.W.kitx_bool I.kIn True.intro e (λz=>nomatch z) h]
 |int i=>let⟨t,q⟩:=(show ∃t,u=gs i t from r);cases q;rwa[Pd PySem.W.kitx_int I.kIn True.intro e (λz=>nomatch z) h]
 |str y=>let⟨t,q⟩:=(show ∃t,u=ks y t from r);cases q;rwa[Pd PySem.W.kitx_str I.kIn True.intro e (λz=>nomatch z) h]
 |flt y=>let⟨t,q⟩:=(show ∃t,u=Value.float y t from r);cases q;rwa[Pd PySem.W.kitx_float I.kIn True.intro e (λz=>nomatch z) h]
 | @lst a g d=>cases (show u=Θ a from r);let⟨_,_,n,_,f⟩:=(show aK X.prog X.w H s.heap a (.lst g) from I.hok a _ d);rwa[Pd Te I.kIn #[_,f,Z] e (λz=>nomatch z) h]
 | @frz a B g d=>cases (show u=Θ a from r);let⟨_,_,_,n,_,f⟩:=(show aK X.prog X.w H s.heap a (.frz B$ .lst g) from I.hok a _ d);rwa[Pd Te I.kIn #[_,f,Z] e (λz=>nomatch z) h]
 | @tup a g d=>cases (show u=Θ a from r);let⟨_,_,_,p⟩:=(show aK X.prog X.w H s.heap a (.tup g) from I.hok a _ d);let⟨o,f,j,_⟩:=p;rwa[Pd PySem.W.kitx_tuple I.kIn #[o,f,j] e (λz=>nomatch z) h]
 | @dK a k d=>cases (show u=Θ a from r);let⟨_,_,V,_,p⟩:=(show aK X.prog X.w H s.heap a (.dK k) from I.hok a _ d);let⟨o,D,F,f,j,_⟩:=p;rwa[Pd Tf I.kIn #[o,f,j.1] e (λz=>nomatch z) h]
 | @dT a k d=>cases (show u=Θ a from r);let⟨_,_,g,_,o,D,F,f,j,_⟩:=(show aK X.prog X.w H s.heap a (.dT k) from I.hok a _ d);rwa[Pd Tf I.kIn #[o,f,j.1] e (λz=>nomatch z) h]
 | @ins a C N P d m G L l M=>cases (show u=Θ a from r);let⟨R,O,_⟩:=JX I.hok d;let⟨S,J,_⟩:=O.look;rwa[Pd (PySem.W.kitx_own (m.get _) m.hd G L l M) I.kIn J e (λz=>nomatch z) h]
end
structure bJ(k:Nat)(A:bx):Prop where
 hd:A.handled=θ
 dp:A.depth+3*k+5 < recursionLimit
 un:A.units+16*k+200 < cLine
def bJ.mono(r:bJ k A)(h:j<=k):bJ j A:=#[r.hd,by let:=r.dp;omega,by let:=r.un;omega]
def bJ.deeper(r:bJ (k+1) A)(e:Env):bJ k (A.deeper e):=
 #[r.hd,by let:=r.dp;show A.depth+1+3*k+5 < _;omega,by let:=r.un;show A.units+3+16*k+200 < _;omega]
def Yu{A:bx}:(A.under$ .builtin "type.__call__" #[.ref C::u,k]).depth=A.depth+1:=by
 first |rfl |simp [Around.under,Code.weight,Code.isCreation,Code.isGuard,Code.isCaller,Code.frames,Code.isFrame,guardIds]
def Yv{A:bx}:(A.under$ .builtin "type.__call__" #[.ref C::u,k]).units=A.units+1:=by
 first |rfl |simp [Around.under,Code.cUnits,Code.frames,Code.isFrame]
def bJ.make(r:bJ (k+1) A)(C:ζ)(u:ri η)(K:ri (ρ×η)):bJ k (A.under$ .builtin "type.__call__" #[.ref C::u,K]):=
 #[r.hd,by let:=r.dp;rw[Yu];omega,by let:=r.un;rw[Yv];omega]
def bJ.depth(r:bJ k A):A.depth < recursionLimit:=by let:=r.dp;omega
def bJ.units(r:bJ k A):A.units+64 < cLine:=by let:=r.un;omega
def aQ:TA:=λ_ H Q=>Q [] H
def al(t:TE)(T:TA):TA:=λa H Q=>t a H λx h=>T a h λX b=>Q (x::X) b
section
variable {X:Cx}{e:dr}{es:ri dr}{te:TE}{t:TA}{pos:Pos}
def jb:PA X [] aQ:=λ_ _ _ _ H Q I h=>Ot #[[],H,I,.nil,h]
def ja(b:PE X e te)(c:PA X es t)(d:↥(Δ (e::es) X.env=(ν,eval e X.env)::Δ es X.env)):PA X (e::es) (al te t):=by intro pos p s a H Q I h;rw[d];show π _ _ (spliced ((ν,eval e X.env)::eT pos (Δ es X.env))) _ _ s;erw[N5$ aU (b p s a H _ I h) λu S z=>?_];let⟨x,f,i,r,q⟩:=z;rwa[aU (c pos p S a f _ i q) λU m #[g,j,k,R,l]=>#[x::g,j,k,.cons r R,l]]
def bV(t:TA):TE:=λa H Q=>t a H λx h=>ο x<=υ/\∀p,h p=θ->Q (.ref p) (ah h p$ .tup x)
def nj(t:TA):TE:=λa H Q=>t a H λx h=>ο x<=υ/\∀p,h p=θ->Q (.ref p) (ah h p$ .lst x)
def jh{x}(h:PA X es t):PE X (.Tuple es x pos) (bV t):=by intro p s c H Q I d;erw[wpAny_Tuple_spliced$ aU (h pos p s c H _ I d) λU S #[f,a,i,r,z,q]=>#[by rw[<- r.length];rwa[z],?_]];let g:a (-S)=θ:=i.hok.fresh (Mj _);erw[#[.ref (-S),ah a (-S)$ .tup f,i.laid (t':=S.toks) (λb u e=>Mg _ e) (Mj _) ?_,Z,q _ g]];exact#[z,U,r,#[_,Mo _ Z,Z,_,Z]]
def jK(h:PA X es t):PE X (.List es pos) (nj t):=by intro p s c H Q I d;erw[wpAny_List_spliced$ aU (h pos p s c H _ I d) λU S #[x,a,i,r,z,q]=>#[by rw[<- r.length];rwa[z],?_]];let f:a (-S)=θ:=i.hok.fresh (Mj _);erw[#[.ref (-S),ah a (-S)$ .lst x,i.laid (t':=S.toks) (λb u e=>Mg _ e) (Mj _) ?_,Z,q _ f]];exact#[z,U,0,r,Mo _ Z]
end
abbrev Sp:=ri V->Hp->VK->XK->Prop
abbrev pI:=ri Env->Hp->ι->XK->η->ι->Prop
structure nM(P:ω)(w:bS)(K:Ψ)(mg:ρ->rm η)(base:db)(A:bx)(outer:ri Env)(s:ι)(H:Hp):Prop where
 frames:A.frames=δ outer
 mod:Mod K mg base
 bs:∀b o,base.get? b=δ o->s.heap.get? b=δ o/\H b=θ
 bsz:base.objs.size<=-s
 funs:s.heap.FunFrames base outer
 frf:∀b∈i5 outer,H b=θ
 hok:eQ P w H s.heap
 bare:AllBare s.gens
def CE(o:ri Env)(P:ω)(w:bS)(H:Hp)(s:ι)(Q:VK)(u:η)(S:ι):Prop:=
 ∃v h,S.os=s.os/\AllBare S.gens/\Un (i5 o) [] H h s.heap S.heap/\eQ P w h S.heap/\aE v u/\Q v h
def CR(C:pI)(o:ri Env)(P:ω)(w:bS)(H:Hp)(s:ι)(Q:VK)(E:XK)(r:Result)(S:ι):Prop:=
 match r with
 | .ok (.ret u)=>CE o P w H s Q u S
 | .ok _=>False
 | .error e=>C o H s E e S
structure af(P:ω)(w:bS)(K:Ψ)(mg:ρ->rm η)(base:db)(CX:pI)(k:Nat)(f:ζ)(fd:bU)(ps:ri ρ)(sp:Sp):Prop where
 len:∀vs H Q E,sp vs H Q E->ο vs=ο ps
 run:∀(A:bx) (outer:ri Env) (s:ι) (H:Hp) (args:Args) (us:ri η) (vs:ri V) (Q:VK) (E:XK),bJ k A->nM P w K mg base A outer s H->BindsTo s fd args (ps.zip us)->ay vs us->sp vs H Q E->
  ib (χ P w) A (.call (.ref f) args) (CR CX outer P w H s Q E) s
def nM.make{P:ω}{K:Ψ}(e:nM P w K m b A o s H)(C:ζ)(u:ri η)(k:ri (ρ×η)):
  nM P w K m b (A.under$ .builtin "type.__call__" #[.ref C::u,k]) o s H:=#[by first |exact e.frames | (simpa [Around.under,Code.envs,Code.isFrame,pushEnvs] using e.frames),e.mod,e.bs,e.bsz,e.funs,e.frf,e.hok,e.bare]
section
variable {X:Cx}{pins:ri (ζ×fx)}{σ:St}{H:Hp}{s s':ι}
def ap.env0(I:ap X pins σ H s):nM X.prog X.w X.K X.mg X.base X.A X.stack s H:=
 #[I.ok.frames,I.ok.mod,I.bs,Mw I.ok.bsz I.sz,I.stack,I.stkFree,I.hok,I.bare]
def ap.after(I:ap X pins σ H s)(h:CE X.stack X.prog X.w H s Q u s'):EP X pins σ Q u s':=by let⟨v,c,os,B,U,a,r,q⟩:=h;let⟨e,g,d,t,o⟩:=s';obtain rfl:o=s.os:=os;exact#[v,c,I.call (h':=e) (g':=g) (d':=d) (t':=t) (ch:=[]) U a B (λb z=>absurd z Lz),r,q]
end
def dS(s:Sp)(d:ri V)(E:XK)(t:TA):TE:=λa H Q=>t a H λv h=>s (v++d) h Q E
inductive we(C:ζ)(m:ρ)(f:Sp)(b:ri V)(E:XK)(t:TA)(g:St)(Q:VK)(x:V)(c:Hp):Prop
 |mk(a d e:_)(_:x= .ref a)(_:c a=δ (.ins C d e))(_:e.lookup m=θ)(_:t g c λvs H2=>f (x::(vs++b)) H2 Q E)
def wc(C:ζ)(m:ρ)(s:Sp)(d:ri V)(E:XK)(T:TE)(t:TA):TE:=λa H Q=>T a H (we C m s d E t a Q)
def Gw(C:ζ)(s:Sp)(D:ri V)(E:XK)(t:TA):TE:=λa H Q=>t a H λb h=>∀x d,h x=θ->h d=θ->d≠x->
 s (.ref x::(b++D)) (ah (ah h d$ .own x) x$ .ins C d []) (λv c=>v= .non/\Q (.ref x) c) E
def au(K:Ψ)(f:bU)(p:ri ρ)(d:ri η):Prop:=
 ∀(s:ι) (u:ri η),K.In s.heap->(u++d).length=ο p->BindsTo s f #[u,[]] (p.zip$ u++d)
def au.all{K:Ψ}{p:ri ρ}(h:∀u:ri η,ο u=ο p->bindArgs f #[u,[]]=pure (p.zip u)):au K f p []:=λs u _ H=>by rw[RY]at H ⊢;rwa[.of_eq$ h u H]
def dD(C:pI)(X:Cx)(E:XK):Prop:=∀(p:ri (ζ×fx)) (a:St) (H:Hp) (s:ι) (e:η) (S:ι),ap X p a H s->C X.stack H s E e S->X.xe e S
section
variable {X:Cx}{CX:pI}{k:Nat}{f C:ζ}{fd:bU}{ps:ri ρ}{sp:Sp}{dvs:ri V}{ds:ri η}{E:XK}{x m:ρ}{p pos apos:Pos}{e o:dr}{es:ri dr}{ta:TE}{t:TA}
def QS{us:ri η}{vs:ri V}(F:af X.prog X.w X.K X.mg X.base CX k f fd ps sp)(d:bJ k X.A)(g:au X.K fd ps ds)(i:ay dvs ds)(j:dD CX X E)
  (I:ap X a c H s) (r:ay vs us) (h:sp (vs++dvs) H Q E):π (χ X.prog X.w) X.A (call (.ref f) us) (EP X a c Q) X.xe s:=by
 let R:ay (vs++dvs) (us++ds):=r.append i;let l:(us++ds).length=ο ps:=by rw[<- R.length];rwa[F.len _ _ _ _ h]
 erw[SX$ OP (F.run X.A X.stack s H #[us,[]] (us++ds) (vs++dvs) Q E d I.env0 (g s us I.kIn l) R h) λr S b=>?_];cases r with
 |error e=>rwa[j a c H s e S I b]
 |ok n=>
  cases n with
  |ret u=>rwa[I.after b]
  |next |brk |cont=>rwa[False.elim b]
def ky(F:af X.prog X.w X.K X.mg X.base CX k f fd ps sp)(c:bJ k X.A)(d:Gl X x)(g:X.mg x=↑f)(j:fr X.K (.ref f)=μ)(l:au X.K fd ps ds)(n:ay dvs ds)(u:dD CX X E)
  (v:PA X (e::es) t) (a:↥((x==("__debug__":ρ))=ν)) (y:↥(Δ (e::es) X.env=(ν,eval e X.env)::Δ es X.env)) (b:↥((eT pos$ Δ es X.env).any (·.1)=ν)):
  PE X (.Call (.Name x p) (e::es) [] pos) (dS sp dvs E t):=by
 intro P s z H Q I h;erw[Nl$ zh I d g ?_ a];erw[RS (h₀:=X.base) I.ok.mod.kin j (aU (v pos P s z H _ I h) λU S #[B,D,i,r,q]=>#[i.kIn,?_]) y b];rwa[QS F c l n u i r q]
def j9(v:PE X o ta)(c:pJ X.K C)(g:a7 X.K C m f)(F:af X.prog X.w X.K X.mg X.base CX k f fd ps sp)(y:bJ k X.A)(B:au X.K fd ps ds)(D:ay dvs ds)(G:dD CX X E)(J:PA X (e::es) t)
  (b:↥(Δ (e::es) X.env=(ν,eval e X.env)::Δ es X.env)) (d:↥((eT pos$ Δ es X.env).any (·.1)=ν))
  (L:↥(eval (.Call (.Attribute o m apos) (e::es) [] pos) X.env=(do
   let O <- eval o X.env
   standAt apos.atName
   let (f,first) <- iu [O] (getMethod O m pl)
   callWith pos f first (eT pos$ Δ (e::es) X.env) (backToKw pos$ keywordEach [] X.env)))):
  PE X (.Call (.Attribute o m apos) (e::es) [] pos) (wc C m sp dvs E ta t):=by
 intro P s i H Q I h;erw[Pr (pl:=pl) (aU (v P s i H _ I h) λu S z=>?_) L];let⟨x,M,j,R,a,W,Y,N,T,l,q⟩:=z;subst N;obtain rfl:u=Θ a:=R;erw[KG j T c g l ?_];erw[RS (first:=[.ref a]) (h₀:=X.base) I.ok.mod.kin g.kp (aU (J pos P S i M _ j q) λus s2 #[vs,H2,n,r,U]=>#[n.kIn,?_]) b d];rwa[QS (us:=.ref a::us) (vs:=.ref a::vs) F y B D G n (.cons Z r) U]
def Xr(d:PE X o ta)(c:pJ X.K C)(b:a7 X.K C m f)(F:af X.prog X.w X.K X.mg X.base CX k f fd ps sp)(g:bJ k X.A)(j:au X.K fd ps ds)(n:ay dvs ds)(r:dD CX X E)
  (v:↥(eval (.Call (.Attribute o m apos) [] [] pos) X.env=(do
   let O <- eval o X.env
   standAt apos.atName
   let (f,first) <- iu [O] (getMethod O m pl)
   callWith pos f first (eT pos$ Δ [] X.env) (backToKw pos$ keywordEach [] X.env)))):
  PE X (.Call (.Attribute o m apos) [] [] pos) (wc C m sp dvs E ta aQ):=by
 intro P s y H Q I h;erw[Pr (pl:=pl) (aU (d P s y H _ I h) λu S z=>?_) v];let⟨x,G,i,R,a,J,L,B,D,l,q⟩:=z;subst B;obtain rfl:u=Θ a:=R;erw[KG i D c b l ?_];rwa[SO (first:=[.ref a]) i.kIn b.kp$ QS (us:=[.ref a]) (vs:=[.ref a]) F g j n r i (.cons Z .nil) q]
structure Mk(K:Ψ)(C f:ζ):Prop where
 makes:PySem.W.makesIn K C=μ
 init:findIn K (.ref C) "__init__"=δ (↑f)
 fn:isFn K (.ref f)=μ
 kp:fr K (.ref C)=μ
def uS(M:Mk X.K C f)(F:af X.prog X.w X.K X.mg X.base CX k f fd ps sp)(l:bJ (k+1) X.A)(n:au X.K fd ps ds)(q:ay dvs ds)
  (y:dD CX X E) (I:ap X b c H s) (r:ay g U)
  (h:∀x d,H x=θ->H d=θ->d≠x->sp (.ref x::(g++dvs)) (ah (ah H d$ .own x) x$ .ins C d []) (λv z=>v= .non/\Q (.ref x) z) E):
  π (χ X.prog X.w) X.A (call (.ref C) U) (EP X b c Q) X.xe s:=by
 let j:=h (-s+1) (-s) (I.hok.fresh$ NG _) (I.hok.fresh$ Mj _) (Mt$ NF _);let i:=ap.made (C:=C) I;let R:ay (rb (-s+1)::(g++dvs)) (Θ (-s+1)::(U++ds)):=.cons Z (r.append q);let B:(Θ (-s+1)::U++ds).length=ο ps:=by let e:=R.length;rw[F.len _ _ _ _ j]at e;rwa[e.symm]
 refine SX (tY (f:=f) I.kIn M.makes M.init (beq_iff_eq.mp M.fn) (OP (F.run _ X.stack _ _ #[Θ (-s+1)::U,[]] (Θ (-s+1)::(U++ds)) _ _ E (l.make C U [])
  (i.env0.make C U []) (n _ (Θ (-s+1)::U) i.kIn B) R j) λr S a=>?_))
 cases r with
 |error e=>rwa[y b c _ _ e S i a]
 |ok D=>
  cases D with
  |ret u=>let⟨v,G,J,L,N,O⟩:=i.after a;subst N;exact#[L,#[rb$ -s+1,G,J,Z,O]]
  |next |brk |cont=>rwa[False.elim a]
def Q1(M:Mk X.K C f)(F:af X.prog X.w X.K X.mg X.base CX k f fd ps sp)(c:bJ (k+1) X.A)(d:Gl X x)(g:X.mg x=↑C)(j:au X.K fd ps ds)(l:ay dvs ds)(n:dD CX X E)
  (u:PA X (e::es) t) (a:↥((x==("__debug__":ρ))=ν)) (v:↥(Δ (e::es) X.env=(ν,eval e X.env)::Δ es X.env)) (b:↥((eT pos$ Δ es X.env).any (·.1)=ν)):
  PE X (.Call (.Name x p) (e::es) [] pos) (Gw C sp dvs E t):=by
 intro P s y H Q I h;erw[Nl$ zh I d g ?_ a];erw[RS (h₀:=X.base) I.ok.mod.kin M.kp (aU (u pos P s y H _ I h) λU S #[z,B,i,r,q]=>#[i.kIn,?_]) v b];rwa[uS M F c j l n i r q]
end
structure ak(N P:ri ρ)(sc:hJ):Prop where
 kind:sc.kind= .function
 co:sc.isCoroutine=ν
 gen:sc.isGenerator=ν
 nd:N.Nodup
 pre:N.take (ο P)=P
 par:∀x∈P,sc.names.lookup x=δ .local∨sc.names.lookup x=δ .cell
 nofree:∀y∈sc.names,y.2≠ .free
theorem Qx{kindOf:ρ->rm NameKind}:∀{b:ri (ρ×η)} {m:ρ->rm η},(∀v,(x,v)∉b)->bindL kindOf b m x=m x
 | [],_,_=>rfl
 | (n,v)::r,m,h=>by
  unfold bindL;rw[Qx λw H=>h w (ML _ H)];split
  .let:x≠n:=by rintro rfl;exact h v Mz
   simp [this]
  .rfl
theorem Qy{kindOf:ρ->rm NameKind}:∀{b:ri (ρ×η)} {m:ρ->rm η},(∀v,(x,v)∉b)->bindC kindOf b m x=m x
 | [],_,_=>rfl
 | (n,v)::r,m,h=>by
  unfold bindC;rw[Qy λw H=>h w (ML _ H)];split
  .rfl
  .let:x≠n:=by rintro rfl;exact h v Mz
   simp [this]
theorem Qz{kindOf:ρ->rm NameKind}:∀{P:ri ρ} {V:ri η} {i:Nat} {m:ρ->rm η},P.Nodup->P[i]?=δ x->V[i]?=δ v->kindOf x=δ .local->
  bindL kindOf (P.zip V) m x=δ v
 | [],_,_,_,_,h,_,_ |_::_,[],_,_,_,_,h,_=>by simp at h
 |p::P,w::V,0,m,n,H,a,b=>by simp at H a;subst H;subst a;show bindL kindOf ((p,w)::P.zip V) m p=_;unfold bindL;rw[Qx λv c=>(ly.mp n).1 (P6 c).1,Mv b];simp
 |p::P,w::V,i+1,m,n,H,a,b=>by show bindL kindOf ((p,w)::P.zip V) m x=_;unfold bindL;rwa[Qz (i:=i) (ly.mp n).2 (H:) (a:) b]
theorem QA{kindOf:ρ->rm NameKind}:∀{P:ri ρ} {V:ri η} {i:Nat} {m:ρ->rm η},P.Nodup->P[i]?=δ x->V[i]?=δ v->kindOf x≠δ .local->
  bindC kindOf (P.zip V) m x=δ v
 | [],_,_,_,_,h,_,_ |_::_,[],_,_,_,_,h,_=>by simp at h
 |p::P,w::V,0,m,n,H,a,b=>by simp at H a;subst H;subst a;show bindC kindOf ((p,w)::P.zip V) m p=_;unfold bindC;rw[Qy λv c=>(ly.mp n).1 (P6 c).1,Mx b];simp
 |p::P,w::V,i+1,m,n,H,a,b=>by show bindC kindOf ((p,w)::P.zip V) m x=_;unfold bindC;rwa[QA (i:=i) (ly.mp n).2 (H:) (a:) b]
def eF(N:ri ρ)(v:ri V):St:=v.map δ++ic (ο N - ο v) θ
def eX(C:pI)(P:ω)(w:bS)(K:Ψ)(mg:ρ->rm η)(base:db)(N:ri ρ)(q:ρ)(S:hJ)(f:ζ)(c:η)(A:bx)(outer:ri Env)(s:ι)(H:Hp)(E:XK):Cx where
 prog:=P
 w:=w
 K:=K
 mg:=mg
 base:=base
 A:=A.deeper (envOfC q S (-s) f c)
 N:=N
 s₀:=s
 H₀:=H
 env:=envOfC q S (-s) f c
 outer:=outer
 stack:=envOfC q S (-s) f c::outer
 ex:=[]
 calm:=μ
 fn:=λ_=>μ
 pn:=[]
 xe:=λe b=>π (χ P w) (A.deeper$ envOfC q S (-s) f c) (leaving (envOfC q S (-s) f c) e) (λ_ a=>C outer H s E e a) (λd a=>C outer H s E d a) b
def Xt{s:hJ}{n:Nat}(h:s.names.lookup x=δ .cell):∃c,(cellsFrom n s.names []).lookup x=δ c:=by let q:=Sq s.names n [] (.inl h);rwa[pw.mp q]
def Z5{P:ω}{K:Ψ}{A:bx}{l:ri V}
  (S:ak N t d) (O:A.handled=θ) (j:nM P w K M B A o s H) (hl:ο l=ο t) (r:ay l U)
  (x:InCallC s (-s) (bindL (envOfC Q d (-s) f I).kindOf (t.zip U) λ_=>θ) (cellsFrom (-s+1) d.names []) (bindC (envOfC Q d (-s) f I).kindOf (t.zip U) λ_=>θ) T):
  ap (eX Y P w K M B N Q d f I A o s H E) [] (eF N l) H T:=by
 let R:ο t<=ο N:=by let:=MZ List.length S.pre;rw[MT]at this;omega
 let⟨F,tk,rfl,J⟩:=x.done;let m:∀b:ζ,b∉(eX Y P w K M B N Q d f I A o s H E).ex:=λb z=>absurd (show b∈([]:ri ζ) from z) Lz;refine#[#[j.mod,S.kind,Z,Z,Mj _,λy z c F g=>?_,λy hy=>?_,λy c _ h=>?_,λ_=>O,Around.frames_deeper j.frames,.inr #[Z,Z],λb z=>absurd z (m b),j.bs,j.bsz,λb _ _=>m b,λb z=>absurd z (m b),j.funs,j.frf],
  rfl,j.bare,Un.kept J,#[_,x.toInCall.ns,λi y v F g h3=>?_],λy c h=>#[_,x.cell y c h],j.hok.fresh$ Mj _,λy c h=>?_,λp C=>absurd (show p∈([]:ri (ζ×fx)) from C) Lz,j.hok.kept J,?_]
 .rwa[name_of_addr x.apart (NJ F)$ NJ g]
 .let hy:d.names.lookup y=δ .cell∨d.names.lookup y=δ .free:=hy;rcases hy with hy |hy
  .rwa[Xt hy]
  .rwa[absurd Z$ S.nofree _$ NJ hy]
 .rwa[Ol$ x.above y c$ NJ h]
 .let G:i < ο l:=by
   unfold eF at g;by_cases G:i < ο l
   .rwa[G]
   .rw[N6 (G:)]at g;rw[SM]at g;split at g<;>cases g
  let W:l[i]?=δ v:=by
   unfold eF at g;rw[N9 (G:),MH]at g;cases e:l[i]? with
   |none=>rw[e]at g;cases g
   |some a=>rw[e]at g;cases g;rfl
  let⟨u,L,X⟩:=r.get W;let C:t[i]?=δ y:=by rw[<- S.pre,List.getElem?_take_of_lt LA];rwa[F]
  let D:t.Nodup:=by rw[<- S.pre];rwa[S.nd.sublist$ Oc _ _]
  erw[#[u,X,?_]];rcases S.par y (MM C) with k |k
  .rwa[.inl #[k,Qz D C L k]]
  .let⟨c,e⟩:=Xt (n:=-s+1) k;erw[.inr #[.inl k,c,e,?_]];let q:=x.cell y c e;rw[QA D C L (by show d.names.lookup y≠_;rw[k];decide)]at q;rwa[q]
 .rwa[j.hok.fresh$ Ol$ x.above y c$ NJ h]
 .unfold eF;show _=ο N;rw[Ml,Mi,Rb];omega
def AR{P:ω}{K:Ψ}{kV:η}
    {G:Sp} (lk:K.lookup f=δ #[oc,od,.func$ pz name c p h a dV kV L pm an C ct,o1]) (M:codeIn K C c=μ) (S:ak N T a)
  (len:∀d H Q E,G d H Q E->ο d=ο T)
  (j:∀(A:bx) (O:ri Env) (s:ι) (H:Hp) (d:ri V) (Q:VK) (E:XK),bJ k (A.deeper$ envOfC c a (-s) f C)->G d H Q E->
   ∃t,mn (eX U P w K Y B N c a f C A O s H E) h t/\t { nx:=λ_ i=>Q .non i,rt:=Q } (eF N d) H):
  af P w K Y B U (k+1) f (pz name c p h a dV kV L pm an C ct) T G:=by
 erw[#[len,λA O s H a0 us d Q E R z hb r D=>?_]];let hl:=len _ _ _ _ D;let KX:K.In s.heap:=z.mod.kin.keeps λb o e=>(z.bs b o e).1;let X:s.heap.NoLimit:=z.mod.nolimit.keeps λb o e=>(z.bs b o e).1;let l:∀y∈T.zip us,a.names.lookup y.1=δ .local∨(a.names.lookup y.1=δ .cell/\((cellsFrom (-s+1) a.names []).lookup y.1).isSome=μ):=λ#[n,v] hy=>by
  rcases S.par n (P6 hy).1 with q |q
  .rwa[.inl q]
  .rwa[.inr #[q,Sq _ _ _$ .inl q]]
 erw[codeAny_call_function R.depth (KX _ _ lk) Z S.co S.gen Z (PySem.W.codeRec_of KX M)$ hb _ _ _ _ ?_];erw[wpAny_newFunctionEnv_cells S.kind l λe1 he s1 x=>?_];subst he;erw[#[X.keeps x.toInCall.keep,codeAny_func ?_]];let⟨t,ht,hq⟩:=j A O s H d Q E (R.deeper _) D;let I:ap (eX U P w K Y B N c a f C A O s H E) [] (eF N d) H s1:=Z5 S R.hd z hl r x;erw[Nk (ht [] s1 (eF N d) H _ I hq) (λfl s' m=>?_) λe s' m=>m];let F:∀{g:St} {i:Hp} {v:V} {u:η},ap (eX U P w K Y B N c a f C A O s H E) [] g i s'->aE v u->Q v i->CE O P w H s Q u s':=
  λ{g i v u} J rv q=>#[v,i,J.os,J.bare,J.base,J.hok,rv,q]
 cases fl with
 |ret u=>let⟨v,g,i,J,rv,q⟩:=m;rwa[F J rv q]
 |next=>let⟨g,i,J,q⟩:=m;rwa[F (v:=V.non) (u:=ab) J Z q]
 |brk |cont=>let⟨_,_,_,q⟩:=m;rwa[False.elim q]
section
variable {X:Cx}{x:ρ}{p pos:Pos}{e:dr}{es:ri dr}{t:TA}{id T:String}{r:ri V->Hp->VK->Prop}
def Hy(r:ri V->Hp->VK->Prop)(t:TA):TE:=λa H Q=>t a H λv h=>r v h Q
def jG(d:dA X (.builtin id) r)(f:Gl X x)(g:X.mg x=θ)(i:bootBuiltins x=δ (.builtin id))(j:PA X (e::es) t)(k:↥(x≠"__name__"))(a:↥((x==("__debug__":ρ))=ν))
  (l:↥(Δ (e::es) X.env=(ν,eval e X.env)::Δ es X.env)) (b:↥((eT pos$ Δ es X.env).any (·.1)=ν)):PE X (.Call (.Name x p) (e::es) [] pos) (Hy r t):=by
 intro P s c H Q I h;erw[Nl$ zq I f g i ?_ k a];rwa[Ve (aU (j pos P s c H _ I h) λu S #[v,m,n,R,q]=>d P S c m v u Q n R q) l b]
def jF(d:dA X (.type T) r)(f:Gl X x)(g:X.mg x=θ)(i:bootBuiltins x=δ (.type T))(j:PA X (e::es) t)(k:↥(x≠"__name__"))(a:↥((x==("__debug__":ρ))=ν))
  (l:↥(Δ (e::es) X.env=(ν,eval e X.env)::Δ es X.env)) (b:↥((eT pos$ Δ es X.env).any (·.1)=ν)):PE X (.Call (.Name x p) (e::es) [] pos) (Hy r t):=by
 intro P s c H Q I h;erw[Nl$ zq I f g i ?_ k a];rwa[M6 (aU (j pos P s c H _ I h) λu S #[v,m,n,R,q]=>d P S c m v u Q n R q) l b]
end
end _L
namespace HT
open PySem PyProof.Rows
def eqAt_int(A:bx)(s:ι)(a:Int)(t:Tok)(c:Int)(u:Tok):∃e,SeqAt.EqAt A s (.int a t) (.int c u) e/\(e=μ↔a=c):=
 #[(a==c),SD a t c u,Lz]
section
variable {prog:ω}{w:bS}{A:bx}{E:η->ι->Prop}{s:ι}
def cat_tup{v W:ri η}{Q:η->ι->Prop}(m:IsTup s.heap t v.toArray)(o:IsTup s.heap b W.toArray)(i:v≠[])
  (p:W=[]->Q (.ref t) s) (q:W≠[]->Q (.ref (-s)) ‹s.heap.push { cls:=.type "tuple",data:=.seq (v++W).toArray }›)
  (g:ο v+ο W<=υ):π (χ prog w) A (binaryOp .Add (.ref t)$ .ref b) Q E s:=by
 obtain⟨⟨cls,D,data,j⟩,c,k,n,l⟩:=id m;obtain⟨⟨C,d,data2,S⟩,h,H,N,a⟩:=id o;simp only at k l H a;subst k l H a;let e:v.toArray++W.toArray=(v++W).toArray:=by simp
 by_cases f:W=[]
 .exact TK #[_,c,Z] #[_,h,Z] So Tn Po Pe (O9 _ _)
   (tuple_addW1 t b v.toArray W.toArray n N D d j S (i:) (by simp [f])) #[c,h,p f]
 .refine TK #[_,c,Z] #[_,h,Z] So Tn Po Pe (O9 _ _)
   (tuple_addW2 t b v.toArray W.toArray n N D d j S (i:) (f:) (by rw[Mm,Mm];rwa[g])) #[c,h,?_]
  rw[e];rwa[q f]
def sIx(n d:Nat):rm Int->Nat
 |none=>d
 |some v=>if v < 0 then (v+(n:Int)).toNat else min v.toNat n
def sIx_none(n d:Nat):sIx n d θ=d:=rfl
def sIx_nat(n d k:Nat):sIx n d (δ (k:Int))=min k n:=by show(if (k:Int) < 0 then ((k:Int)+(n:Int)).toNat else min (k:Int).toNat n)=min k n;rw[Mx LA,Ng]
def DG(n d:Nat)(H:d<=n)(o:rm Int):sIx n d o<=n:=by
 cases o with
 |none=>rwa[H]
 |some v=>
  show(if v < 0 then (v+(n:Int)).toNat else min v.toNat n)<=n;by_cases h:v < 0
  .rw[Mv h];omega
  .rw[Mx h];rwa[Nat.min_le_right _ _]
def Zi(v:Int)(n d:Nat):(if v < 0 then max (v+(n:Int)) 0 else min v (n:Int))=((sIx n d (δ v):Nat):Int):=by
 show(if v < 0 then max (v+(n:Int)) 0 else min v (n:Int))=(((if v < 0 then (v+(n:Int)).toNat else min v.toNat n):Nat):Int);by_cases h:v < 0
 .simp only[Mv h];omega
 .simp only[Mx h];omega
def Yw(lo h:rm Int)(n:Nat):iv lo h 1 (n:Int)=(((sIx n 0 lo:Nat):Int),((sIx n n h:Nat):Int)):=by
 let H:¬((1:Int) < 0):=LA
 unfold iv;simp only[H,Ny];erw[Prod.ext ?_ ?_]
 .cases lo with
  |none=>rfl
  |some v=>rwa[Zi v n 0]
 .cases h with
  |none=>rfl
  |some v=>rwa[Zi v n n]
def Yx(i j:Nat):fR (i:Int) (j:Int) 1=j - i:=by
 unfold fR;let h:(1:Int) > 0:=LA
 simp only[h,O6,Int.ediv_one];split<;>omega
def KI{Q:rm Int->ι->Prop}(p:IsPart v o)(h:Q o s):π (χ prog w) A (Builtin.Slice.slicePartIndex v) Q E s:=by
 cases p with
 |none=>rwa[Vj h]
 |int i t=>rwa[slicePart_int h]
def sliceApplied_gen{lo:rm Int}{Q:Int×Int×Nat->ι->Prop}(d:s.heap.IsSliceOf e v c .none)(p:IsPart v lo)(P:IsPart c b)
  (h:Q (((sIx n 0 lo:Nat):Int),1,sIx n n b - sIx n 0 lo) s):π (χ prog w) A (mU (.ref e)$ pure (n:Int)) Q E s:=by
 let⟨os,H,f,a⟩:=id d;unfold mU Builtin.Slice.sliceFields;erw[Me$ Me$ MO H a (x:=v) Z$ Me$ MO H a (x:=c) Z$ Me$ MO H a (x:=.none) Z$ Mh ?_];erw[Me$ Vj ?_];show π _ _ (if ((1:Int)==0)=μ then _ else _) _ _ s;rw[Mx LB];erw[Me$ KI p$ Me$ KI P$ Me$ Mh ?_];show π _ _ (match iv lo b 1 (n:Int) with | (lo,b)=>pure (lo,(1:Int),fR lo b 1)) _ _ s;rw[Yw lo b n];show π _ _ (pure (((sIx n 0 lo:Nat):Int),(1:Int),fR ((sIx n 0 lo:Nat):Int) ((sIx n n b:Nat):Int) 1)) _ _ s;rw[Yx];rwa[Mh h]
def uL(X:Array η)(i k:Nat):((eC k).filterMap λ(m:Nat)=>X[((i:Int)+(m:Int)*1).toNat]?).toArray=((X.toList.drop i).take k).toArray:=by
 let e:(λ(m:Nat)=>X[((i:Int)+(m:Int)*1).toNat]?)=λm=>X[i+m]?:=by
  funext m;let:((i:Int)+(m:Int)*1).toNat=i+m:=LA
  rw[this]
 rw[e];let:=pick_run X i k;rw[List.filterMap_map]at this;let a:((λx=>X[x]?) ∘ λx=>i+x)=λm=>X[i+m]?:=rfl;rw[a]at this;rw[this]
def getItem_tuple_cut{lo:rm Int}{Q:η->ι->Prop}(ht:IsTup s.heap t items)(hs:s.heap.IsSliceOf sl vl vu .none)(pl:IsPart vl lo)(pu:IsPart vu hi)
  (hw:¬(sIx items.size 0 lo=0/\sIx items.size items.size hi=items.size))
  (h:Q (.ref (-s)) ‹s.heap.push { cls:=.type "tuple",data:=.seq ((items.toList.drop$ sIx items.size 0 lo).take$ sIx items.size items.size hi - sIx items.size 0 lo).toArray }›)
  (hsz:items.size<=υ):π (χ prog w) A (getItem (.ref t)$ .ref sl) Q E s:=by
 let htake:sizeOk (.seq ((items.toList.drop$ sIx items.size 0 lo).take$ sIx items.size items.size hi - sIx items.size 0 lo).toArray):=by show((items.toList.drop$ sIx items.size 0 lo).take$ sIx items.size items.size hi - sIx items.size 0 lo).toArray.size<=υ;rw[Mm,MT,N4,ME];rwa[N09]
 let hj:sIx items.size items.size hi<=items.size:=DG _ _ (Mj _) hi;let⟨os,hos,hcs,hds⟩:=id hs;let hTs:s.TypeIs (.ref sl) "slice":=#[os,hos,hcs];unfold getItem;try with_reducible erw[MJ ?_]
 first |refine Me (Mh ?_) |skip
 erw[Me$ R0 ht.typeIs LB ?_];refine Me (M1 (name:=Str.ofString "__getitem__") ht.typeIs N8
  (MY N8 ht.typeIs entry_tuple_getitem ?_$ args_tuple_getitem _ _))
 show π _ _ (ny (.ref t) >>= _) _ _ s;erw[Me$ tupleItemsOf_ ht ?_];erw[Me$ N7 hTs ?_];rw[Mv LB];erw[Me$ sliceApplied_gen hs pl pu ?_];let hno:¬((((sIx items.size 0 lo:Nat):Int)==0&&(1:Int)==1&&(sIx items.size items.size hi - sIx items.size 0 lo)==items.size)=μ):=by intro q;rw[Nz,Nz]at q;let q1:((sIx items.size 0 lo:Nat):Int)=0:=eq_of_beq q.1.1;let q2:sIx items.size items.size hi - sIx items.size 0 lo=items.size:=eq_of_beq q.2;rwa[hw #[LA,N09]]
 show π _ _ (if (((sIx items.size 0 lo:Nat):Int)==0&&(1:Int)==1&&(sIx items.size items.size hi - sIx items.size 0 lo)==items.size)=μ then _ else _) _ _ s;rw[Mx hno,uL];first
  |exact Me (m:=ea _) (M4 (Mh #[_,Z,Mh h]) htake)
  |exact Me (m:=ea _) (M4 (Me (Mh (Mh #[_,Z,Mh h]))) htake)
  |exact Me (Me (m:=ea _) (M4 (Mh (Mh #[_,Z,Mh h])) htake))
  |exact Me (Me (m:=ea _) (M4 (Mh #[_,Z,Mh h]) htake))
end
end HT
namespace _L
open PySem PySem.Spec PyProof.Rows
abbrev TO:=St->Hp->(rm Int->Hp->Prop)->Prop
def PO(X:Cx)(e:rm dr)(t:TO):Prop:=
 ∀(p:ri (ζ×fx)) (s:ι) (a:St) (H:Hp) (Q:rm Int->Hp->Prop),ap X p a H s->t a H Q->
  π (χ X.prog X.w) X.A (evalPart e X.env) (λu S=>∃o h,ap X p a h S/\IsPart u o/\Q o h) X.xe s
def mh:TO:=λ_ H Q=>Q θ H
inductive wg(Q:rm Int->Hp->Prop)(x:V)(a:Hp):Prop
 |mk(i:_)(_:x= .int i)(_:Q (δ i) a)
def nk(t:TE):TO:=λa H Q=>t a H (wg Q)
section
variable {X:Cx}{e:dr}{te:TE}{lo hi:rm dr}{tl th:TO}{pos p2:Pos}
def jV:PO X θ mh:=by intro p s a H Q I h;rw[evalPart_none];rwa[Mh #[θ,H,I,.none,h]]
def jH(h:PE X e te):PO X (δ e) (nk te):=by intro p s a H Q I b;rw[evalPart_some];erw[aU (h p s a H _ I b) λu S z=>?_];let⟨x,c,d,r,f⟩:=z;let⟨i,rfl,q⟩:=f;let⟨t,rfl⟩:=r;exact#[δ i,c,d,.int i t,q]
def Hi(X:Cx)(r:V->rm Int->rm Int->Hp->VK->Prop):Prop:=
 ∀(p:ri (ζ×fx)) (s:ι) (a:St) (H:Hp) (x:V) (v b c:η) (lo hi:rm Int) (S:ζ) (Q:VK),ap X p a H s->aE x v->s.heap.IsSliceOf S b c .none->IsPart b lo->IsPart c hi->r x lo hi H Q->
  ∃T id,typeLookup (.type T) "__getitem__"=pure (δ$ .builtin id)/\s.TypeIs v T/\π (χ X.prog X.w) X.A (getItem v$ .ref S) (EP X p a Q) X.xe s
def Hz(r:V->rm Int->rm Int->Hp->VK->Prop)(te:TE)(tl th:TO):TE:=λa H Q=>te a H λx h=>tl a h λl b=>th a b λu c=>r x l u c Q
def jJ{r:V->rm Int->rm Int->Hp->VK->Prop}(g:Hi X r)(i:PE X e te)(j:PO X lo tl)(k:PO X hi th):PE X (.Subscript e (.Slice lo hi θ p2) pos) (Hz r te tl th):=by intro p s a H Q I h;erw[Uw$ aU (i p s a H _ I h) λv m z=>?_];let⟨x,n,o,R,t⟩:=z;erw[wpAny_Slice$ aU (j p m a n _ o t) λc y #[l,B,C,P,D]=>aU (k p y a B _ C D) λd S z=>?_];let⟨u,f,E,F,G⟩:=z;rw[evalPart_none];erw[Mh ?_];let J:ap X p a f { S with heap:=S.heap.push { cls:=.type "slice",data:=.fields (ε [c,d,.none]) } }:=E.kept (t':=S.toks) λb O q=>Mg _ q;let⟨T,id,K,L,M⟩:=g p { S with heap:=S.heap.push { cls:=.type "slice",data:=.fields (ε [c,d,.none]) } } a f x v c d l u (-S) Q J R (RZ ..) P F G;show π (χ X.prog X.w) X.A (subscriptTail e (.Slice lo hi θ p2) v$ .ref (-S)) (EP X p a Q) X.xe { S with heap:=S.heap.push { cls:=.type "slice",data:=.fields (ε [c,d,.none]) } };rwa[tail_any (ops:=[.ref (-S),v]) L K M (by with_unfolding_all rfl)]
def aP(x:ri V)(lo hi:rm Int):ri V:=(x.drop$ HT.sIx x.length 0 lo).take (HT.sIx x.length x.length hi - HT.sIx x.length 0 lo)
def ze(x:ri V)(lo hi:rm Int):(aP x lo hi).length<=ο x:=by unfold aP;rw[MT,N4];omega
inductive FT(K:Ψ)(x:V)(c b:rm Int)(H:Hp)(Q:VK):Prop
 |mk(a d:_)(_:x= .ref a)(_:aD K H a d)(_:¬(HT.sIx d.length 0 c=0/\HT.sIx d.length d.length b=ο d))(_:∀p,H p=θ->Q (.ref p) (ah H p (.tup (aP d c b))))
def DU:Hi X (FT X.K):=by
 intro p s n H x v V t lo hi S Q I R j P k h;let⟨a,d,rfl,l,m,q⟩:=h;cases R;let⟨i,r,f,g⟩:=I.tuple l;let c:i.toArray.size=ο d:=by rw[Mm];rwa[r.length.symm]
 erw[#["tuple",_,PyProof.Rows.slot_tuple_getitem.lookup,f.typeIs,?_]];erw[HT.getItem_tuple_cut f j P k (by rw[c];rwa[m]) ?_ (by rw[c];rwa[g])];rw[c];erw[#[.ref (-s),_,I.laid (t':=s.toks) (o:=.tup (aP d lo hi)) (λb O q=>Mg _ q) (Mj _) ?_,Z,q _$ I.hok.fresh$ Mj _]];exact#[Mw (ze d lo hi) g,_,(r.drop$ HT.sIx d.length 0 lo).take$ HT.sIx d.length d.length hi - HT.sIx d.length 0 lo,TW _ _]
inductive A6(K:Ψ)(x y:V)(H:Hp)(Q:VK):Prop
 |mk(a b c d:_)(_:x= .ref a)(_:y= .ref b)(_:aD K H a c)(_:aD K H b d)(_:c≠[])(_:ο c+ο d<=υ)(_:d=[]->Q (.ref a) H)(_:d≠[]->∀p,H p=θ->Q (.ref p) (ah H p (.tup (c++d))))
def ay.nil_iff(r:ay x u):u=[]↔x=[]:=by
 cases r with
 |nil |cons _ _=>simp
def yu:eW X (binaryOp .Add) (A6 X.K):=by intro p s A H x y v u Q I d f h;let⟨a,b,g,Y,rfl,rfl,j,k,l,c,m,n⟩:=h;cases d;cases f;let⟨t,R,P,_⟩:=I.tuple j;let⟨i,r,p2,_⟩:=I.tuple k;erw[HT.cat_tup P p2 (λz=>l (R.nil_iff.mp z)) (λz=>#[.ref a,H,I,Z,m$ r.nil_iff.mp z]) (λz=>?_) (by rw[<- R.length,<- r.length];rwa[c])];erw[#[.ref (-s),_,I.laid (t':=s.toks) (o:=.tup (g++Y)) (λb O q=>Mg _ q) (Mj _) ?_,Z,n (λw=>z (r.nil_iff.mpr w)) _$ I.hok.fresh$ Mj _]];exact#[by rw[Ml];rwa[c],_,R.append r,TW _ _]
end
def nW(n:Nat)(i:Int):rm Nat:=if 0<=i then (if i < n then δ i.toNat else θ) else if -(n:Int)<=i then δ (i+n).toNat else θ
def dN{a:Type}(x:ri a)(i:Int):rm a:=(nW x.length i).bind λj=>x[j]?
def Zj(h:nW n i=δ j):seqIndex? i n=δ j/\j < n/\ -(n:Int)<=i/\i < n:=by
 unfold nW at h;by_cases a:0<=i
 .rw[Mv a]at h;by_cases H:i < n
  .rw[Mv H]at h;let e:i.toNat=j:=M5 h;exact#[by rw[Ud a H,e],LA,LA,H]
  .rw[Mx H]at h;cases h
 .rw[Mx a]at h;by_cases H: -(n:Int)<=i
  .rw[Mv H]at h;let e:(i+n).toNat=j:=M5 h;exact#[by rw[TF LA H,e],LA,H,LA]
  .rw[Mx H]at h;cases h
def Q2{a:Type}{x:ri a}{v:a}(h:dN x i=δ v):∃j,seqIndex? i (ο x)=δ j/\x[j]?=δ v/\j < ο x/\ -(x.length:Int)<=i/\i < ο x:=by
 unfold dN at h;cases e:nW x.length i with
 |none=>rw[e]at h;cases h
 |some j=>rw[e]at h;let⟨H,b,c,d⟩:=Zj e;exact#[j,H,h,b,c,d]
def jE{a:Type}{x:ri a}{j:Nat}{v:a}(h:x[j]?=δ v):dN x (j:Int)=δ v:=by
 let H:j < ο x:=(ξ.mp h).1;let e:nW x.length (j:Int)=δ j:=by unfold nW;rw[Mv LA,Mv LA];simp
 unfold dN;rw[e];rwa[h]
def xg(b:dr):Prop:=∀o i,subscripted b ν o i=operate [o,i] (getItem o i)
def Hg(X:Cx)(r:R2):Prop:=
 ∀(a S:dr) (p:ri (ζ×fx)) (s:ι) (b:St) (H:Hp) (x y:V) (v u:η) (Q:VK),ap X p b H s->aE x v->aE y u->r x y H Q->
  subscripted S ν v u=operate [v,u] (getItem v u)->π (χ X.prog X.w) X.A (subscriptTail a S v u) (EP X p b Q) X.xe s
def HK(X:Cx)(id:String)(r:V->ri V->Hp->VK->Prop):Prop:=
 ∀(p:ri (ζ×fx)) (s:ι) (a:St) (H:Hp) (x:V) (b:ri V) (v:η) (u:ri η) (Q:VK),ap X p a H s->aE x v->ay b u->r x b H Q->
  π (χ X.prog X.w) X.A (call (.builtin id) (v::u)) (EP X p a Q) X.xe s
section
variable {X:Cx}{a b:dr}{ta tb:TE}{pos:Pos}
def jr{r:R2}(c:Hg X r)(d:PE X a ta)(e:PE X b tb)(f:xg b):PE X (.Subscript a b pos) (dU r ta tb):=by intro p s g H Q I h;rwa[Uw$ BM d e I h λv u S x y i j R k q=>c a b p S g i x y v u Q j R k q (f _ _)]
inductive iW(K:Ψ)(x y:V)(H:Hp)(Q:VK):Prop
 |mk(p a i v:_)(_:x= .ref p)(_:y= .int i)(_:aI K H p a)(_:dN a i=δ v)(_:Q v H)
inductive fX(K:Ψ)(x y:V)(H:Hp)(Q:VK):Prop
 |mk(p a i v:_)(_:x= .ref p)(_:y= .int i)(_:aD K H p a)(_:dN a i=δ v)(_:Q v H)
inductive yG(x y:V)(H:Hp)(Q:VK):Prop
 |mk(z i c:_)(_:x= .str z)(_:y= .int i)(_:z.length<=υ)(_:dN z.cps.toList i=δ c)(_:Q (.str #[(ε [c])]) H)
def jq:Hg X (iW X.K):=by
 intro V S P s k H x y v u Q I n o h l;let⟨p,L,i,z,rfl,rfl,A,B,q⟩:=h;cases n;let⟨t,rfl⟩:=o;let⟨d,r,e,M⟩:=I.list A;let⟨j,c,C,N,D,F⟩:=Q2 B;let⟨w,E,R⟩:=r.get C;let G:=r.length;let O:=eh;let f:EP X P k Q w s:=#[z,H,I,R,q];by_cases m:0<=i
 .let g:i.toNat=j:=by rw[Ud m F]at c;exact M5 c
  rwa[item_listR e.isList m LA (by rw[g];simpa using E) f l]
 .let g:(i+(d.toArray.size:Int)).toNat=j:=by rw[TF LA D]at c;rw[Mm,<- G];exact M5 c
  exact TC (x:=w) e.isList.typeIs slot_list_getitem.lookup
   (wpAny_getItem_list_neg (Q:=λr J=>r=w/\EP X P k Q r J) e.isList LA (by rw[Mm]<;>omega) LA (by rw[g];simpa using E) #[Z,f]) l
def jP:Hg X (fX X.K):=by
 intro V S P s c H x y v u Q I e g h k;let⟨p,D,i,z,rfl,rfl,l,m,q⟩:=h;cases e;let⟨t,rfl⟩:=g;let⟨n,r,d,F⟩:=I.tuple l;let⟨j,o,A,G,J,L⟩:=Q2 m;let⟨w,E,R⟩:=r.get A;let B:=r.length;let M:=eh;let f:EP X P c Q w s:=#[z,H,I,R,q];exact TC (x:=w) d.typeIs slot_tuple_getitem.lookup
  (getItem_tuple (j:=j) (Q:=λr C=>r=w/\EP X P c Q r C) d LA LA (by rw[Mm,<- B];rwa[o]) (E:) #[Z,f]) k
def Kj:Hg X yG:=by
 intro V S p s o H x y v u Q I r R h e;let⟨z,i,c,rfl,rfl,w,f,q⟩:=h;let⟨t,rfl⟩:=r;let⟨T,rfl⟩:=R;let⟨j,d,g,A,k,l⟩:=Q2 f;let m:ο z.cps.toList=z.length:=by simp [Str.length]
 rw[m]at d k l;let B:=eh;exact tail_any (typeIs_str s z t) slot_str_getitem.lookup (getItem_str (c:=c) (by
  let E:decide (i < -(2 ^ 63:Int))=ν:=My LA;let n:decide (i≥2 ^ 63)=ν:=My LA;rw[E,n,SH]) (by rw[d];simpa using g) #[.str #[(ε [c])],H,I.tok _,#[_,Z],q]) e
def Yy(i:ri η)(n j:Nat)(u:η):bm (·.setIfInBounds j u) { cls:=.type "list",data:=.seq i.toArray n }={ cls:=.type "list",data:=.seq (i.set j u).toArray n }:=by simp [bm]
def ap.lst(I:ap X c d H s)(h:H p=δ (.lst x)):
  ∃(i:ri η) (n:Nat),ay x i/\s.heap.get? p=δ { cls:=.type "list",data:=.seq i.toArray n }/\ο x<=υ:=by
 let⟨z,i,n,r,e⟩:=I.hok p _ h;exact#[i,n,r,e,z]
def ap.lstUpd{c i:ri η}{f:fx->fx}(I:ap X d j H s)(h:H p=δ (.lst o))
  (k:s.heap.get? p=δ { cls:=.type "list",data:=.seq c.toArray n }) (g:f { cls:=.type "list",data:=.seq c.toArray n }={ cls:=.type "list",data:=.seq i.toArray N }) (r:ay y i) (l:ο y<=υ) (t:Nat):
  ap X d j (ah H p$ .lst y) { s with heap:=s.heap.update p f,toks:=t }:=by
 let e:(s.heap.update p f).get? p=δ { cls:=.type "list",data:=.seq i.toArray N }:=by rw[Heap.get?_update_self f k (by rw[g]<;>rfl),g]
 erw[I.write (x:=p) (e:=p) (by rw[h];trivial) (.inl Z) (λb u m q=>(Heap.get?_update_other _ _$ Ne.symm m).trans q) #[_,e] ?_];exact#[l,i,N,r,e]
inductive oK(o i v:V)(H:Hp)(Q:Hp->Prop):Prop
 |mk(p a k j:_)(_:o= .ref p)(_:i= .int k)(_:H p=δ (.lst a))(_:nW a.length k=δ j)(_:Q (ah H p (.lst (a.set j v))))
def zz:EA X oK:=by
 intro P s z H o i v O F u Q I R A B h;let⟨p,C,k,j,rfl,rfl,l,D,q⟩:=h;cases R;let⟨t,rfl⟩:=A;let⟨c,n,r,e,E⟩:=I.lst l;let⟨d,G,m,w⟩:=Zj D;let f:=r.length;let J:=eh;let x:ap X P z (ah H p$ .lst$ C.set j v) ‹s.heap.update p (bm (·.setIfInBounds j u))›:=
  I.lstUpd l e (Yy c n j u) (r.set B j) (by rw[O2];rwa[E]) s.toks
 by_cases y:0<=k
 .let g:k.toNat=j:=by rw[Ud y w]at d;exact M5 d
  rwa[PySem.W.ki_setAt e y LA (by rw[Mm,<- f];rwa[w]) (by rw[g];exact#[_,x,q])]
 .let g:(k+(c.toArray.size:Int)).toNat=j:=by rw[TF LA m]at d;rw[Mm,<- f];exact M5 d
  rwa[PySem.W.ki_setBack e LA (by rw[Mm,<- f];rwa[m]) LA (by rw[g];exact#[_,x,q])]
def Xa(lo H:rm Int)(n:Nat):(sliceBounds lo H θ n).1=((HT.sIx n 0 lo:Nat):Int)/\(sliceBounds lo H θ n).2.1=((HT.sIx n n H:Nat):Int)/\(sliceBounds lo H θ n).2.2=1:=by
 erw[#[?_,?_,Z]]
 .cases lo with
  |none=>simp [sliceBounds,HT.sIx]
  |some i=>
   simp only[sliceBounds,HT.sIx,RE,show(1:Int) > 0 by decide,O6];by_cases h:i < 0
   .simp only[h,O6]<;>omega
   .simp only[h,Ny]<;>omega
 .cases H with
  |none=>simp [sliceBounds,HT.sIx]
  |some i=>
   simp only[sliceBounds,HT.sIx,RE,show(1:Int) > 0 by decide,O6];by_cases h:i < 0
   .simp only[h,O6]<;>omega
   .simp only[h,Ny]<;>omega
def K8(i:ri η)(lo h:rm Int):slicePick i.toArray lo h θ=((i.drop$ HT.sIx i.length 0 lo).take$ HT.sIx i.length i.length h - HT.sIx i.length 0 lo).toArray:=by let⟨H,c,d⟩:=Xa lo h i.toArray.size;unfold slicePick;rw[H,c,d];simp only[sliceRange_one,pick_run,Mm]<;>rfl
inductive yH(K:Ψ)(x:V)(c b:rm Int)(H:Hp)(Q:VK):Prop
 |mk(a d:_)(_:x= .ref a)(_:aI K H a d)(_:∀p,H p=θ->Q (.ref p) (ah H p (.lst (aP d c b))))
def kB:Hi X (yH X.K):=by intro p s m H x v V n lo e S Q I R g P i h;let⟨a,c,rfl,j,q⟩:=h;cases R;let⟨k,r,f,l⟩:=I.list j;let d:=r.length;erw[#["list",_,slot_list_getitem.lookup,f.isList.typeIs,?_]];erw[wpAny_getItem_list_slice f.isList g P i .none Lz ?_ (by rw[Mm]<;>omega)];rw[K8,<- d];erw[#[.ref (-s),_,I.laid (t':=s.toks) (o:=.lst (aP c lo e)) (λb O q=>Mg _ q) (Mj _) ?_,Z,q _$ I.hok.fresh$ Mj _]];exact#[Mw (ze c lo e) l,_,0,(r.drop$ HT.sIx c.length 0 lo).take$ HT.sIx c.length c.length e - HT.sIx c.length 0 lo,Mo _ Z]
def cy:V->Bool
 | .non | .bl _ | .int _ | .str _=>μ
 |_=>ν
def nF:V->V->Bool
 | .non,.non=>μ
 | .bl a,.bl b=>a==b
 | .bl a,.int b=>(if a then 1 else 0)==b
 | .int a,.bl b=>a==(if b then 1 else 0)
 | .int a,.int b | .str a,.str b=>a==b
 |_,_=>ν
def sW(R:aE y u)(r:aE x v)(F:cy y=μ)(f:cy x=μ):SeqAt.EqAt A s u v (nF y x):=by
 cases y with
 |non=>
  cases R;cases x with
  |non=>cases r;rwa[SeqAt.EqAt.same _]
  |bl b=>cases r;rwa[SeqAt.EqAt.none_bool b]
  |int b=>let⟨t,rfl⟩:=r;rwa[SeqAt.EqAt.none_int b t]
  |str b=>let⟨t,rfl⟩:=r;rwa[SeqAt.EqAt.none_str b t]
  |_=>rwa[absurd (show ν=μ from f) Mq]
 |bl a=>
  cases R;cases x with
  |non=>cases r;rwa[SeqAt.EqAt.bool_none a]
  |bl b=>cases r;rwa[SeqAt.EqAt.bool_bool a b]
  |int b=>let⟨t,rfl⟩:=r;rwa[SeqAt.EqAt.bool_int a b t]
  |str b=>let⟨t,rfl⟩:=r;rwa[SeqAt.EqAt.bool_str a b t]
  |_=>rwa[absurd (show ν=μ from f) Mq]
 |int a=>
  let⟨T,rfl⟩:=R;cases x with
  |non=>cases r;rwa[SeqAt.EqAt.int_none a T]
  |bl b=>cases r;rwa[SeqAt.EqAt.int_bool a T b]
  |int b=>let⟨t,rfl⟩:=r;rwa[SD a T b t]
  |str b=>let⟨t,rfl⟩:=r;rwa[SA a T b t]
  |_=>rwa[absurd (show ν=μ from f) Mq]
 |str a=>
  let⟨T,rfl⟩:=R;cases x with
  |non=>cases r;rwa[SeqAt.EqAt.str_none a T]
  |bl b=>cases r;rwa[SeqAt.EqAt.str_bool a T b]
  |int b=>let⟨t,rfl⟩:=r;rwa[Sz a T b t]
  |str b=>let⟨t,rfl⟩:=r;rwa[SeqAt.EqAt.str_str a T b t]
  |_=>rwa[absurd (show ν=μ from f) Mq]
 |_=>rwa[absurd (show ν=μ from F) Mq]
def nV(x:V)(u:η):Bool:=match u with
 | .none=>nF .non x
 | .bool b=>nF (.bl b) x
 | .int i _=>nF (.int i) x
 | .str z _=>nF (.str z) x
 |_=>ν
def sY(r:aE y u)(f:cy y=μ):nV x u=nF y x:=by
 cases y with
 |non |bl b=>cases r;rfl
 |int i |str z=>let⟨t,rfl⟩:=r;rfl
 |_=>rwa[absurd (show ν=μ from f) Mq]
theorem Ja:∀{c:ri V} {U:ri η},ay c U->c.all cy=μ->U.any (nV x)=c.any λy=>nF y x
 |_,_,.nil,_=>rfl
 |y::c,u::U,.cons r t,f=>by rw[SG,Nz]at f;rw[Pl,Pl,sY r f.1,Ja t f.2]
theorem qp(R:aE x v)(F:cy x=μ){c:ri V}{U:ri η}(h:ay c U)(f:c.all cy=μ):∀u∈U,SeqAt.EqAt A s u v (nV x u):=by
 induction h with
 |nil=>intro u hu;cases hu
 |cons r t g=>
  rw[SG,Nz]at f;intro d hu;rcases Ξ.mp hu with rfl |hu
  .rw[sY r f.1];rwa[sW r R f.1 F]
  .rwa[g f.2 d hu]
def oG(x:V)(c:ri V):Bool:=c.any λy=>nF y x
inductive FQ(K:Ψ)(a:Bool)(x y:V)(H:Hp)(Q:VK):Prop
 |mk(p b:_)(_:y= .ref p)(_:aI K H p b∨aD K H p b)(_:cy x=μ)(_:b.all cy=μ)(_:Q (.bl (if a then !oG x b else oG x b)) H)
def zo:eW X (compareOp .In) (FQ X.K ν):=by
 intro d s j H x y v u Q I R e h;let⟨p,k,rfl,hq,F,f,q⟩:=h;cases e;rcases hq with hq |hq
 .let⟨i,r,P,g⟩:=I.list hq;erw[SeqAt.in_listAt (nV x) P.isList (λw c=>qp R F r f w (c:)) #[.bl _,H,I,Z,?_]];rw[show i.toArray.any (nV x)=i.any (nV x) by simp,Ja r f];rwa[q]
 .let⟨i,r,P,g⟩:=I.tuple hq;erw[SeqAt.in_tupleAt (nV x) P (λw c=>qp R F r f w (c:)) #[.bl _,H,I,Z,?_]];rw[show i.toArray.any (nV x)=i.any (nV x) by simp,Ja r f];rwa[q]
def Jj:eW X (compareOp .NotIn) (FQ X.K μ):=by
 intro d s j H x y v u Q I R e h;let⟨p,k,rfl,hq,F,f,q⟩:=h;cases e;rcases hq with hq |hq
 .let⟨i,r,P,g⟩:=I.list hq;erw[SeqAt.notIn_listAt (nV x) P.isList (λw c=>qp R F r f w (c:)) #[.bl _,H,I,Z,?_]];rw[show i.toArray.any (nV x)=i.any (nV x) by simp,Ja r f];rwa[q]
 .let⟨i,r,P,g⟩:=I.tuple hq;erw[SeqAt.notIn_tupleAt (nV x) P (λw c=>qp R F r f w (c:)) #[.bl _,H,I,Z,?_]];rw[show i.toArray.any (nV x)=i.any (nV x) by simp,Ja r f];rwa[q]
inductive qw(K:Ψ)(a:ri V)(H:Hp)(Q:VK):Prop
 |mk(p b:_)(_:a=[.ref p])(_:aI K H p b∨aD K H p b)(_:Q (.int b.length) H)
def jI:dA X (.builtin "len") (qw X.K):=by
 intro d s g H x U Q I r h;let⟨p,y,rfl,hq,q⟩:=h;let⟨u,rfl,e⟩:=eG r;cases e;let j:=eh;rcases hq with hq |hq
 .let⟨i,R,P,f⟩:=I.list hq;let c:=R.length;rwa[Calls.call_len_list P.isList (by simp only[Mm]<;>omega) #[.int y.length,H,I.tok _,#[s.toks+1,by rw[Mm,c]],q]]
 .let⟨i,R,P,f⟩:=I.tuple hq;let c:=R.length;rwa[len_tuple P (by simp only[Mm]<;>omega) #[.int y.length,H,I.tok _,#[s.toks+1,by rw[Mm,c]],q]]
inductive qx(K:Ψ)(a:ri V)(H:Hp)(Q:VK):Prop
 |mk(p b:_)(_:a=[.ref p])(_:aI K H p b∨aD K H p b)(_:∀l,H l=θ->Q (.ref l) (ah H l (.lst b)))
def Jk:dA X (.type "list") (qx X.K):=by
 intro P s v H z U Q I r h;let⟨p,y,rfl,hq,q⟩:=h;let⟨u,rfl,x⟩:=eG r;cases x;let f:∀(i:ri η),ay y i->ο y<=υ->∀(c:db) (C:Nat),(∀b O,s.heap.get? b=δ O->c.get? b=δ O)->
   c.get? (-s)=δ { cls:=.type "list",dict:=θ,data:=.seq i.toArray C,slots:=(ε []) }->EP X P v Q (.ref (-s)) ‹c›:=λi R d c C k e=>
  #[.ref (-s),_,I.laid (t':=s.toks) k (Mj _) (show aK X.prog X.w _ c _ (.lst y) from #[d,i,C,R,e]),Z,q _$ I.hok.fresh$ Mj _]
 rcases hq with hq |hq
 .let⟨i,R,j,d⟩:=I.list hq;let g:=R.length;let⟨o,l,m,n,t⟩:=j.isList;rwa[call_list_seq p (.inl Z) l m t (λc C k e=>f i R d c C k e) (by simp only[Mm]<;>omega)]
 .let⟨i,R,j,d⟩:=I.tuple hq;let g:=R.length;let⟨o,l,m,n,t⟩:=j;rwa[call_list_seq p (.inr Z) l m t (λc C k e=>f i R d c C k e) (by simp only[Mm]<;>omega)]
inductive kQ(K:Ψ)(a:ri V)(H:Hp)(Q:VK):Prop
 |mk(p b:_)(_:a=[.ref p])(_:(aI K H p b/\∀l,H l=θ->Q (.ref l) (ah H l (.tup b)))∨(aD K H p b/\Q (.ref p) H))
def jL:dA X (.type "tuple") (kQ X.K):=by
 intro P s g H x U Q I r h;let⟨p,y,rfl,h⟩:=h;let⟨u,rfl,m⟩:=eG r;cases m;rcases h with ⟨d,q⟩ | ⟨d,q⟩
 .let⟨i,R,f,j⟩:=I.list d;let k:=R.length;erw[call_tuple_list f.isList (λc n=>?_) (by simp only[Mm]<;>omega)];let l:ap X P g H ‹c›:=I.kept (t':=s.toks) n;let t:ap X P g (ah H c.objs.size$ .tup y) ‹c.push { cls:=.type "tuple",data:=.seq i.toArray }›:=
   l.laid (t':=s.toks) (λb o e=>Mg _ e) (Mj _) (show aK X.prog X.w _ _ _ (.tup y) from #[j,i,R,TW _ _])
  exact#[.ref c.objs.size,_,t,Z,q _$ l.hok.fresh$ Mj _]
 .let⟨i,R,f,j⟩:=I.tuple d;rwa[call_tuple_same f #[.ref p,H,I,Z,q]]
def IG(K:Ψ)(T:String)(x:V)(H:Hp):Prop:=match x with
 | .str _=>T="str"
 | .int _=>T="int"
 | .ref p=>(T="list"/\∃c,aI K H p c)∨(T="tuple"/\∃o,K.lookup p=δ o/\o.cls= .type "tuple"/\o.dict=θ)∨
   (T="dict"/\((∃k,H p=δ (.dK k))∨∃k,H p=δ (.dT k)))∨(T="set"/\∃S n,H p=δ (.set S n))
 |_=>False
def wz(I:ap X j u H s)(r:aE x v)(d:IG X.K T x H):
  s.TypeIs v T/\∀a,v= .ref a->∃O,s.heap.get? a=δ O/\O.dict=θ:=by
 cases x with
 |str z=>let⟨t,rfl⟩:=r;cases (show T="str" from d);exact#[typeIs_str s z t,λ_ e=>nomatch e]
 |int i=>let⟨t,rfl⟩:=r;cases (show T="int" from d);exact#[typeIs_int s i t,λ_ e=>nomatch e]
 |ref p=>
  cases r;rcases d with ⟨rfl,w,l⟩ | ⟨rfl,o,h,m,f⟩ | ⟨rfl,h⟩ | ⟨rfl,S,n,h⟩
  .let⟨q,_,P,_⟩:=I.list l;erw[#[P.isList.typeIs,λa e=>?_]];cases e;let⟨o,n,e,c,f,_⟩:=P;exact#[o,e,f]
  .erw[#[#[o,I.kIn p o h,m],λa e=>?_]];cases e;exact#[o,I.kIn _ o h,f]
  .let z:∃o,s.heap.get? p=δ o/\o.ExactDict:=by
    rcases h with ⟨k,h⟩ | ⟨k,h⟩
    .let⟨_,_,_,_,o,_,_,e,E,_⟩:=I.hok p _ h;exact#[o,e,E]
    .let⟨_,_,_,_,o,_,_,e,E,_⟩:=I.hok p _ h;exact#[o,e,E]
   let⟨o,e,E⟩:=z;erw[#[#[o,e,E.1],λa g=>?_]];cases g;exact#[o,e,E.2.1]
  .let⟨o,_,_,_,e,E,_⟩:=I.hok p _ h;erw[#[#[o,e,E.1],λa g=>?_]];cases g;exact#[o,e,E.2.1]
 |_=>rwa[False.elim d]
def IA(K:Ψ)(T:String)(r:V->ri V->Hp->VK->Prop)(t:TE):TE:=λc H Q=>t c H λx h=>IG K T x h/\r x [] h Q
def Iz(K:Ψ)(T:String)(r:V->ri V->Hp->VK->Prop)(d:TE)(t:TA):TE:=λc H Q=>d c H λx h=>IG K T x h/\t c h λe f=>r x e f Q
variable {o e:dr}{es:ri dr}{to:TE}{t:TA}{name:ρ}{apos cpos:Pos}{T id:String}{r:V->ri V->Hp->VK->Prop}
def Do(P:PlainAttrs T)(S:Slot T name id)(f:typeOf (.builtin id)=pure (.type "method_descriptor"))(j:HK X id r)(k:PE X o to)
  (c:↥(attributeBase o name X.env (eval o X.env)=eval o X.env)) (d:↥((apos.endLine==cpos.line)=μ)):PE X (.Call (.Attribute o name apos) [] [] cpos) (IA X.K T r to):=by
 intro p s g H Q I h;erw[wpAny_Call_method0_late c d$ aU (k p s g H _ I h) λv l z=>?_];let⟨x,m,i,R,n,q⟩:=z;let⟨u,w⟩:=wz i R n;exact#[T,id,P,S,f,u,w,Pz Z$ PySem.evalArgs_none$ j p l g m x [] v [] Q i R .nil q]
def kJ(P:PlainAttrs T)(S:Slot T name id)(i:typeOf (.builtin id)=pure (.type "method_descriptor"))(m:HK X id r)(n:PE X o to)(q:PA X (e::es) t)
  (d:↥(attributeBase o name X.env (eval o X.env)=eval o X.env))
  (g:↥(((eT cpos$ Δ (e::es) X.env).all (λx=>!x.1)&&(backToKw cpos$ keywordEach [] X.env).all (λx=>x.1.isSome)
   &&decide ((e::es).length+([]:ri Keyword).length+(if ([]:ri Keyword).isEmpty then 0 else 1) < 30))=μ))
  (f:↥((apos.endLine==cpos.line)=μ)) (u:↥(Δ (e::es) X.env=(ν,eval e X.env)::Δ es X.env)) (c:↥((eT cpos$ Δ es X.env).any (·.1)=ν)):
  PE X (.Call (.Attribute o name apos) (e::es) [] cpos) (Iz X.K T r to t):=by
 intro p s j H Q I h;erw[wpAny_Call_method_late d g f Z$ aU (n p s j H _ I h) λv w z=>?_];let⟨x,y,k,R,A,B⟩:=z;let⟨C,D⟩:=wz k R A;erw[#[T,id,P,S,i,C,D,?_]];let l:=q cpos p w j y _ k B;rw[u]at l ⊢;erw[Pz (by show(ν||(eT cpos$ Δ es X.env).any (·.1))=ν;rw[c]<;>rfl)$ Td ?_];rwa[aU l λU E #[F,G,J,L,M]=>m p E j G x F v U Q J R L M]
end
def Hh(X:Cx)(id:String)(r:V->ri V->Hp->VK->Prop):Prop:=
 ∀(p:ri (ζ×fx)) (s:ι) (a:St) (H:Hp) (x:V) (b:ri V) (v:η) (u:ri η) (Q:VK),ap X p a H s->aE x v->ay b u->r x b H Q->
  π (χ X.prog X.w) X.A (call (.builtin id) (v::u)) (EP X p a Q) X.xe s
def ay.one{x:V}{U:ri η}(h:ay [x] U):∃u,U=[u]/\aE x u:=by
 cases h with
 |cons r t=>cases t;rwa[#[_,Z,r]]
def ay.zero:∀{u:ri η},ay [] u->u=[]
 |_,.nil=>rfl
def ay.dropLast(h:ay x u):ay x.dropLast u.dropLast:=by
 induction h with
 |nil=>rwa[.nil]
 |cons r t i=>
  cases t with
  |nil=>rwa[.nil]
  |cons q T=>rwa[.cons r i]
def ay.reverse(h:ay x u):ay x.reverse u.reverse:=by
 induction h with
 |nil=>rwa[.nil]
 |cons r t i=>rw[Pf,Pf];rwa[ay.append i (.cons r .nil)]
def Yz{c:Type}(l:ri c):l.eraseIdx (ο l - 1)=l.dropLast:=by
 induction l with
 |nil=>rfl
 |cons a r i=>
  cases r with
  |nil=>rfl
  |cons b r=>
   let e:(a::b::r).length - 1=((b::r).length - 1)+1:=by let h:(a::b::r).length=ο r+2:=rfl;let H:(b::r).length=ο r+1:=rfl;omega
   rw[e,List.eraseIdx_cons_succ,i];all_goals rfl
section
variable {X:Cx}{pins:ri (ζ×fx)}{σ:St}{H:Hp}{s:ι}{l b:ζ}{xs ys zs:ri V}
def ap.lset{i its':ri η}{f:Array η->Array η}{t':Nat}(I:ap X pins σ H s)(h:H l=δ (.lst xs))
  (e:s.heap.get? l=δ { cls:=.type "list",data:=.seq i.toArray n }) (a:f i.toArray=its'.toArray) (c:ay ys its') (d:ο ys<=υ):
  ap X pins σ (ah H l$ .lst ys) { s with heap:=s.heap.update l (bm f),toks:=t' }:=by
 let q:=PySem.IsL.update e f;rw[a]at q;erw[I.write (x:=l) (e:=l) (by rw[h];rwa[trivial]) (.inl Z) (λB u g j=>(MG s.heap (bm f)$ MX g).trans j) #[_,q] ?_];exact#[d,its',_,c,q]
def ap.lnew{t':Nat}(I:ap X pins σ H s)(h:ay ys i)(a:ο ys<=υ):
  ap X pins σ (ah H (-s)$ .lst ys) { s with heap:=s.heap.push { cls:=.type "list",data:=.seq i.toArray },toks:=t' }:=
 I.laid (λ_ _ q=>Mg _ q) (Mj _) #[a,i,0,h,Mo _ Z]
def ap.fresh(I:ap X pins σ H s):H (-s)=θ:=I.hok.fresh (Mj _)
def ap.lstM(I:ap X pins σ H s)(h:H l=δ (.lst xs)):ο xs<=υ/\∃(i:ri η) (n:Nat),ay xs i/\ο xs=ο i/\s.heap.get? l=δ { cls:=.type "list",data:=.seq i.toArray n }:=by let⟨z,i,n,r,e⟩:=I.hok l _ h;exact#[z,i,n,r,r.length,e]
def fu(h:n<=υ):ff n=ν:=by unfold ff;rwa[My LA]
end
section
variable {X:Cx}
inductive lI(x:V)(a:ri V)(H:Hp)(Q:VK):Prop
 |mk(l b y:_)(_:x= .ref l)(_:a=[y])(_:H l=δ (.lst b))(_:ο b < υ)(_:Q .non (ah H l (.lst (b++[y]))))
def jT:Hh X "list.append" lI:=by intro p s d H x V v U Q I R b h;let⟨l,f,y,rfl,rfl,a,g,q⟩:=h;cases R;let⟨u,rfl,c⟩:=b.one;let⟨z,i,n,r,j,e⟩:=I.lstM a;erw[RQ F.slot_list_append #[_,e,Z] F.entry_list_append (F.args_list_append_2 _ _) (PySem.list_append l i.toArray n u (by rw[Mm];omega)) #[e,?_]];erw[#[.non,_,I.lset (its':=i++[u]) a e Lz (r.append$ .cons c .nil) ?_,Z,q]];rw[Ml,Oq];omega
inductive oJ(x:V)(a:ri V)(H:Hp)(Q:VK):Prop
 |mk(l b c d:_)(_:x= .ref l)(_:a=[.ref b])(_:H l=δ (.lst c))(_:H b=δ (.lst d))(_:ο c+ο d<=υ)(_:Q .non (ah H l (.lst (c++d))))
def JA:Hh X "list.extend" oJ:=by
 intro p s t H x V v U Q I R g h;let⟨l,b,w,y,rfl,rfl,f,j,A,q⟩:=h;cases R;let⟨u,rfl,k⟩:=g.one;cases k;let⟨z,a,n,r,B,e⟩:=I.lstM f;let⟨C,i,N,m,o,E⟩:=I.lstM j;let d:a.toArray.size+i.toArray.size<=υ:=by rw[Mm,Mm];omega
 let c:¬(!a.toArray.isEmpty&&ff (a.toArray.size+i.toArray.size))=μ:=by rw[fu d,Rl];rwa[Mq]
 refine RQ Ui #[_,e,Z] T8 (TX _ _)
  (AutoSeq1.list_extend_list_list_0 l a.toArray n b i.toArray N c (by rw[Mm];omega) LA) #[e,E,?_]
 erw[#[.non,_,I.lset (its':=a++i) f e Lz (r.append m) ?_,Z,q]];rw[Ml];rwa[N09]
inductive FS(x:V)(a:ri V)(H:Hp)(Q:VK):Prop
 |mk(l b y:_)(_:x= .ref l)(_:a=[])(_:H l=δ (.lst b))(_:b[ο b - 1]?=δ y)(_:Q y (ah H l (.lst b.dropLast)))
def CD:Hh X "list.pop" FS:=by
 intro p s m H x V v U Q I R d h;let⟨l,o,y,rfl,rfl,c,f,q⟩:=h;cases R;let a:=d.zero;subst a;let⟨z,i,n,r,g,e⟩:=I.lstM c;let⟨u,j,k⟩:=r.get f;let b:i.toArray[i.toArray.size - 1]?=δ u:=by show i.toArray[ο i - 1]?=δ u;rw[<- Nu,<- g];rwa[j]
 erw[RQ F.slot_list_pop #[_,e,Z] F.entry_list_pop (F.args_list_pop_1 _) (MeetsSeq.list_pop_last l i.toArray n u b (by rw[Mm];omega)) #[e,?_]];erw[#[y,_,I.lset (its':=i.dropLast) c e ?_ r.dropLast ?_,k,q]]
 .show i.toArray.eraseIdxIfInBounds (i.toArray.size - 1)=i.dropLast.toArray;rw[Mm,List.eraseIdxIfInBounds_toArray,Yz]
 .rw[List.length_dropLast];omega
inductive yE(x y:V)(H:Hp)(Q:VK):Prop
 |mk(l b a c:_)(_:x= .ref l)(_:y= .ref b)(_:H l=δ (.lst a))(_:H b=δ (.lst c))(_:ο a+ο c<=υ)(_:∀p,H p=θ->Q (.ref p) (ah H p (.lst (a++c))))
def qk:eW X (binaryOp .Add) yE:=by
 intro p s m H x y v u Q I R c h;let⟨l,b,o,t,rfl,rfl,d,f,w,q⟩:=h;cases R;cases c;let⟨z,a,n,r,A,e⟩:=I.lstM d;let⟨B,i,N,g,j,E⟩:=I.lstM f;erw[PySem.P.add_list e E ?_ (by rw[Mm,Mm];omega)];let k:a.toArray++i.toArray=(a++i).toArray:=by simp
 rw[k];exact#[.ref _,_,I.lnew (t':=s.toks) (r.append g) (by rw[Ml];omega),Z,q _ I.fresh]
end
section
variable {prog:ω}{w:bS}{A:bx}{E:η->ι->Prop}{s:ι}
def Z6(i I : ri η)(a c : Nat) : i.toArray.extract 0 a ++ I.toArray ++ i.toArray.extract c i.toArray.size = (i.take a ++ I ++ i.drop c).toArray := by
  apply Array.toList_inj.mp;first
    | (simp
       rwa[NY Lz])
    | simp [NY]
    | simp
def YA{a c n:Nat}(hac:a<=c)(hc:c<=n):sliceBounds (δ (a:Int)) (δ (c:Int)) θ n=((a:Int),(c:Int),1):=by
 simp only[sliceBounds,RE];let h1:¬((a:Int) < 0):=LA
 let h2:¬((c:Int) < 0):=LA
 simp only[h1,h2,Ny,show(1:Int) > 0 by decide,O6];congr 1
 .omega
 .congr 1;omega
set_option maxRecDepth 100000 in
def K9{a c : Nat}{Q : Unit -> ι -> Prop}
    (e : s.heap.get? l = δ { cls := .type "list", data := .seq i n }) (y : s.heap.get? b = δ { cls := .type "list", data := .seq N I }) (q : l ≠ b)
    (C : s.heap.IsSliceOf p z B .none) (P : IsPart z (δ (a : Int))) (D : IsPart B (δ (c : Int))) (r : a <= c) (F : c <= i.size)
    (f : i.size + N.size <= υ) (h : Q () { s with heap := s.heap.update l (bm λX => X.extract 0 a ++ N ++ X.extract c X.size) }) :
    π (χ prog w) A (setItem (.ref l) (.ref p)$ .ref b) Q E s := by
  let t : s.heap.IsList l i := Tc e;let G : s.heap.IsList b N := Tc y;obtain ⟨os, d, u, g⟩ := id C;let k : s.TypeIs (.ref p) "slice" := #[os, d, u];let j : ¬ ((rawPart θ == rawInt 0) = μ) := Mq;let H : ef (.ref l) (.ref b) = ν := by unfold ef;rwa[beq_eq_false_iff_ne.mpr q]
  let o : (max (a : Int) (c : Int)).toNat = c := by omega
  let v : ((λX : Array η => X.extract 0 a ++ N ++ X.extract c X.size) i).size <= υ + 1 := by simp only [RD, Rr];omega
  unfold setItem;try with_reducible erw[MJ ?_]
  first | refine Me (Mh ?_) | skip
  erw[Me$ R0 t.typeIs LB ?_];refine Me (M1 (name := Str.ofString "__setitem__") t.typeIs UC
    (MY UC t.typeIs entry_list_setitem ?_$ args_list_setitem _ _ _))
  show π _ _ (nz (.ref p) >>= _) _ _ s;erw[Me ?_];unfold nz;erw[Me$ NZ k slice_no_index ?_];simp only [Th, O6];erw[Mh ?_];show π _ _ (typeOf (.ref p) >>= _) _ _ s;erw[Me$ N7 k ?_];first
    | rw [Mx LB]
    | erw[PX LB ?_]
  rw [listSliceParts_eq];erw[Me$ Me$ MO d g (x := .none) Z$ Me$ SW .none ?_];rw [Mx j];erw[Me$ MO d g (x := z) Z$ Me$ SW P ?_];erw[Me$ MO d g (x := B) Z$ Me$ SW D$ Mh ?_];first
    | simp only [H, Ms, Ny]
    | erw[PX H ?_]
    | (dsimp only
       rw [Mx (by rw [H]; rwa[Mq])])
  erw[Me (m := nI (.ref b) "must assign iterable to extended slice") ?_];unfold nI;erw[Me$ N7 G.typeIs ?_];first
    | erw[Vn LB ?_]
    | rw [Mv LB]
    | simp only [Ov, UK, O6]
  unfold Builtin.List.listItems;erw[Me$ Ni y Z$ Mh ?_];erw[Me$ Me$ Ni e Z$ Mh ?_];erw[Me$ PQ ((sliceIndices_raw (δ (a : Int)) (δ (c : Int)) θ i.size Lz).trans$ MZ (pure : Int × Int × Int -> Sem (Int × Int × Int))$ YA r F) ?_];show π _ _ (if ((1 : Int) == 1) = μ then _ else _) _ _ s;rw [Mv LB];erw[Me$ Nx ?_];first
    | simp only [fu f, Ms, Ny]
    | erw[PX (fu f) ?_]
  first | refine Me (Mh ?_) | skip
  show π _ _ (updateSeq l (λX => X.extract 0 ((a : Int)).toNat ++ N ++ X.extract (max (a : Int) (c : Int)).toNat X.size) >>= _) _ _ s;rw [o, Ng];erw[Me$ Rm (hz := Mw (Oi _ _) f) (_hz' := v) e Z ?_];erw[Me$ Uc ?_];first
    | rwa[Me (Mh (Mh #[.none, Z, Mh h]))]
    | rwa[Mh #[.none, Z, Mh h]]
end
section
variable {X:Cx}
def Z7{Q:Unit->ι->Prop}(I:ap X p o H s)
  (k:H l=δ (.lst x)) (q:H b=δ (.lst y)) (f:l≠b) (t:s.heap.IsSliceOf u v B .none) (R:aE (.int a) v) (D:aE (.int c) B) (m:0<=a) (g:a<=c) (J:c<=ο x)
  (K:ο x+ο y<=υ) (h:∀S,ap X p o (ah H l$ .lst$ x.take a.toNat++y++x.drop c.toNat) S->Q () S):
  π (χ X.prog X.w) X.A (setItem (.ref l) (.ref u)$ .ref b) Q X.xe s:=by
 let⟨T,rfl⟩:=R;let⟨L,rfl⟩:=D;let⟨z,d,n,r,M,e⟩:=I.lstM k;let⟨N,i,O,E,F,G⟩:=I.lstM q;let⟨j,rfl⟩:=SR m;let⟨C,rfl⟩:=SR (Int.le_trans m g);simp only[Ng]at h;erw[K9 (a:=j) (c:=C) e G f t (.int _ _) (.int _ _) LA (by rw[Mm];omega) (by rw[Mm,Mm];omega)$ h _ ?_];erw[I.lset (its':=d.take j++i++d.drop C) (t':=s.toks) k e ?_ (ay.append (ay.append (r.take _) E)$ r.drop _) ?_]
 .rwa[Z6 d i j C]
 .rw[Ml,Ml,MT,N4];omega
end
end _L
namespace Att
open PySem PySem.W PySem.Calls PyProof.Rows
def JS{P:Params}:∀(N:ri Int) (v:ri η),WellAll P h v (N.map WData.int)->IntsAre v N:=by
 intro N;induction N with
 |nil=>intro v w;rw[UG]at w;cases w;rwa[.nil]
 |cons n N i=>
  intro v w;rw[NH]at w;cases w with
  |cons a b=>cases a;rwa[.cons _ _$ i _ b]
def Z8{l:OpenLaw}(k:l.most=δ n){P:Params}
  (H:l.row.toRowW.claim.pre args=μ) (g:WellAll P h v args):
  ∃a V N,v=[Θ a]/\args=[WData.list$ N.map WData.int]/\h.get? a=δ { cls:=.type "list",data:=.seq V.toArray }/\IntsAre V N/\ο N<=n:=by
 let i:WShape.hasAll [] args [.list .int]=μ:=(pre_splitW H).1;let j:l.pre.holds [] { args:=args }=μ:=(pre_splitW H).2;let⟨d,r,rfl,m,o⟩:=hasAllW_cons i;obtain rfl:=hasAllW_nil o;let⟨x,rfl,p⟩:=hasW_list m;let⟨N,rfl⟩:=items_int p;let b:ο N<=n:=by
  unfold OpenLaw.pre at j;let e:(WTm.not$ .lt (.lit$ .int (n:Int))$ .len$ .arg 0).holds [] { args:=[.list$ N.map .int] }=μ:=by let e:=(holds_andW j).1;rw[k]at e;rwa[e]
  let f:=condW_of e (w_not$ w_lt w_lit$ w_len_list$ w_arg Z);rw[Mi]at f;erw[Px λq=>?_];let Q:(n:Int) < ((N.length:Nat):Int):=by rwa[N09]
  first
   | (rw[MN Q]at f;rwa[absurd f LB])
   | (simp at f;omega)
 cases g with
 |cons w W=>
  cases W;cases w with
  |list s c=>exact#[_,_,N,Z,Z,s,JS N _ c,b]
def Z9(l:OpenLaw)(args:ri WData):l.row.toRowW.claim.post args (.bool μ) args=μ:=
 postW_of (r:=l.row.toRowW) (X:=(μ==μ))
  (show WShape.has [] (.bool μ) .bool=μ by first |rfl |decide |simp [WShape.has,WShape.arms,WShape.armsAll])
  (show(WTm.eq .res$ .lit$ .bool μ).value [] { args:=args,res:=δ (.bool μ),after:=args }=δ (.bool$ μ==μ) from w_eq_bool (w_res Z) w_lit) Z
def attach_call{l:OpenLaw}{y:bS->db->Prop}{d:DefRec}
  (x:l.most=δ n) (g:d.params.defaults=[])
  (call:∀(w:bS) (S s:ι) (m M:ρ->rm η) (F:ζ) (o:fx) (p C D:η) (a:ζ) (v:ri η) (N:ri Int),
   Ground q L [] z w S m M s.heap->y w s.heap->
   s.heap.get? F=δ o->o.data= .func (docDef d.name d.params d.body d.scope p C D)->s.heap.CodeRec C d.name->m d.name=↑F->
   s.heap.get? a=δ { cls:=.type "list",data:=.seq v.toArray }->IntsAre v N->ο N<=n->s.gens=(ε [])->
   ib (χ l.prog w) callerA (.call (.ref F) #[[.ref a],[]]) (λr e=>r= .ok (.ret$ .bool μ)/\OldK s.heap e.heap/\e.os=s.os/\AllBare e.gens) s):
  WalkO q L z y l.row.toRowW d [] (λf v=>PySem.call f v):=by
 intro w S s m M G Y F o p C D B kV E I i t j J A V W H u K k O;obtain rfl:B= .none:=Dflts.none t g;obtain rfl:kV= .none:=Dflts.noKw t;let⟨a,v,N,rfl,rfl,b,h,c⟩:=Z8 x H k;erw[enter_call$ OP (call w S s m M F o p C D a v N G Y E (fd_plain I) i j b h c J) λr e P=>?_];let⟨rfl,Q,R,T⟩:=P;exact#[.inl #[.bool μ,.bool μ,[],Z,λ_=>Z,.bool μ,Z9 l _,λ_=>#[List.Pairwise.nil,λ_ U=>(nomatch U)]],Q,R,T]
end Att
namespace _L
open PySem PySem.Spec PyProof.Rows
theorem QB{v:ri η}{N:ri Int}(h:IntsAre v N):ay (N.map qs) v:=by
 induction h with
 |nil=>rwa[.nil]
 |cons n t _ f=>rwa[.cons #[t,Z] f]
def BA(H:Hp):Prop:=∀b,H b=θ∨∃o x,H b=δ (.frz o$ .lst x)
def tW{P:ω}{K:Ψ}{S:ι}{i:ri η}
  (Y:K.In S.heap) (l:S.heap.Ns Φ M) (c:S.heap.Ns builtinsNs mb) (Q:∀x:ρ,x≠"__name__"->mb x=bootBuiltins x) (p:S.heap.NoLimit) (hg:S.gens=(ε []))
  (J:S.heap.get? a=δ { cls:=.type "list",data:=.seq i.toArray }) (hi:IntsAre i O) (hl:ο O<=υ) (hr:bJ k callerA)
  (F:∀f:db,K.In f->f.Ns Φ M->af P w K M f CX k fa fd [x] sp) (j:∀(s:ι) (u:η),BindsTo s fd #[[u],[]] [(x,u)])
  (R:∀H:Hp,BA H->aI K H a (O.map qs)->sp [.ref a] H (λv _=>v= .bl μ) λ_ _ _=>False)
  (T:∀H e g,CX [] H S (λ_ _ _=>False) e g->False):
  ib (χ P w) callerA (.call (.ref fa) #[[.ref a],[]]) (λr g=>r= .ok (.ret$ .bool μ)/\OldK S.heap g.heap/\g.os=S.os/\AllBare g.gens) S:=by
 let rv:=QB hi;let L:=hi.length;let C:∀H:Hp,BA H->aI K H a (O.map qs)->eQ P w H S.heap->(∀b,H b≠θ->b=a)->(H a≠θ->K.lookup a=θ)->
   ib (χ P w) callerA (.call (.ref fa) #[[.ref a],[]]) (λr g=>r= .ok (.ret$ .bool μ)/\OldK S.heap g.heap/\g.os=S.os/\AllBare g.gens) S:=by
  intro H hO hS t hA hK;let B:∀{b:ζ} {o:fx},S.heap.get? b=δ o->H b=θ->(lE S.heap H).get? b=δ o:=λe n=>tO e n;let U:∀{b:ζ} {o:fx} {E:Array DictEntry} {y:Nat},S.heap.get? b=δ o->o.data= .dict E y->H b=θ:=λ{b o E y} e d=>by
   cases q:H b with
   |none=>rfl
   |some u=>have W:b=a:=hA b (by rw[q];simp);subst W;rw[J]at e;cases e;let d':Data.seq i.toArray _=Data.dict E y:=d;cases d'
  let N:∀{b:ζ} {m:ρ->rm η},S.heap.Ns b m->(lE S.heap H).Ns b m:=λ{b m} #[o,E,y,e,d,r]=>#[o,E,y,B e$ U e d,d,r];let A:K.In (lE S.heap H):=λb o e=>B (Y b o e) (by
   cases q:H b with
   |none=>rfl
   |some u=>
    let W:b=a:=hA b (by rw[q];simp);subst W;rw[hK (by rw[q];simp)]at e;cases e)
  let hM:Mod K M (lE S.heap H):=#[A,N l,#[mb,N c,Q],let #[mc,h1,h2]:=p;#[mc,N h1,h2]];let e0:nM P w K M (lE S.heap H) callerA [] S H:=#[Z,hM,λb o e=>yd e,P5$ ZW _ _,trivial,λb c=>absurd (show b∈([]:ri ζ) from c) Lz,t,.of_eq hg];erw[OP ((F _ A$ N l).run callerA [] S H #[[.ref a],[]] [.ref a] [.ref a] _ _ hr e0 (j S$ .ref a) (.cons Z .nil) (R H hO hS)) λr g h=>?_];cases r with
  |error e=>exact(T H e g h).elim
  |ok fl=>
   cases fl with
   |next |brk |cont=>rwa[False.elim h]
   |ret u=>
    let⟨v,H',os,D,un,G,r',q⟩:=h;let q':v= .bl μ:=q;subst q';obtain rfl:u=mS μ:=r';erw[#[Z,OldK.of_keep λb o e=>?_,os,D]];cases q:H b with
    |none=>rwa[un.keep b o e q (by intro z;rwa[absurd (show b∈([]:ri ζ) from z) Lz]) Lz]
    |some u=>
     rcases hO b with z | ⟨ob,xs,z⟩
     .rw[q]at z;cases z
     .let z2:=un.frzs b ob _ z;let⟨e1,_⟩:=t b _ z;let⟨e2,_⟩:=G b _ z2;rw[e]at e1;cases e1;rwa[e2]
 cases X:K.lookup a with
 |some o=>have e:=Y a o X;rw[J]at e;cases e;erw[C (λ_=>θ) (λ_=>.inl Z) (.inr #[_,i.toArray,_,X,Z,Z,Z,by rw[Mm,L];rwa[hl],by simpa using rv]) (λb u z=>by let I:(θ:rm HO)=δ u:=z;cases I) (λb z=>absurd Z z) λz=>absurd Z z]
 |none=>
  erw[C (λb=>if b=a then δ (.frz { cls:=.type "list",data:=.seq i.toArray }$ .lst$ O.map qs) else θ) (λb=>?_) (.inl$ .inr #[{ cls:=.type "list",data:=.seq i.toArray },Mv Z]) (λb u z=>?_) (λb z=>?_) λ_=>X]
  .by_cases c:b=a
   .rwa[.inr #[_,_,Mv c]]
   .rwa[.inl$ Mx c]
  .by_cases c:b=a
   .let I:=(Mv c).symm.trans z;cases I;subst c;exact#[J,by rw[Mi];rwa[hl],i,_,rv,J]
   .let I:=(Mx c).symm.trans z;cases I
  .by_cases c:b=a
   .rwa[c]
   .rwa[absurd (Mx c) z]
def Ap{l:oS}{n k:Nat}{E:bS->db->Prop}{d:DefRec}{K:Params->Ψ}{CX:bS->pI}{sp:bS->Sp}{x:ρ}
  (O:l.most=δ n) (r:n<=υ) (t:d.params.defaults=[]) (P:bJ k callerA)
  (Q:∀(w:bS) (h:db),E w h->(K w.params).In h)
  (F:∀(w:bS) (m:ρ->rm η) (p:ζ) (h:db),(K w.params).In h->h.Ns Φ m->m d.name=↑p->
   ∃y:bU,(∀(s:ι) (u:η),BindsTo s y #[[u],[]] [(x,u)])/\
    ∀B:db,(K w.params).In B->B.Ns Φ m->af l.prog w (K w.params) m B (CX w) k p y [x] (sp w))
  (z:∀(w:bS) (H:Hp) (a:ζ) (N:ri Int),ο N<=n->BA H->aI (K w.params) H a (N.map qs)->sp w [.ref a] H (λv _=>v= .bl μ) λ_ _ _=>False)
  (A:∀(w:bS) (H:Hp) (s:ι) (e:η) (C:ι),CX w [] H s (λ_ _ _=>False) e C->False):
  PySem.W.WalkO q L XP E l.row.toRowW d [] (λf I=>PySem.call f I):=by
 erw[Att.attach_call O t λw J S m mb p o pm cd R a I N G Y ho hd U D j i c X=>?_];let M:=Q w _ Y;let⟨y,hb,hF⟩:=F w m p _ M G.T.g D;rwa[tW M G.T.g G.T.b G.T.builtins G.T.nolimit X j i (Mw c r) P hF hb (λH hO hS=>z w H a N c hO hS) λH e C=>A w H S e C]
def bp(s:cv)(j:Nat):cv:=match s with
 | .ClassDef _ _ _ b _ _ _ _ _ _ _=>b.getD j (.Pass #[0,0,0,0])
 |_=>.Pass #[0,0,0,0]
def bK(s:cv):Arguments:=match s with
 | .FunctionDef _ a _ _ _ _ _ _ _ _=>a
 |_=>{ posonlyargs:=[],args:=[],vararg:=θ,kwonlyargs:=[],kw_defaults:=[],kwarg:=θ,defaults:=[] }
def bh(s:cv):ri cv:=match s with
 | .FunctionDef _ _ b _ _ _ _ _ _ _=>b
 |_=>[]
def aa(s:cv):hJ:=match s with
 | .FunctionDef _ _ _ _ _ _ S _ _ _=>S
 |_=>{ kind:=.function,names:=[],isGenerator:=ν,isCoroutine:=ν }
abbrev aF:pI:=λ_ _ _ _ _ _=>False
abbrev E0:XK:=λ_ _ _=>False
def bq{X:Cx}:dD aF X E0:=λ_ _ _ _ _ _ _ h=>h.elim
structure aN(K:Ψ)(x qual:ρ)(st:cv)(f:ζ)(fd:bU):Prop where
 ex:∃(oc:η) (od:rm ζ) (kV doc pm:η) (an:rm ζ) (cdv ct:η) (osl:Array (rm η)),
  fd=pz x qual (bK st) (bh st) (aa st) .none kV doc pm an cdv ct/\K.lookup f=δ #[oc,od,.func fd,osl]/\codeIn K cdv qual=μ
 kp:fr K (.ref f)=μ
section
variable {P:ω}{w:bS}{K:Ψ}{mg:ρ->rm η}{base:db}
abbrev rc(K:Ψ)(x:ρ):=aN K x x
def aN.ok{st:cv}{d:Sp}(F:aN K x a st f i)(S:ak N p (aa st))
  (b:∀(c:η) (A:bx) (o:ri Env) (s:ι) (H:Hp) (v:ri V) (Q:VK) (E:XK),bJ k (A.deeper$ envOfC a (aa st) (-s) f c)->d v H Q E->
   let X:=eX aF P w K mg base N a (aa st) f c A o s H E;∃t,mn X.nox (bh st) t/\t { nx:=λ_ j=>Q .non j,rt:=Q } (eF N v) H)(len:∀v H Q E,d v H Q E->ο v=ο p:=by rintro _ _ _ _⟨⟩;subst_vars;rfl):af P w K mg base aF (k+1) f i p d:=by
 let⟨m,n,kV,D,r,u,c,C,O,rfl,lk,e⟩:=F.ex;erw[AR lk e S len λA o s H v Q E l g=>?_];let⟨t,h,q⟩:=b c A o s H v Q E l g;exact#[t,h.nox,q]
def aN.binds{st:cv}{p:ri ρ}(F:aN K x q st f b)
  (h:∀(kV d a:η) (A:rm ζ) (c C:η) (u:ri η),ο u=ο p->bindArgs (pz x q (bK st) (bh st) (aa st) .none kV d a A c C) #[u,[]]=pure (p.zip u)):au K b p []:=by
 let⟨O,e,kV,d,a,A,c,C,o,rfl,lk,H⟩:=F.ex;rwa[.all$ h kV d a A c C]
def tG{st:cv}{kV:η}(l:K.lookup f=δ #[O,e,.func$ pz x q (bK st) (bh st) (aa st) .none kV d p a C b,o])
  (c:codeIn K C q=μ) (k:fr K (.ref f)=μ):aN K x q st f (pz x q (bK st) (bh st) (aa st) .none kV d p a C b):=#[#[O,e,kV,d,p,a,C,b,o,Z,l,c],k]
end
def z9(h:bJ k A):A.units+1 < cLine:=NN (Tu (LB:1<=64) _) h.units
section
variable {X:Cx}
def pv(i:Nat){x:ρ}{p:Pos}(H:↥(X.N[i]?=δ x))(a:Hk X.env.scope x:=by first |exact ψ Z |exact fz (ψ Z) |exact fz$ fz Z)(b:↥((x==("__debug__":ρ))=ν))
  (h:↥((x==("__classdict__":ρ))=ν)):PE X (.Name x p) (a8 i):=Dq H a b h
end
def xP{A B:Prop}(h:B):if ν=μ then A else B:=by rw[Mx Mq];rwa[h]
def Ck{A B:Prop}(h:A):if μ=μ then A else B:=by rw[Mv Z];rwa[h]
def bP{c A B:Prop}[Decidable c](H:c->A)(a:¬c->B):if c then A else B:=by
 by_cases h:c
 .rw[Mv h];rwa[H h]
 .rw[Mx h];rwa[a h]
def ae(H h:Hp):Prop:=∀b o,H b=δ o->h b=δ o
def ae.refl(H:Hp):ae H H:=λ_ _ h=>h
def ae.trans(a:ae H d)(b:ae d e):ae H e:=λc o h=>b c o (a c o h)
def ae.free(e:ae H a)(h:a l=Option.none):H l=Option.none:=by
 cases q:H l with
 |none=>rfl
 |some o=>rw[e l o q]at h;cases h
def ae.seq{K:Ψ}(e:ae H b)(h:aI K H a x):aI K b a x:=by
 rcases h with (h | ⟨o,h⟩) |h
 .rwa[.inl$ .inl$ e _ _ h]
 .rwa[.inl$ .inr #[o,e _ _ h]]
 .rwa[.inr h]
section
variable {prog:ω}{w:bS}{A:bx}{R:Result->ι->Prop}{s:ι}
abbrev Az:η->ι->Prop:=λ_ _=>False
def pQ{iter:dr}(I:Nat->ι->Prop)
  (T:∀n s,I n s->π (χ prog w) A (pyNext B) (λr S=>match r with
   |none=>R (.ok .next) S
   |some v=>π (χ prog w) A (letOwnedTupleGo t B v) (λ_ b=>π (χ prog w) A (assign t e v) (λ_ d=>
     π (χ prog w) A (forIn l μ λc r=>if r=μ then do let o <- isTrue c e (eval c e);pure (ForInStep.yield o) else pure (ForInStep.yield r)) (λo a=>
      if o=μ then π (χ prog w) A (eval E e) (λx g=>
       π (χ prog w) A (call (.builtin "list.append") [p,x]) (λ_ i=>∃m,m < n/\I m i) Az g) Az a
      else ∃m,m < n/\I m a) Az d) Az b) Az S) Az s)
  (n:Nat) (h:I n s):
  ib (χ prog w) A (.compLoop (.ListComp E [#[t,iter,l,0]] k C) 0 B p e) R s:=by
 erw[codeAny_loop Z I (λn s D=>?_) n h];show π _ A ((compTurn (.ListComp E [#[t,iter,l,0]] k C) 0 B p e).onRaise (λx=>do noteFrame x e;theTreesLotGoes x)) _ _ s;erw[wpAny_noted ?_];rw[compTurn_list];erw[Me$ Oy$ Me$ Nk (T n s D) (λr S H=>?_) λ_ _ f=>f.elim];cases r with
 |none=>rwa[Mh H]
 |some v=>
  erw[Me$ Nk H (λ_ b q=>?_) λ_ _ f=>f.elim];erw[Me$ Nk q (λ_ d u=>Me (Nk u (λo a j=>?_) λ_ _ f=>f.elim)) λ_ _ f=>f.elim];cases o with
  |false=>rwa[Mh #[Z,j]]
  |true=>rwa[Me$ Me$ Nk j (λx g y=>Me (Nk y (λ_ i z=>Mh (Mh #[Z,z])) λ_ _ f=>f.elim)) λ_ _ f=>f.elim]
end
def be(X:Cx)(s:hJ)(M:ri ρ)(c:ri (ρ×ζ))(C:ζ)(f:ri ζ)(S:ι)(H:Hp):Cx where
 prog:=X.prog
 w:=X.w
 K:=X.K
 mg:=X.mg
 base:=X.base
 A:=X.A
 N:=M
 s₀:=S
 H₀:=H
 env:=compEnvC s c C X.env
 outer:=X.stack
 stack:=X.stack
 ex:=f
 fn:=λ_=>ν
 calm:=X.calm
 pn:=[]
 xe:=λ_ _=>False
def El(n:Nat)(I:ri Nat)(a:St):St:=ic n θ++I.map λi=>(a[i]?).getD θ
structure bE(N:ri ρ)(sc scope:hJ)(M:ri ρ)(nT:Nat)(ix:ri Nat):Prop where
 cell:∀y∈scope.names,y.2≠ .cell
 kind:scope.kind= .function
 loc:∀y∈scope.names,y.2= .local->scope.names.lookup y.1=δ .local
 fre:∀y∈scope.names,y.2= .free->sc.names.lookup y.1=δ .cell
 nms:M.drop nT=ix.map λi=>N.getD i Str.empty
 len:ο M=nT+ο ix
 vis:∀i∈ix,scope.names.lookup (N.getD i Str.empty)=δ .free
theorem Jl{E:Env}(c:E.scope.kind= .function):∀{N:ri (ρ×NameKind)} {y:ρ},N.lookup y=δ .free->E.kindOf y=δ .cell->
  (N.map λ(n,k)=>if (k==NameKind.free&&E.scope.kind== .function&&E.kindOf n==δ .cell) then (n,NameKind.cell) else (n,k)).lookup y=δ .cell
 | [],_,h,_=>by simp at h
 | (n,k)::r,y,h,b=>by
  let i:=@Jl E c r y;show fJ y ((if (k==NameKind.free&&E.scope.kind== .function&&E.kindOf n==δ .cell)=μ then (n,NameKind.cell) else (n,k))::_)=_;cases H:y==n with
  |true=>
   simp only[Nq,H]at h;cases h;let e:y=n:=by simpa using H
   subst e;rw[Mv (by rw[c,b];rfl)];simp [Nq]
  |false=>
   simp only[Nq,H]at h;by_cases a:(k==NameKind.free&&E.scope.kind== .function&&E.kindOf n==δ .cell)=μ
   .rw[Mv a];simp only[Nq,H];rwa[i h b]
   .rw[Mx a];simp only[Nq,H];rwa[i h b]
theorem KJ{E:Env}:∀{N:ri (ρ×NameKind)} {y:ρ} {K:NameKind},
  (N.map λ(n,k)=>if (k==NameKind.free&&E.scope.kind== .function&&E.kindOf n==δ .cell) then (n,NameKind.cell) else (n,k)).lookup y=δ K->
  ∃k,N.lookup y=δ k/\(K=k∨k= .free)
 | [],_,_,h=>by simp at h
 | (n,k)::r,y,K,h=>by
  let i:=@KJ E r y K;let h:fJ y ((if (k==NameKind.free&&E.scope.kind== .function&&E.kindOf n==δ .cell)=μ then (n,NameKind.cell) else (n,k))::_)=δ K:=h;cases a:y==n with
  |true=>
   erw[#[k,by simp only[Nq,a],?_]];by_cases H:(k==NameKind.free&&E.scope.kind== .function&&E.kindOf n==δ .cell)=μ
   .right;simp only[Nz]at H;simpa using H.1.1
   .rw[Mx H]at h;simp only[Nq,a]at h;left;exact(M5 h).symm
  |false=>
   let b:fJ y (r.map λ(n,k)=>if (k==NameKind.free&&E.scope.kind== .function&&E.kindOf n==δ .cell) then (n,NameKind.cell) else (n,k))=δ K:=by
    by_cases H:(k==NameKind.free&&E.scope.kind== .function&&E.kindOf n==δ .cell)=μ
    .rw[Mv H]at h;simp only[Nq,a]at h;rwa[h]
    .rw[Mx H]at h;simp only[Nq,a]at h;rwa[h]
   let⟨c,e,q⟩:=i b;exact#[c,by simp only[Nq,a];rwa[e],q]
def aX(e:Env):ri (ρ×NameKind)->ri (ρ×ζ)->ri (ρ×ζ)
 | [],a=>a
 | (n,k)::r,a=>if k== .free then aX e r ((n,(e.cells.lookup n).getD 0)::a) else aX e r a
theorem zV{E:Env}:∀{N:ri (ρ×NameKind)} {acc:ri (ρ×ζ)},(∀y∈N,y.2= .free->∃c,E.cells.lookup y.1=δ c)->(∀x c,acc.lookup x=δ c->E.cells.lookup x=δ c)->
  ∀x c,(aX E N acc).lookup x=δ c->E.cells.lookup x=δ c
 | [],_,_,b,x,c,h=>b x c h
 | (n,k)::r,acc,f,b,x,c,h=>by
  unfold aX at h;by_cases g:(k==NameKind.free)=μ
  .rw[Mv g]at h;erw[zV (λy H=>f y (ML _ H)) (λX j a=>?_) x c h];let⟨C,d⟩:=f (n,k) Mz (g:);let d:E.cells.lookup n=δ C:=d;simp only[Nq]at a;cases i:X==n with
   |true=>
    rw[i]at a;let e:X=n:=by simpa using i
    subst e;rw[d]at a;rw[d];rwa[a]
   |false=>rw[i]at a;rwa[b _ _ a]
  .rw[Mx g]at h;rwa[zV (λy H=>f y (ML _ H)) b x c h]
theorem qy:∀{a:ri (ρ×ζ)},(∃c,(x,c)∈a)->∃c,a.lookup x=δ c
 | [],h=>by let⟨_,h⟩:=h;cases h
 | (n,c)::r,h=>by
  simp only[Nq];cases H:x==n with
  |true=>exact#[c,Z]
  |false=>
   let⟨C,h⟩:=h;rcases Ξ.mp h with e |h
   .injection e with E _;subst E;simp at H
   .rwa[qy #[C,h]]
theorem qU:∀{N:ri (ρ×NameKind)} {a:ri (ρ×ζ)},((∃c,(x,c)∈a)∨(x,NameKind.free)∈N)->∃c,(x,c)∈aX E N a
 | [],_,h=>by
  rcases h with h |h
  .rwa[h]
  .cases h
 | (n,k)::r,a,h=>by
  unfold aX;by_cases H:(k==NameKind.free)=μ
  .rw[Mv H];erw[qU ?_];rcases h with ⟨c,h⟩ |h
   .rwa[.inl #[c,ML _ h]]
   .rcases Ξ.mp h with e |h
    .injection e with b _;subst b;rwa[.inl #[_,Mz]]
    .rwa[.inr h]
  .rw[Mx H];erw[qU ?_];rcases h with h |h
   .rwa[.inl h]
   .rcases Ξ.mp h with e |h
    .injection e with _ d;subst d;rwa[absurd Z H]
    .rwa[.inr h]
theorem qF{e:Env}:∀(N:ri (ρ×NameKind)) (A:ri (ρ×ζ)),(∀y∈N,y.2= .free->∃c,e.cells.lookup y.1=δ c)->
  (forIn N A (λx r=>match x with | (name,K)=>if (K==NameKind.free)=μ then (do let a <- cellOf e name;pure (ForInStep.yield ((name,a)::r))) else pure (ForInStep.yield r)):Sem (List$ ρ×ζ))=pure (aX e N A)
 | [],A,_=>rfl
 | (n,k)::r,A,b=>by
  let i:=λA=>qF r A λy H=>b y (ML _ H);rw[NR];unfold aX;by_cases h:(k==NameKind.free)=μ
  .let⟨C,E⟩:=b (n,k) Mz (h:);let E:e.cells.lookup n=δ C:=E;let d:cellOf e n=pure C:=by unfold cellOf;rw[E]
   rw[Mv h];simp only[h,O6,d,E];rwa[i _]
  .rw[Mx h];simp only[h];rwa[i _]
def qG{e:Env}{S:hJ}(H:∀y∈S.names,y.2= .free->∃c,e.cells.lookup y.1=δ c):closureFor S e=pure (aX e S.names []):=by let h:=qF S.names [] H;rwa[MZ (λt:Sem (List$ ρ×ζ)=>t >>= λs=>pure s) h]
section
variable {X:Cx}{pins:ri (ζ×fx)}{σ:St}{H:Hp}{s:ι}
def Jf(I:ap X pins σ H s)(S:bE X.N X.env.scope a M n i):∀y∈a.names,y.2= .free->∃c,X.env.cells.lookup y.1=δ c:=
 λy h e=>I.ok.has y.1 (.inl$ S.fre y h e)
def sG{g:db}(I:ap X pins σ H s)(F:∀b∈Y,fi X pins H b)(P:∀b∈Y,b < -s)
  (S:bE X.N X.env.scope a M n G) (Q:-s<=C) (O:∀b o,s.heap.get? b=δ o->g.get? b=δ o) (R:g.Ns C m):
  ap (be X a M (aX X.env a.names []) C Y s H) [] (El n G σ) H { s with heap:=g,toks:=tk }:=by
 let sub:∀x c,(aX X.env a.names []).lookup x=δ c->X.env.cells.lookup x=δ c:=zV (Jf I S) (λx c h=>by simp at h);let j:∀x,a.names.lookup x=δ .free->∃c,(aX X.env a.names []).lookup x=δ c:=λx e=>qy (qU$ .inr$ NJ e);let hex:∀x K,(relabel a X.env).names.lookup x=δ K->(K= .cell∨K= .free)->a.names.lookup x=δ .free:=λx K e A=>by
  let⟨k,t,q⟩:=KJ e;rcases q with q |q
  .rcases A with z |z
   .rwa[absurd (q.symm.trans z)$ S.cell (x,k)$ NJ t]
   .rw[t,<- q,z]
  .rw[t,q]
 refine#[#[I.ok.mod,S.kind,I.ok.glob,I.ok.blt,Q,λx y c h1 h2=>I.ok.inj x y c (sub x c h1) (sub y c h2),λx hx=>?_,λx c hx=>?_,I.ok.hd,I.ok.frames,.inl Z,λb w=>#[λz=>?_,λx c e=>?_],I.bs,Mw I.ok.bsz I.sz,λb o e w=>?_,λb w hz=>?_,I.stack,I.stkFree],
  rfl,I.bare,Un.kept O,#[m,R,λk y v t E _=>?_],λx c e=>?_,I.hok.fresh Q,λx c e=>I.freeC x c (sub x c e),λp hp=>absurd (show p∈([]:ri (ζ×fx)) from hp) Lz,I.hok.kept O,?_]
 .rcases hx with hx |hx
  .rwa[j x$ hex x _ hx$ .inl Z]
  .rwa[j x$ hex x _ hx$ .inr Z]
 .rwa[absurd (show ν=μ from hx) LB]
 .let z':b=C:=z;let:=P b w;rw[z']at this;rwa[absurd this$ Nat.not_lt.mpr Q]
 .exact(F b w).2.2.2.2.1 x c (sub x c e)
 .rcases(F b w).2.2.2.1 with z |z
  .rwa[I.ok.noex b o e z]
  .rwa[absurd (MD (Mn e)$ Mw I.ok.bsz z)$ Nt _]
 .rcases Ξ.mp (I.stkSub b hz) with z |z
  .exact(F b w).2.1 z
  .exact(F b w).2.2.1 z
 .let E:(El n G σ)[k]?=δ (δ v):=E;let t:M[k]?=δ y:=t;unfold El at E;by_cases A:k < n
  .rw[N9 (A:),SM]at E;simp [A]at E
  .let B:n<=k:=Px A;rw[N6 (B:),Rb,MH]at E;cases J:G[k - n]? with
   |none=>rw[J]at E;cases E
   |some i=>
    rw[J]at E;let L:(σ[i]?).getD θ=δ v:=M5 E;let V:σ[i]?=δ (δ v):=by
     cases W:σ[i]? with
     |none=>rw[W]at L;cases L
     |some o=>rw[W]at L;rwa[MZ δ L]
    let hi:i < ο X.N:=by rw[<- I.len];exact(ξ.mp V).1
    let e7:y=X.N.getD i Str.empty:=by
     let q:(M.drop n)[k - n]?=δ y:=by rw[Tv];rw[Tt B];rwa[t]
     rw[S.nms,MH,J]at q;exact(M5 q).symm
    let e8:X.N[i]?=δ y:=by rw[e7,Mf hi,OB,Mf hi];rfl
    let d:a.names.lookup y=δ .free:=by rw[e7];rwa[S.vis i$ MM J]
    let f:X.env.scope.names.lookup y=δ .cell:=S.fre (y,.free) (NJ d) Z;let⟨m',_,hl⟩:=I.loc;let⟨u,r,l⟩:=hl i y v e8 V (.inr$ .inl f);erw[#[u,r,?_]];rcases l with ⟨l,_⟩ | ⟨_,c,ec,o,T,U⟩
    .let l:X.env.scope.names.lookup y=δ .local:=l;rw[f]at l;cases l
    .let⟨c',D⟩:=j y d;let q:=sub y c' D;rw[ec]at q;cases q;rwa[.inr #[.inl$ Jl I.ok.kind d f,c,D,o,O _ _ T,U]]
 .let⟨v,o,T,U⟩:=I.cell x c (sub x c e);exact#[v,o,O _ _ T,U]
 .show(El n G σ).length=ο M;rw[S.len];simp [El]
def ap.track(I:ap X pins σ H s)(f:fi X pins H D)(G:X.s₀.heap.objs.size<=D)(a:aK X.prog X.w (ah H D o) s.heap D o):ap X pins σ (ah H D o) s:=by
 let n:=f.1;let N:∀b u,H b=δ u->b≠D:=λb u e=>jk e n;erw[#[I.ok,I.os,I.bare,#[I.base.keep,I.base.slot,λb O e q i=>?_,I.base.there,λb d e=>?_,λb O u e=>?_,λb P e=>?_],I.loc,I.cell,?_,λx c e=>?_,λp h=>?_,λb u e=>?_,I.len]]
 .rw[ji$ Mt$ MD (Mn e) G];rwa[I.base.free b O e q i]
 .let q:=I.base.tups b d e;rw[ji$ N _ _ q];rwa[q]
 .let q:=I.base.frzs b O u e;rw[ji$ N _ _ q];rwa[q]
 .let⟨m,q⟩:=I.base.tbls b P e;exact#[m,by rw[ji$ N _ _ q];rwa[q]]
 .rw[ji$ MX f.2.1];rwa[I.free]
 .rw[ji$ f.2.2.2.2.1 x c e];rwa[I.freeC x c e]
 .let⟨e,q,r⟩:=I.pin p h;exact#[e,by rw[ji$ f.2.2.2.2.2 p h];rwa[q],r]
 .by_cases g:b=D
  .subst g;rw[jc]at e;cases e;rwa[a]
  .rw[ji g]at e;exact(I.hok b u e).stay (λ_ _ _ q=>q) (λc q=>by rw[ji$ N _ _ q];rwa[q]) λc d q=>by rw[ji$ N _ _ q];rwa[q]
abbrev iV(u:ri η):fx:={ cls:=.type "list",data:=.seq u.toArray u.length }
def rq(u:ri η)(y:η):({ cls:=.type "list",data:=.seq (u.toArray.push y) (ο u+1) }:fx)=iV (u++[y]):=by show({ cls:=.type "list",data:=.seq (u.toArray.push y) (ο u+1) }:fx)={ cls:=.type "list",data:=.seq (u++[y]).toArray (u++[y]).length };rw[Ml,Oq,List.push_toArray]
def PF(X:Cx)(i:ri dr)(t:TT):Prop:=
 ∀(pins:ri (ζ×fx)) (s:ι) (σ:St) (H:Hp) (Q:Bool->Hp->Prop),ap X pins σ H s->t σ H Q->
  π (χ X.prog X.w) X.A (forIn i μ λc r=>if r=μ then do let o <- isTrue c X.env (eval c X.env);pure (ForInStep.yield o) else pure (ForInStep.yield r)) (TP X pins σ Q) X.xe s
def mf:TT:=λ_ H Q=>Q μ H
def zI:PF X [] mf:=λ_ _ _ H _ I h=>wpAny_tests_nil #[H,I,h]
def Dr{c:dr}{t:TT}(h:PT X c t):PF X [c] t:=λpins s σ H Q I q=>wpAny_tests_one (h pins s σ H Q I q)
def oR(I:ri Nat)(σ:St):St:=I.map λi=>(σ[i]?).getD θ
def eP(J:It)(n:Nat)(t:St)(g:TG)(j:TT)(k:TE)(Q:ri V->Hp->Prop)(H:Hp):Prop:=
 ∃W:Nat->Nat->ri V->Hp->Prop,(∃m,W 0 m [] H)/\∀i m Y H,W i m Y H->
  (J.stop i H/\Q Y H)∨(J.go i H/\ο Y < υ/\∃N:ri V->Hp->Prop,(∀c h,N c h->∃M,M < m/\W (i+1) M c h)/\
   ∀x d (e:St),ο e=n->J.yld i H x d->g x (e++t) d λa h=>(∃T:St,ο T=n/\a=T++t)/\j a h λb f=>if b=μ then k a f λy l=>N (Y++[y]) l else N Y f)
def KK{iter:dr}
  {RR:η->ζ->Result->ι->Prop} 
  (I:ap X pins σ H s) (hc:X.calm=μ) (T:nS X.prog X.w X.K tg J k it tn) (st:tn 0 s.heap) (hf:∀b∈k,fi X pins H b) (S:bE X.N X.env.scope scope M nT ix)
  (hg:∀cl C k s H,PG (be X scope M cl C k s H) tg g) (hi:∀cl C k s H,PF (be X scope M cl C k s H) i0 tt) (he:∀cl C k s H,PE (be X scope M cl C k s H) e0 te)
  (h:eP J nT (oR ix σ) g tt te Qf H)
  (h':∀D C Y m t G,(∀b o u,H b=δ (.frz o u)->t b=δ (.frz o u))->t D=θ->ap X pins σ (ah t D$ .lst Y) G->fi X pins (ah t D$ .lst Y) C->G.heap.Ns C m->Qf Y t->RR (.ref D) C (.ok .next) G):
  π (χ X.prog X.w) X.A (newList []) (λacc B=>π (χ X.prog X.w) X.A (newFunctionEnv scope X.env.globals (aX X.env scope.names []) [] X.env.qual θ .none$ δ X.env) (λc0 s0=>
   ib (χ X.prog X.w) X.A (.compStart (.ListComp e0 [#[tg,iter,i0,0]] scope p1) 0 (.ref it) acc { c0 with scope:=relabel scope X.env }) (RR acc c0.locals) s0) E B) E s:=by
 obtain⟨W,⟨m0,w0⟩,t1⟩:=h;let h3:∀b∈k,b < -s:=λb a=>by let⟨o,e,_⟩:=T.obj 0 _ st b a;rwa[Mn e]
 erw[M4$ wpAny_newFunctionEnv S.cell (by intro y hy;simp at hy) (λF l f=>?_) S.kind];dsimp only at l f ⊢;generalize h4:s.heap.push { cls:=.type "list",dict:=θ,data:=.seq ([]:ri η).toArray }=H2 at l f ⊢;let hC:H2.objs.size=-s+1:=by rw[<- h4,Na]
 let P:-s≠H2.objs.size:=by rw[hC];rwa[Mt$ NF _]
 let h0:-s<=H2.objs.size:=by rw[hC];rwa[NG _]
 let b0:∀b,b < -s->b≠H2.objs.size/\b≠-s:=λb a=>#[by rw[hC];rwa[Mt$ Of a],Mt a];let o1:∀b o,s.heap.get? b=δ o->F.get? b=δ o:=λb o e=>f.extBut b o (b0 b$ Mn e).1 (Mg _$ h4▸Mg _ e);let h5:F.get? (-s)=δ (iV []):=f.extBut _ _ P (Mg _$ h4▸Mo _ Z);let a0:H (-s)=θ:=I.hok.fresh (Mj _);let h6:-s∉i5 X.stack:=λa=>(Ξ.mp$ I.stkSub _ a).elim (λe=>absurd I.lt (by rw[<- e];rwa[Nt _])) (I.nofs$ Mj _);generalize hD:-s=D at*;generalize b2:H2.objs.size=C at*;let J0:∀tk,ap (be X scope M (aX X.env scope.names []) C k s H) [] (El nT ix σ) H { s with heap:=F,toks:=tk }:=λtk=>sG I hf (by rw[hD];rwa[h3]) S (by rw[hD];rwa[h0]) o1 l;let c1:∀x c,(aX X.env scope.names []).lookup x=δ c->c≠D:=λx c e z=>by let sub:=zV (Jf I S) (acc:=[]) (λx c h=>by simp at h) x c e;let⟨v,o,ho,_⟩:=I.cell x c sub;let:=Mn ho;rw[z,hD]at this;rwa[Nt _ this]
 let p0:∀{σ0:St} {t:Hp} {G:ι} {U:ri η},ap (be X scope M (aX X.env scope.names []) C k s H) [] σ0 t G->G.heap.get? D=δ (iV U)->t D=θ->
   ap (be X scope M (aX X.env scope.names []) C k s H) [(D,iV U)] σ0 t G:=λ{σ0 t G U} I' e n=>I'.pins_of λp hp=>by
  let ep:p=(D,iV U):=by simpa using hp
  subst ep;exact#[e,n,P,h6,λv z=>by cases z]
 let L:∀{t:Hp} {U:ri η},(∀b∈k,t b=θ)->∀b∈k,fi (be X scope M (aX X.env scope.names []) C k s H) [(D,iV U)] t b:=λ{t U} hn b a=>
  #[hn b a,((J0 0).ok.exf b a).1,(J0 0).ok.exfs b a,.inl a,((J0 0).ok.exf b a).2,λp hp z=>by
   let ep:p=(D,iV U):=by simpa [be] using hp
   rw[ep]at z;let:=h3 b a;rw[<- z]at this;rwa[Nt _ this]]
 let l0:∀B:ι,(∃tk,B={ s with heap:=F,toks:=tk })->
   ib (χ X.prog X.w) X.A (.compLoop (.ListComp e0 [#[tg,iter,i0,0]] scope p1) 0 (.ref it) (.ref D)$ compEnvC scope (aX X.env scope.names []) C X.env) (RR (.ref D) C) B:=by
  rintro B ⟨tk,rfl⟩;refine pQ (λn G=>∃i Y U ts t,ο ts=nT/\ap (be X scope M (aX X.env scope.names []) C k s H) [(D,iV U)] (ts++oR ix σ) t G/\ay Y U/\ο Y<=υ/\tn i G.heap/\(∀b∈k,t b=θ)/\W i n Y t) ?_ m0
   #[0,[],[],ic nT θ,H,Rb,p0 (J0 tk) h5 a0,.nil,Mu _,T.keep _ _ _ st λb a o e=>o1 b o e,λb a=>(hf b a).1,w0]
  rintro n s1 ⟨i,Y,U,ts,Q,a1,I1,rv,hz,s7,f0,w1⟩;rcases t1 i n Y Q w1 with ⟨stop,q⟩ | ⟨go,a2,N,hN,step⟩
  .erw[aU (T.done (be X scope M (aX X.env scope.names []) C k s H) Z Z Z hc i _ s1 _ Q Az I1 (L f0) s7 stop) λr s2 j=>?_];let⟨hr,I2⟩:=j;subst hr;let IO:ap X pins σ Q s2:=I.call' (ch:=k) I2.os I2.base I2.hok I2.bare λb a=>#[(hf b a).2.2.2.1,(hf b a).2.1,(hf b a).2.2.2.2.1,(hf b a).2.2.2.2.2];let pD:=I2.pin (D,iV U) (by simp [be]);let h8:Q D=θ:=pD.2.1;let fD:fi X pins Q D:=by rw[<- hD];exact I.fpOk (Mj _) (by rw[hD];exact h8)
   let IT:ap X pins σ (ah Q D$ .lst Y) s2:=IO.track fD (by rw[<- hD];rwa[I.sz]) #[hz,U,U.length,rv,pD.1];let⟨mC,a3,_⟩:=I2.loc;let a4:Q C=θ:=I2.free;rwa[h' D C Y mC Q s2 I2.base.frzs h8 IT (I.fpOk (by rw[hD];rwa[h0]) (by rw[ji$ MX P];rwa[a4])) a3 q]
  .erw[aU (T.item (be X scope M (aX X.env scope.names []) C k s H) Z Z Z hc i _ s1 _ Q Az I1 (L f0) s7 go) λr s2 j=>?_];let⟨u,hr,h2⟩:=j;subst hr;erw[aU h2 λ_ s3 j=>?_];let⟨x,H3,I3,r3,y3,O,f1⟩:=j;let a':=I3.pinned (L f1) (T.obj _ _ O);erw[aU (hg _ _ _ _ _ _ s3 _ H3 x u _ a' r3$ step x H3 ts a1 y3) λ_ s4 j=>?_];obtain⟨σ1,H4,I4,⟨t0,h1,e4⟩,q4⟩:=j;subst e4;erw[aU (hi _ _ _ _ _ _ s4 _ H4 _ I4 q4) λb s5 j=>?_];let⟨H5,I5,q5⟩:=j;cases b with
   |false=>obtain⟨m',hm,w'⟩:∃m',m' < n/\W (i+1) m' Y H5:=hN _ _ q5;erw[#[m',hm,i+1,Y,U,t0,H5,h1,I5.unpinned,rv,hz,T.keep _ _ _ O λb a o e=>(I5.pin (b,o)$ MK _$ MK _$ zd a e).1,λb a=>?_,w']];let⟨o,e,d⟩:=T.obj _ _ O b a;exact(I5.pin (b,o)$ MK _$ MK _$ zd a e).2.1
   |true=>
    erw[aU (he _ _ _ _ _ _ s5 _ H5 _ I5 q5) λv s6 j=>?_];let⟨y,H6,I6,r6,q6⟩:=j;let⟨m',hm,w'⟩:=hN _ _ q6;let pD:=I6.pin (D,iV U) (MK _$ NB _ Mz);let hl:=rv.length;let R:∀b∈k,∀o,s3.heap.get? b=δ o->s6.heap.get? b=δ o:=λb a o e=>(I6.pin (b,o)$ MK _$ MK _$ zd a e).1;let V:∀b∈k,H6 b=θ:=λb a=>by let⟨o,e,d⟩:=T.obj _ _ O b a;exact(I6.pin (b,o)$ MK _$ MK _$ zd a e).2.1
    erw[append_at (hsz:=by rw[Mm,<- hl];rwa[hz]) pD.1 λh7 sb b1=>?_];let I7:ap (be X scope M (aX X.env scope.names []) C k s H) [] (t0++oR ix σ) H6 { s6 with heap:=h7 }:=
     (I6.pins_of (pins':=[]) λp hp=>absurd hp Lz).turned (t':=s6.toks) (it:=D) (λb o a e=>(sb.2 b a).trans e) pD.2.1 P (.inr (by show -s<=D;rw[hD];rwa[Mj _])) c1 λp hp=>absurd (show p∈([]:ri (ζ×fx)) from hp) Lz
    refine#[m',hm,i+1,Y++[y],U++[v],t0,H6,h1,p0 I7 (b1.trans$ MZ δ$ rq U v) pD.2.1,rv.append$ .cons r6 .nil,by rw[Ml,Oq];exact a2,
     T.keep _ _ _ (T.keep _ _ _ O R) λb a o e=>(sb.2 b λz=>?_).trans e,V,w']
    let:=h3 b a;rw[z]at this;rwa[Nt _ this]
 rwa[codeAny_compStart_list (l0 _ #[_,Z])$ T.self _ 0 _ _ _ (T.keep _ _ _ st λb a o e=>o1 b o e)$ l0 _ #[_,Z]]
def v6(w:TI)(n:Nat)(i:ri Nat)(g:TG)(t:TT)(T:TE):TE:=λσ H Q=>w σ H λJ a=>eP J n (oR i σ) g t T (λy h=>∀p,h p=θ->Q (.ref p) (ah h p$ .lst y)) a
def zi{t E iter:dr}{i:ri dr}{a:hJ}{p:Pos}{M:ri ρ}{k:Nat}{l:ri Nat}{W:TI}{g:TG}{r:TT}{u:TE}(v:X.calm=μ)(y:PI X t iter W)(S:bE X.N X.env.scope a M k l)
  (z:∀c C f s H,PG (be X a M c C f s H) t g) (B:∀c C f s H,PF (be X a M c C f s H) i r) (G:∀c C f s H,PE (be X a M c C f s H) E u)
  (K:∀x,foldedSetIterable iter X.env x=pure x:=by intro _;rfl):
  PE X (.ListComp E [#[t,iter,i,0]] a p) (v6 W k l g r u):=by
 intro pins s σ H Q I h;rw[eval_ListComp];erw[Tk (use:=θ) Z K (qG$ Jf I S) S.kind S.loc$ aU (y pins s σ H _ I h) λxv s1 L=>aU L λO s2 P=>?_];let⟨it,f,tn,J,H2,e,U,T,d,V,R⟩:=P;subst e;erw[KK (RR:=λj C=>compPost (χ X.prog X.w) X.A X.xe θ (EP X pins σ Q) j C) U v T d V S z B G R ?_];intro D C ys m H' Y _ n I' F ns q;exact#[m,ns,λh' sb=>#[.ref D,_,I'.turned (t':=Y.toks) (λb o hb e=>(sb.2 b hb).trans e) F.1 F.2.1 F.2.2.2.1 F.2.2.2.2.1 F.2.2.2.2.2,Z,q D n]]
def Zk{t E iter:dr}{d:ri dr}{c:hJ}{p P f:Pos}{y:ρ}{i:Nat}{M:ri ρ}{U:Nat}{V:ri Nat}{W:TI}{g:TG}{Y:TT}{te:TE}(hN:X.N.Nodup)(hy:X.N[i]?=δ y)(hx:sA X.env.scope y)
  (hc:X.calm=μ) (hI:PI X t iter W) (S:bE X.N X.env.scope c M U V)
  (hg:∀l C j s H,PG (be X c M l C j s H) t g) (hi:∀l C j s H,PF (be X c M l C j s H) d Y) (he:∀l C j s H,PE (be X c M l C j s H) E te)
  (r:↥(swapsWith (.ListComp E [#[t,iter,d,0]] c p) (δ$ .Name y P) f.line X.env=pure μ))
  (hf:autoParam (X.fn y=μ∨X.env.scope.names.lookup y=δ .local) Wb._auto_1)
  (hs:∀x,foldedSetIterable iter X.env x=pure x:=by intro _;rfl):
  PS X (.Assign [.Name y P] (.ListComp E [#[t,iter,d,0]] c p) f) (λD σ H=>v6 W U V g Y te σ H λv H1=>D.nx (σ.set i$ δ v) H1):=by
 intro pins s σ H D I h;rw[exec_Assign_Name_used _ _ _ _ r];erw[Me$ Oy$ Me ?_];show π _ X.A (do let _ <- comprehension (.ListComp E [#[t,iter,d,0]] c p) c X.env _ (newList []) ν (eval iter X.env) (δ$ assign (.Name y P) X.env)) _ _ s;refine Me (aU (Tk (use:=δ (assign (.Name y P) X.env)) (Q:=λ_ k=>SP X pins D .next k) Z hs (qG$ Jf I S) S.kind S.loc
  (aU (hI pins s σ H _ I h) λxv s1 h1=>aU h1 λi0 s2 h2=>?_)) λ_ k hq=>Mh (Mh hq))
 let⟨it,j,tn,J,H2,e,I2,T,u,f2,R⟩:=h2;subst e;erw[KK (RR:=λB C=>compPost (χ X.prog X.w) X.A X.xe (δ$ assign (.Name y P) X.env) (λ_ k=>SP X pins D .next k) B C) I2 hc T u f2 S hg hi he R ?_];intro Dd C ys m H' k _ n I' F ns q;show π _ X.A (assign (.Name y P) X.env$ .ref Dd) _ _ k;erw[UA$ Qu I' hN hy hx (v:=.ref Dd) Z (λG K hh=>?_) hf];let⟨a,sb,ha⟩:=hh;let L:C≠a:=by
  rcases ha with z |z
  .rw[z];rwa[F.2.1]
  .rwa[MX$ F.2.2.2.2.1 _ _ z]
 exact#[m,ns.sameBut sb L,λh' O=>#[_,_,K.turned (t':=G.toks) (λb o hb e=>(O.2 b hb).trans e) F.1 F.2.1 F.2.2.2.1 F.2.2.2.2.1 F.2.2.2.2.2,q Dd n]]
end
section
variable {X:Cx}
def Em(i j:Int):Prop:=0 < j/\j<=1000000000000000000
def Kt:eW X (binaryOp .FloorDiv) (rI Em λi j=>.int (i / j)):=Fz λi j _ _ _ _ _ h q=>by
 let b:(0:Int) < j:=h.1;let c:j<=1000000000000000000:=h.2;erw[floordiv_int LA (by rw[Sw i LA];rwa[q])$ .inl$ PyProof.noPylong_of_log2 ?_];let H:j.natAbs≠0:=LA
 let a:j.natAbs < 2 ^ 60:=by rwa[N09]
 let d:j.natAbs.log2 < 60:=(Nat.log2_lt H).mpr a;omega
def HX:V->rm η
 | .ty n=>δ (.type n)
 | .ref a=>↑a
 |_=>θ
inductive qH(K:Ψ)(a:ri V)(H:Hp)(Q:VK):Prop
 |mk(x y c t b:_)(_:a=[x,y])(_:HX y=δ c)(_:gK K H x t)(_:kitOne K t c=δ b)(_:Q (.bl b) H)
def zf:dA X (.builtin "isinstance") (qH X.K):=by
 intro p s g H i U Q I r h;let⟨x,y,c,t,b,rfl,d,ty,e,q⟩:=h;let⟨u,w,rfl,f,R⟩:=wB r;let E:w=c:=by
  cases y with
  |ty n |ref a=>rwa[Eq.trans R (M5 d)]
  |_=>cases d
 subst E;rwa[Z4 I f ty e λT=>#[.bl b,H,I.tok T,Z,q]]
theorem zW:∀{Y:ri ρ} {U:ri η},ay (Y.map qr) U->StrsAre U Y
 | [],_,.nil=>.nil
 |y::r,_,.cons (b:=u) h t=>by obtain⟨T,e⟩:∃T,u=ks y T:=h;subst e;rwa[.cons y T$ zW t]
inductive QC(K:Ψ)(x:V)(a:ri V)(H:Hp)(Q:VK):Prop
 |mk(z:ρ)(p:ζ)(b:ri ρ)(_:x= .str z)(_:a=[.ref p])(_:aI K H p (b.map qr))(_:z.length<=16)(_:(b.map (·.length)).sum+ο b<=1048576)(_:Q (.str (Txt.join z b)) H)
def Q3:HK X "str.join" (QC X.K):=by intro P s j H x l v U Q I r R h;let⟨z,p,y,rfl,rfl,a,b,c,q⟩:=h;let⟨u,rfl,d⟩:=eG R;cases d;let⟨t,rfl⟩:=r;let⟨i,e,f,g⟩:=I.list a;rwa[join_listW f.isList (zW e:) b c λT k=>#[.str _,H,I.tok k,#[_,Z],q]]
def sK:dr->rm V
 | .Constant (.str x) _ _=>δ (.str x)
 | .Constant (.int i) _ _=>δ (.int i)
 |_=>θ
def Dp(h:sK e=δ v):PE X e (tC v):=by
 cases e with
 |Constant c j p=>
  cases c with
  |str x=>cases h;rwa[jl]
  |int i=>cases h;rwa[jf]
  |_=>cases h
 |_=>cases h
def vW(h:sK e=δ v):Δ (e::a) E=(ν,eval e E)::Δ a E:=by
 cases e with
 |Constant c j p=>rfl
 |_=>cases h
def tU(e:dr):Bool:=(sK e).isSome
def sJ(e:dr):V:=(sK e).getD .non
theorem Q4:∀{E:ri dr},E.all tU=μ->PA X E (λ_ H Q=>Q (E.map sJ) H)
 | [],_=>jb
 |e::E,h=>by
  rw[SG,Nz]at h;let⟨v,a⟩:=pw.mp (show(sK e).isSome=μ from h.1);let b:sJ e=v:=by unfold sJ;rw[a];rfl
  rw[NH,b];rwa[ja (Dp a) (Q4 h.2)$ vW a]
def pY{E:ri dr}(h:E.all tU=μ):(E.map sJ).all cy=μ:=by
 rw[Pq]at h ⊢;intro v H;let⟨e,a,rfl⟩:=dg.mp H;let q:=h e a;unfold tU at q;unfold sJ;cases e with
 |Constant c j p=>
  cases c with
  |str x |int i=>rfl
  |_=>rwa[absurd q Mq]
 |_=>rwa[absurd q Mq]
def Gx(t:TS):TS:=λD b H=>∃R:St->Hp->Prop,t { D with nx:=R } b H/\∀a h,R a h->D.nx a h
def j6{st:cv}{t:TS}(h:PS X st t):PS X st (Gx t):=by
 intro p s b H D I c;let⟨R,d,e⟩:=c;erw[aU (h p s b H _ I d) λf S q=>?_];cases f with
 |next=>let⟨a,g,i,q⟩:=q;exact#[a,g,i,e _ _ q]
 |brk |cont |ret v=>rwa[q]
def xQ{t:St}(h:ο t=1):∃v,t=[v]:=by
 cases t with
 |nil=>cases h
 |cons v r=>
  cases r with
  |nil=>exact#[v,Z]
  |cons _ _=>cases h
def X0{lo:Int}{t:TE}{Q:ri V->Hp->Prop}(Pv:Nat->ri V->Hp->Prop)(g:Pv 0 [] H)(j:n<=υ)(b:∀i Y h,Pv i Y h->ο Y<=i)
  (k:∀i Y h,i < n->Pv i Y h->t (δ (.int$ lo+i)::c) h λy d=>Pv (i+1) (Y++[y]) d) (l:∀Y h,Pv n Y h->Q Y h):
  eP (wJ lo n) 1 c (bo 0) mf t Q H:=by
 erw[#[λi m Y h=>m=n - i/\i<=n/\Pv i Y h,#[n,Lz,Mu _,g],?_]];rintro i m Y h ⟨rfl,q,p⟩;by_cases a:i < n
 .erw[.inr #[a,NN (b i Y h p)$ MD a j,Pv$ i+1,λo d P=>#[n - (i+1),N09,Z,a,P],λx d T f y=>?_]];let⟨e,y⟩:=y;subst e y;let⟨v,rfl⟩:=xQ f;exact#[#[[δ _],Z,Z],k i Y _ a p]
 .let e:i=n:=by omega
  subst e;rwa[.inl #[Mj _,l Y h p]]
end
section
variable {κ:Type}[DecidableEq κ]
def dM(K:ri (κ×V))(k:κ):rm V:=(K.find? λa=>decide (a.1=k)).map (·.2)
def bM(K:ri (κ×V))(k:κ)(v:V):ri (κ×V):=
 if (K.any λa=>decide (a.1=k))=μ then K.map (λa=>if a.1=k then (a.1,v) else a) else K++[(k,v)]
def Ku{p:κ×V}(e:p.1=k):dM (p::r) k=δ p.2:=by simp [dM,Ob,e]
def Kv{p:κ×V}(e:¬p.1=k):dM (p::r) k=dM r k:=by simp [dM,Ob,e]
theorem Xu(k:κ):∀K:ri (κ×V),(K.any λa=>decide (a.1=k))=(dM K k).isSome
 | []=>rfl
 |p::r=>by
  rw[Pl];by_cases e:p.1=k
  .simp only[Ku e,MN e,UK,Option.isSome_some]
  .rw[Kv e,My e,Bool.false_or];rwa[Xu k r]
def qv(K:ri (κ×V))(k:κ)(v:V):(bM K k v).length<=ο K+1:=by
 unfold bM;split
 .rw[Mi];omega
 .rw[Ml,MV,RX];omega
def dX.isSome_eq(r:dX o u):o.isSome=u.isSome:=by
 cases o with
 |none=>cases u with
  |none=>rfl
  |some _=>exact(show False from r).elim
 |some _=>cases u with
  |none=>exact(show False from r).elim
  |some _=>rfl
def dX.getD(r:dX o u)(R:aE d D):aE (o.getD d) (u.getD D):=by
 cases o with
 |none=>cases u with
  |none=>rwa[R]
  |some _=>exact(show False from r).elim
 |some _=>cases u with
  |none=>exact(show False from r).elim
  |some _=>rwa[r]
def KV.val(r:KV a v)(k:κ):dX (dM a k) (valueAt v k):=by
 unfold KV at r;induction r with
 |nil=>rwa[True.intro]
 | @cons p q P Q h t i=>
  let⟨H,c⟩:=h;by_cases e:p.1=k
  .let E:q.1=k:=H.symm.trans e;let b:valueAt (q::Q) k=δ q.2:=by simp [valueAt,Ob,E]
   rw[Ku e,b];rwa[c]
  .let E:¬q.1=k:=λz=>e (H.trans z);let b:valueAt (q::Q) k=valueAt Q k:=by simp [valueAt,Ob,E]
   rw[Kv e,b];rwa[i]
def KV.any(r:KV a v)(k:κ):(a.any λK=>decide (K.1=k))=v.any λK=>decide (K.1=k):=by
 unfold KV at r;induction r with
 |nil=>rfl
 |cons h t i=>rw[Pl,Pl,i,h.1]
def KV.repl(r:KV a v)(k:κ)(R:aE y u):
  KV (a.map λK=>if K.1=k then (K.1,y) else K) (v.map λK=>if K.1=k then (K.1,u) else K):=by
 unfold KV at r ⊢;induction r with
 |nil=>rwa[.nil]
 | @cons p q P Q h t i=>
  rw[NH,NH];erw[.cons ?_ i];let⟨H,b⟩:=h;by_cases e:p.1=k
  .rw[Mv e,Mv$ H.symm.trans e];exact#[H,R]
  .rw[Mx e,Mx (λz=>e (H.trans z))];exact#[H,b]
def KV.put(r:KV a v)(k:κ)(R:aE y u):KV (bM a k y) (stored v k u):=by
 unfold bM stored;rw[r.any k];by_cases e:(v.any λK=>decide (K.1=k))=μ
 .rw[Mv e,Mv e];rwa[r.repl k R]
 .rw[Mx e,Mx e];rwa[Paired.snoc r #[Z,R]]
def KV.length(r:KV k v):ο k=ο v:=Paired.length r
end
def Qp{P:ω}(r:aE (kV k) u):(aZ P w).is k u=μ:=by
 cases k with
 |inl i=>let⟨t,e⟩:=(show ∃t,u=gs i t from r);subst e;rwa[XY P w i t]
 |inr x=>let⟨t,e⟩:=(show ∃t,u=ks x t from r);subst e;rwa[XZ P w x t]
theorem QD{P:ω}:∀{K:ri bu} {u:ri η},ay (K.map kV) u->ItemsAre (aZ P w) K u
 | [],_,r=>by rw[UG]at r;cases r;rwa[.nil]
 |k::K,_,r=>by
  rw[NH]at r;cases r with
  |cons h t=>rwa[.cons (Qp h) (QD t)]
abbrev KT(H:Hp):ri (ri bu×V)->ri (ri bu×ζ×η)->Prop:=Paired λp q=>p.1=q.1/\H q.2.1=δ (.tup$ p.1.map kV)/\aE p.2 q.2.2
def KT.val(r:KT H a x)(k:ri bu):dX (dM a k) ((atKey x k).map (·.2)):=by
 induction r with
 |nil=>rwa[True.intro]
 | @cons p q P Q h t i=>
  let⟨c,_,d⟩:=h;by_cases e:p.1=k
  .let E:q.1=k:=c.symm.trans e;let b:atKey (q::Q) k=δ q.2:=by simp [atKey,Ob,E]
   rw[Ku e,b];rwa[d]
  .let E:¬q.1=k:=λz=>e (c.trans z);let b:atKey (q::Q) k=atKey Q k:=by simp [atKey,Ob,E]
   rw[Kv e,b];rwa[i]
def KT.repl(r:KT H b x)(k:ri bu)(R:aE y u):
  KT H (b.map λK=>if K.1=k then (K.1,y) else K) (x.map$ putAt k u):=by
 induction r with
 |nil=>rwa[.nil]
 | @cons p q P Q h t i=>
  rw[NH,NH];erw[.cons ?_ i];let⟨a,c,d⟩:=h;unfold putAt;by_cases e:p.1=k
  .rw[Mv e,Mv$ a.symm.trans e];exact#[a,c,R]
  .rw[Mx e,Mx (λz=>e (a.trans z))];exact#[a,c,d]
def KT.put(r:KT H a x)(k:ri bu)(h:H b=δ (.tup$ k.map kV))(R:aE y u):
  KT H (bM a k y) (storedH x k b u):=by
 let e:(a.any λK=>decide (K.1=k))=(atKey x k).isSome:=by rw[Xu,(r.val k).isSome_eq,Tp]
 unfold bM storedH;rw[e];by_cases q:(atKey x k).isSome=μ
 .rw[Mv q,Mv q];rwa[r.repl k R]
 .rw[Mx q,Mx q];rwa[Paired.snoc r #[Z,h,R]]
def KT.keeps{h:Hp}(r:KT H k x)(a:∀b y,H b=δ (.tup y)->h b=δ (.tup y)):KT h k x:=
 Paired.mapP r λ_ _ z=>#[z.1,a _ _ z.2.1,z.2.2]
section
variable {P:ω}{w:bS}{H:Hp}{h:db}{a:ζ}
def A7(o:eQ P w H h)(e:Rd H a u):aK P w H h a u:=e.ok o
def Kb(o:eQ P w H h)(e:Rd H a (.dK k)):ο k<=υ/\(a==sysModules)=ν/\∃v,KV k v/\h.DictOf (aZ P w) a v:=
 show aK P w H h a (.dK k) from A7 o e
def sS(o:eQ P w H h)(e:H a=δ (.dK k)):ο k<=υ/\(a==sysModules)=ν/\∃v,KV k v/\h.DictOf (aZ P w) a v:=Kb o (.inl e)
def Kk{k:ri bu}(O:eQ P w H h)(e:H a=δ (.tup$ k.map kV)):(tupleKind$ aZ P w).is h k a:=by let⟨_,i,r,o,b,c,n,d⟩:=(show aK P w H h a (.tup$ k.map kV) from O a _ e);exact#[o,i.toArray,n,b,c,d,by simpa using QD r]
def Qq(O:eQ P w H h)(e:Rd H a (.dT k)):ο k<=υ/\(a==sysModules)=ν/\
  ∃X,KT H k X/\h.DictOfH (tupleKind$ aZ P w) a X:=by
 let⟨z,y,X,r,o,E,c,d,f,g,i,j⟩:=(show aK P w H h a (.dT k) from A7 O e);erw[#[z,y,X,r,o,E,c,d,f,g,i,λx hx=>?_,j]];let all:∀{l:ri (ri bu×V)} {m:ri (ri bu×ζ×η)},KT H l m->∀x∈m,(tupleKind$ aZ P w).is h x.1 x.2.1:=by
  intro l m q;induction q with
  |nil=>intro x hx;rwa[nomatch hx]
  | @cons p q n Q b t I=>
   intro x hx;rcases Ξ.mp hx with e |hx
   .subst e;rwa[Kk O (by rw[<- b.1];rwa[b.2.1])]
   .rwa[I x hx]
 rwa[all r x hx]
def EN(o:eQ P w H h)(e:H a=δ (.dT k)):ο k<=υ/\(a==sysModules)=ν/\
  ∃x,KT H k x/\h.DictOfH (tupleKind$ aZ P w) a x:=Qq o (.inl e)
end
def fh(H:Hp)(a:ζ)(y:V)(r:rm V):Prop:=
 (∃K k,Rd H a (.dK K)/\y=kV k/\r=dM K k)∨∃K k b,Rd H a (.dT K)/\y= .ref b/\H b=δ (.tup$ k.map kV)/\r=dM K k
def nK(H:Hp)(a:ζ)(y v:V)(h:Hp):Prop:=
 (∃K k,H a=δ (.dK K)/\y=kV k/\ο K < υ/\h=ah H a (.dK$ bM K k v))∨
 ∃K k b,H a=δ (.dT K)/\y= .ref b/\H b=δ (.tup$ k.map kV)/\ο K < υ/\h=ah H a (.dT$ bM K k v)
def fh.k{H:Hp}{k:bu}(e:H a=δ (.dK b)):fh H a (kV k) (dM b k):=.inl #[b,k,.inl e,Z,Z]
def nK.k{H:Hp}{k:bu}(e:H a=δ (.dK b))(h:ο b < υ):nK H a (kV k) v (ah H a$ .dK$ bM b k v):=.inl #[b,k,e,Z,h,Z]
section
variable {X:Cx}{pins:ri (ζ×fx)}{σ:St}{H:Hp}{s:ι}{a:ζ}{y v:V}{u r:η}{o:rm V}{A:bx}{E:η->ι->Prop}
def ap.big(I:ap X pins σ H s):sysModules < -s:=by let h:Φ < -s:=(I.mod.glob.keeps I.bk).lt;rwa[Nat.lt_trans LB h]
def pR{Q:η->ι->Prop}(m:A.units+1 < cLine)(I:ap X pins σ H s)(g:fh H a y (δ v))(j:aE y u)(h:∀W S,ap X pins σ H S->aE v W->Q W S):
  π (χ X.prog X.w) A (getItem (.ref a) u) Q E s:=by
 rcases g with ⟨K,k,e,d,l⟩ | ⟨K,k,b,e,d,n,l⟩
 .subst d;let⟨z,q,t,R,D⟩:=Kb I.hok e;let⟨W,f,c⟩:=dX.some_of (v:=v) (o:=valueAt t k) (by rw[l];rwa[R.val k]);rwa[wpAny_getItem_of (Qp j) D.mapOf f$ h W _ (I.tok _) c]
 .subst d;cases (show u=Θ b from j);let⟨z,q,x,R,D⟩:=Qq I.hok e;let⟨W,f,c⟩:=dX.some_of (v:=v) (o:=(atKey x k).map (·.2)) (by rw[l];rwa[R.val k]);let⟨p,B,i⟩:=dt.mp f;erw[wpAny_getItem_heap (Pn m) (Kk I.hok n) D B ?_];rw[i];rwa[h W _ (I.tok _) c]
def Ia{Q:η->ι->Prop}(i:A.units+1 < cLine)(I:ap X pins σ H s)(g:fh H a y o)(f:aE y u)(h:∀S,ap X pins σ H S->Q (.bool o.isSome) S):
  π (χ X.prog X.w) A (compareOp .In u$ .ref a) Q E s:=by
 rcases g with ⟨K,k,e,c,l⟩ | ⟨K,k,b,e,c,j,l⟩
 .subst c;let⟨z,d,m,R,D⟩:=Kb I.hok e;erw[wpAny_in_of (Qp f) d D.mapOf ?_];rw[<- (R.val k).isSome_eq,<- l];rwa[h _$ I.tok _]
 .subst c;cases (show u=Θ b from f);let⟨z,d,x,R,D⟩:=Qq I.hok e;erw[wpAny_in_heap (Pn i) (Kk I.hok j) d D ?_];let q:=(R.val k).isSome_eq;rw[Tp]at q;rw[<- q,<- l];rwa[h _$ I.tok _]
def Zl(I:ap X pins σ H s)(m:Ex (H a))(c:ey a s.heap h)(d:∃q,h.get? a=δ q)(n:aK X.prog X.w (ah H a O) h a O):
  ap X pins σ (ah H a O) { s with heap:=h,toks:=t }:=
 I.write (x:=a) (e:=a) m (.inl Z) (λb q f z=>(c.2 b f).trans z) d n
def Yj{P:ω}{h:db}{k:ri (bu×V)}(z:ο k<=υ)(c:(a==sysModules)=ν)(R:KV k b)(d:h.DictOf (aZ P w) a b):
  aK P w e h a (.dK k):=#[z,c,b,R,d]
def pS{Q:Unit->ι->Prop}(J:A.units+1 < cLine)(I:ap X pins σ H s)(g:nK H a y v L)(x:aE y u)(B:aE v r)(h:∀S,ap X pins σ L S->Q () S):
  π (χ X.prog X.w) A (setItem (.ref a) u r) Q E s:=by
 rcases g with ⟨K,k,e,i,l,j⟩ | ⟨K,k,b,e,i,C,l,j⟩
 .subst i j;let⟨z,m,M,R,D⟩:=sS I.hok e;let n:ο M<=υ:=by rw[<- R.length];exact z
  let p:(bM K k v).length<=υ:=by let:=qv K k v;omega
  erw[wpAny_setItem_pairs (hsz:=n) (Qp x) D λF d t=>h _ ?_];let N:∃q,F.get? a=δ q:=let #[q,_,_,f,_]:=d;#[q,f]
  rwa[Zl I (by rw[e];rwa[True.intro]) t N$ Yj p m (R.put k B) d]
 .subst i j;cases (show u=Θ b from x);let⟨z,m,O,R,D⟩:=EN I.hok e;let n:ο O<=υ:=by rw[<- Paired.length R];exact z
  let p:(bM K k v).length<=υ:=by let:=qv K k v;omega
  erw[wpAny_setItem_heap (hsz:=n) (Pn J) (Kk I.hok C) D λF d t=>h _ ?_];let⟨q,P,T,f,U,W,Y,_,h5⟩:=d;erw[Zl I (by rw[e];rwa[True.intro]) t #[q,f] #[p,m,_,(R.put k C B).keeps λc ys G=>?_,q,P,T,f,U,W,Y,h5]];rw[ji$ jN G e (λz=>nomatch z)];rwa[G]
end
def Ey(i:dr):Prop:=∀o I,subscripted i ν o I=operate [o,I] (getItem o I)
def Ae{id:String}
  (k:typeLookup (.type T) "__getitem__"=pure (δ$ .builtin id)) (l:Ey a)
  (h:π (χ p w) A (eval v e) (λo b=>π (χ p w) A (eval a e) (λi S=>S.TypeIs o T/\π (χ p w) A (getItem o i) Q E S) E b) E s):
  π (χ p w) A (eval (.Subscript v a m) e) Q E s:=by
 erw[Uw$ Nk h (λo b d=>Nk d (λi S H=>?_) λ_ _ x=>x) λ_ _ x=>x];let⟨j,H⟩:=H;unfold subscriptTail;erw[Me ?_];rw[getitemInPython_of_ne j.not_modules];erw[Me$ NZ j k ?_];let f:π (χ p w) A (subscripted a ν o i) (λr c=>π (χ p w) A (letTemporaryGo v o r >>= λ_=>pure r) Q E c) E S:=by rw[l o i];rwa[wpAny_operating$ Nk H (λr c g=>Me (wpAny_letTemporaryGo$ Mh g)) λ_ _ x=>x]
 first
  |exact Mh (Me f)
  |exact Me (Mh (Me f))
  |exact Me f
def X1{X:Cx}(I:ap X p c H s)(g:fh H a y o):s.TypeIs (.ref a) "dict":=by
 rcases g with ⟨K,k,e,_,_⟩ | ⟨K,k,b,e,_,_,_⟩
 .let⟨_,_,v,_,d⟩:=Kb I.hok e;rwa[d.typeIs]
 .let⟨_,_,x,_,d⟩:=Qq I.hok e;rwa[d.typeIs]
inductive wb(Q:VK)(x y:V)(b:Hp):Prop
 |mk(a v:_)(_:x= .ref a)(_:fh b a y (δ v))(_:Q v b)
def Gu(t T:TE):TE:=λa H Q=>t a H λx h=>T a h (wb Q x)
inductive Bm(Q:VK)(y x:V)(b:Hp):Prop
 |mk(a o:_)(_:x= .ref a)(_:fh b a y o)(_:Q (.bl o.isSome) b)
def IB(t T:TE):TE:=λa H Q=>t a H λy h=>T a h (Bm Q y)
inductive uX(D:a9)(d:St)(v x y:V)(b:Hp):Prop
 |mk(a c:_)(_:x= .ref a)(_:nK b a y v c)(_:D.nx d c)
def uW(t T b:TE):TS:=λD a H=>b a H λv h=>t a h λx c=>T a c (uX D a v x)
section
variable {X:Cx}{o i e value:dr}{pos pos' tpos:Pos}{td ty tv:TE}
def yz(d:X.A.units+1 < cLine)(f:PE X o td)(j:PE X i ty)(k:Ey i):PE X (.Subscript o i pos) (Gu td ty):=by intro p s b H Q I h;erw[Ae PySem.F.slot_dict_getitem.lookup k$ aU (f p s b H _ I h) λu S #[x,l,m,R,q]=>aU (j p S b l _ m q) λC D z=>?_];let⟨y,n,c,t,a,v,E,g,w⟩:=z;subst E;obtain rfl:u=Θ a:=R;exact#[X1 c g,pR d c g t λW G B r=>#[v,n,B,r,w]]
def Dm(c:X.A.units+1 < cLine)(d:PE X i ty)(f:PE X o td):PC X .In i o (IB ty td):=by intro p s b H Q I h;erw[aU (d p s b H _ I h) λv S #[y,j,k,r,q]=>aU (f p S b j _ k q) λu w z=>?_];let⟨x,l,m,R,a,O,E,g,n⟩:=z;subst E;obtain rfl:u=Θ a:=R;rwa[Ia c m g r λB t=>#[.bl O.isSome,l,t,Z,n]]
def Jb(c:X.A.units+1 < cLine)(d:PE X o td)(f:PE X i ty)(j:PE X value tv)(k:swapsWith value (δ$ .Subscript o i pos') pos.line X.env=pure ν):
  PS X (.Assign [.Subscript o i pos'] value pos) (uW td ty tv):=by
 intro p s b H D I h;erw[wpAny_Assign_Subscript (aU (j p s b H _ I h) λr S #[v,l,m,R,q]=>aU (d p S b l _ m q) λu n #[x,t,w,B,Q]=>aU (f p n b t _ w Q) λL M z=>?_) k];let⟨y,N,C,E,a,F,G,g,J⟩:=z;subst G;obtain rfl:u=Θ a:=B;rwa[pS c C g E R λO K=>#[b,F,K,J]]
end
def sR{P:ω}(h:db)(a:sysModules < h.objs.size):aK P w H (h.push { cls:=.type "dict",data:=.dict (ε []) }) h.objs.size (.dK []):=
 #[Mu _,beq_eq_false_iff_ne.mpr$ MX$ Mt a,[],.nil,SU h]
def D1:TE:=λ_ H Q=>∀p,H p=θ->Q (.ref p) (ah H p$ .dK [])
section
variable {X:Cx}{pos:Pos}
def Xv:PE X (.Dict [] [] pos) D1:=λp s b H Q I h=>
 wpAny_Dict_empty #[.ref (-s),_,I.laid (a:=-s) (o:=.dK []) (t':=s.toks) (λ_ _ q=>Mg _ q) (Mj _)$ sR s.heap I.big,Z,h _$ I.hok.fresh$ Mj _]
end
def di(k m:ri (bu×V)):ri (bu×V):=m.foldl (λa K=>bM a K.1 K.2) k
def KV.merge:∀{m:ri (bu×V)} {R:ri (bu×η)} {k:ri (bu×V)} {v:ri (bu×η)},KV m R->KV k v->KV (di k m) (merged v R):=by
 intro m R k v r;unfold KV at r;induction r generalizing k v with
 |nil=>intro q;rwa[q]
 | @cons p q P Q h t i=>
  intro a;let e:KV (bM k p.1 p.2) (stored v q.1 q.2):=by let:=a.put p.1 h.2;rw[<- h.1];rwa[this]
  rwa[i e]
theorem qI:∀(m k:ri (bu×V)),(di k m).length<=ο k+ο m
 | [],k=>by show ο k<=ο k+0;omega
 |p::r,k=>by let h:=qI r (bM k p.1 p.2);let H:=qv k p.1 p.2;show(di (bM k p.1 p.2) r).length<=_;rw[MV];omega
structure M2(X:Cx)(o:dr)(m:ρ)(apos:Pos)(e f:dr)(cpos:Pos):Prop where
 base:attributeBase o m X.env (eval o X.env)=eval o X.env
 few:((eT cpos$ Δ [e,f] X.env).all (λx=>!x.1)&&(backToKw cpos$ keywordEach [] X.env).all (λx=>x.1.isSome)
  &&decide (([e,f]:ri dr).length+([]:ri Keyword).length+(if ([]:ri Keyword).isEmpty then 0 else 1) < 30))=μ
 line:(apos.endLine==cpos.line)=μ
 trees:eT cpos (Δ [e,f] X.env)=[(ν,eval e X.env),(ν,eval f X.env)]
def IL(H:Hp)(a:ζ):Prop:=(∃k,Rd H a$ .dK k)∨∃k,Rd H a (.dT k)
def Cj{X:Cx}(I:ap X p g H s)(d:IL H a):
  s.TypeIs (.ref a) "dict"/\(∀b,Θ a= .ref b->∃o,s.heap.get? b=δ o/\o.dict=θ)/\(a==sysModules)=ν:=by
 rcases d with ⟨k,e⟩ | ⟨k,e⟩
 .let⟨_,h,v,_,D⟩:=Kb I.hok e;erw[#[D.typeIs,λb q=>?_,h]];cases q;let⟨o,_,_,c,f,_⟩:=D;exact#[o,c,f.2.1]
 .let⟨_,h,x,_,D⟩:=Qq I.hok e;erw[#[D.typeIs,λb q=>?_,h]];cases q;let⟨o,_,_,c,f,_⟩:=D;exact#[o,c,f.2.1]
section
variable {X:Cx}{pins:ri (ζ×fx)}{σ:St}{H:Hp}{s:ι}{a:ζ}{y d:V}{u r:η}{o:rm V}{A:bx}{E:η->ι->Prop}
def BS{Q:η->ι->Prop}(m:A.units+1 < cLine)(I:ap X pins σ H s)(g:fh H a y o)(i:aE y u)(j:aE d r)(h:∀W S,ap X pins σ H S->aE (o.getD d) W->Q W S):
  π (χ X.prog X.w) A (call (.builtin "dict.get") [.ref a,u,r]) Q E s:=by
 rcases g with ⟨K,k,e,c,l⟩ | ⟨K,k,b,e,c,n,l⟩
 .subst c;let⟨z,f,v,R,D⟩:=Kb I.hok e;erw[call_meetsIn Pw D.typeIs Sr (Sj _ _ _) (meets_dict_get_default (aZ X.prog X.w) a (Qp i) f r) #[_,D.mapOf,h _ _ (I.tok _) ?_]];rw[l];exact(R.val k).getD j
 .subst c;cases (show u=Θ b from i);let⟨z,f,x,R,D⟩:=Qq I.hok e;erw[call_meetsIn Pw D.typeIs Sr (Sj _ _ _) (meetsH_dict_get_default (tupleKind$ aZ X.prog X.w) a b f r) #[Pn m,k,x,Kk I.hok n,D,h _ _ (I.tok _) ?_]];rw[l];exact(R.val k).getD j
end
inductive pF(d c:TE)(e:St)(Q:VK)(x:V)(b:Hp):Prop
 |mk(a:_)(_:x= .ref a)(_:IL b a)(_:d e b λy H2=>c e H2 λz H3=>∃o,fh H3 a y o/\Q (o.getD z) H3)
def D0(t T b:TE):TE:=λa H Q=>t a H (pF T b a Q)
section
variable {X:Cx}{o e f:dr}{apos cpos:Pos}{td ty tx:TE}
def Kw(j:X.A.units+1 < cLine)(k:PE X o td)(l:PE X e ty)(n:PE X f tx)(m:M2 X o "get" apos e f cpos):PE X (.Call (.Attribute o "get" apos) [e,f] [] cpos) (D0 td ty tx):=by
 intro p s b H Q I h;erw[wpAny_Call_method m.base m.few m.line PySem.F.plainAttrs_dict Pw PySem.F.type_dict_get$ aU (k p s b H _ I h) λu S c=>?_];let⟨x,q,i,R,a,E,d,t⟩:=c;subst E;obtain rfl:u=Θ a:=R;let⟨T,v,_⟩:=Cj i d;erw[#[T,v,?_]];rw[m.trees];refine Pz Z (Td (N5 (aU (l p S b q _ i t) λO w #[y,B,C,D,G]=>
  N5 (aU (n p w b B _ C G) λP U #[z,J,K,L,V,g,M]=>Ot ?_))))
 rwa[BS j K g D L λW Y N r=>#[_,J,N,r,M]]
end
section
variable {X:Cx}{pins:ri (ζ×fx)}{σ:St}{H:Hp}{s:ι}{a:ζ}{kvs:ri (bu×V)}{A:bx}{E:η->ι->Prop}
def sO{Q:η->ι->Prop}(I:ap X pins σ H s)(e:Rd H a (.dK kvs))(h:∀p S,H p=θ->ap X pins σ (ah H p$ .dK kvs) S->Q (.ref p) S):π (χ X.prog X.w) A (call (.type "dict") [.ref a]) Q E s:=by let⟨z,f,v,r,D⟩:=Kb I.hok e;erw[kt_call_dict f D (by rw[<- r.length];rwa[z]) λi d g=>?_];erw[h _ _ (I.hok.fresh$ Mj _)$ I.laid (a:=-s) (o:=.dK kvs) (t':=s.toks) (λb q c=>?_) (Mj _)$ Yj z (beq_eq_false_iff_ne.mpr$ MX$ Mt I.big) r d];exact(g.2 b$ Mt$ Mn c).trans (Mg _ c)
end
section
variable {X:Cx}{pins:ri (ζ×fx)}{σ:St}{H:Hp}{s:ι}
theorem KV.get{a:Type}:∀{K:ri (a×V)} {c:ri (a×η)} {i:Nat} {k:a} {x:V},KV K c->K[i]?=δ (k,x)->∃v,c[i]?=δ (k,v)/\aE x v
 |_,_,_,_,_,.nil,e=>by simp at e
 |_,_,0,k,x,.cons (b:=q) r _,e=>by simp at e;subst e;let⟨R,d⟩:=r;let⟨g,Q⟩:=q;cases R;exact#[Q,Z,d]
 |_,_,i+1,k,x,.cons _ t,e=>by let⟨v,h,f⟩:=KV.get (i:=i) t (e:);exact#[v,by simpa using h,f]
inductive JL(c:ri V)(H:Hp)(Q:VK):Prop
 |mk(a b:_)(_:c=[.ref a])(_:H a=δ (.dK b))(_:∀p,H p=θ->Q (.ref p) (ah H p (.dK b)))
def JB:dA X (.type "dict") JL:=by intro pins s σ H x U Q I r h;let⟨a,k,rfl,b,q⟩:=h;let⟨u,rfl,R⟩:=eG r;cases R;rwa[sO I (.inl b) λp S n i=>#[.ref p,_,i,Z,q p n]]
theorem JM{a:Type}[DecidableEq a]{k:a}{y:η}:∀{K:ri (a×η)},(K.map (·.1)).Nodup->(k,y)∈K->valueAt K k=δ y
 | [],_,h=>nomatch h
 | (j,z)::r,n,h=>by
  unfold valueAt;rw[NH,RV]at n;rcases Ξ.mp h with e |h
  .cases e;simp [Ob]
  .let b:¬j=k:=λe=>n.1 (by rw[e];rwa[dg.mpr #[_,h,Z]]);rw[Ob];simp only[b,decide_false];rwa[JM n.2 h]
theorem Xw{a:Type}[DecidableEq a]{A:bx}{s:ι}{K:ri (a×η)}:∀{l:ri (a×η)},(∀p∈l,∃y,valueAt K p.1=δ y/\SeqAt.EqAt A s p.2 y μ)->PySem.W.KeqHits A s K l μ
 | [],_=>.nil
 | (k,v)::r,h=>by let⟨y,c,d⟩:=h (k,v) Mz;rwa[.hit (e:=μ) (b:=μ) c d$ Xw λp f=>h p (ML _ f)]
end
section
open PySem.W PySem.Calls Builtin Builtin.ObjectAttr
variable {prog:ω}{w:bS}{A:bx}{E:η->ι->Prop}{s:ι}{K:Ψ}{x C:ζ}{ox:fx}{od:rm fx}{name:ρ}
structure sE(K:Ψ)(C:ζ):Prop where
 ga:findIn K (.ref C) "__getattribute__"=δ (δ$ .builtin "BaseException.__getattribute__")
 gh:findIn K (.ref C) "__getattr__"=δ θ
 sa:findIn K (.ref C) "__setattr__"=δ (δ$ .builtin "object.__setattr__")
 cl:findIn K (.ref C) "__class__"=δ (δ$ .builtin "object.__class__")
 gt:specialIn K (.builtin "object.__class__") "__get__"=δ (δ$ .builtin "getset_descriptor.__get__")
 tk:takesIn K (.builtin "object.__class__")=δ μ
 mb:mroIn K C (.type "BaseException")=δ μ
 mo:mroIn K C (.type "object")=δ μ
 hd:hasDictIn K C=μ
abbrev pM:ri η:=[.type "ValueError",.type "Exception",.type "BaseException",.type "object"]
end
section
open PySem.W PySem.Calls
variable {prog:ω}{w:bS}{A:bx}{E:η->ι->Prop}{R:Result->ι->Prop}{K:Ψ}{h:db}{g:Array GenState}{d:Drawn}{t:Nat}{os:OsState}{C B:ζ}
def pX(q:excIn K C pM "ValueError.__new__"=μ):(∃p q N r f a s sub u c D k i j m o,K.lookup C=δ (excClassObj p q C N r f a s sub u c D k i j m o "ValueError.__new__")/\tailIn K pM f=μ/\nsOkIn K N=μ/\nsIn K N "__init__"=δ θ):=by
 unfold excIn at q;split at q
 .rename_i D z S F
  split at q
  .rename_i O f k i j m n o x y
   simp only[Nz,beq_iff_eq,TY]at q;obtain⟨⟨⟨⟨⟨rfl,rfl⟩,H⟩,G⟩,b⟩,e⟩:=q;let⟨p,r,M,I,Q,J,s,sub,u,c,L⟩:=z;dsimp only at x H b e;subst x H;let v:S=(ε [k,i,j,m,δ$ .builtin "ValueError.__new__",o]):=by let⟨l⟩:=S;simp only at y;rw[y]
   subst v;exact#[p,Q,I,r,f,J,s,sub,u,c,D,k,i,j,m,o,F,G,b,e]
  .cases q
 .cases q
end
def aK.obj{P:ω}{a:ζ}(x:aK P w H h a o):∃u,h.get? a=δ u:=by
 cases o with
 |lst X=>let⟨_,_,_,_,e⟩:=x;exact#[_,e]
 |tup X=>let⟨_,_,_,o,e,_⟩:=x;exact#[_,e]
 |dK k |dT k=>let⟨_,_,_,_,o,_,_,e,_⟩:=x;exact#[_,e]
 |set S n=>let⟨o,_,_,_,e,_⟩:=x;exact#[_,e]
 |ins C d F=>let⟨_,_,_,e,_⟩:=x;exact#[_,e]
 |own y=>let⟨_,e⟩:=x;exact#[_,e]
 |xd F=>obtain⟨_,⟨_,_,_,e,_⟩,_⟩:=x;exact#[_,e]
 |rng lo b=>let⟨_,_,_,e⟩:=x;exact#[_,e]
 |frz O u=>let⟨e,_⟩:=x;exact#[_,e]
 |tbl p |met f y=>exact#[_,(show h.get? a=δ _ from x)]
 |ext c=>obtain⟨_,⟨_,e⟩,_⟩:=x;exact#[_,e]
def ap.laidN{X:Cx}{h':db}{a:ζ}{o:HO}{t':Nat}(I:ap X p g H s)(k:∀b u,s.heap.get? b=δ u->h'.get? b=δ u)(d:s.heap.get? a=θ)(N:aK X.prog X.w (ah H a o) h' a o):
  H a=θ/\ap X p g (ah H a o) { s with heap:=h',toks:=t' }:=by
 let i:∀b u,s.heap.get? b=δ u->b≠a:=λb u q z=>by rw[z,d]at q;cases q
 let h:H a=θ:=by
  cases q:H a with
  |none=>rfl
  |some u=>let⟨U,e⟩:=(I.hok a u q).obj;rw[d]at e;cases e
 erw[#[h,I.un ?_ ?_]]
 .rwa[{ keep:=λb u q _ _ _=>k b u q,slot:=λb u q _ _ _=>#[u.slots,k b u q],free:=λb u q n _=>by rw[ji$ i b u q];rwa[n],there:=λb u q _=>#[u,k b u q],tups:=λb x q=>by rw[ji$ jk q h];rwa[q],frzs:=λb u x q=>by rw[ji$ jk q h];rwa[q],tbls:=λb P q=>#[(ε []),by rw[ji$ jk q h,q];simp] }]
 .intro b u e;by_cases f:b=a
  .subst f;rw[jc]at e;cases e;rwa[N]
  .rw[ji f]at e;exact(I.hok b u e).stay (λc v _ q=>k c v q) (λc q=>by rw[ji$ jk q h];rwa[q]) λc x q=>by rw[ji$ jk q h];rwa[q]
def Ax(C:ζ)(d:rm ζ)(x:ζ):HO:=.ext λh=>∃o,h.get? x=δ o/\o.cls= .ref C/\notCls o=μ/\o.dict=d/\∃v,o.data= .fields v/\v[1]?=δ .none/\v[2]?=δ .none
def BX{P:ω}{h:db}(e:h.get? x=δ o)(a:o.cls= .ref C)(b:notCls o=μ)(c:o.dict=d)(f:∃v,o.data= .fields v/\v[1]?=δ .none/\v[2]?=δ .none):aK P w H h x (Ax C d x):=
 #[#[o,e,a,b,c,f],#[o,e],λg i #[O,E,q] k=>#[O,k O E,q]]
def Ai(C:ζ):TE:=λa H Q=>∀x,H x=θ->Q (.ref x) (ah H x$ Ax C θ x)
section
variable {X:Cx}{CX:pI}{k:Nat}{f C:ζ}{fd:bU}{ps:ri ρ}{sp:Sp}{E:XK}{x m g:ρ}{p pos pos':Pos}{e o value:dr}{es:ri dr}{ta tv:TE}{t:TA}
def QE(M:excIn X.K C pM "ValueError.__new__"=μ)(l:fr X.K (.ref C)=μ)(n:Gl X x)(r:X.mg x=↑C)(c:↥((x==("__debug__":ρ))=ν)):
  PE X (.Call (.Name x p) [] [] pos) (Ai C):=by
 intro P s D H Q I h;erw[Nl$ zh I n r ?_ c];erw[SO I.kIn l ?_];let⟨G,q,N,J,L,j,S,sub,O,u,R,U,V,Y,k3,k5,v,w,b,i⟩:=pX M;let y:=I.kIn _ _ v;let⟨hp,g,d,T,os⟩:=s;erw[wpAny_call_exc_subT PySem.F.excBase_ValueError (PySem.W.tail_of_in I.kIn w) y (.of_isNs$ PySem.W.isNs_of_in I.kIn b) (PySem.W.nsMap_none_of_in I.kIn b i) (λh' e m=>?_)$ Mu _];let⟨t,z,_,_⟩:=m.there;let⟨A,B⟩:=I.laidN (a:=e) (h':=h') (o:=Ax C θ e) (t':=T) m.keeps m.new (BX z Z Z Z #[_,Z,Z,Z]);exact#[.ref e,_,B,Z,h e A]
end
def ap.turnedN{X:Cx}{p:ri (ζ×fx)}{d:St}{H:Hp}{s:ι}{g:db}{t':Nat}{f:ri ζ}(I:ap X p d H s)(a:∀b∈f,fi X p H b)(k:∀b o,b∉f->s.heap.get? b=δ o->g.get? b=δ o):
  ap X p d H { s with heap:=g,toks:=t' }:=by
 let N:∀b u,H b=δ u->b∉f:=λb u e z=>by rw[(a b z).1]at e;cases e
 refine I.step (g':=s.gens) (d':=s.drawn) (ch:=f) (λb i=>?_) (λb o _ _ h e _=>k b o h e) (λb o _ _ h e _=>#[o.slots,k b o h e]) (λ_ _ _ _ n=>n)
  (λb o h e=>#[o,k b o h e]) (λ_ _ e=>e) (λ_ _ _ e=>e) (λb P e=>#[(ε []),by rw[e];simp]) (λm j=>?_) (λb u e=>?_) I.bare
 .let⟨A,F,B,l,t,w⟩:=a b i;exact#[l,F,t,w]
 .let⟨o,E,x,y,r⟩:=j;exact#[o,E,x,k _ o (λz=>(a _ z).2.1 Z) y,r]
 .erw[(I.hok b u e).stay (λc v h q=>k c v ?_ q) (λ_ q=>q) λ_ _ q=>q];rcases h with z |z
  .rw[z];rwa[N b u e]
  .rwa[N c _ z]
section
variable {M:Model}{A:bx}{E:η->ι->Prop}{s:ι}
structure dh(fl:η)(i5:ri ζ)(x:ζ)(ox:fx)(h h':db):Prop where
 ex:∃T oT ts,h.objs.size<=T/\h'.get? x=δ (fv (·.setIfInBounds 1 (.ref T)) ox)/\h'.get? T=δ oT/\oT.data= .fields ts/\ts[3]?=δ fl
 keep:∀b o,b∉i5->b≠x->h.get? b=δ o->h'.get? b=δ o
 slot:∀b o,b≠x->h.get? b=δ o->∃sl,h'.get? b=δ { o with slots:=sl }
def QF{Q:Unit->ι->Prop}
  (t:A.frames=δ (d::O)) (F:s.heap.FunFrames G (d::O)) (N:d.frame=δ L)
  (I:s.heap.get? x=δ u) (v:u.data= .fields J) (w:1 < J.size)
  (h:∀K,dh (rawInt L) ((d::O).filterMap (·.frame)) x u s.heap K->Q () ‹K›):
  π M A (do let a <- frameOf d;let p <- entryPlaceOf L q;let b <- EntryCells.newEntry f a .none (rawInt L) .none p;setField (.ref x) 1 b) Q E s:=by
 let y:x∉(d::O).filterMap (·.frame):=λP=>by let⟨_,o,r,z⟩:=F.mem P;rw[I]at r;injection r with r;subst r;rwa[z J v]
 erw[Me$ wpAny_frameOf_fun t F N λH c=>?_];erw[Me$ wpAny_entryPlaceOf λp B=>?_];unfold EntryCells.newEntry newFields;erw[Me$ M4 ?_$ B.sizeOk5 _ _ _ _ _];let g:H.get? x=δ u:=(c.2.1 x y).trans I;let i:=Mg (h:=H) { cls:=.type "traceback",dict:=θ,data:=.fields ([f,.ref L,.none,rawInt L,.none]++(if p.isEmpty then ic 6 ab else p)).toArray } g;erw[Nc i v w$ h _ ?_];let C:H.objs.size≠x:=Nf (Mn g);let j:=MW v (·.setIfInBounds 1 (Θ H.objs.size));let l:=M0 (fv (·.setIfInBounds 1 (Θ H.objs.size))) i (Nw j);let k:∀b o,b≠x->H.get? b=δ o->((H.push { cls:=.type "traceback",dict:=θ,data:=.fields ([f,.ref L,.none,rawInt L,.none]++(if p.isEmpty then ic 6 ab else p)).toArray }).update x$ fv (·.setIfInBounds 1 (Θ H.objs.size))).get? b=δ o:=λb o D e=>by rw[MG _ _$ MX D];rwa[Mg _ e]
 let m:=(MG (H.push { cls:=.type "traceback",dict:=θ,data:=.fields ([f,.ref L,.none,rawInt L,.none]++(if p.isEmpty then ic 6 ab else p)).toArray })
  (fv (·.setIfInBounds 1 (Θ H.objs.size))) (MX C)).trans (Mo H Z)
 erw[#[#[H.objs.size,_,_,P5 c.1.symm,l,m,Z,Lz],λb o D n e=>k b o n ((c.2.1 b D).trans e),λb o n e=>?_]];let⟨S,R⟩:=c.2.2 b o e;exact#[S,k b _ n R]
def YB{Q:Unit->ι->Prop}
  (H:A.frames=δ (e::o)) (i:s.heap.FunFrames b (e::o)) (a:e.frame=δ L)
  (c:s.heap.get? x=δ O) (d:O.data= .fields v) (f:v[1]?=δ .none)
  (h:∀g,dh (rawInt L) ((e::o).filterMap (·.frame)) x O s.heap g->Q () ‹g›):
  π M A (noteFrame (.ref x) e) Q E s:=by
 unfold noteFrame;simp only[a];erw[Me$ MO c d f ?_];rw[Mx LB];rwa[QF H i a c d (β.mp f).1 h]
def Cq{i5:ri ζ}{Q:Unit->ι->Prop}(N:dh C i5 x O H s.heap)(j:H.get? x=δ O)(v:O.data= .fields w)(k:1 < w.size)
  (h:∀p,dh .none i5 x O H p->Q () ‹p›):π M A (setFlight (.ref x) θ) Q E s:=by
 let⟨T,D,F,c,r,t,g,y⟩:=N.ex;let l:=MW v (·.setIfInBounds 1 (Θ T));let m:T≠x:=λz=>absurd (MD (Mn j) (by rw[<- z];rwa[c])) (Nt _);unfold setFlight;erw[Me$ MO r l (x:=.ref T) (by simp [k]) ?_];rw[Mv (show(Θ T != ab)=μ from by simp)];let i:=(β.mp y).1;erw[Nc t g i$ h _ ?_];let a:=MW g (·.setIfInBounds 3 ((θ:rm ζ).elim ab λf=>rawInt f));let n:=M0 (fv (·.setIfInBounds 3 ((θ:rm ζ).elim ab λf=>rawInt f))) t (Nw a);let u:∀b o,H.get? b=δ o->T≠b:=λb o e z=>absurd (MD (Mn e) (by rw[<- z];rwa[c])) (Nt _);erw[#[#[T,_,_,c,by rw[MG _ _ m];rwa[r],n,a,by simp [i]],λb o B d e=>?_,λb o d e=>?_]]
 .rw[MG _ _$ u b o e];rwa[N.keep b o B d e]
 .let⟨S,q⟩:=N.slot b o d e;exact#[S,by rw[MG _ _$ u b o e];rwa[q]]
def X2{base:db}{Q:Unit->ι->Prop}
  (a:A.frames=δ (e::o)) (f:s.heap.FunFrames base (e::o)) (g:e.frame=δ L)
  (b:s.heap.get? x=δ O) (c:O.data= .fields v) (d:v[1]?=δ .none)
  (h:∀H,dh .none ((e::o).filterMap (·.frame)) x O s.heap H->Q () ‹H›):
  π M A (leaving e$ .ref x) Q E s:=by
 unfold leaving;rwa[Me$ YB a f g b c d λH N=>Cq (s:=‹H›) N b c (β.mp d).1 h]
end
section
variable {M:Model}{A:bx}{E:η->ι->Prop}{s:ι}
abbrev d9(T:ζ)(h:db):db:=h.update T (fv (·.setIfInBounds 3 ab))
def QG{base:db}{Q:Unit->ι->Prop}
  (f:A.frames=δ (e::O)) (w:s.heap.FunFrames base (e::O)) (j:e.frame=δ L)
  (k:s.heap.get? x=δ l) (m:l.data= .fields v) (p:v[1]?=↑T) (g:T≠x) (i:s.heap.get? T=δ y) (c:y.data= .fields t) (r:t[3]?=δ .none)
  (h:∀u,dh (rawInt L) ((e::O).filterMap (·.frame)) x l (d9 T s.heap) u->Q () ‹u›):
  π M A (noteFrame (.ref x) e) Q E s:=by
 unfold noteFrame;simp only[j];erw[Me$ MO k m p ?_];rw[Mv (show(Θ T != ab)=μ from by simp)];erw[Me$ MO i c r ?_];rw[Mx (show ¬((ab==rawInt L)=μ) from by simp [rawInt])];erw[Me$ Nc i c (β.mp r).1 ?_];let a:∀b,b≠T->(d9 T s.heap).get? b=s.heap.get? b:=λb H=>MG _ _ (MX H);let n:∀b o,s.heap.get? b=δ o->(∀v,o.data≠ .fields v)->b≠T:=λb o H d q=>by rw[q,i]at H;injection H with H;subst H;rwa[d t c]
 rwa[QF (s:=‹d9 T s.heap›) f (w.of_keeps λb o H d=>#[o,(a b$ n b o H d).trans H,Z]) j ((a x$ MX g).trans k) m (β.mp p).1 h]
def YC{base:db}{Q:Unit->ι->Prop}
  (b:A.frames=δ (e::o)) (i:s.heap.FunFrames base (e::o)) (j:e.frame=δ L)
  (d:s.heap.get? x=δ O) (f:O.data= .fields v) (g:v[1]?=↑T) (H:T≠x) (k:s.heap.get? T=δ l) (c:l.data= .fields t) (m:t[3]?=δ .none)
  (h:∀a,dh .none ((e::o).filterMap (·.frame)) x O (d9 T s.heap) a->Q () ‹a›):
  π M A (leaving e$ .ref x) Q E s:=by
 unfold leaving;rwa[Me$ QG b i j d f g H k c m λa N=>Cq (s:=‹a›) N ((MG _ _ H).trans d) f (β.mp g).1 h]
end
def gY(C:ζ)(d:rm ζ)(T x:ζ):HO:=.ext λh=>∃o v,h.get? x=δ o/\o.cls= .ref C/\notCls o=μ/\o.dict=d/\o.data= .fields v/\v[1]?=↑T/\v[2]?=δ .none
def fj(T:ζ):HO:=.ext λh=>∃o t,h.get? T=δ o/\o.data= .fields t/\t[3]?=δ .none
def D5{P:ω}{h:db}(e:h.get? x=δ o)(c:o.cls= .ref C)(f:notCls o=μ)(g:o.dict=d)(i:o.data= .fields v)(b:v[1]?=↑T)(a:v[2]?=δ .none):aK P w H h x (gY C d T x):=
 #[#[o,v,e,c,f,g,i,b,a],#[o,e],λb j #[O,V,E,q] k=>#[O,V,k O E,q]]
def wq{P:ω}{h:db}(e:h.get? T=δ o)(b:o.data= .fields a)(c:a[3]?=δ .none):aK P w H h T (fj T):=
 #[#[o,a,e,b,c],#[o,e],λd f #[O,t,E,q] k=>#[O,t,k O E,q]]
def cR(P:ω)(w:bS):pI:=λo H s E e S=>∃x C d T h,e= .ref x/\S.os=s.os/\AllBare S.gens/\Un (i5 o) [] H h s.heap S.heap/\eQ P w h S.heap/\
 h x=δ (gY C d T x)/\h T=δ (fj T)/\T≠x/\E (.ref C) d h
section
variable {X:Cx}{pins:ri (ζ×fx)}{σ:St}{H:Hp}{s:ι}{x C:ζ}{d:rm ζ}
def dh.hok{fl:η}(I:ap X pins σ H s)(g:H x=δ (.ext Q))(P:s.heap.get? x=δ o)(E:o.cls= .ref C)(F:o.dict=d)(j:o.data= .fields B)(k:1 < B.size)(l:B[2]?=δ .none)(m:∀b∈G,H b=θ)
  (N:dh .none G x o s.heap J):∃T,H T=θ/\T≠x/\-s<=T/\eQ X.prog X.w (ah (ah H T$ fj T) x$ gY C d T x) J:=by
 let⟨T,R,S,h,n,K,p,r⟩:=N.ex;let i:H T=θ:=I.hok.fresh h;let t:T≠x:=MX (jk g i);let a:=MW j (·.setIfInBounds 1 (Θ T));erw[#[T,i,t,h,λb u e=>?_]];by_cases y:b=x
 .subst y;rw[jc]at e;cases e;refine D5 n ((OY _ _).trans E) ?_ ?_ a (by simp [k]) (by simp [l])
  .unfold notCls;rw[a]
  .let⟨U,V,O,L⟩:=o;simp only at j;subst j;rwa[F]
 .rw[ji y]at e;by_cases f:b=T
  .subst f;rw[jc]at e;cases e;rwa[wq K p r]
  .rw[ji f]at e;refine(I.hok b u e).stay (λc v D q=>?_) (λc q=>?_) λc W q=>?_
   .let A:c≠x:=by
     rcases D with z |z
     .rw[z];rwa[y]
     .rwa[jN z g (by intro q;cases q)]
    erw[N.keep c v (λM=>?_) A q];let:=m c M;rcases D with z |z
    .rw[z,e]at this;cases this
    .rw[z]at this;cases this
   .rw[ji$ jN q g (by intro z;cases z),ji$ jk q i];rwa[q]
   .rw[ji$ jN q g (by intro z;cases z),ji$ jk q i];rwa[q]
def dh.un{h':db}(I:ap X pins σ H s)(hex:X.ex=[])(j:H x=δ (.ext k))(l:H T=θ)(c:-s<=T)(f:∀b∈p,b∈X.fs∨X.s₀.heap.objs.size<=b)
  (N:dh .none p x y s.heap h'):Un X.fs [] X.H₀ (ah (ah H T$ fj T) x$ gY C d T x) X.s₀.heap h':=by
 let g:∀b,H b=θ->b≠x:=λb e z=>by rw[z,j]at e;cases e
 let r:∀b o,X.s₀.heap.get? b=δ o->b≠T:=λb o e=>Mt (MD (Mn e)$ Mw I.sz c);let a:∀b:ζ,b∉X.ex:=λb z=>by rw[hex]at z;cases z
 let t:∀b,H b=θ->b≠T->ah (ah H T$ fj T) x (gY C d T x) b=θ:=λb e z=>by rw[ji$ g b e,ji z];rwa[e]
 let U:∀b u,H b=δ u->(∀k,u≠ .ext k)->ah (ah H T$ fj T) x (gY C d T x) b=δ u:=λb u e z=>by rw[ji (λq=>by rw[q,j]at e;cases e;rwa[z _ Z]),ji$ jk e l];rwa[e]
 erw[#[λb o e n h _=>?_,λb o e n h _=>?_,λb o e n _=>?_,λb o e _=>?_,λb v e=>U b _ (I.base.tups b v e) (by intro _ q;cases q),λb o u e=>U b _ (I.base.frzs b o u e) (by intro _ q;cases q),λb P e=>?_]]
 .erw[N.keep b o (λz=>?_) (g b$ I.base.free b o e n$ a b)$ I.base.keep b o e n h$ a b];rcases f b z with q |q
  .rwa[h q]
  .rwa[absurd (MD (Mn e) q)$ Nt _]
 .let⟨w,q⟩:=I.base.slot b o e n h (a b);let⟨S,Q⟩:=N.slot b _ (g b$ I.base.free b o e n$ a b) q;exact#[S,Q]
 .rwa[t b (I.base.free b o e n$ a b)$ r b o e]
 .let⟨O,q⟩:=I.base.there b o e (a b);by_cases h:b=x
  .let⟨A,_,_,_,i,_⟩:=N.ex;exact#[_,by rw[h];rwa[i]]
  .let⟨w,Q⟩:=N.slot b O h q;exact#[_,Q]
 .let⟨m,q⟩:=I.base.tbls b P e;exact#[m,U b _ q (by intro _ q;cases q)]
end
section
variable {P:ω}{w:bS}{K:Ψ}{mg:ρ->rm η}{base:db}{N:ri ρ}{qual:ρ}{scope:hJ}{f:ζ}{cd:η}{A:bx}{outer:ri Env}{s₀:ι}{H₀:Hp}{E:XK}
variable {pins:ri (ζ×fx)}{σ:St}{H:Hp}{s:ι}{x C:ζ}{d:rm ζ}
def wI(I:ap (eX (cR P w) P w K mg base N qual scope f cd A outer s₀ H₀ E) pins σ H s)(c:H x=δ (Ax C d x))
  (h:∀T,H T=θ->E (.ref C) d (ah (ah H T$ fj T) x$ gY C d T x)):(eX (cR P w) P w K mg base N qual scope f cd A outer s₀ H₀ E).xe (.ref x) s:=by
 obtain⟨⟨O,m,r,v,t,V,n,o,g⟩,_⟩:=I.hok x _ c;let i:=(β.mp o).1;erw[X2 (base:=base) I.ok.frames I.stack Z m n o λy p=>?_];let⟨T,q,a,j,k⟩:=p.hok (C:=C) (d:=d) (fl:=.none) I c m r t n i g λb l=>I.stkFree b l;let u:=p.un (C:=C) (d:=d) I Z c q j λb l=>by
  rcases Ξ.mp (I.stkSub b l) with e |e
  .rwa[.inr (by rw[e];rwa[I.ok.above])]
  .rwa[.inl e]
 exact#[x,C,d,T,_,Z,I.os,I.bare,u,k,jc,by rw[ji a,jc],a,h T q]
def ap.cleared{X:Cx}(I:ap X pins σ H s)(c:H T=δ (fj T))(i:s.heap.get? T=δ O)(j:O.data= .fields t)(k:t[3]?=δ .none):ap X pins σ H ‹d9 T s.heap›:=by
 let h:=MW j (·.setIfInBounds 3 ab);let g:=M0 (fv (·.setIfInBounds 3 ab)) i (Nw h);let:=I.write (x:=T) (e:=T) (o:=fj T) (h':=d9 T s.heap) (t':=s.toks) (by rw[c];rwa[True.intro]) (.inl Z) (λb u a q=>(MG _ _$ MX a).trans q) #[_,g] (wq g h (by simp [(β.mp k).1]));let l:ah H T (fj T)=H:=by
  funext b;by_cases a:b=T
  .rw[a,jc,c]
  .rw[ji a]
 rw[l]at this;rwa[this]
def Ar(I:ap (eX (cR P w) P w K mg base N qual scope f cd A outer s₀ H₀ E) pins σ H s)(g:H x=δ (gY C d T x))(o:H T=δ (fj T))(c:T≠x)
  (h:∀t,H t=θ->E (.ref C) d (ah (ah H t$ fj t) x$ gY C d t x)):(eX (cR P w) P w K mg base N qual scope f cd A outer s₀ H₀ E).xe (.ref x) s:=by
 obtain⟨⟨O,V,p,F,J,G,q,r,i⟩,_⟩:=I.hok x _ g;obtain⟨⟨L,M,u,v,y⟩,_⟩:=I.hok T _ o;let j:=(β.mp r).1;let z:=I.cleared o u v y;erw[YC (base:=base) I.ok.frames I.stack Z p q r c u v y λQ B=>?_];let k:(d9 T s.heap).get? x=δ O:=(MG _ _ c).trans p;let⟨t,D,a,l,m⟩:=dh.hok (C:=C) (d:=d) (fl:=.none) z g k F G q j i (λb n=>I.stkFree b n) B;let U:=dh.un (C:=C) (d:=d) z Z g D l (λb n=>by
  rcases Ξ.mp (I.stkSub b n) with e |e
  .rwa[.inr (by rw[e];rwa[I.ok.above])]
  .rwa[.inl e]) B
 exact#[x,C,d,t,_,Z,I.os,I.bare,U,m,jc,by rw[ji a,jc],a,h t D]
def yy{j:XK}(m:∀x C d T t a,a x=δ (gY C d T x)->a T=δ (fj T)->a t=θ->j (.ref C) d a->E (.ref C) d (ah (ah a t$ fj t) x$ gY C d t x)):
  dD (cR P w) (eX (cR P w) P w K mg base N qual scope f cd A outer s₀ H₀ E) j:=by
 intro pins σ H s e S I h;let⟨x,C,d,T,a,rfl,os,B,u,c,k,l,i,n⟩:=h;let⟨p,g,D,q,o⟩:=S;obtain rfl:o=s.os:=os;let r:=I.call (h':=p) (g':=g) (d':=D) (t':=q) (ch:=[]) u c B (λb z=>absurd z Lz);rwa[Ar r k l i λt v=>m x C d T t a k l v n]
end
section
open PySem.W
variable {prog:ω}{w:bS}{A:bx}{E:η->ι->Prop}{K:Ψ}{x C:ζ}{ox:fx}{vs:Array η}{env:Env}
def YD{ev:Sem η}(e:A.handled=θ)
  (h:π (χ prog w) A ev (λv S=>∃x C ox vs,v= .ref x/\K.In S.heap/\sE K C/\typeIn K (.ref C)=δ (.type "type")/\S.heap.get? x=δ ox/\ox.cls= .ref C/\ox.data= .fields vs/\vs[1]?=δ .none/\E (.ref x) S) E s):
  π (χ prog w) A (raiseStmt env (δ ev) θ) Q E s:=by
 unfold raiseStmt;erw[Me$ Nk h (λv S a=>?_) λ_ _ z=>z];let⟨x,C,ox,vs,rfl,X,f,i,b,j,c,m,n⟩:=a;let⟨H,g,d,T,os⟩:=S;let L:Looks (χ prog w) H (typeOf$ .ref x) (.ref C):=j▸(Uf b).andThen .now;let l:Looks (χ prog w) H (isType$ .ref x) ν:=by intro y B D F k q;unfold isType loadHead;erw[Me$ Rs (k _ _ b) ?_];rw[c];rwa[Mh q]
 let _L:=Rx (M:=χ prog w) X f.mb;let o:=TH (M:=χ prog w) X i;let p:Looks (χ prog w) H (isInstance (.ref x)$ .type "BaseException") μ:=L.andThen _L;let r:Looks (χ prog w) H (isExcClass$ .ref x) ν:=by unfold isExcClass;rwa[l.andThen .now]
 let t:Looks (χ prog w) H (raisedInstance$ .ref x) (.ref x):=by unfold raisedInstance;rwa[L.andThen$ o.andThen (by rw[Mv LB];rwa[.now])]
 let u:Looks (χ prog w) H (excFromValue (.ref x) "exceptions must derive from BaseException") (.ref x):=by unfold excFromValue;rwa[r.andThen (by rw[Mx LB];rwa[p.andThen (by rw[Mv Z];rwa[.now])])]
 erw[Me$ Mh ?_];erw[Me$ MJ$ u.at ?_];dsimp only;erw[Me$ l.at ?_];rw[Mx LB];erw[Me$ t.at ?_];unfold setFlight;erw[Me$ Me$ MO b c m ?_];rw[Mx LB];rwa[Mh$ wpAny_raiseNew_none e n]
end
def Ay(X:Cx)(W:ζ->ζ->rm ζ->Hp->Prop):Prop:=∀(p:ri (ζ×fx)) (a:St) (H:Hp) (s:ι) (x C:ζ) (d:rm ζ),ap X p a H s->H x=δ (Ax C d x)->W x C d H->X.xe (.ref x) s
def QH{P:ω}{K:Ψ}:
  Ay (eX (cR P w) P w K m b N q s f g A o a c E) (λx C d H=>∀T,H T=θ->E (.ref C) d (ah (ah H T$ fj T) x$ gY C d T x)):=
 λ_ _ _ _ _ _ _ I e h=>wI I e h
inductive oQ(K:Ψ)(b:ζ->ζ->rm ζ->Hp->Prop)(v:V)(a:Hp):Prop
 |mk(x C d:_)(_:v= .ref x)(_:a x=δ (Ax C d x))(_:sE K C)(_:typeIn K (.ref C)=δ (.type "type"))(_:b x C d a)
def DI(K:Ψ)(t:TE)(W:ζ->ζ->rm ζ->Hp->Prop):TS:=λ_u0 a H=>t a H (oQ K W)
def Xx{X:Cx}{e:dr}{t:TE}{P:Pos}{W:ζ->ζ->rm ζ->Hp->Prop}(f:X.calm=μ)(F:Ay X W)(g:PE X e t):PS X (.Raise (δ e) θ P) (DI X.K t W):=by intro p s b H D I h;rw[arm_exec_Raise];erw[Me$ Oy ?_];erw[YD (K:=X.K) (ev:=do let v <- eval e X.env;standAt P;pure v) (I.ok.hd f)$ Me$ aU (g p s b H _ I h) λu S a=>Me (Oy$ Mh ?_)];let⟨v,j,i,r,x,C,d,ev,c,k,l,q⟩:=a;subst ev;obtain rfl:u=Θ x:=r;obtain⟨⟨o,m,n,A,B,V,w,y,z⟩,_⟩:=i.hok x _ c;exact#[x,C,o,V,Z,i.kIn,k,l,m,n,w,y,F p b j S x C d i c q]
section
variable {X:Cx}{pins:ri (ζ×fx)}{σ:St}{H:Hp}{s:ι}{x C:ζ}{d:rm ζ}
def ap.noted{t':Nat}(I:ap X pins σ H s)(a:H x=δ (.ext m))(r:s.heap.get? x=δ O)(t:O.cls= .ref C)(w:O.dict=d)(y:O.data= .fields v)(c:1 < v.size)(f:v[2]?=δ .none)
  (N:dh .none (i5 X.stack) x O s.heap A):∃T,H T=θ/\T≠x/\ap X pins σ (ah (ah H T$ fj T) x$ gY C d T x) { s with heap:=A,toks:=t' }:=by
 let⟨T,p,g,i,j⟩:=dh.hok (C:=C) (d:=d) (fl:=.none) I a r t w y c f (λb h=>I.stkFree b h) N;let k:∀b,H b=θ->b≠x:=λb e z=>by rw[z,a]at e;cases e
 let U:∀b u,H b=δ u->(∀m,u≠ .ext m)->ah (ah H T$ fj T) x (gY C d T x) b=δ u:=λb u e z=>by rw[ji (λq=>by rw[q,a]at e;cases e;rwa[z _ Z]),ji$ jk e p];rwa[e]
 erw[#[T,p,g,I.call (g':=s.gens) (d':=s.drawn) (ch:=[]) ?_ j I.bare (λb z=>absurd z Lz)]];erw[#[λb o e n h _=>N.keep b o h (k b n) e,λb o e n _ _=>N.slot b o (k b n) e,λb o e n _=>?_,λb o e _=>?_,λb B e=>U b _ e (by intro _ q;cases q),λb o u e=>U b _ e (by intro _ q;cases q),λb P e=>#[(ε []),by rw[U b _ e (by intro _ q;cases q)];simp]]]
 .rw[ji$ k b n,ji$ Mt$ MD (Mn e) i];rwa[n]
 .by_cases h:b=x
  .let⟨D,_,_,_,l,_⟩:=N.ex;exact#[_,by rw[h];rwa[l]]
  .let⟨S,q⟩:=N.slot b o h e;exact#[_,q]
end
abbrev Cx.mark(X:Cx)(e:η)(xe:η->ι->Prop):Cx:={ X with A:=X.A.mark (δ e),calm:=ν,xe:=xe }
def ap.mark{X:Cx}(I:ap X p a H s)(e:η)(x:η->ι->Prop):ap (X.mark e x) p a H s:=
 #[#[I.ok.mod,I.ok.kind,I.ok.glob,I.ok.blt,I.ok.above,I.ok.inj,I.ok.has,I.ok.cab,(λz=>nomatch (show ν=μ from z)),I.ok.frames,I.ok.stk,I.ok.exf,I.ok.bs,I.ok.bsz,I.ok.noex,I.ok.exfs,I.ok.funs,I.ok.frf],I.os,I.bare,I.base,I.loc,I.cell,I.free,I.freeC,I.pin,I.hok,I.len]
def ap.unmark{X:Cx}(o:X.Ok)(I:ap (X.mark e x) p a H s):ap X p a H s:=
 #[o,I.os,I.bare,I.base,I.loc,I.cell,I.free,I.freeC,I.pin,I.hok,I.len]
section
open PySem.W
def qJ{K:Ψ}(X:K.In h)(a:h.get? x=δ o)(b:o.cls= .ref C)(H:clsIn K B≠θ)(tB:typeIn K (.ref B)=δ (.type "type"))(m:mroIn K B (.type "BaseException")=δ μ)(c:mroIn K C (.ref B)=δ μ):
  Looks M h (excMatches (.ref x)$ .ref B) μ:=by
 let L:Looks M h (typeOf$ .ref x) (.ref C):=b▸(Uf a).andThen .now;let l:=TH (M:=M) X tB;let _L:Looks M h (isInstance (.ref B)$ .type "tuple") ν:=l.andThen (Ss tc_notTuple);let d:Looks M h (isType$ .ref B) μ:=by
  unfold clsIn at H;split at H
  .rename_i e
   intro A Q E s k q;unfold isType loadHead;rwa[Me$ Rs (k _ _$ X _ _ e)$ Mh q]
  .rwa[absurd Z H]
 let f:Looks M h (isExcClass$ .ref B) μ:=by unfold isExcClass;rwa[d.andThen (by rw[Mv Z];rwa[Rx X m])]
 let g:=Rx (M:=M) X c;intro A Q E s k q;unfold excMatches;erw[Me$ _L A _ E s k ?_];rw[Mx LB];erw[Me$ Mh ?_];dsimp only;erw[Me ?_];rw[NR];erw[Me$ Me$ f A _ E s k ?_];simp only[OM,Ms,Ny];erw[Mh ?_];dsimp only;rw[OD];erw[Mh ?_];erw[Me$ L A _ E s k ?_];erw[Me ?_];rw[NR];erw[Me$ Me$ g A _ E s k ?_];simp only[O6];erw[Mh$ Mh ?_];rwa[Mh q]
end
abbrev XR:=ζ->ζ->rm ζ->ζ->Hp->Prop
def XW(X:Cx)(p:ri (ζ×fx))(a:St)(R:XR)(e:η)(s:ι):Prop:=
 ∃x C d T H,e= .ref x/\ap X p a H s/\H x=δ (gY C d T x)/\H T=δ (fj T)/\T≠x/\R x C d T H
abbrev HN:=St->Hp->VK->XR->Prop
abbrev HQ:=a9->XR->St->Hp->Prop
def IP(X:Cx)(e:dr)(t:HN):Prop:=
 ∀(p:ri (ζ×fx)) (s:ι) (a:St) (H:Hp) (Q:VK) (R:XR),ap X p a H s->t a H Q R->π (χ X.prog X.w) X.A (eval e X.env) (EP X p a Q) (XW X p a R) s
def IS(X:Cx)(st:cv)(t:HQ):Prop:=
 ∀(p:ri (ζ×fx)) (s:ι) (a:St) (H:Hp) (D:a9) (R:XR),ap X p a H s->t D R a H->π (χ X.prog X.w) X.A (exec st X.env) (SP X p D) (XW X p a R) s
def J'(R:XR):XK:=λc d H=>∀x C T,c= .ref C->H x=δ (gY C d T x)->H T=δ (fj T)->T≠x->R x C d T H
def DZ(s:Sp)(d:ri V)(t:TA):HN:=λa H Q R=>t a H λv h=>s (v++d) h Q (J' R)
section
variable {X:Cx}{k:Nat}{f:ζ}{fd:bU}{ps:ri ρ}{sp:Sp}{dvs:ri V}{ds:ri η}{x:ρ}{p pos:Pos}{e:dr}{es:ri dr}{t:TA}{te:HN}
def Xy(F:af X.prog X.w X.K X.mg X.base (cR X.prog X.w) k f fd ps sp)(y:bJ k X.A)(D:Gl X x)(E:X.mg x=↑f)(G:fr X.K (.ref f)=μ)(J:au X.K fd ps ds)(L:ay dvs ds)
  (M:PA X.nox (e::es) t) (g:↥((x==("__debug__":ρ))=ν)) (N:↥(Δ (e::es) X.env=(ν,eval e X.env)::Δ es X.env)) (j:↥((eT pos$ Δ es X.env).any (·.1)=ν)):
  IP X (.Call (.Name x p) (e::es) [] pos) (DZ sp dvs t):=by
 intro P s O H Q R I h;erw[Nl$ zh I D E ?_ g];erw[RS (h₀:=X.base) I.ok.mod.kin G (Nk (M pos P s O H _ (I.wish _) h) (λU S #[v,W,i,r,q]=>#[i.kIn,?_]) λ_ _ z=>z.elim) N j];let i:=i.unwish;let m:ay (v++dvs) (U++ds):=r.append L;let Y:(U++ds).length=ο ps:=by rw[<- m.length];rwa[F.len _ _ _ _ q]
 erw[SX$ OP (F.run X.A X.stack S W #[U,[]] (U++ds) (v++dvs) Q (J' R) y i.env0 (J S U i.kIn Y) m q) λr s' a=>?_];cases r with
 |error e=>let⟨x,C,d,T,H',rfl,os,B,un,l,n,o,c,hw⟩:=a;exact#[x,C,d,T,H',Z,i.call' os un l B (λb z=>absurd z Lz),n,o,c,hw x C T Z n o c]
 |ok fl=>
  cases fl with
  |ret u=>rwa[i.after a]
  |next |brk |cont=>rwa[False.elim a]
def Zm{i:Nat}{y:ρ}{P:Pos}(d:X.N.Nodup)(g:X.N[i]?=δ y)(j:sA X.env.scope y)(l:IP X e te)(m:↥(swapsWith e (δ$ .Name y P) pos.line X.env=pure ν))(n:autoParam (X.fn y=μ∨X.env.scope.names.lookup y=δ .local) Wb._auto_1):
  IS X (.Assign [.Name y P] e pos) (λD R b H=>te b H (λv c=>D.nx (b.set i$ δ v) c) R):=by
 intro a s b H D R I h;erw[UB (aU (l a s b H _ R I h) λv S z=>?_) m];let⟨y,c,o,r,q⟩:=z;rwa[zw o d g j r (λw u=>#[_,c,u,q]) n]
end
def aN.ok1{P:ω}{K:Ψ}{st:cv}{a:Sp}(F:aN K x q st f g)(S:ak N p (aa st))
  (h:∀(c:η) (A:bx) (o:ri Env) (s:ι) (H:Hp) (v:ri V) (Q:VK) (E:XK),bJ k (A.deeper$ envOfC q (aa st) (-s) f c)->a v H Q E->
   let X:=eX (cR P w) P w K m b N q (aa st) f c A o s H E;∃t,mn X (bh st) t/\t { nx:=λ_ i=>Q .non i,rt:=Q } (eF N v) H)(len:∀v H Q E,a v H Q E->ο v=ο p:=by rintro _ _ _ _⟨⟩;subst_vars;rfl):af P w K m b (cR P w) (k+1) f g p a:=by
 let⟨l,n,kV,D,r,u,c,C,O,rfl,lk,d⟩:=F.ex;rwa[AR lk d S len λA o s H v Q E j e=>h c A o s H v Q E j e]
end _L
namespace _L
open PySem PySem.Spec PyProof.Rows PySem.SeqAt
def sX(x y:ri V):Bool:=(eC$ min x.length y.length).all (λj=>nF (x.getD j .non) (y.getD j .non))&&ο x==ο y
section
variable {X:Cx}
def se(r:ay x i)(R:ay y I)(f:x.all cy=μ)(F:y.all cy=μ)(j:Nat)(c:j < i.toArray.size)(d:j < I.toArray.size):EqAt A s i.toArray[j] I.toArray[j] (nF (x.getD j .non)$ y.getD j .non):=by
 let L:=r.length;let p:=R.length;let H:j < ο x:=by simp at c;omega
 let h:j < ο y:=by simp at d;omega
 let a:x[j]?=δ x[j]:=Mf H;let b:y[j]?=δ y[j]:=Mf h;let⟨u,q,g⟩:=r.get a;let⟨U,Q,k⟩:=R.get b;let l:=List.all_eq_true.mp f _ (OE H);let m:=List.all_eq_true.mp F _ (OE h);let E:i.toArray[j]=u:=by let⟨_,e⟩:=ξ.mp q;simpa using e
 let n:I.toArray[j]=U:=by let⟨_,e⟩:=ξ.mp Q;simpa using e
 let G:x.getD j .non=x[j]:=by rw[OB,a];rfl
 let o:y.getD j .non=y[j]:=by rw[OB,b];rfl
 rw[E,n,G,o];rwa[sW g k l m]
inductive Xz(K:Ψ)(x y:V)(H:Hp)(Q:VK):Prop
 |mk(a b c d:_)(_:x= .ref a)(_:y= .ref b)(_:aD K H a c)(_:aD K H b d)(_:c.all cy=μ)(_:d.all cy=μ)(_:Q (.bl (sX c d)) H)
def De(f:X.A.units < cLine):eW X (compareOp .Eq) (Xz X.K):=by
 intro p s z H x y v u Q I g k h;let⟨a,b,c,Y,rfl,rfl,l,m,F,n,q⟩:=h;cases g;cases k;let⟨i,r,P,_⟩:=I.tuple l;let⟨d,R,o,_⟩:=I.tuple m;erw[eq_tupleAt (e:=λj=>nF (c.getD j .non) (Y.getD j .non)) (show s.heap.IsTuple a i.toArray from P) (show s.heap.IsTuple b d.toArray from o) f (λj t w=>se r R F n j t w) ?_];let e:((eC$ min i.toArray.size d.toArray.size).all (λj=>nF (c.getD j .non) (Y.getD j .non))&&i.toArray.size==d.toArray.size)=sX c Y:=by unfold sX;rw[Mm,Mm,<- r.length,<- R.length]
 rw[e];exact#[.bl _,H,I,Z,q]
end
end _L
namespace _L
open PySem PySem.Spec PyProof.Rows
section
variable {prog:ω}{w:bS}{A:bx}{E:η->ι->Prop}{s:ι}
def YE{Q:Nat->ι->Prop}(H:n≠0)(h:∀i d,i < n->Q i { s with drawn:=d }):π (χ prog w) A (choose a n) Q E s:=by intro Γ p _;show Sem.wp _ Γ (.choose a n .pure) _ _ p s;rw[Sem.wp_choose];exact#[H,h _ _$ Vo _$ Nat.pos_of_ne_zero H]
def X3{α:Type}:∀(n:Nat) (xs:ri α) (s:ι) {Q:ri α->ι->Prop},ο xs=n->(∀ys d,ys.Perm xs->Q ys { s with drawn:=d })->
  π (χ prog w) A (drawOrder n xs) Q E s:=by
 intro n;induction n with
 |zero=>
  intro xs s Q hl h;cases xs with
  |nil=>unfold drawOrder;rwa[Mh$ h [] s.drawn .rfl]
  |cons _ _=>cases hl
 |succ n ih=>
  intro xs s Q hl h;cases xs with
  |nil=>cases hl
  |cons x r=>unfold drawOrder;erw[Me$ YE Lz λi d hi=>?_];let hg:(x::r)[i]?=δ ((x::r)[i]'hi):=Mf hi;rw[hg];dsimp only;erw[Me$ ih _ _ (by rw[Sl hi,hl];rfl) λys d' hp=>Mh (h _ d' ?_)];erw[(List.Perm.cons _ hp).trans ?_];rw[RL];erw[List.perm_middle.symm.trans ?_];rw[PV,Ra]
end
def mj:η->ρ
 | .str x _=>x
 |_=>#[(ε [])]
def Qa(t:SetTable)(n:Nat):(t.orStandIn n).led=t.led:=by
 unfold SetTable.orStandIn;split
 .rfl
 .rfl
def YF(t:SetTable)(e:Array (Int×η))(h:Int)(x:η):(layNew t e h x).2.1.led=t.led:=by
 unfold layNew;split
 .rwa[Qa _ _]
 .rfl
def Xb(t:SetTable)(E:Array (Int×η))(n:Nat):(relayAll t E n).2.1.led=t.led:=by
 unfold relayAll;split
 .rename_i T o e
  unfold SetTable.relaid SetTable.laid at e;cases h:SetTable.layClean (SetTable.sizeAbove n - 1) (E.map (·.1)) with
  |none=>rw[h]at e;cases e
  |some O=>rw[h]at e;cases e;dsimp only;split<;>rfl
 .rfl
def KP(t:SetTable)(E:Array (Int×η))(n:Nat)(H:t.plain=ν):(relayAll t E n).2.1.plain=ν:=by
 unfold relayAll;split
 .rename_i T o e
  unfold SetTable.relaid SetTable.laid at e;cases h:SetTable.layClean (SetTable.sizeAbove n - 1) (E.map (·.1)) with
  |none=>rw[h]at e;cases e
  |some O=>
   rw[h]at e;cases e;dsimp only;split
   .rwa[H]
   .rfl
 .rfl
def cn(p:ω)(w:bS)(h:db)(a:ζ)(L:ri ρ):Prop:=
 ∃o E b t,h.get? a=δ o/\o.ExactSet/\o.data= .set E b t/\ElemsOf (cJ p w) E.toList/\(E.toList.map λe=>mj e.2).Perm L/\L.Nodup
  /\E.size < scanBound/\t.fits E.size=μ/\t.led=!(w.params.followText "set-order")/\(t.plain=ν∨E.size=0)
def cn.at{H:db}{a:ζ}(x:cn p w h a L)(e:∀o,h.get? a=δ o->H.get? a=δ o):cn p w H a L:=
 let #[o,E,b,t,c,r]:=x;#[o,E,b,t,e o c,r]
section
variable {prog:ω}{w:bS}{A:bx}{E:η->ι->Prop}{s:ι}
def JN{a:Array (Int×η)}(b:ElemsOf (cJ prog w) a.toList)(x:ρ):
  (a.toList.findIdx? (λe=>(cJ prog w).is x e.2)=θ↔¬x∈a.toList.map λe=>mj e.2):=by
 rw[List.findIdx?_eq_none_iff];constructor
 .intro h m;let⟨e,H,f⟩:=dg.mp m;obtain⟨⟨k,g,_⟩,_⟩:=b e H;let⟨t,c⟩:=O1 g;let q:=h e H;rw[c]at f q;let d:k=x:=f;subst d;let Q:(cJ prog w).is k (.str k t)=μ:=strKind_is prog w k t;rw[Q]at q;cases q
 .intro h e H;cases q:(cJ prog w).is x e.2 with
  |false=>rfl
  |true=>let⟨t,c⟩:=O1 q;rwa[absurd (dg.mpr #[e,H,by rw[c];rfl]) h]
def JO{b:Array (Int×η)}{T:SetTable}(d:s.heap.get? a=δ o)(f:o.ExactSet)(h:o.data= .set p c t)
  (g:ElemsOf (cJ prog w) b.toList) (i:(b.toList.map λe=>mj e.2).Perm L) (j:L.Nodup) (k:b.size < scanBound) (l:T.fits b.size=μ)
  (m:T.led=!(w.params.followText "set-order")) (n:T.plain=ν):
  (s.heap.update a$ kz b T).get? a=δ { o with data:=.set b (c+1) T }/\cn prog w (s.heap.update a$ kz b T) a L:=by
 let H:(s.heap.update a$ kz b T).get? a=δ { o with data:=.set b (c+1) T }:=by let q:=M0 (kz b T) d (by rw[putSet_of b T h];rfl);rw[putSet_of b T h]at q;assumption
 exact#[H,_,b,c+1,T,H,f,Z,g,i,j,k,l,m,.inl n]
def X4{Q : Bool -> ι -> Prop}(hS : cn prog w s.heap a L)(room : ο L + 1 < scanBound)
    (h : ∀ b R l, ey a s.heap R -> cn prog w R a (if x ∈ L then L else L ++ [x]) -> s.toks <= l -> Q b { s with heap := R, toks := l }) :
    π (χ prog w) A (setAdd a$ .str x f) Q E s := by
  obtain ⟨o, g, ep, t, n, U, u, H, v, B, hb, V, X, Y⟩ := hS;let d : (cJ prog w).is x (.str x f) = μ := strKind_is prog w x f;let C : g.size = ο L := by rw [<- v.length_eq, Mi, ME]
  unfold setAdd;erw[MJ$ Me ((cJ prog w).pyHash (k := x) d ?_)];unfold setAddHashed setAddHashedIn;erw[MJ$ Me$ NW (s := { s with toks := s.toks + 1 }) n u V ?_];dsimp only;rw [byScan_of Z hb H];simp only [↓reduceIte];unfold setAddByScan;erw[Me$ Me$ Nx$ Me$ wpAny_setScan_of (knd := cJ prog w) d n u V H ?_];cases hr : List.findIdx? (λe => (cJ prog w).is x e.2) g.toList with
  | some j =>
    dsimp only;let D : x ∈ L := by erw[Decidable.byContradiction λhn => ?_];let q := (JN (prog := prog) (w := w) H x).mpr λm => hn (v.mem_iff.mp m);rw [q] at hr; cases hr
    let q := h ν s.heap (s.toks + 1) (Sx a s.heap) (by rw [Mv D]; rwa[#[o, g, ep, t, n, U, u, H, v, B, hb, V, X, Y]]) (NG _);rwa[Mh$ Mh q]
  | none =>
    dsimp only;let D : ¬ x ∈ L :=λm => (JN (prog := prog) (w := w) H x).mp hr (v.mem_iff.mpr m);let W : ∀ (b : Bool) {S : ι} {Q' : Unit -> ι -> Prop}, Q' () S -> π (χ prog w) A (match b with | true => rule "set.scan.the-table-gave-way" | false => pure ()) Q' E S := by
      intro b S Q' hq;cases b
      · rwa[Mh hq]
      · rwa[Nx hq]
    let p := layNew_perm t g ((cJ prog w).hash x) (.str x f);let M := layNew_fits t g ((cJ prog w).hash x) (.str x f);let O := YF t g ((cJ prog w).hash x) (.str x f);generalize layNew t g ((cJ prog w).hash x) (.str x f) = N at p M O ⊢;obtain ⟨c, t1, w0, g4⟩ := N;dsimp only at p M O ⊢;rw [Pb] at p;let F : ElemsOf (cJ prog w) c.toList := (H.push d Z).perm p;let P : (c.toList.map λe => mj e.2).Perm (L ++ [x]) := by erw[(p.map _).trans ?_];rw [MS];rwa[v.append_right _]
    let G : (L ++ [x]).Nodup := List.nodup_append.mpr #[B, by simp,λy hy z hz e => by rw [O7] at hz; subst hz; subst e; rwa[D hy]];let io : c.size = g.size + 1 := by rw [<- ME, p.length_eq, Ml, ME]; rfl
    let b1 : c.size < scanBound := by rw [io, C]; rwa[room]
    erw[Me$ W _ ?_];let i : ∀ T : SetTable, T.fits c.size = μ -> T.led = t.led -> T.plain = ν ->
        π (χ prog w) A (do
          storeSet a c T
          if (!w0 && T.tooFull) = μ then do
              (match (relayAll T c$ SetTable.grown c.size).2.2 with | true => rule "set.scan.the-table-gave-way" | false => pure ())
              storeSet a (relayAll T c$ SetTable.grown c.size).1 (relayAll T c$ SetTable.grown c.size).2.1
              pure (δ μ)
            else pure (δ μ)) (λr s' => r = δ μ /\ Q μ s') E { s with toks := s.toks + 1 } := by
      intro T g1 g2 g3;erw[Me$ Uy (s := { s with toks := s.toks + 1 }) n u ?_$ PU b1];obtain ⟨o1, S1⟩ := JO (s := s) (prog := prog) (w := w) n U u F P G b1 g1 (g2.trans X) g3;let I := NO s.heap a (kz c T);split
      · have J := relayAll_perm T c (SetTable.grown c.size)
        let f2 := relayAll_fits T c (SetTable.grown c.size);let l2 := Xb T c (SetTable.grown c.size);let q2 := KP T c (SetTable.grown c.size) g3;generalize relayAll T c (SetTable.grown c.size) = Z at J f2 l2 q2 ⊢;obtain ⟨K, t3, g0⟩ := Z;dsimp only at J f2 l2 q2 ⊢;let bN : K.size = c.size := by rw [<- ME, J.length_eq, ME]
        let b2 : K.size < scanBound := by rw [bN]; rwa[b1]
        erw[Me$ W _$ Me$ Uy (s := { s with heap := s.heap.update a (kz c T), toks := s.toks + 1 }) o1 Z ?_$ PU b2];obtain ⟨_, S2⟩ := JO (s := { s with heap := s.heap.update a (kz c T) }) (prog := prog) (w := w) o1 U Z (F.perm J) ((J.map _).trans P) G b2 f2 (l2.trans$ g2.trans X) q2;rwa[Mh #[Z, h μ _ _ (I.trans$ NO _ a _) (by rw [Mx D]; rwa[S2]) (NG _)]]
      · rwa[Mh #[Z, h μ _ _ I (by rw [Mx D]; rwa[S1]) (NG _)]]
    split
    · rename_i tp
      erw[Me ?_];rw [hashByValue_scannable 8 (x := .str x f) Z];erw[Mh ?_];let e0 : plainKind (.str x f) = ν := rfl;rw [e0];simp only [Ms, ↓reduceIte];erw[Nk (i { t1 with plain := ν } (SetTable.fits_plain_off M) O Z) (λr s' q => ?_) λ_ _ z => z];obtain ⟨rfl, q⟩ := q;rwa[Mh q]
    · rename_i tp
      erw[Me$ Mh ?_];simp only [↓reduceIte];erw[Nk (i t1 M O (tp:)) (λr s' q => ?_) λ_ _ z => z];obtain ⟨rfl, q⟩ := q;rwa[Mh q]
end
def bj(w:bS):fx:={ cls:=.type "set",dict:=θ,data:=.set (ε []) 0 (.fresh 0 0 (!(w.params.followText "set-order"))) }
section
variable {prog:ω}{w:bS}{A:bx}{E:η->ι->Prop}{s:ι}
def X5{h:db}(e:h.get? a=δ (bj w)):cn prog w h a []:=
 #[_,(ε []),0,_,e,#[Z,Z,Z],Z,λ_ z=>by simp at z,Lz,Rj,(LB:(0:Nat) < scanBound),Z,Z,.inr Z]
def Qb(a:η){G:η->ι->Prop}(h:G (.ref (-s)) ‹s.heap.push (bj w)›):
  ib (χ prog w) A (.call (.builtin "set.__new__") #[[.type "set",a],[]]) (wants G E) s:=by
 erw[SK ?_];show π _ A.in1 (do checkBuiltinCall "set.__new__" _;again (.builtin "set.__new__" _)) _ _ s;erw[Me$ PQ (PySem.F.newCall_set_1 a)$ Mh #[Oh SF _,ND PySem.F.entry_set_new ?_]];rw[Nh SF];unfold dw.«set.__new__» Builtin.Frozenset.newClass;let o:=sub_set_self;let⟨H,g,d,t,os⟩:=s;dsimp only;wp_walk;erw[ON$ Mh ?_];dsimp only;simp only[newObj];rwa[Me$ wpAny_alloc$ Mh$ Mh h]
end
theorem StrsAre.at'{V:ri η}{s:ri ρ}(q:StrsAre V s):∀(i:Nat) (v:η),V[i]?=δ v->∃x t,s[i]?=δ x/\v= .str x t:=by
 induction q with
 |nil=>intro i v h;simp at h
 |cons y t r f=>
  intro i v h;cases i with
  |zero=>simp at h;rwa[#[y,t,Z,h.symm]]
  |succ i=>simp only[List.getElem?_cons_succ]at h;let⟨x,T,e,E⟩:=f i v h;rwa[#[x,T,by simpa using e,E]]
theorem StrsAre.len{v:ri η}{s:ri ρ}(h:StrsAre v s):ο s=ο v:=by
 induction h with
 |nil=>rfl
 |cons _ _ _ f=>simp [f]
def kc:Slot "set_iterator" "__next__" "set_iterator.__next__":=by
 erw[.of (owner:="set_iterator") (n:="__next__") ?_ Ly Ly Ly ?_ ?_]
 .rw[NC,M8];kernel_rfl
 .first |exact .inl Ly |exact .inr Ly
 .rw[NV];kernel_rfl
def qf:Slot "set_iterator" "__iter__" "set_iterator.__iter__":=by
 erw[.of (owner:="set_iterator") (n:="__iter__") ?_ Ly Ly Ly ?_ ?_]
 .rw[NC,M8];kernel_rfl
 .first |exact .inl Ly |exact .inr Ly
 .rw[NV];kernel_rfl
def JC:entryFor table "set_iterator.__next__"=δ dw.«set_iterator.__next__»:=Rh (by kernel_rfl)
def JD:entryFor table "set_iterator.__iter__"=δ dw.«dict_keyiterator.__iter__»:=by erw[Rz (id':="dict_keyiterator.__iter__") ?_ Z Ly ?_]<;>kernel_rfl
def JT:entryFor table "set.__iter__"=δ dw.«frozenset.__iter__»:=by erw[Rz (id':="frozenset.__iter__") ?_ Z Ly ?_]<;>kernel_rfl
def JU(a:η):argsOk "set_iterator.__next__" #[[a],[]]:=by unfold argsOk;kernel_rfl
def JV(a:η):argsOk "set_iterator.__iter__" #[[a],[]]:=by unfold argsOk;kernel_rfl
def bX(h:db)(I:ζ)(f:η)(i:Nat)(S:ζ)(n e:Nat):Prop:=
 ∃o,h.get? I=δ o/\o.cls= .type "set_iterator"/\o.data= .fields (ε [f,.int i 0,.ref S,.int n 0,.int e 0])
def bX.at{H:db}{i:Nat}{S:ζ}(x:bX h I f i S n E)(e:∀o,h.get? I=δ o->H.get? I=δ o):bX H I f i S n E:=
 let #[o,a,r]:=x;#[o,e o a,r]
def bX.is{s:ι}{S:ζ}(x:bX s.heap I f i S n e):s.TypeIs (.ref I) "set_iterator":=by let⟨o,h,H,_⟩:=x;rwa[#[o,h,H]]
section
variable {prog:ω}{w:bS}{A:bx}{E:η->ι->Prop}{s:ι}
def JY{c:Type}{Q:c->ι->Prop}(d:A.handled=θ)
  (h:∀H e,(∀b o,s.heap.get? b=δ o->H.get? b=δ o)->Shared.TypeIs ‹H› e "StopIteration"->E e ‹H›):
  π (χ prog w) A (do raiseNew (<- newExc (.type "StopIteration") []):Sem c) Q E s:=by
 erw[Me ?_];simp only[newExc,newTuple];erw[Me$ M4 ?_ (by size_fits)];erw[Me (m:=firstArgMember _ _)$ PQ (a:=ab) ?_ ?_]
 .first |rfl | (simp only[firstArgMember];rfl)
 erw[M4 ?_ (by size_fits)];simp only[raiseNew];erw[Me$ wpAny_handled ?_];rw[d];erw[Me$ Mh$ wpAny_throw$ h _ _ (λb o e=>Mg _ (Mg _ e)) ?_];exact#[_,Mo _ Z,Z]
def JZ{S:ζ}(H:bX s.heap I f i S n c)
  (h:π (χ prog w) A.in1 (dw.«set_iterator.__next__» #[[.ref I],[]]) (λF a=>∃v,F= .done (.ret v)/\Q (δ v) a) (λe a=>a.TypeIs e "StopIteration"/\Q θ a) s):
  π (χ prog w) A (pyNext$ .ref I) Q E s:=by
 unfold pyNext;erw[Me$ Oz$ M1 (name:=Str.ofString "__next__") H.is kc$ MY kc H.is JC ?_$ JU _];erw[Nk h (λF a q=>?_) λe a q=>?_]
 .let⟨v,e,q⟩:=q;exact#[v,e,Mh q]
 .rwa[Me$ Oj (T:="StopIteration") (b:=μ) q.1 Ry$ Mh q.2]
def QI{I:ζ}{f:η}{i:Nat}{S:ζ}{n a:Nat}{o:fx}{v:Array η}(H:s.heap.get? I=δ o)(b:o.cls= .type "set_iterator")(h:o.data= .fields v)(k:Nat)(x:η)
  (e:v.setIfInBounds k x=(ε [f,.int i 0,.ref S,.int n 0,.int a 0])):bX (s.heap.update I$ fv (·.setIfInBounds k x)) I f i S n a:=
 #[_,M0 _ H$ Nw$ MW h _,(OY ..).trans b,by rw[MW h,e]]
def YG{I S P:ζ}{i:Nat}{O j:fx}{e:Array (Int×η)}{a:Nat}{t:SetTable}{k:Array η}{c p:Nat}{hx:Int}{x:η}{Q:rm η->ι->Prop}
  (h:bX s.heap I (.ref P) i S e.size a) (l:s.heap.get? S=δ O) (H:O.data= .set e a t) (m:t.fits e.size=μ) (n:s.heap.get? P=δ j) (b:j.data= .seq k c)
  (q:k[i]?=δ (.int p 0)) (r:e[p]?=δ (hx,x)) (u:∀d,bX d I (.ref P) (i+1) S e.size a->ey I s.heap d->Q (δ x) ‹d›):
  π (χ prog w) A (pyNext$ .ref I) Q E s:=by
 erw[JZ h ?_];let⟨o,f,v,g⟩:=h;show π _ _ (fieldsOf (.ref I) >>= _) _ _ s;erw[Me$ Rt f g ?_];dsimp only;erw[Me$ OR l H m ?_];simp only[NE,Ms,↓reduceIte];erw[Me$ Ni n b ?_];simp only[Ng,q];unfold setNextDrawn;erw[Me$ Me$ NW l H m ?_];simp only[NE,Ms,↓reduceIte,r];erw[Mh ?_];erw[Me$ Nc f g Lz$ Mh #[x,Z,u _ ?_$ NO ..]];rwa[QI f v g _ _ (by simp [rawInt])]
def KQ(q:A.handled=θ){I S P:ζ}{i:Nat}{O l:fx}{d:Array (Int×η)}{m:Nat}{t:SetTable}{p:Array η}{c:Nat}{Q:rm η->ι->Prop}
  (h:bX s.heap I (.ref P) i S d.size m) (r:s.heap.get? S=δ O) (f:O.data= .set d m t) (u:t.fits d.size=μ) (v:s.heap.get? P=δ l) (g:l.data= .seq p c)
  (x:p[i]?=θ) (y:∀H,(∀b o,b≠I->s.heap.get? b=δ o->H.get? b=δ o)->Q θ ‹H›):
  π (χ prog w) A (pyNext$ .ref I) Q E s:=by
 erw[JZ h ?_];let⟨o,j,B,a⟩:=h;show π _ _ (fieldsOf (.ref I) >>= _) _ _ s;erw[Me$ Rt j a ?_];dsimp only;erw[Me$ OR r f u ?_];simp only[NE,Ms,↓reduceIte];erw[Me$ Ni v g ?_];simp only[Ng,x];erw[Me$ Nc j a Lz ?_];erw[Me$ Nc (M0 _ j$ Nw$ MW a _) (MW a _) Lz ?_];erw[JY (s:=‹_›) (q:) λH e k T=>#[T,y H λb o n z=>k b o ?_]];exact(MG _ _$ MX n).trans ((MG _ _$ MX n).trans z)
end
section
variable {prog:ω}{w:bS}{A:bx}{E:η->ι->Prop}{s:ι}
def QJ{I S:ζ}{i j nx:Nat}{O:fx}{e:Array (Int×η)}{a:Nat}{t:SetTable}{x:η}{Q:rm η->ι->Prop}
  (h:bX s.heap I (.int j 0) i S e.size a) (f:s.heap.get? S=δ O) (b:O.data= .set e a t) (k:t.fits e.size=μ)
  (l:∀(q:rm (η×Nat)->ι->Prop) m,q (δ (x,nx)) s->π (χ prog w) A.in1 (setNext S j i a) q m s)
  (n:∀c,bX c I (.int nx 0) (i+1) S e.size a->ey I s.heap c->Q (δ x) ‹c›):
  π (χ prog w) A (pyNext$ .ref I) Q E s:=by
 erw[JZ h ?_];let⟨o,d,p,H⟩:=h;show π _ _ (fieldsOf (.ref I) >>= _) _ _ s;erw[Me$ Rt d H ?_];dsimp only;erw[Me$ OR f b k ?_];simp only[NE,Ms,↓reduceIte];simp only[Ng];erw[Me$ l _ _ ?_];dsimp only;erw[Me$ Nc d H Lz ?_];let g:=M0 (fv (·.setIfInBounds 0 (rawInt nx))) d (Nw$ MW H _);let D:=MW H (·.setIfInBounds 0 (rawInt nx));erw[Me$ Nc g D Lz$ Mh #[x,Z,n _ ?_ ((NO ..).trans$ NO ..)]];rwa[QI (s:=‹_›) g ((OY ..).trans p) D _ _ (by simp [rawInt])]
def qK(l:A.handled=θ){I S:ζ}{i j:Nat}{O:fx}{a:Array (Int×η)}{c:Nat}{t:SetTable}{Q:rm η->ι->Prop}
  (h:bX s.heap I (.int j 0) i S a.size c) (m:s.heap.get? S=δ O) (d:O.data= .set a c t) (n:t.fits a.size=μ)
  (p:∀(q:rm (η×Nat)->ι->Prop) r,q θ s->π (χ prog w) A.in1 (setNext S j i c) q r s)
  (u:∀H,(∀b o,b≠I->s.heap.get? b=δ o->H.get? b=δ o)->Q θ ‹H›):
  π (χ prog w) A (pyNext$ .ref I) Q E s:=by
 erw[JZ h ?_];let⟨o,f,y,g⟩:=h;show π _ _ (fieldsOf (.ref I) >>= _) _ _ s;erw[Me$ Rt f g ?_];dsimp only;erw[Me$ OR m d n ?_];simp only[NE,Ms,↓reduceIte];simp only[Ng];erw[Me$ p _ _ ?_];dsimp only;erw[Me$ Nc f g Lz ?_];erw[JY (s:=‹_›) (l:) λH e k T=>#[T,u H λb o v x=>k b o ?_]];exact(MG _ _$ MX v).trans x
def Jm(a:w.params.followText "set-order"=μ){S:ζ}(b:s.heap.get? S=δ o)(H:o.data= .set c d t)
  (f:t.fits c.size=μ) {Q:rm (η×Nat)->ι->Prop} (h:Q (((pickOrder (w.params.setOrder S d) c)[i]?).map λe=>(e.2,j)) s):
  π (χ prog w) A (setNext S j i d) Q E s:=by
 unfold setNext;erw[Me$ NW b H f ?_];dsimp only;unfold setsByText;erw[Me$ Me$ ON$ Mh ?_];dsimp only;rw[show(χ prog w).w.params.followText "set-order"=_ from a];simp only[↓reduceIte,NE,Ms];unfold setWalk;erw[Me$ Me$ NW b H f ?_];dsimp only;unfold setsByText;erw[Me$ Me$ ON$ Mh ?_];dsimp only;rw[show(χ prog w).w.params.followText "set-order"=_ from a];simp only[↓reduceIte];rwa[Me$ ON$ Mh$ Mh h]
def JP(a:w.params.followText "set-order"=ν){S:ζ}(b:s.heap.get? S=δ o)(H:o.data= .set e c t)
  (d:t.fits e.size=μ) (f:t.led=μ) (l:e.size<=1) {Q:rm (η×Nat)->ι->Prop}
  (h:Q (match e[SetTable.below t.place j]?,t.place[SetTable.below t.place j]? with |some (_,x),δ k=>δ (x,k+1) |_,_=>θ) s):
  π (χ prog w) A (setNext S j i c) Q E s:=by
 unfold setNext;erw[Me$ NW b H d ?_];dsimp only;unfold setsByText;erw[Me$ Me$ ON$ Mh ?_];dsimp only;rw[show(χ prog w).w.params.followText "set-order"=_ from a];simp only[Ms,↓reduceIte];split
 .rename_i z
  let g:(!t.plain&&decide (e.size > 1))=μ:=z;simp only[Nz,decide_eq_true_eq]at g;omega
 .erw[Me ?_];show π _ _ (if (!t.led&&!e.isEmpty)=μ then _ else _) _ _ _;rw[f];simp only[OM,Ut,Ms,↓reduceIte];rwa[Mh$ Mh h]
end
def X6{a:Type}(f:Nat->Nat):∀(n k:Nat) (l:ri a) (o:Array a),ο l=n->(pickOrder.go f n k l o).toList.Perm (o.toList++l):=by
 intro n;induction n with
 |zero=>intro k l o h;rw[List.length_eq_zero_iff.mp h];unfold pickOrder.go;simp
 |succ n i=>intro k l o h;unfold pickOrder.go;let H:f k % ο l < ο l:=Vo _ LA;rw[Mf H];dsimp only;erw[(i _ _ _ (by rw[Sl H,h];rfl)).trans ?_];rw[Pb,RF,List.singleton_append];erw[List.Perm.append_left _ ?_];rw[RL];erw[List.perm_middle.symm.trans ?_];rw[PV,Ra]
def kr{a:Type}(f:Nat->Nat)(x:Array a):(pickOrder f x).toList.Perm x.toList:=by let h:=X6 f x.size 0 x.toList (ε []) (ME ..);simpa [pickOrder] using h
def Jg{a:Type}(x:Array a)(d:a):(eC x.size).map (λp=>(x[p]?).getD d)=x.toList:=by
 erw[RO Lz λi b h=>?_];let H:i < x.size:=by simpa using h
 simp [H]
def nO(ord:ri (Int×η))(i:Nat)(v:η):Prop:=∃e,ord[i]?=δ e/\v=e.2
section
variable {prog:ω}{w:bS}{A:bx}{E:η->ι->Prop}{s:ι}
def qV{S:ζ}(H:bX s.heap I f i S n e){Q:η->ι->Prop}(h:Q (.ref I) s):π (χ prog w) A (pyIter$ .ref I) Q E s:=by erw[R6 H.is qf$ MY qf H.is JD ?_$ JV _];show π _ _ (ret$ .ref I) _ _ s;rwa[Mh #[_,Z,"set_iterator",_,H.is,kc.lookup,h]]
def YH(D:A.handled=θ)(I S P:ζ)(l:S≠I)(m:P≠I){O oP:fx}{y:ri Nat}{c:Nat}(f:O.data= .set d G t)
  (u:t.fits d.size=μ) (g:oP.data= .seq (y.map λ(i:Nat)=>rawInt i).toArray c) (n:y.Perm (eC d.size)):
  WalksS prog w A I [I,S,P] [I] (λa b=>b=a) d.size (nO$ y.map λp=>(d[p]?).getD (0,.none))
   (λi s=>bX s.heap I (.ref P) i S d.size G/\s.heap.get? S=δ O/\s.heap.get? P=δ oP) where
 sub:=λb H=>by simp at H;simp [H]
 grefl:=λ_=>Z
 gtrans:=λ_ _ _ F J=>J.trans F
 frame:=λi s v T st _ k=>#[st.1.at λo e=>k I Lz o e,k S Lz _ st.2.1,k P Lz _ st.2.2]
 item:=λi s Q E K st j=>by
  let B:ο y=d.size:=by rw[n.length_eq,Pg]
  let h:i < ο y:=LA
  let C:y[i] < d.size:=pk.mp (n.mem_iff.mp$ OE h);erw[YG (p:=y[i]) (hx:=(d[y[i]]).1) (x:=(d[y[i]]).2) st.1 st.2.1 f u st.2.2 g (by simp [h,rawInt]) (by simp [C]) λv q r=>?_];erw[j _ _ #[d[y[i]],by simp [h,C],Z] #[q,?_,?_] #[λb o H e=>?_,Z,Z,Z,Mj _]]
  .rw[r.2 S l];rwa[st.2.1]
  .rw[r.2 P m];rwa[st.2.2]
  .rw[r.2 b (λz=>H (by simp [z]))];rwa[e]
 done:=λs Q E st j=>by
  let B:ο y=d.size:=by rw[n.length_eq,Pg]
  erw[KQ D st.1 st.2.1 f u st.2.2 g (by simp [B]) λv k=>j _ #[λb o H e=>k b o (λz=>H (by simp [z])) e,Z,Z,Z,Mj _]]
 self:=λ_ _ _ _ st j=>qV st.1 j
def sf(r:A.handled=θ)(m:w.params.followText "set-order"=μ)(I S:ζ)(l:S≠I){O:fx}(h:O.data= .set c d t)
  (j:t.fits c.size=μ):
  WalksS prog w A I [I,S] [I] (λa b=>b=a) c.size (nO (pickOrder (w.params.setOrder S d) c).toList)
   (λi s=>bX s.heap I (.int (0:Nat) 0) i S c.size d/\s.heap.get? S=δ O) where
 sub:=λb H=>by simp at H;simp [H]
 grefl:=λ_=>Z
 gtrans:=λ_ _ _ u v=>v.trans u
 frame:=λi s n T st _ k=>#[st.1.at λo e=>k I Lz o e,k S Lz _ st.2]
 item:=λi s Q E D st f=>by
  let y:(pickOrder (w.params.setOrder S d) c).size=c.size:=by rw[<- ME,(kr _ _).length_eq,ME]
  let g:i < (pickOrder (w.params.setOrder S d) c).size:=LA
  erw[QJ (x:=(pickOrder (w.params.setOrder S d) c)[i].2) (nx:=0) st.1 st.2 h j (λB C q=>Jm m st.2 h j (by rw[Nj g];rwa[q])) λn q p=>?_];erw[f _ _ #[(pickOrder (w.params.setOrder S d) c)[i],by rw[Nu];rwa[Nj g],Z] #[q,?_] #[λb o H e=>?_,Z,Z,Z,Mj _]]
  .rw[p.2 S l];rwa[st.2]
  .rw[p.2 b (λz=>H (by simp [z]))];rwa[e]
 done:=λs Q E st f=>by
  let y:(pickOrder (w.params.setOrder S d) c).size=c.size:=by rw[<- ME,(kr _ _).length_eq,ME]
  erw[qK r st.1 st.2 h j (λB C q=>Jm m st.2 h j (by rw[PH LA];rwa[q])) λn k=>f _ #[λb o H e=>k b o (λz=>H (by simp [z])) e,Z,Z,Z,Mj _]]
 self:=λ_ _ _ _ st f=>qV st.1 f
def YI(p:Nat):SetTable.below (ε [p]) 0=0:=by simp [SetTable.below,SetTable.below.go]
def YJ(p:Nat):SetTable.below (ε [p]) (p+1)=1:=by simp [SetTable.below,SetTable.below.go]
def wD(G:A.handled=θ)(u:w.params.followText "set-order"=ν)(I S:ζ)(n:S≠I){O:fx}(h:O.data= .set c L t)
  (g:t.fits c.size=μ) (v:t.led=μ) (y:c.size<=1):
  WalksS prog w A I [I,S] [I] (λa b=>b=a) c.size (nO c.toList)
   (λi s=>(∃j:Nat,bX s.heap I (.int j 0) i S c.size L/\(i=0->j=0)/\(i=1->∃p,t.place=(ε [p])/\j=p+1))/\s.heap.get? S=δ O) where
 sub:=λb d=>by simp at d;simp [d]
 grefl:=λ_=>Z
 gtrans:=λ_ _ _ K M=>M.trans K
 frame:=λi s B W st _ k=>#[let #[j,a,r]:=st.1;#[j,a.at λo e=>k I Lz o e,r],k S Lz _ st.2]
 item:=λi s Q E X st l=>by
  obtain⟨⟨j,H,J,C⟩,f⟩:=st;let N:i=0:=LA
  subst N;cases J Z;let D:c.size=1:=LA
  let P:t.place.size=1:=by simp only[SetTable.fits,Nz,beq_iff_eq]at g;omega
  let⟨p,m⟩:=Array.size_eq_one_iff.mp P;erw[QJ (x:=(c[0]'LA).2) (nx:=p+1) H f h g (λR T q=>JP u f h g v y (by rw[m,YI,Nj LA];rwa[q])) λB q F=>?_];erw[l _ _ #[c[0]'LA,by rw[Nu];rwa[Nj LA],Z] #[#[_,q,λz=>by omega,λ_=>#[p,m,Z]],?_] #[λb o d e=>?_,Z,Z,Z,Mj _]]
  .rw[F.2 S n];rwa[f]
  .rw[F.2 b (λz=>d (by simp [z]))];rwa[e]
 done:=λs Q E st l=>by
  obtain⟨⟨j,H,J,C⟩,f⟩:=st;erw[qK G H f h g (λR T q=>JP u f h g v y ?_) λB k=>l _ #[λb o d e=>k b o (λz=>d (by simp [z])) e,Z,Z,Z,Mj _]];by_cases z:c.size=0
  .rw[PH (show c.size<=_ by omega)];rwa[q]
  .let D:c.size=1:=by omega
   let⟨p,U,V⟩:=C D;subst V;rw[U,YJ,PH (show c.size<=1 by rwa[N09])];rwa[q]
 self:=λ_ _ _ _ st l=>let #[#[_,a,_],_]:=st;qV a l
end
def zY{prog:ω}{w:bS}(h:ElemsOf (cJ prog w) E)(i:Nat)(v:η)(b:nO E i v):∃x t,(E.map λe=>mj e.2)[i]?=δ x/\v= .str x t:=by let⟨e,H,rfl⟩:=b;obtain⟨⟨k,c,_⟩,_⟩:=h e (MM H);let⟨t,a⟩:=O1 c;exact#[k,t,by rw[MH,H];show δ (mj e.2)=_;rw[a];rfl,a]
def BD(p:ω)(w:bS)(s c:ι)(S I:ζ)(L:ri ρ):Prop:=
 ∃(f:ri ζ) (d:ri ρ) (P:Nat->η->Prop) (St:Nat->ι->Prop),(∀b o,s.heap.get? b=δ o->c.heap.get? b=δ o)/\c.gens=s.gens/\c.os=s.os/\s.toks<=c.toks/\
  -s<=I/\I < -c/\c.TypeIs (.ref I) "set_iterator"/\(∀b∈f,b=S∨-s<=b)/\(∀A:bx,A.handled=θ->WalksS p w A I f [I] (λa b=>b=a) d.length P St)/\St 0 c/\
  (∀i v,P i v->∃x t,d[i]?=δ x/\v= .str x t)/\d.Perm L
section
variable {prog:ω}{w:bS}{A:bx}{E:η->ι->Prop}{s:ι}
def YK{S:ζ}(V:cn prog w s.heap S L){Q:η->ι->Prop}(h:∀f I,BD prog w s f S I L->Q (.ref I) f):π (χ prog w) A (pyIter$ .ref S) Q E s:=by
 let⟨o,a,x,t,H,W,m,n,M,X,r,u,Y,N⟩:=V;let P:s.TypeIs (.ref S) "set":=#[o,H,W.1];let v:S < -s:=Mn H;erw[R6 P SE$ MY SE P JT ?_$ PySem.F.args_set_iter_1 _];unfold dw.«frozenset.__iter__»;show π _ _ (Builtin.Frozenset.sizeOf S >>= _) _ _ s;unfold Builtin.Frozenset.sizeOf;erw[Me$ Me$ OR H m u$ Mh ?_];unfold setDrawn;erw[Me$ Me$ NW H m u ?_];dsimp only;unfold setsByText;erw[Me$ Me$ ON$ Mh$ Mh ?_];split
 .rename_i z
  let B:(!(w.params.followText "set-order")&&(!t.plain&&decide (a.size > 1)))=μ:=z;simp only[Nz,decide_eq_true_eq]at B;erw[Me$ X3 a.size (eC a.size) s Lz λy d G=>?_];let C:ο y=a.size:=by rw[G.length_eq,Pg]
  let O:((y.map λ(i:Nat)=>rawInt i).length)<=υ:=by rw[Mi,C];rwa[PU r]
  erw[Me$ O0 (s:={ s with drawn:=d }) ?_ O];erw[Me ?_];unfold setEpoch;erw[Me$ NW (Mg _ H) m u$ Mh ?_];erw[Me$ M4$ Mh #[_,Z,"set_iterator",_,#[_,Mo _ Z,Z],kc.lookup,h _ _ ?_]];generalize J:s.heap.push { cls:=.type "tuple",data:=.seq (y.map λ(i:Nat)=>rawInt i).toArray }=g;let R:g.objs.size=-s+1:=by rw[<- J,Na]
  let gP:g.get? (-s)=δ { cls:=.type "tuple",data:=.seq (y.map λ(i:Nat)=>rawInt i).toArray }:=by rw[<- J];rwa[Mo _ Z]
  let gS:g.get? S=δ o:=by rw[<- J];rwa[Mg _ H]
  refine#[[g.objs.size,S,-s],(y.map λp=>(a[p]?).getD (0,.none)).map λe=>mj e.2,nO$ y.map λp=>(a[p]?).getD (0,.none),
   (λi f=>bX f.heap g.objs.size (.ref (-s)) i S a.size x/\f.heap.get? S=δ o/\f.heap.get? (-s)=δ { cls:=.type "tuple",data:=.seq (y.map λ(i:Nat)=>rawInt i).toArray }),λb o e=>?_,Z,Z,Mj _,?_,?_,#[_,Mo _ Z,Z],λb r=>?_,
   λT D=>?_,#[#[_,Mo _ Z,Z,Z],Mg _ gS,Mg _ gP],?_,?_]
  .rwa[Mg _ (by rw[<- J];rwa[Mg _ e])]
  .show -s<=g.objs.size;omega
  .show g.objs.size < (g.push _).objs.size;rw[Na];rwa[NF _]
  .simp only[Og,MU,P8]at r;rcases r with e |e |e
   .subst e;rwa[.inr LA]
   .rwa[.inl e]
   .rw[e];rwa[.inr (Mj _)]
  .let q:=YH (prog:=prog) (w:=w) D g.objs.size S (-s) (Mt (by rw[R];rwa[Of v])) (Mt (by rw[R];rwa[NF _])) m u (oP:={ cls:=.type "tuple",data:=.seq (y.map λ(i:Nat)=>rawInt i).toArray }) (c:=0) Z G;simpa [C] using q
  .erw[zY (prog:=prog) (w:=w)$ n.perm ?_];let q:=G.map λp=>(a[p]?).getD ((0:Int),ab);rw[Jg]at q;assumption
  .let q:=G.map λp=>(a[p]?).getD ((0:Int),ab);rw[Jg]at q;exact(q.map _).trans M
 .rename_i z
  let B:¬(!(w.params.followText "set-order")&&(!t.plain&&decide (a.size > 1)))=μ:=z;erw[Me$ Mh ?_];erw[Me ?_];unfold setEpoch;erw[Me$ NW H m u$ Mh ?_];erw[Me$ M4$ Mh #[_,Z,"set_iterator",_,#[_,Mo _ Z,Z],kc.lookup,h _ _ ?_]];let k:∀b∈[-s,S],b=S∨-s<=b:=λb r=>by
   simp only[Og,MU,P8]at r;rcases r with e |e
   .subst e;rwa[.inr (Mj _)]
   .rwa[.inl e]
  let l:∀U:fx,-s < (s.heap.push U).objs.size:=λU=>by rw[Na];rwa[NF _]
  cases K:w.params.followText "set-order" with
  |true=>
   let pl:(pickOrder (w.params.setOrder S x) a).toList.length=a.size:=by rw[(kr _ _).length_eq,ME]
   refine#[[-s,S],(pickOrder (w.params.setOrder S x) a).toList.map λe=>mj e.2,nO (pickOrder (w.params.setOrder S x) a).toList,
    (λi f=>bX f.heap (-s) (.int (0:Nat) 0) i S a.size x/\f.heap.get? S=δ o),λb o e=>Mg _ e,Z,Z,Mj _,Mj _,l _,#[_,Mo _ Z,Z],k,
    λT D=>?_,#[#[_,Mo _ Z,Z,Z],Mg _ H],?_,?_]
   .let q:=sf (prog:=prog) (w:=w) D K (-s) S (Mt v) m u;rw[Mi,pl];rwa[q]
   .rwa[zY (prog:=prog) (w:=w)$ n.perm$ kr _ _]
   .exact((kr _ _).map _).trans M
  |false=>
   let hs:a.size<=1:=by
    rw[K]at B;rcases N with e |e
    .rw[e]at B;simp at B;rwa[B]
    .omega
   refine#[[-s,S],a.toList.map λe=>mj e.2,nO a.toList,
    (λi f=>(∃j:Nat,bX f.heap (-s) (.int j 0) i S a.size x/\(i=0->j=0)/\(i=1->∃p,t.place=(ε [p])/\j=p+1))/\f.heap.get? S=δ o),λb o e=>Mg _ e,Z,Z,Mj _,Mj _,l _,#[_,Mo _ Z,Z],k,
    λT D=>?_,#[#[0,#[_,Mo _ Z,Z,Z],λ_=>Z,λz=>by cases z],Mg _ H],?_,?_]
   .let q:=wD (prog:=prog) (w:=w) D K (-s) S (Mt v) m u (by rw[Y,K];rfl) hs;rw[Mi,ME];rwa[q]
   .rwa[zY (prog:=prog) (w:=w) n]
   .rwa[M]
theorem qL:∀(V:ri η) (S:ri ρ),ο V=ο S->(∀(i:Nat) (v:η),V[i]?=δ v->∃x t,S[i]?=δ x/\v=ks x t)->StrsAre V S
 | [],[],_,_=>.nil
 | [],_::_,h,_ |_::_,[],h,_=>by cases h
 |v::V,y::S,h,k=>by let⟨x,t,e,rfl⟩:=k 0 v Z;cases e;rwa[.cons y t$ qL V S (h:) λi u H=>k (i+1) u (H:)]
def Qc{S:ζ}(hh:A.handled=θ)(y:cn prog w s.heap S L){Q:ri η->ι->Prop}
  (h:∀a V g,-s<=-a->(∀b o,s.heap.get? b=δ o->a.heap.get? b=δ o)->a.gens=s.gens->a.os=s.os->s.toks<=a.toks->StrsAre V g->g.Perm L->Q V a):π (χ prog w) A (collect$ .ref S) Q E s:=by
 let n:ο L < scanBound:=by let⟨o,es,ep,t,j,M,hd,h0,u,h1,k,hf,hl,h2⟩:=y;rw[<- u.length_eq,Mi,ME];rwa[k]
 unfold collect;erw[Me$ SV$ ND RN ?_];rw[Nh RM];show π _ A.in1 (newList [] >>= λl=>again (.builtin "list.__iadd__" #[[l,.ref S],[]])) _ _ s;erw[Me$ M4$ Mh #[Oh OK _,ND Si ?_]];rw[Nh OK];show π _ A.in1 (fy (.ref (-s)) (.ref S)$ .ref (-s)) _ _ _;unfold fy;let p:S < -s:=by let⟨o,_,_,_,j,_⟩:=y;rwa[Mn j]
 generalize x:s.heap.push { cls:=.type "list",data:=.seq ([]:ri η).toArray }=H;let gl:H.get? (-s)=δ { cls:=.type "list",data:=.seq ([]:ri η).toArray }:=by rw[<- x];rwa[Mo _ Z]
 let R:cn prog w H S L:=y.at λo e=>by rw[<- x];rwa[Mg _ e]
 let gk:∀b o,s.heap.get? b=δ o->H.get? b=δ o:=λb o e=>by rw[<- x];rwa[Mg _ e]
 let T:Shared.TypeIs ‹H› (.ref S) "set":=by let⟨o,_,_,_,j,M,_⟩:=R;exact#[o,j,M.1]
 erw[Me$ N7 T ?_];let n1:ef (.ref (-s)) (.ref S)=ν:=by simp only[ef,beq_eq_false_iff_ne];rwa[Nf p]
 let n2:(de "set"==de "list")=ν:=LB
 let n3:(de "set"==de "tuple")=ν:=LB
 simp only[n1,n2,n3,SH,Ms,Ny];erw[Me$ YK (s:=‹H›) R λr I B=>?_];let⟨fp,g,P,St,K,kg,ko,kt,C,h3,h4,D,W,st,hv,u⟩:=B;let G:H.objs.size=-s+1:=by rw[<- x,Na]
 let f:r.TypeIs (.ref S) "set":=by let⟨o,j,hc⟩:=T;exact#[o,K _ _ j,hc]
 erw[Me$ MJ ?_];unfold im;erw[Me$ NZ f PySem.F.slot_set_len.lookup ?_]
 wp_delta
 erw[Me$ Oj (b:=μ) f sub_set_self ?_];show π _ A.in1 (typeOf (Θ S) >>= _) _ _ _;erw[Me$ N7 f$ Mh ?_];rw[Mv LB];erw[Me$ Nx ?_];let U:=K _ _ gl;erw[Me ?_];show π _ A.in1 (updateSeq (-s) (·.push .none) >>= λ_=>updateSeq (-s) (·.pop)) _ _ _;erw[Me$ Rm U Z ?_];let X:=M0 (bm (·.push ab)) U Z;erw[Rm X Z ?_];let g3:=M0 (bm (·.pop)) X Z;let N:¬-s∈fp:=λm=>by
  rcases D _ m with e |e
  .rwa[absurd p (by rw[<- e];rwa[Nt _])]
  .let e':H.objs.size<=-s:=e;omega
 let O:∀b o,b≠-s->r.heap.get? b=δ o->((r.heap.update (-s)$ bm (·.push ab)).update (-s)$ bm (·.pop)).get? b=δ o:=
  λb o k e=>(MG _ _$ MX k).trans ((MG _ _$ MX k).trans e)
 let Y:=W A.in1 (hh:);let hn:ο g<=υ:=by rw[u.length_eq];rwa[PU n]
 erw[Mh #[Oh RU _,Ue Y hn _ N _ g.length 0 _ _ _ Z (Mu _) (Y.frame 0 r _ r.toks st (Mj _) λb k o e=>O b o (λz=>N (z▸k)) e) g3 (Up P) λa J c m gS d=>?_]];show π _ A (load (-s) >>= _) _ _ a;erw[Me$ Uu gS$ Mh$ h a J.toList g (Ol$ Mn gS) (λb o e=>?_) ?_ ?_ ?_ ?_ u]
 .let ne:b≠-s:=Mt (Mn e);erw[m.heap b o ?_$ O b o ne$ K b o$ gk b o e];simp only[Og,MU,P8,not_or];erw[#[ne,λz=>?_]];let q:-s+1<=I:=G▸C;let q2:=Mn e;rw[z]at q2;rwa[absurd (MD (Of q2) q)$ Nt _]
 .rwa[m.gens.trans kg]
 .rwa[m.os.trans ko]
 .rwa[Mw kt m.toks]
 .erw[qL _ _ (by rw[ME,d.1]) λi v e=>hv i v (d.2 i v (by rw[Nu]at e;assumption))]
end
section
variable {prog:ω}{w:bS}{A:bx}{E:η->ι->Prop}{s:ι}
def Xc{S:ζ}(z:A.handled=θ)(B:cn prog w s.heap S L)(j:ο L < 64){Q:η->ι->Prop}
  (h:∀f a c v i,-s<=a->(∀b o,s.heap.get? b=δ o->f.heap.get? b=δ o)->f.gens=s.gens->f.os=s.os->f.heap.get? a=δ (seqObj "list" v c)->StrsAre v.toList i->i.Perm L->sortedS i=μ->Q (.ref a) f):
  π (χ prog w) A (call (.builtin "sorted") [.ref S]) Q E s:=by
 erw[OF Sy Sa Sb (Sc _) ?_];unfold dw.«sorted»;erw[Me (m:=checkCount "sorted" 1 1 _)$ Mh ?_];erw[Me$ Qc (z:) B λd v i K k C D P H r=>?_];let F:ο v < 64:=by rw[<- _L.StrsAre.len H,r.length_eq];rwa[j]
 erw[Me$ OT ?_ (by let q:υ=1000000000∨64<=υ:=.inr LB;omega)];let g:=Mo d.heap (o:=seqObj "list" v.toArray 0) Z;erw[Me$ MJ$ MY Ru #[_,g,Z] Ro (list_sort_treeK strKind_oneLt g H.keysOf (λV t R e=>keyKind_strs (by rw[<- e];rwa[H])) F λl G I=>#[_,Z,?_]) (RC _)];let⟨n,u,J,M⟩:=sorted_out_str H G I;generalize (arrOf l).map (·.2)=out at u ⊢;let⟨c,N⟩:=sortedHeap_at (out:=out) g;let O:∀b o,s.heap.get? b=δ o->(sortedHeap (d.heap.push$ seqObj "list" v.toArray 0) (-d) v out).get? b=δ o:=by
  intro b o e;let x:=k b o e;let y:b < -d:=Mn x;let p:b < (d.heap.push$ seqObj "list" v.toArray 0).objs.size:=by rw[Ta];rwa[Of y]
  rw[sortedHeap_old (Mt y) p];rwa[Mg _ x]
 rwa[Mh #[_,Z,h { d with heap:=sortedHeap (d.heap.push$ seqObj "list" v.toArray 0) (-d) v out } (-d) c out n K O C D N u (J.trans r) M]]
end
def Jn(h:StrsAre v s):ay (s.map qr) v:=by
 induction h with
 |nil=>rwa[.nil]
 |cons y t _ i=>rwa[.cons #[t,Z] i]
def Hj(P:ω)(w:bS)(a:ζ)(L:ri ρ):HO:=.ext λh=>cn P w h a L
section
variable {X:Cx}
def zZ(i:X.calm=μ):dA X (.builtin "sorted") (λx H Q=>∃(p:ζ) (L:ri ρ),x=[.ref p]/\H p=δ (Hj X.prog X.w p L)/\ο L < 64/\
  ∀l S,H l=θ->S.Perm L->L.Nodup->sortedS S=μ->Q (.ref l) (ah H l$ .lst$ S.map qr)):=by
 intro P s B H x U Q I r h;let⟨p,L,rfl,j,d,q⟩:=h;let⟨u,rfl,R⟩:=eG r;cases R;let⟨f,_,_⟩:=I.hok p _ j;let b:L.Nodup:=by let⟨_,_,_,_,_,_,_,_,_,b,_⟩:=f;rwa[b]
 erw[Xc (I.ok.hd i) f d λm a c v S e k K o t y g A=>?_];let len:(S.map qr).length<=υ:=by rw[Mi,g.length_eq];rwa[Mw (Ol d) LB]
 let n:aK X.prog X.w (ah H a$ .lst$ S.map qr) m.heap a (.lst$ S.map qr):=#[len,v.toList,c,Jn y,t];erw[#[.ref a,_,I.call' (ch:=[]) o (Un.laid k e$ I.hok.fresh e) (I.hok.laid k e n) (by rw[K];rwa[I.bare]) (λ_ z=>nomatch z),Z,q _ _ (I.hok.fresh e) g b A]]
def Xd:dA X (.builtin "sorted") (λx H Q=>∃(p:ζ) (a:ri ρ),x=[.ref p]/\aI X.K H p (a.map qr)/\ο a < 64/\
  ∀l S,H l=θ->S.Perm a->sortedS S=μ->Q (.ref l) (ah H l$ .lst$ S.map qr)):=by
 intro P s v H x U Q I r h;let⟨p,a,rfl,f,b,q⟩:=h;let⟨u,rfl,R⟩:=eG r;cases R;let⟨i,g,j,y⟩:=I.list f;let d:=zW g;let k:ο i=ο a:=(_L.StrsAre.len d).symm;erw[sorted_strs j.isList d (by rw[k];rwa[b]) λo S m A n=>?_];let⟨c,t⟩:=sortedAll_at s.heap i o;let len:(S.map qr).length<=υ:=by rw[Mi,A.length_eq];rwa[Mw (Ol b) LB]
 erw[#[.ref$ -s+1,_,I.laid (t':=s.toks) (λ_ _ e=>sortedAll_old e) (NG _) (show aK X.prog X.w _ _ _ (.lst$ S.map qr) from #[len,o.toList,c,Jn m,t]),Z,q _ _ (I.hok.fresh$ NG _) A n]]
end
def Zn:mroOf (.type "reversed")=pure [.type "reversed",.type "object"]:=by rw[mroOf_type];kernel_rfl
def KR:typeLookup (.type "reversed") "__new__"=pure (δ$ .builtin "reversed.__new__"):=by rw[NC,M8];kernel_rfl
def Qd:Slot "reversed" "__init__" "object.__init__":=by
 erw[.of (owner:="object") (n:="__init__") ?_ Ly Ly Ly ?_ ?_]
 .rw[NC,M8];kernel_rfl
 .first |exact .inl Ly |exact .inr Ly
 .rw[NV];kernel_rfl
def YL:TypeCalled "reversed" "reversed.__new__" "object.__init__":=by erw[#[Ly,Ly,#[_,_,Zn],madeBy_type Zn KR Ly,Ly,?_,Qd]];rw[NV];kernel_rfl
def Xe(a:η):checkTypeCall "reversed" #[[a],[]]=pure ():=by kernel_rfl
def X7(a:η):checkBuiltinCall "reversed.__new__" #[[.type "reversed",a],[]]=pure ():=by kernel_rfl
def Qe:entryFor table "reversed.__new__"=δ dw.«reversed.__new__»:=Rh (by kernel_rfl)
def Af:isSubtype (.type "reversed") (.type "reversed")=pure μ:=by rw[NV];kernel_rfl
def Xf:typeLookup (.type "tuple") "__reversed__"=pure θ:=by rw[NC,M8];kernel_rfl
def KU:isSubtype (.type "tuple") (.type "dict")=pure ν:=by rw[NV];kernel_rfl
def revObj(t:ζ)(n:Int):fx:={ cls:=.type "reversed",data:=.fields (ε [.ref t,.int (n - 1) 0]) }
section
variable {prog:ω}{w:bS}{A:bx}{E:η->ι->Prop}{s:ι}
def sF{Q:η->ι->Prop}(H:IsTup s.heap t i)(c:(i.size:Int) < 2 ^ 63)
  (h:Q (.ref (-s)) { s with heap:=s.heap.push (revObj t i.size),toks:=s.toks+1+1 }):π (χ prog w) A (call (.type "reversed") [.ref t]) Q E s:=by
 refine TN (S:=λ_ R a=>a=s/\R (.ok$ .ret$ .ref (-s)) { s with heap:=s.heap.push (revObj t i.size),toks:=s.toks+1+1 }) YL LB (Xe _) (X7 _) (λo=>O3 o _) Qe
  (.of_wp λp W f R a d=>?_) #[Z,#[_,Mo _ Z,Z],h]
 let⟨rfl,e⟩:=d;unfold dw.«reversed.__new__» Builtin.SmallTypes.newClass;erw[Me ?_];dsimp only;erw[Me$ Mh ?_];simp only[OM,Ms,Ny];erw[Me$ PQ Af ?_];simp only[OM,Ms,Ny];erw[Mh ?_];erw[Me (m:=Builtin.SmallTypes.refuseKeywords _ _ _)$ Mh ?_];erw[Me (m:=checkCount "reversed" 1 1 _)$ Mh ?_];dsimp only;erw[Me$ NZ H.typeIs Xf ?_];dsimp only;erw[Me ?_];show π _ _ (isInstance (.ref t) (.type "dict") >>= _) _ _ _;erw[Me$ Oj (b:=ν) H.typeIs KU ?_];simp only[Ms,Ny];erw[Me$ NZ H.typeIs PyProof.Rows.slot_tuple_getitem.lookup ?_];dsimp only;rw[Mv Ly];erw[Mh ?_];simp only[OM,Ms,Ny];erw[Me$ len_tuple H c ?_];erw[Me (m:=asInt? _)$ Mh ?_];dsimp only;show π _ _ (newObj (.type "reversed") (.fields [Θ t,rawInt ((i.size:Int) - 1)].toArray) >>= _) _ _ _;rwa[Me$ M4$ Mh #[_,Z,e]]
end
def zK:Slot "reversed" "__next__" "reversed.__next__":=by
 erw[.of (owner:="reversed") (n:="__next__") ?_ Ly Ly Ly ?_ ?_]
 .rw[NC,M8];kernel_rfl
 .first |exact .inl Ly |exact .inr Ly
 .rw[NV];kernel_rfl
def qM:Slot "reversed" "__iter__" "reversed.__iter__":=by
 erw[.of (owner:="reversed") (n:="__iter__") ?_ Ly Ly Ly ?_ ?_]
 .rw[NC,M8];kernel_rfl
 .first |exact .inl Ly |exact .inr Ly
 .rw[NV];kernel_rfl
def KW:entryFor table "reversed.__next__"=δ dw.«reversed.__next__»:=Rh (by kernel_rfl)
def KY:entryFor table "reversed.__iter__"=δ dw.«dict_keyiterator.__iter__»:=by erw[Rz (id':="dict_keyiterator.__iter__") ?_ Z Ly ?_]<;>kernel_rfl
def Qg(a:η):argsOk "reversed.__next__" #[[a],[]]:=by unfold argsOk;kernel_rfl
def Qh(a:η):argsOk "reversed.__iter__" #[[a],[]]:=by unfold argsOk;kernel_rfl
def dH(h:db)(I t:ζ)(k:Int):Prop:=∃o,h.get? I=δ o/\o.cls= .type "reversed"/\o.data= .fields (ε [.ref t,.int k 0])
def dH.at{H:db}(x:dH h I t k)(e:∀o,h.get? I=δ o->H.get? I=δ o):dH H I t k:=by let⟨o,a,r⟩:=x;rwa[#[o,e o a,r]]
def dH.is{s:ι}(x:dH s.heap I t k):s.TypeIs (.ref I) "reversed":=by let⟨o,h,H,_⟩:=x;rwa[#[o,h,H]]
section
variable {prog:ω}{w:bS}{A:bx}{E:η->ι->Prop}{s:ι}
def XA(H:dH s.heap I t k)
  (h:π (χ prog w) A.in1 (dw.«reversed.__next__» #[[.ref I],[]]) (λf S=>∃v,f= .done (.ret v)/\Q (δ v) S) (λe S=>S.TypeIs e "StopIteration"/\Q θ S) s):
  π (χ prog w) A (pyNext$ .ref I) Q E s:=by
 unfold pyNext;erw[Me$ Oz$ M1 (name:=Str.ofString "__next__") H.is zK$ MY zK H.is KW ?_$ Qg _];erw[Nk h (λf S q=>?_) λe S q=>?_]
 .let⟨v,e,q⟩:=q;exact#[v,e,Mh q]
 .rwa[Me$ Oj (T:="StopIteration") (b:=μ) q.1 Ry$ Mh q.2]
def Fn{I t:ζ}{k:Nat}{items:Array η}{x:η}{Q:rm η->ι->Prop}(H:dH s.heap I t k)(c:IsTup s.heap t items)(d:items[k]?=δ x)(e:(items.size:Int) < 2 ^ 63)
  (f:∀b,dH b I t ((k:Int) - 1)->ey I s.heap b->Q (δ x) { s with heap:=b,toks:=s.toks+1 }):π (χ prog w) A (pyNext$ .ref I) Q E s:=by
 erw[XA H ?_];let⟨o,a,g,h⟩:=H;let i:k < items.size:=(β.mp d).1;show π _ _ (field (.ref I) 0 >>= _) _ _ s;erw[Me$ MO a h (x:=.ref t) Z$ Me$ MO a h (x:=.int k 0) Z ?_];dsimp only;rw[Mx LA];erw[Me$ NZ c.typeIs PyProof.Rows.slot_tuple_getitem.lookup ?_];simp only[Tg,Ms,Ny];erw[Me$ wpAny_mkInt$ Me$ Oz ?_];erw[getItem_tuple (s:={ s with toks:=s.toks+1 }) c LA LA (j:=k) ?_ d ?_]
 .unfold seqIndex?;simp;omega
 erw[Me$ MO (s:={ s with toks:=s.toks+1 }) a h (x:=.int k 0) Z ?_];dsimp only;erw[Me$ Nc a h Lz$ Mh #[x,Z,f _ ?_$ NO ..]];exact#[_,M0 _ a$ Nw$ MW h _,(OY ..).trans g,by rw[MW h];simp [rawInt]]
def rA(f:A.handled=θ){Q:rm η->ι->Prop}(h:dH s.heap I t (-1))
  (g:∀a,(∀b o,b≠I->s.heap.get? b=δ o->a.get? b=δ o)->Q θ ‹a›):π (χ prog w) A (pyNext$ .ref I) Q E s:=by
 erw[XA h ?_];let⟨o,c,j,H⟩:=h;show π _ _ (field (.ref I) 0 >>= _) _ _ s;erw[Me$ MO c H (x:=.ref t) Z$ Me$ MO c H (x:=.int (-1) 0) Z ?_];dsimp only;rw[Mv LB];erw[Me$ Nx$ Me ?_];show π _ _ (setField (.ref I) 1 (rawInt (-1)) >>= λ_=>setField (.ref I) 0 .none) _ _ _;erw[Me$ Nc c H Lz ?_];erw[Nc (M0 _ c$ Nw$ MW H _) (MW H _) Lz ?_];erw[Me ?_];erw[JY (s:=‹_›) (f:) λa e k T=>#[T,g a λb o d i=>k b o ?_]];exact(MG _ _$ MX d).trans ((MG _ _$ MX d).trans i)
def AY(H:dH s.heap I t k){Q:η->ι->Prop}(h:Q (.ref I) s):π (χ prog w) A (pyIter$ .ref I) Q E s:=by erw[R6 H.is qM$ MY qM H.is KY ?_$ Qh _];show π _ _ (ret$ .ref I) _ _ s;rwa[Mh #[_,Z,"reversed",_,H.is,zK.lookup,h]]
end
def JQ:entryFor table "dict.update.loop"=δ dw.«dict.update.loop»:=Rh (by kernel_rfl)
def zG:plainId "dict.update.loop"=μ:=Ly
section
variable {X:Cx}{o lo hi:dr}{to tl th:TE}{pos p2:Pos}
inductive EW(v:V)(h:St)(Q:St->Hp->Prop)(e a c:V)(d:Hp):Prop
 |mk(l b f g i j:_)(_:e= .ref l)(_:v= .ref b)(_:a= .int i)(_:c= .int j)(_:d l=δ (.lst f))(_:d b=δ (.lst g))(_:l≠b)(_:0<=i)(_:i<=j)(_:j<=(f.length:Int))(_:ο f+ο g<=υ)(_:Q h (ah d l (.lst (f.take i.toNat++g++f.drop j.toNat))))
def Ld(to tl th:TE):TG:=λv b H Q=>to b H λO h=>tl b h λa c=>th b c (EW v b Q O a)
def uI(n:PE X o to)(t:PE X lo tl)(w:PE X hi th)
  (A:∀v,assign (.Subscript o (.Slice (δ lo) (δ hi) θ p2) pos) X.env v=(do
   let O <- iu [v] (eval o X.env)
   let c <- iu [v,O] (eval (.Slice (δ lo) (δ hi) θ p2) X.env)
   standAt pos
   iu [v,O,c] (setItem O c v)
   release [c,v,O] []):=by intro _;rfl):PG X (.Subscript o (.Slice (δ lo) (δ hi) θ p2) pos) (Ld to tl th):=by
 intro p s a H v u Q I r h;rw[A];erw[Me$ MJ$ aU (n p s a H _ I h) λO B d=>?_];let⟨x,C,D,R,E⟩:=d;erw[Me$ MJ ?_];erw[wpAny_Slice$ aU (t p B a C _ D E) λV F #[y,G,J,K,L]=>aU (w p F a G _ J L) λm S f=>?_];let⟨z,M,N,P,l,b,xs,ys,i,j,T,U,W,Y,h1,h2,g,h0,k,hj,hz,q⟩:=f;subst T U W Y;cases (show O=Θ l from R);cases (show u=Θ b from r);erw[Mh ?_];let I4:ap X p a M { S with heap:=S.heap.push { cls:=.type "slice",data:=.fields (ε [V,m,.none]) } }:=N.kept (t':=S.toks) λb o e=>Mg _ e;erw[Me$ Oy$ Me$ MJ ?_];rwa[Z7 I4 h1 h2 g (RZ S.heap V m .none) K P h0 k hj hz λs5 I5=>wpAny_release #[a,_,I5,q]]
end
end _L
namespace _L
open PySem PySem.Spec PyProof.Rows Builtin Builtin.Str
section
variable {prog:ω}{w:bS}{A:bx}{E:η->ι->Prop}{s:ι}
def Jp{lo:rm Int}{Q:η->ι->Prop}(H:IsTup s.heap t i)(d:s.heap.IsSliceOf e v j .none)(p:IsPart v lo)(P:IsPart j f)
  (g:HT.sIx i.size 0 lo=0/\HT.sIx i.size i.size f=i.size) (h:Q (.ref t) s):π (χ prog w) A (getItem (.ref t)$ .ref e) Q E s:=by
 let⟨os,a,b,k⟩:=id d;let c:s.TypeIs (.ref e) "slice":=#[os,a,b];unfold getItem;try with_reducible erw[MJ ?_]
 first |refine Me (Mh ?_) |skip
 erw[Me$ R0 H.typeIs LB ?_];refine Me (M1 (name:=Str.ofString "__getitem__") H.typeIs N8
  (MY N8 H.typeIs Vd ?_$ Vi _ _))
 show π _ _ (ny (.ref t) >>= _) _ _ s;erw[Me$ Vb H ?_];erw[Me$ N7 c ?_];rw[Mv LB];erw[Me$ HT.sliceApplied_gen d p P ?_];show π _ _ (if (((HT.sIx i.size 0 lo:Nat):Int)==0&&(1:Int)==1&&(HT.sIx i.size i.size f - HT.sIx i.size 0 lo)==i.size)=μ then _ else _) _ _ s;rw[g.1,g.2,Mv Lz];unfold Builtin.Tuple.tupleIsExact;erw[Me$ Me$ N7 H.typeIs$ Mh ?_];rw[Mv LB];first
  |exact Nx (Mh #[_,Z,Mh h])
  |exact Me (Nx (Mh #[_,Z,Mh h]))
  |exact Me (Mh (Mh #[_,Z,Mh h]))
end
section
variable {X:Cx}
inductive uQ(x y:V)(H:Hp)(Q:VK):Prop
 |mk(a b c d:_)(_:x= .ref a)(_:y= .ref b)(_:H a=δ (.tup c))(_:H b=δ (.tup d))(_:ο c+ο d<=υ)(_:∀r H',H' r=δ (.tup (c++d))->ae H H'->Q (.ref r) H')
def j5:eW X (binaryOp .Add) uQ:=by
 intro P s G H x y v u Q I r R h;let⟨a,b,m,Y,rfl,rfl,d,f,J,q⟩:=h;let t:=aD.of (K:=X.K) d;let w:=aD.of (K:=X.K) f;by_cases z:m=[]
 .subst z;cases r;cases R;let⟨l,L,M,_⟩:=I.tuple t;let⟨i,r2,N,_⟩:=I.tuple w;let O:l=[]:=L.nil_iff.mpr Z;subst O;obtain⟨⟨T,U,A,V⟩,B,C,n,E⟩:=id M;obtain⟨⟨F,D,data2,S⟩,g,j,W,k⟩:=id N;simp only at C E j k;subst C E j k;exact TK #[_,B,Z] #[_,g,Z] So Tn Po Pe (O9 _ _)
   (tuple_addW0 a b ([]:ri η).toArray i.toArray n W U D V S Z) #[B,g,.ref b,H,I,Z,q b H f$ ae.refl H]
 .refine yu P s G H _ _ v u Q I r R #[a,b,m,Y,Z,Z,t,w,z,J,λe=>?_,λ_ p np=>?_]
  .subst e;rwa[q a H (by rw[RY];rwa[d])$ ae.refl H]
  .exact q p _ jc λc o e=>by rw[ji$ jk e np];rwa[e]
inductive Du(x:V)(c b:rm Int)(H:Hp)(Q:VK):Prop
 |mk(a d:_)(_:x= .ref a)(_:H a=δ (.tup d))(_:∀r H',H' r=δ (.tup (aP d c b))->ae H H'->Q (.ref r) H')
def kC:Hi X Du:=by
 intro P s u H x v V w lo j S Q I R k l m h;let⟨a,b,rfl,d,q⟩:=h;let n:=aD.of (K:=X.K) d;by_cases g:HT.sIx b.length 0 lo=0/\HT.sIx b.length b.length j=ο b
 .cases R;let⟨i,r,t,y⟩:=I.tuple n;let f:i.toArray.size=ο b:=by rw[Mm];exact r.length.symm
  erw[#["tuple",_,PyProof.Rows.slot_tuple_getitem.lookup,t.typeIs,?_]];erw[Jp t k l m (by rw[f];rwa[g]) #[.ref a,H,I,Z,q a H ?_$ ae.refl H]];rw[d];unfold aP;rw[g.1,g.2,Uo,RI,Np]
 .rwa[DU P s u H _ v V w lo j S Q I R k l m #[a,b,Z,n,g,λp N=>q p _ jc λc o e=>by rw[ji$ jk e N];rwa[e]]]
end
end _L
namespace _L
open PySem PySem.Spec PyProof.Rows
def AB{G:Bool->Hp->Prop}(y:G μ H)(n:b=ν->G b H):G b H:=by
 cases b
 .rwa[n Z]
 .rwa[y]
def aV{A:Prop}(h:∀G:Prop,(A->G)->G):A:=h A λz=>z
section
variable {t u:TS}{D:a9}{σ:St}{H:Hp}
def fc(h:∀E:a9,(∀a b,u D a b->E.nx a b)->t E σ H):eO t u D σ H:=h { D with nx:=u D } λ_ _ h=>h
def aj(h:∀F:St->Hp->Prop,(∀a b,u D a b->F a b)->t { D with nx:=F } σ H):eO t u D σ H:=h _ λ_ _ h=>h
def oF{c:TT}(h:∀F:Bool->Hp->Prop,(∀b a,(if b=μ then t D σ a else u D σ a)->F b a)->c σ H F):iX c t u D σ H:=h _ λ_ _ x=>x
def oE{c:TT}(h:∀F:Bool->Hp->Prop,(∀a,t D σ a->F μ a)->(∀a,u D σ a->F ν a)->c σ H F):iX c t u D σ H:=by
 erw[h _ (λa x=>?_) λa x=>?_]
 .show if μ=μ then _ else _;rw[Mv Z];rwa[x]
 .show if ν=μ then _ else _;rw[Mx LB];rwa[x]
def dI(R:St->Hp->Prop)(c:∀E:a9,E.rt=D.rt->(∀a b,R a b->E.nx a b)->t E σ H)(d:∀a b,R a b->D.nx a b):Gx t D σ H:=#[R,c { D with nx:=R } Z λ_ _ h=>h,d]
def oy{c:TT}{T:TS}(W:Nat->St->Hp->Prop)(d:Nat)(e:W d σ H)
  (f:∀m σ H,∀E:a9,E.rt=D.rt->(∀M a b,M < m->W M a b->E.nx a b)->∀F:Bool->Hp->Prop,(∀b,T E σ b->F μ b)->(∀b,D.nx σ b->F ν b)->∀G:Prop,(c σ H F->G)->W m σ H->G):wn c T D σ H:=by
 erw[#[W,#[d,e],λm σ H w=>?_]];erw[f m σ H { D with nx:=λa b=>∃M,M < m/\W M a b,ct:=λa b=>∃M,M < m/\W M a b,bk:=D.nx } Z (λM a b l g=>#[M,l,g]) _ (λb x=>?_) (λb x=>?_) _ (λz=>z) w]
 .show if μ=μ then _ else _;rw[Mv Z];exact#[_,λ_ _ h=>h,x]
 .show if ν=μ then _ else _;rw[Mx LB];rwa[x]
def pK(J:It)(g:TG)(T:TS)(D:a9)(σ:St)(H:Hp):Prop:=∃W:Nat->Nat->St->Hp->Prop,(∃m,W 0 m σ H)/\∀i m σ H,W i m σ H->
 (J.stop i H/\D.nx σ H)∨(J.go i H/\∃N:St->Hp->Prop,(∀a h,N a h->∃M,M < m/\W (i+1) M a h)/\∀x h,J.yld i H x h->g x σ h λb c=>T { D with nx:=N,ct:=N,bk:=D.nx } b c)
def eM{w:TI}(h:∀F:It->Hp->Prop,(∀J a,pK J g T D σ a->F J a)->w σ H F):Ah w g T D σ H:=h _ λ_ _ z=>z
def Lp{g:TG}{Q:St->Hp->Prop}(h:∀F:St->Hp->Prop,(∀a b,Q a b->F a b)->g x σ H F):g x σ H Q:=h _ λ_ _ z=>z
def kn{lo:Int}{g:TG}{T:TS}{D:a9}{σ:St}{H:Hp}(Pv:Nat->St->Hp->Prop)(d:Pv 0 σ H)
  (e:∀E:a9,E.rt=D.rt->∀i σ H,i < n->(∀a c,Pv (i+1) a c->E.nx a c)->∀G:Prop,((g (.int$ lo+i) σ H λb f=>T E b f)->G)->Pv i σ H->G) (j:∀σ H,Pv n σ H->D.nx σ H):pK (wJ lo n) g T D σ H:=
 Qw Pv d (λi σ H k p=>e { D with nx:=Pv (i+1),ct:=Pv (i+1),bk:=D.nx } Z i σ H k (λ_ _ h=>h) _ (λz=>z) p) j
def QK{K:Ψ}{a:ζ}{xs:ri V}{g:TG}{T:TS}{D:a9}{σ:St}{H:Hp}(Pv:Nat->St->Hp->Prop)(e:Pv 0 σ H)(f:∀i σ H,i<=ο xs->Pv i σ H->aI K H a xs)
  (j:∀E:a9,E.rt=D.rt->∀i x σ H,xs[i]?=δ x->(∀b d,Pv (i+1) b d->E.nx b d)->∀G:Prop,((g x σ H λc k=>T E c k)->G)->Pv i σ H->G) (l:∀σ H,Pv xs.length σ H->D.nx σ H):pK (wS K a) g T D σ H:=
 tw Pv e f (λi x σ H m p=>j { D with nx:=Pv (i+1),ct:=Pv (i+1),bk:=D.nx } Z i x σ H m (λ_ _ h=>h) _ (λz=>z) p) l
def Kx{K:Ψ}{xs:ri V}{g:TG}{T:TS}{D:a9}{σ:St}{H:Hp}(Pv:Nat->St->Hp->Prop)(e:Pv 0 σ H)(f:∀i σ H,i<=ο xs->Pv i σ H->aD K H a xs)
  (j:∀E:a9,E.rt=D.rt->∀i x σ H,xs[i]?=δ x->(∀b d,Pv (i+1) b d->E.nx b d)->∀G:Prop,((g x σ H λc k=>T E c k)->G)->Pv i σ H->G) (l:∀σ H,Pv xs.length σ H->D.nx σ H):pK (wT K a) g T D σ H:=
 xJ Pv e f (λi x σ H m p=>j { D with nx:=Pv (i+1),ct:=Pv (i+1),bk:=D.nx } Z i x σ H m (λ_ _ h=>h) _ (λz=>z) p) l
end
end _L
namespace _L
open PySem PySem.Spec PyProof.Rows PySem.SeqAt
section
variable {prog:ω}{w:bS}{A:bx}{E:η->ι->Prop}{s:ι}
def YM{P:Fin->ι->Prop}(H:s.heap.get? a=δ (seqObj "list" [v].toArray n))
  (h:P (.done$ .ret .none) ‹sortedHeap s.heap a [v] (ε [v])›):π (χ prog w) A (dw.«list.sort» #[[.ref a],[]]) P E s:=by
 rw[SI];erw[Me$ TJ H Z ?_];erw[Me$ O5 H Z ?_];obtain⟨e,b⟩:∃e,(s.heap.update a$ bm λ_=>(ε [])).get? a=δ (seqObj "list" (ε []) e):=#[_,SJ H (λ_=>(ε []))];erw[Me$ PR b Z ?_];erw[Me$ O0 ?_];erw[Me$ OT ?_];erw[MJ ?_];let g:(((s.heap.update a$ bm λ_=>(ε [])).push$ seqObj "tuple" [v].toArray 0).push$ seqObj "list" (ε []) 0).get? a=δ (seqObj "list" (ε []) e):=Mg _ (Mg _ b);show π (χ prog w) A _ P E ‹((s.heap.update a$ bm λ_=>(ε [])).push$ seqObj "tuple" [v].toArray 0).push (seqObj "list" (ε []) 0)›;dsimp only;let S:[v].toArray.size < 2:=by show 1 < 2;decide
 rw[Mv S,Mv S];erw[Me$ Mh ?_];rw[TQ];erw[Me$ Mh ?_];dsimp only;erw[Me$ PR g Z ?_];let c:(arrOf$ SortSt.mk' general' ([v].toArray.zip [v].toArray) (ε []) 7 θ).map (·.2)=(ε [v]):=by show([v].toArray.zip [v].toArray).map (·.2)=(ε [v]);simp
 rw[c];erw[Me$ O5 g Z ?_ (hsz2:=by show 1<=υ+1;omega)];simp only[NE,Ms,Ny];rwa[Mh h]
def Aa{Q:η->ι->Prop}(H:s.heap.IsList l [v].toArray)
  (h:Q (.ref$ -s+1) ‹sortedAll s.heap [v] (ε [v])›):π (χ prog w) A (call (.builtin "sorted") [.ref l]) Q E s:=by
 erw[OF Sy Sa Sb (Sc _) ?_];unfold dw.«sorted»;erw[Me (m:=checkCount "sorted" 1 1 _)$ Mh ?_];erw[Me$ TM H ?_];erw[Me$ OT ?_];let z:((s.heap.push$ seqObj "list" (ε []) 0).update (-s)$ bm (·++[v].toArray)).objs.size=-s+1:=by rw[RP,Ta]
 let g:(((s.heap.push$ seqObj "list" (ε []) 0).update (-s)$ bm (·++[v].toArray)).push$ seqObj "list" [v].toArray 0).get? (-s+1)=δ (seqObj "list" [v].toArray 0):=by rw[<- z];rwa[Mo _ Z]
 show π _ _ _ _ _ ‹((s.heap.push$ seqObj "list" (ε []) 0).update (-s)$ bm (·++[v].toArray)).push (seqObj "list" [v].toArray 0)›;rw[z];erw[Me$ MJ$ MY Ru #[_,g,Z] Ro (YM g #[_,Z,?_]) (RC _)];rwa[Mh #[_,Z,h]]
end
inductive Tr where
 |lf (v:V) |tp (l:Tr) |nil |cons (h t:Tr)
def Tr.dep:Tr->Nat
 | .lf _=>0
 | .tp l=>l.dep+1
 | .nil=>0
 | .cons h t=>max h.dep t.dep
def Tr.isL:Tr->Bool
 | .nil | .cons _ _=>μ
 |_=>ν
def Li:V->Bool
 | .byt _ | .flt _=>ν
 |_=>μ
end _L
namespace _L
open PySem PySem.Spec PyProof.Rows
def HI(K:Ψ)(a:ζ)(n:Nat):It:=
 #[λi H=>∃X x,aD K H a X/\ο X=n/\X.reverse[i]?=δ x,λi H x h=>h=H/\∀X,aD K H a X->X.reverse[i]?=δ x,λi H=>∃X,aD K H a X/\ο X=n/\i=n]
def wu{P:ω}{K:Ψ}(a f:ζ)(n:Nat):nS P w K tg (HI K a n) [f] f (λi h=>dH h f a ((n:Int) - 1 - i)) where
 mem:=by simp
 obj:=λi h st b j=>by
  let e:b=f:=by simpa using j
  subst e;let⟨o,e,c,d⟩:=st;exact#[o,e,λv z=>by rw[d]at z;cases z]
 keep:=λi h q st k=>st.at λo e=>k f Lz o e
 item:=by
  intro X y A B O i g s Q H E I t st C;subst y A B;let⟨l,x,D,T,m⟩:=C;let⟨r,R,p,hz⟩:=I.tuple D;let hl:=R.length;let U:=eh;let V:i < ο l:=by
   rcases P0 i l.length with z |z
   .rwa[z]
   .rw[Nv (z:)]at m;cases m
  let F:l[ο l - 1 - i]?=δ x:=by rw[OZ V]at m;rwa[m]
  let⟨u,W,Y⟩:=R.get F;let⟨G,J,f2,L,M,N⟩:=t f Lz;let e:((n:Int) - 1 - i)=((ο l - 1 - i:Nat):Int):=by rwa[N09]
  rw[e]at st;erw[Fn (items:=r.toArray) st (show IsTup s.heap a r.toArray from p) (x:=u) (W:) (by simp only[Mm];omega) λq S sb=>?_];let I1:ap X g Q H { s with heap:=q,toks:=s.toks+1 }:=I.turned (t':=s.toks+1) (λb o j e=>(sb.2 b j).trans e) G J L M N;let⟨o,e',c,d⟩:=id S;erw[#[u,Z,Y5 (s:={ s with heap:=q,toks:=s.toks+1 }) e' c d LB #[x,H,I1,Y,#[Z,λys hy=>by rw[I.tuple_inj hy D];rwa[m]],?_,λb j=>(t b j).1]]];let e2:((n:Int) - 1 - ((i+1:Nat):Int))=((ο l - 1 - i:Nat):Int) - 1:=LA
  show dH q f a ((n:Int) - 1 - ((i+1:Nat):Int));rw[e2];rwa[S]
 done:=by
  intro X y A B O i g s Q H E I t st C;subst y A B;let⟨l,D,T,m⟩:=C;let⟨G,J,f2,L,M,N⟩:=t f Lz;let e:((n:Int) - 1 - (i:Int))= -1:=LA
  rw[e]at st;rwa[rA (I.ok.hd O) st λq eb=>#[Z,I.turned (t':=s.toks) (λb o j e=>eb b o j e) G J L M N]]
 self:=λ_ _ _ _ _ st h=>AY st h
section
variable {X:Cx}{tg:dr}
inductive AW(K:Ψ)(R:It->Hp->Prop)(x:V)(b:Hp):Prop
 |mk(a c:_)(_:x= .ref a)(_:aD K b a c)(_:R (HI K a c.length) b)
def Ig(K:Ψ)(t:TE):TI:=λa H R=>t a H (AW K R)
def uK{e:dr}{t:TE}{c:ρ}{p P:Pos}(j:Gl X c)(k:X.mg c=θ)(l:bootBuiltins c=δ (.type "reversed"))(y:PE X e t)(m:↥(c≠"__name__"))(n:↥((c==("__debug__":ρ))=ν))
  (r:↥(Δ [e] X.env=(ν,eval e X.env)::Δ [] X.env)) (A:↥((eT P$ Δ [] X.env).any (·.1)=ν)):PI X tg (.Call (.Name c p) [e] [] P) (Ig X.K t):=by
 intro d s B H R I h;erw[Nl$ zq I j k l ?_ m n];erw[M6 ?_ r A];rw[r];show π _ _ (spliced ((ν,eval e X.env)::eT P (Δ [] X.env))) _ _ s;erw[N5$ aU (y d s B H _ I h) λu S z=>?_];let⟨x,C,g,D,a,v,E,F,q⟩:=z;subst E;cases (show u=Θ a from D);let⟨i,G,J,N⟩:=g.tuple F;let f:=G.length;let L:=eh;erw[Ot$ sF (show IsTup S.heap a i.toArray from J) (by simp only[Mm];omega) ?_];let w:dH (S.heap.push$ revObj a i.toArray.size) (-S) a ((v.length:Int) - 1 - ((0:Nat):Int)):=#[_,Mo _ Z,Z,by rw[Mm,<- f];simp [revObj]];erw[AY (s:={ S with heap:=S.heap.push (revObj a i.toArray.size),toks:=S.toks+1+1 }) w ?_];erw[#[-S,[-S],_,_,C,Z,g.kept (t':=S.toks+1+1) λb o e=>Mg _ e,wu a _ v.length,w,λb M=>?_,q]];let e:b=-S:=by simpa using M
 subst e;rwa[g.fpOk (Mj _)$ g.hok.fresh$ Mj _]
end
def XB{K:Ψ}{xs:ri V}{g:TG}{t:TS}{D:a9}(Pv:Nat->St->Hp->Prop)(k:Pv 0 b H)(l:∀i b H,i<=ο xs->Pv i b H->aD K H a xs)
  (n:∀E:a9,E.rt=D.rt->∀i x b H,xs.reverse[i]?=δ x->(∀c f,Pv (i+1) c f->E.nx c f)->∀G:Prop,((g x b H λj o=>t E j o)->G)->Pv i b H->G) (r:∀b H,Pv xs.length b H->D.nx b H):pK (HI K a xs.length) g t D b H:=by
 erw[#[λi m b H=>m=ο xs - i/\i<=ο xs/\Pv i b H,#[xs.length,Lz,Mu _,k],?_]];rintro i m b H ⟨rfl,s,p⟩;let q:=l i b H s p;by_cases d:i < ο xs
 .erw[.inr #[#[xs,_,q,Z,Mf (d:)],Pv$ i+1,λc f P=>#[ο xs - (i+1),N09,Z,d,P],λx f y=>?_]];let⟨e,y⟩:=y;subst e;rwa[n { D with nx:=Pv (i+1),ct:=Pv (i+1),bk:=D.nx } Z i x b _ (y xs q) (λ_ _ h=>h) _ (λz=>z) p]
 .let e:i=ο xs:=by omega
  subst e;rwa[.inl #[#[xs,q,Z,Z],r b H p]]
def vU:Slot "list_reverseiterator" "__length_hint__" "list_reverseiterator.__length_hint__":=by erw[Slot.of (owner:="list_reverseiterator") (n:="__length_hint__") (by rw[NC,M8];kernel_rfl) Ly Ly Ly ?_ (by rw[NV];kernel_rfl)];first |exact .inl Ly |exact .inr Ly
def rC:typeLookup (.type "list_reverseiterator") "__len__"=pure θ:=by rw[NC,M8];kernel_rfl
def DY:isSubtype (.type "list_reverseiterator") (.type "list_reverseiterator")=pure μ:=by rw[NV];kernel_rfl
section
variable {prog:ω}{w:bS}{A:bx}{E:η->ι->Prop}{s:ι}
def Cc(H:s.heap.IsRevIter I t k){Q:Bool->ι->Prop}(h:Q ν s):π (χ prog w) A (im$ .ref I) Q E s:=by
 unfold im;erw[Me$ NZ H.typeIs rC ?_];show π _ A (specialOf (Θ I) (Str.ofString "__length_hint__") >>= _) _ _ _;erw[Me$ NZ H.typeIs vU.lookup ?_];let e:splitId "list_reverseiterator.__length_hint__"=δ ("list_reverseiterator","__length_hint__"):=Ly
 dsimp only;rw[e];dsimp only;erw[Me$ Oj (b:=μ) H.typeIs DY ?_];simp only[OM,Ms,Ny];rw[Mv Ly,Mx Ly];rwa[Mh h]
def pN{a:Array η}{Q:ri η->ι->Prop}(z:A.handled=θ)(f:s.heap.IsRevIter I t ((a.size:Int) - 1))(r:s.heap.IsList t a)(B:t≠I)(C:a.size<=υ)
  (D:∀S,(∀b o,b≠I->s.heap.get? b=δ o->S.heap.get? b=δ o)->-s<=-S->S.gens=s.gens->S.os=s.os->Q a.toList.reverse S):π (χ prog w) A (collect$ .ref I) Q E s:=by
 let j:I < -s:=by let⟨o,k,_⟩:=f;rwa[Mn k]
 let n:t < -s:=by let⟨o,k,_⟩:=r;rwa[Mn k]
 let u:I≠-s:=Mt j;let F:t≠-s:=Mt n;unfold collect;refine Me (SV (ND RN (by
  rw[Nh RM _];show π _ A.in1 (newList [] >>= λl=>again (.builtin "list.__iadd__" #[[l,.ref I],[]])) _ _ s;erw[Me$ M4$ Mh #[Oh OK _,ND Si ?_]];rw[Nh OK _];generalize v:s.heap.push { cls:=.type "list",data:=.seq ([]:ri η).toArray }=H;let J:H.get? (-s)=δ { cls:=.type "list",data:=.seq (ε []) }:=by rw[<- v];rwa[Mo _ Z]
  let G:∀b o,s.heap.get? b=δ o->H.get? b=δ o:=λb o e=>by rw[<- v];rwa[Mg _ e]
  let h:H.IsRevIter I t ((a.size:Int) - 1):=f.at λo e=>G I o e;let p:H.IsList t a:=r.at λo e=>G t o e;show π _ A.in1 (fy (.ref (-s)) (.ref I)$ .ref (-s)) _ _ ‹H›;unfold fy;erw[Me$ N7 (s:=‹H›) h.typeIs ?_];let K:ef (.ref (-s)) (.ref I)=ν:=by simp only[ef,beq_eq_false_iff_ne];rwa[MX u]
  let L:(de "list_reverseiterator"==de "list")=ν:=LB
  let M:(de "list_reverseiterator"==de "tuple")=ν:=LB
  simp only[K,L,M,SH,Ms,Ny];erw[Me$ wpAny_pyIter_revIter (s:=‹H›) h$ Me$ MJ$ Cc (s:=‹H›) h ?_];let N:¬-s∈[I,t]:=by simp only[Og,MU,P8,not_or];exact#[MX u,MX F]
  rw[Mx Ly];erw[Mh #[Oh RU _,?_]];let W:=(Walks.listRev (prog:=prog) (w:=w) (A:=A.in1) (z:) I t B a).toS;erw[Ue W C _ N _ a.size 0 _ (ε []) _ Z (Mu _) #[Mu _,by simpa using h,p] J (Up _) λS d U m x c=>?_];let O:d=a.toList.reverse.toArray:=by
   apply Array.ext';erw[List.ext_getElem? λi=>?_];by_cases y:i < a.size
   .let g:i < d.size:=by rw[c.1];exact y
    let q:=c.2 i d[i] (by simp [g]);rw[Nu,Nj g,<- q];show a[a.size - 1 - i]?=a.toList.reverse[i]?;rw[OZ (y:)];simp
   .rw[Nv (by rw[ME,c.1];omega),Nv (by simp;omega)]
  subst O;show π _ A (load (-s) >>= _) _ _ S;erw[Me$ Uu x$ Mh ?_];let P:a.toList.reverse.toArray.toList=a.toList.reverse:=by simp
  rw[P];erw[D S (λb o R e=>?_) ?_ m.gens m.os]
  .let T:b≠-s:=Mt (Mn e);rwa[m.heap b o (by simp only[Og,MU,P8,not_or];exact#[T,R])$ G b o e]
  .rwa[Ol$ Mn x])))
end
section
variable {prog:ω}{w:bS}{A:bx}{E:η->ι->Prop}{s:ι}
def Xg{i:Array η}{Q:η->ι->Prop}(f:A.handled=θ)(H:s.heap.IsRevIter I t ((i.size:Int) - 1))(g:s.heap.IsList t i)(j:t≠I)(d:i.size<=υ)
  (h:∀S:ι,(∀b o,b≠I->s.heap.get? b=δ o->S.heap.get? b=δ o)->-s<=-S->S.gens=s.gens->S.os=s.os->
   Q (.ref (-S)) { S with heap:=S.heap.push { cls:=.type "tuple",data:=.seq i.toList.reverse.toArray } }):
  ib (χ prog w) A (.call (.builtin "tuple.__new__") #[[.type "tuple",.ref I],[]]) (wants Q E) s:=by
 erw[SK (show π _ A.in1 (do checkBuiltinCall "tuple.__new__" #[[.type "tuple",.ref I],[]];again (.builtin "tuple.__new__" #[[.type "tuple",.ref I],[]])) _ _ s from ?_)];refine Me (PQ (PySem.F.newCall_tuple_1 _) (Mh #[Oh Sf _,ND PySem.F.entry_tuple_new (by
  rw[Nh Sf _];let e:=sub_tuple_self;let a:=init_tuple_lookup;let l:=madeHere_tuple;let c:=H.typeIs;wp_walk using N7 c,pN (f:) H g j d;intro S k z m n;show π _ _ (ea i.toList.reverse.toArray >>= λv=>ret v) _ _ _;unfold ea;rwa[Me$ M4 (Mh$ h S k z m n) (by show i.toList.reverse.toArray.size<=υ;simpa using d)])]))
def Xh{items:Array η}{Q:η->ι->Prop}(d:A.handled=θ)(c:s.heap.IsRevIter I t ((items.size:Int) - 1))(e:s.heap.IsList t items)(f:t≠I)(g:items.size<=υ)
  (h:∀a:ι,(∀b o,b≠I->s.heap.get? b=δ o->a.heap.get? b=δ o)->-s<=-a->a.gens=s.gens->a.os=s.os->
   Q (.ref (-a)) { a with heap:=a.heap.push { cls:=.type "tuple",data:=.seq items.toList.reverse.toArray } }):π (χ prog w) A (call (.type "tuple") [.ref I]) Q E s:=by
 erw[Vk (Q₁:=λO S=>S.TypeIs O "tuple"/\Q O S) mu (PySem.F.typeCall_tuple_1 _) PySem.F.entry_object_init (Xg (d:) c e f g λa k z i j=>#[#[_,Mo _ Z,Z],h a k z i j]) λO S H=>?_];exact#[H.1,O3 O _,object_init_meets mu.init.lookup mu.made LB prog w A.in1 _ S #[H.1,Z,H.2]]
end
section
variable {X:Cx}{e:dr}{te:TE}{xl xr:ρ}{p p2 pos pos2:Pos}
inductive nq(K:Ψ)(Q:VK)(x:V)(b:Hp):Prop
 |mk(a c:_)(_:x= .ref a)(_:aI K b a c)(_:∀l,b l=θ->Q (.ref l) (ah b l (.tup c.reverse)))
def Aj(K:Ψ)(te:TE):TE:=λa H Q=>te a H (nq K Q)
def rS(M:X.calm=μ)(g:Gl X xl)(j:X.mg xl=θ)(l:bootBuiltins xl=δ (.type "tuple"))(m:Gl X xr)(n:X.mg xr=θ)(r:bootBuiltins xr=δ (.type "reversed"))(O:PE X e te)
  (t:↥(xl≠"__name__")) (v:↥((xl==("__debug__":ρ))=ν)) (y:↥(xr≠"__name__")) (A:↥((xr==("__debug__":ρ))=ν))
  (E:↥(Δ [.Call (.Name xr p2) [e] [] pos2] X.env=(ν,eval (.Call (.Name xr p2) [e] [] pos2) X.env)::Δ [] X.env)) (T:↥((eT pos$ Δ [] X.env).any (·.1)=ν))
  (F:↥(Δ [e] X.env=(ν,eval e X.env)::Δ [] X.env)) (U:↥((eT pos2$ Δ [] X.env).any (·.1)=ν)):
  PE X (.Call (.Name xl p) [.Call (.Name xr p2) [e] [] pos2] [] pos) (Aj X.K te):=by
 intro P s V H Q I h;erw[Nl$ zq I g j l ?_ t v];erw[M6 ?_ E T];rw[E];show π _ _ (spliced ((ν,eval (.Call (.Name xr p2) [e] [] pos2) X.env)::eT pos (Δ [] X.env))) _ _ s;erw[N5 ?_];erw[Nl$ zq I m n r ?_ y A];erw[M6 ?_ F U];rw[F];show π _ _ (spliced ((ν,eval e X.env)::eT pos2 (Δ [] X.env))) _ _ s;erw[N5$ aU (O P s V H _ I h) λu d B=>?_];let⟨x,W,f,Y,a,G,ex,hq,q⟩:=B;subst ex;cases (show u=Θ a from Y);let⟨i,R,C,hz⟩:=f.list hq;let J:=R.length;erw[Ot$ call_reversed_list C.isList$ Ot ?_];let D:a < -d:=by let⟨o,ho,_⟩:=C.isList;rwa[Mn ho]
 refine Xh (s:={ d with heap:=d.heap.push (PySem.revObj a ((i.toArray.size:Int) - 1)) }) (items:=i.toArray) (I.ok.hd M) #[_,Mo _ Z,Z,Z] (C.isList.at λo e=>Mg _ e) (Mt D)
  (by simp only[Mm];omega) λS k hl kg ko=>?_
 let c:-d<=-S:=Mw (by show _<=(d.heap.push _).objs.size;rw[Na];rwa[NG _]) hl;let L:∀b o,d.heap.get? b=δ o->(S.heap.push { cls:=.type "tuple",data:=.seq i.toArray.toList.reverse.toArray }).get? b=δ o:=λb o e=>Mg _ (k b o (Mt$ Mn e)$ Mg _ e);let hg:(S.heap.push { cls:=.type "tuple",data:=.seq i.toArray.toList.reverse.toArray }).get? (-S)=δ { cls:=.type "tuple",data:=.seq i.toArray.toList.reverse.toArray }:=Mo _ Z;let N:aK X.prog X.w (ah W (-S)$ .tup G.reverse) (S.heap.push { cls:=.type "tuple",data:=.seq i.toArray.toList.reverse.toArray }) (-S) (.tup G.reverse):=by
  erw[#[by rw[Tq];rwa[hz],i.reverse,ay.reverse R,?_]];let ee:i.toArray.toList.reverse.toArray=i.reverse.toArray:=by simp
  rw[<- ee];exact#[_,hg,Z,_,Z]
 exact#[.ref (-S),_,f.call' (ch:=[]) ko (Un.laid L c$ f.hok.fresh c) (f.hok.laid L c N) (by show AllBare S.gens;rw[kg];rwa[f.bare]) (λ_ z=>nomatch z),Z,q _$ f.hok.fresh c]
end
section
variable {prog:ω}{w:bS}{A:bx}{E:η->ι->Prop}{s:ι}
def KL{x:η}{Q:η->ι->Prop}(a:s.heap.IsTupleIter J T i)(e:s.heap.IsTuple T I)(f:I[i]?=δ x)
  (q:∀b,b.IsTupleIter J T (i+1)->ey J s.heap b->Q x ‹b›):π (χ prog w) A (Ω$ .ref J) Q E s:=by
 let⟨o,H,g,h⟩:=id a;let⟨O,c,_,n,d⟩:=e;unfold Ω;erw[Me$ M1 (name:=Str.ofString "__next__") a.typeIs Nr$ MY Nr a.typeIs OQ (show π _ _ (field (.ref J) 0 >>= _) _ _ s from ?_)$ OJ _];erw[Me$ MO H h (x:=.ref T) Z (show π _ _ (if (Θ T==ab)=μ then _ else _) _ _ s from ?_)];rw[Mx (show ¬((Θ T==ab)=μ) from Mq)];erw[(show π _ _ (field (.ref J) 1 >>= _) _ _ s from Me$ MO H h (x:=.int i 0) Z (show π _ _ (seqItems? (.ref T) >>= _) _ _ s from Me$ Ni c d ?_))];simp only[Ng,f];erw[Me$ Nc H h Lz$ Mh #[x,Z,Mh$ q _ #[_,M0 _ H$ Nw$ MW h _,(OY ..).trans g,by rw[MW h];simp [rawInt]] (NO ..)]]
def rB(g:A.handled=θ)(H:s.heap.IsTupleIter J T i)(j:s.heap.IsTuple T I)(l:I[i]?=θ)
  (q:∀h e,mI J s.heap h->Shared.TypeIs ‹h› e "StopIteration"->E e ‹h›):π (χ prog w) A (Ω$ .ref J) Q E s:=by
 let⟨o,a,p,c⟩:=id H;let⟨O,d,_,N,f⟩:=j;unfold Ω;erw[Me$ M1 (name:=Str.ofString "__next__") H.typeIs Nr$ MY Nr H.typeIs OQ (show π _ _ (field (.ref J) 0 >>= _) _ _ s from ?_)$ OJ _];erw[Me$ MO a c (x:=.ref T) Z (show π _ _ (if (Θ T==ab)=μ then _ else _) _ _ s from ?_)];rw[Mx (show ¬((Θ T==ab)=μ) from Mq)];erw[(show π _ _ (field (.ref J) 1 >>= _) _ _ s from Me$ MO a c (x:=.int i 0) Z (show π _ _ (seqItems? (.ref T) >>= _) _ _ s from Me$ Ni d f ?_))];simp only[Ng,l];erw[Me$ Nx$ Me$ Nc a c Lz ?_];erw[JY (g:) λh e k t=>q h e (λb o m n=>k b o ?_) t];exact(MG _ _$ MX m).trans n
end
def gX(b:Bool)(h:db)(i l:ζ)(k:Nat):Prop:=match b with
 |true=>h.IsListIter i l k
 |false=>h.IsTupleIter i l k
def iT(b:Bool)(h:db)(l:ζ)(x:Array η):Prop:=match b with
 |true=>h.IsList l x
 |false=>h.IsTuple l x
def fq:Bool->String
 |true=>"list_iterator"
 |false=>"tuple_iterator"
def gX.kp{b:Bool}{H:db}(x:gX b h i l k)(e:∀o,h.get? i=δ o->H.get? i=δ o):gX b H i l k:=by
 cases b
 .rwa[Ur x e]
 .let⟨o,a,r⟩:=x;exact#[o,e o a,r]
def iT.kp{b:Bool}{H:db}(x:iT b h l a)(e:∀o,h.get? l=δ o->H.get? l=δ o):iT b H l a:=by
 cases b
 .let⟨o,c,r⟩:=x;exact#[o,e o c,r]
 .rwa[Vp x e]
def gX.ob(x:gX b h i l k):∃o,h.get? i=δ o/\o.cls= .type (fq b)/\∀v,o.data≠ .cell v:=by
 cases b
 .let⟨o,H,c,d⟩:=x;exact#[o,H,c,λv z=>by rw[d]at z;cases z]
 .let⟨o,H,c,d⟩:=x;exact#[o,H,c,λv z=>by rw[d]at z;cases z]
section
variable {prog:ω}{w:bS}{A:bx}{E:η->ι->Prop}{s:ι}
def zX{Q:η->ι->Prop}(H:gX b s.heap J T i)(a:iT b s.heap T I)(c:I[i]?=δ x)
  (q:∀h,gX b h J T (i+1)->ey J s.heap h->Q x ‹h›):π (χ prog w) A (Ω$ .ref J) Q E s:=by
 cases b
 .rwa[KL H a c q]
 .rwa[wpAny_nextOf_list_item H a c q]
def QL(H:A.handled=θ)(a:gX b s.heap J T i)(c:iT b s.heap T I)(d:I[i]?=θ)
  (q:∀h e,mI J s.heap h->Shared.TypeIs ‹h› e "StopIteration"->E e ‹h›):π (χ prog w) A (Ω$ .ref J) Q E s:=by
 cases b
 .rwa[rB H a c d q]
 .rwa[wpAny_nextOf_list_end H a c d λh e k #[o,f,g]=>q h (.ref e) k #[o,f,g]]
def AZ{Q:η->ι->Prop}(h:iT b s.heap T i)
  (q:Q (.ref (-s)) ‹s.heap.push { cls:=.type (fq b),data:=.fields (ε [.ref T,.int 0 0]) }›):π (χ prog w) A (pyIter$ .ref T) Q E s:=by
 cases b
 .rwa[OX h q]
 .rwa[PM h q]
structure xk(z u v c d a b:ζ):Prop where
 uz:u≠z
 vz:v≠z
 cz:c≠z
 dz:d≠z
 uv:u≠v
 uc:u≠c
 ud:u≠d
 vc:v≠c
 vd:v≠d
 cd:c≠d
 az:a≠z
 av:a≠v
 ac:a≠c
 ad:a≠d
 bz:b≠z
 bv:b≠v
 bc:b≠c
 bd:b≠d
def At{Q:rm η->ι->Prop}(D:xk z u v c d a b)
  (H:IsZip s.heap z u v .none) (hu:IsPair s.heap u (.ref c) (.ref d)) (hv:IsPair s.heap v p q) (h1:gX B s.heap c a k) (h2:gX C s.heap d b k) (g1:iT B s.heap a xs) (g2:iT C s.heap b ys) (hx:xs[k]?=δ x) (hy:ys[k]?=δ y)
  (hQ:∀h,IsZip h z u v (rawInt (-s))->IsPair h v x y->gX B h c a (k+1)->gX C h d b (k+1)->IsPair h (-s) x y->h.objs.size=-s+1->
   (∀e o,e≠z->e≠v->e≠c->e≠d->s.heap.get? e=δ o->h.get? e=δ o)->Q (δ$ .ref (-s)) ‹h›):π (χ prog w) A (pyNext$ .ref z) Q E s:=by
 let W:s.TypeIs (.ref z) "zip":=#[_,H,Z];unfold pyNext;erw[Me$ Oz$ M1 (name:=Str.ofString "__next__") W NA$ MY NA W OS (show π _ _ (field (.ref z) 2 >>= _) _ _ _ from ?_)$ OL _];erw[Me$ MO H Z (x:=.bool ν) Z (show π _ _ (field (.ref z) 3 >>= _) _ _ _ from Me$ MO H Z (x:=.ref u) Z$ Me$ Ni hu Z ?_)];erw[(show π _ _ (bF (.ref z) >>= _) _ _ _ from Me ?_)];unfold bF;erw[Me$ MO H Z (x:=.none) Z$ Mh ?_];simp only[O6];erw[Me$ Nx$ Me$ MO H Z (x:=.ref v) Z$ Me$ Ou H Lz λX F S=>?_];replace F:IsZip X z u v .ellipsis:=F;erw[Me ?_];simp only[T5,Ug,NR,OD];erw[Me$ Me$ Tj (show π _ _ (Ω (.ref c) >>= _) _ _ _ from ?_)];erw[Me$ zX (s:=‹X›) (h1.kp λo e=>S.extBut _ _ D.cz e) (g1.kp λo e=>S.extBut _ _ D.az e) hx λG i2 l=>Mh ?_];let Y:IsPair G v p q:=l.extBut _ _ D.vc (S.extBut _ _ D.vz hv);erw[Me$ Ni (s:=‹G›) Y Z$ Me$ Ua (s:=‹G›) Y λI J r=>?_];replace J:IsPair I v x q:=J;erw[Me$ Uc$ Mh$ Me$ Me$ Tj (show π _ _ (Ω (.ref d) >>= _) _ _ _ from ?_)];let K:∀e o,e≠z->e≠c->e≠v->s.heap.get? e=δ o->I.get? e=δ o:=λe o N f g w=>r.extBut _ _ g (l.extBut _ _ f$ S.extBut _ _ N w);erw[Me$ zX (s:=‹I›) (h2.kp λo e=>K _ _ D.dz D.cd.symm D.vd.symm e) (g2.kp λo e=>K _ _ D.bz D.bc D.bv e) hy λL i4 i=>Mh ?_];let v4:IsPair L v x q:=i.extBut _ _ D.vd J;erw[Me$ Ni (s:=‹L›) v4 Z$ Me$ Ua (s:=‹L›) v4 λm V j=>?_];replace V:IsPair m v x y:=V;erw[Me$ Uc$ Mh$ Mh$ Me$ Ni (s:=‹m›) V Z$ Me$ O0 ?_];let e5:m.objs.size=-s:=by rw[j.1,i.1,r.1,l.1,S.1]
 let k5:∀e o,e≠z->e≠v->e≠c->e≠d->s.heap.get? e=δ o->m.get? e=δ o:=λe o N f g O w=>j.extBut _ _ f (i.extBut _ _ O$ K e o N g f w);let z5:IsZip m z u v .ellipsis:=j.extBut _ _ D.vz.symm (i.extBut _ _ D.dz.symm$ r.extBut _ _ D.vz.symm$ l.extBut _ _ D.cz.symm F);let j1:gX B m c a (k+1):=i2.kp λo e=>j.extBut _ _ D.vc.symm (i.extBut _ _ D.cd$ r.extBut _ _ D.vc.symm e);let j2:gX C m d b (k+1):=i4.kp λo e=>j.extBut _ _ D.vd.symm e;let lz:z < m.objs.size:=Mn z5;erw[(show π _ _ (kw (.ref z) (.ref m.objs.size) >>= _) _ _ _ from Me ?_)];unfold kw;let z6:IsZip (m.push { cls:=.type "tuple",data:=.seq (ε [x,y]) }) z u v .ellipsis:=Mg _ z5;erw[Me$ Ou z6 Lz λm7 P R=>?_];replace P:IsZip m7 z u v (rawInt m.objs.size):=P;erw[Ou P Lz λM t T=>?_];replace t:IsZip M z u v (rawInt m.objs.size):=t;let U:∀e o,e≠z->m.get? e=δ o->M.get? e=δ o:=λe o n w=>T.extBut _ _ n (R.extBut _ _ n$ Mg _ w);let t8:IsPair M m.objs.size x y:=T.extBut _ _ (Nf lz) (R.extBut _ _ (Nf lz)$ Mo _ Z);let e8:M.objs.size=m.objs.size+1:=by rw[T.1,R.1,Na]
 rw[e5]at t t8 e8;erw[Mh #[_,Z,Mh ?_]];show Q (δ$ .ref m.objs.size) _;rw[e5];rwa[hQ M t (U _ _ D.vz V) (j1.kp λo e=>U _ o D.cz e) (j2.kp λo e=>U _ o D.dz e) t8 e8 λe o N f g O w=>U e o N (k5 e o N f g O w)]
def Ec{b2:Bool}{ys:Array η}{p q:η}{Q:rm η->ι->Prop}(C:A.handled=θ)(D:xk z u v c d a b)
  (h:IsZip s.heap z u v .none) (F:IsPair s.heap u (.ref c) (.ref d)) (G:gX I s.heap c a k) (J:iT I s.heap a L) (K:L[k]?=θ)
  (O:∀H,(∀e o,e≠z->e≠v->e≠c->e≠d->s.heap.get? e=δ o->H.get? e=δ o)->Q θ ‹H›):π (χ prog w) A (pyNext$ .ref z) Q E s:=by
 let g:s.TypeIs (.ref z) "zip":=#[_,h,Z];unfold pyNext;erw[Me$ Oz$ M1 (name:=Str.ofString "__next__") g NA$ MY NA g OS (show π _ _ (field (.ref z) 2 >>= _) _ _ _ from ?_)$ OL _];erw[Me$ MO h Z (x:=.bool ν) Z (show π _ _ (field (.ref z) 3 >>= _) _ _ _ from Me$ MO h Z (x:=.ref u) Z$ Me$ Ni F Z ?_)];erw[(show π _ _ (bF (.ref z) >>= _) _ _ _ from Me ?_)];unfold bF;erw[Me$ MO h Z (x:=.none) Z$ Mh ?_];simp only[O6];erw[Me$ Nx$ Me$ MO h Z (x:=.ref v) Z$ Me$ Ou h Lz λm f S=>?_];replace f:IsZip m z u v .ellipsis:=f;erw[Me ?_];simp only[T5,Ug,NR,OD];erw[Me$ Me$ Tj (show π _ _ (Ω (.ref c) >>= _) _ _ _ from ?_)];erw[Me$ QL (s:=‹m›) (C:) (G.kp λo e=>S.extBut _ _ D.cz e) (J.kp λo e=>S.extBut _ _ D.az e) K λM e i j=>?_];let l:IsZip M z u v .ellipsis:=i _ _ D.cz.symm f;erw[Ou (s:=‹M›) l Lz λn U r=>?_];let t:Shared.TypeIs ‹n› e "StopIteration":=by
  cases e with
  |ref x=>
   let⟨o,y,B⟩:=j;let P:x≠z:=λw=>by subst w;let:=y.symm.trans l;cases this;injection B with w;rwa[absurd w LB]
   exact#[o,r.extBut _ _ P y,B]
  |_=>rwa[j]
 rwa[Me$ Oj (T:="StopIteration") (b:=μ) t Ry$ Mh$ O n λe o N V R W w=>r.extBut _ _ N (i _ _ R$ S.extBut _ _ N w)]
def Ed{b1 b2:Bool}{xs ys:Array η}{Q:η->ι->Prop}(J:iT b1 s.heap a xs)(L:iT b2 s.heap b ys)
  (h:∀H,IsZip H (-s+4) (-s+2) (-s+3) .none->IsPair H (-s+2) (.ref (-s)) (.ref$ -s+1)->
   IsPair H (-s+3) .none .none->gX b1 H (-s) a 0->gX b2 H (-s+1) b 0->(∀e o,s.heap.get? e=δ o->H.get? e=δ o)->Q (.ref$ -s+4) ‹H›):
  π (χ prog w) A (call (.type "zip") [.ref a,.ref b]) Q E s:=by
 refine TN (S:=λ_ R c=>c=s/\R (.ok$ .ret$ .ref$ -s+4) ‹((((s.heap.push { cls:=.type (fq b1),data:=.fields (ε [.ref a,.int 0 0]) }).push { cls:=.type (fq b2),data:=.fields (ε [.ref b,.int 0 0]) }).push { cls:=.type "tuple",data:=.seq (ε [.ref (-s),.ref$ -s+1]) }).push { cls:=.type "tuple",data:=.seq (ε [.none,.none]) }).push { cls:=.type "zip",data:=.fields (ε [.none,.bool ν,.bool ν,.ref$ -s+2,.ref$ -s+3]) }›)
  PySem.F.called_zip LB (PySem.F.typeCall_zip_2 _ _) (PySem.F.newCall_zip_2 _ _) (λO=>PySem.F.args_object_init_3 O _ _) PySem.F.entry_zip_new (.of_wp λp w' A' R c P=>?_) #[Z,?_]
 .let⟨rfl,q⟩:=P;let⟨r,g,D,t,os⟩:=c;let u:=sub_zip;let T:iT b1 (Shared.heap #[r,g,D,t,os]) a xs:=J;let _L:iT b2 (Shared.heap #[r.push { cls:=.type (fq b1),data:=.fields (ε [.ref a,.int 0 0]) },g,D,t,os]) b ys:=L.kp λo e=>Mg _ e;wp_walk using AZ T,AZ _L;erw[#[_,Z,?_]];simp only[Na]at q ⊢;rwa[q]
 .let z (h:db) (o:fx):(h.push o).objs.size=h.objs.size+1:=Na ..;generalize d:s.heap.push { cls:=.type (fq b1),data:=.fields (ε [.ref a,.int 0 0]) }=M;generalize f:M.push { cls:=.type (fq b2),data:=.fields (ε [.ref b,.int 0 0]) }=i;generalize j:i.push { cls:=.type "tuple",data:=.seq (ε [.ref (-s),.ref$ -s+1]) }=k;generalize l:k.push { cls:=.type "tuple",data:=.seq (ε [.none,.none]) }=n;generalize v:n.push { cls:=.type "zip",data:=.fields (ε [.none,.bool ν,.bool ν,.ref$ -s+2,.ref$ -s+3]) }=m;let N:M.objs.size=-s+1:=by rw[<- d,z]
  let x:i.objs.size=-s+2:=by rw[<- f,z,N]
  let y:k.objs.size=-s+3:=by rw[<- j,z,x]
  let U:n.objs.size=-s+4:=by rw[<- l,z,y]
  let K:∀e o,n.get? e=δ o->m.get? e=δ o:=λe o w=>by rw[<- v];rwa[Mg _ w]
  let B:∀e o,k.get? e=δ o->m.get? e=δ o:=λe o w=>K e o (by rw[<- l];rwa[Mg _ w]);let C:∀e o,i.get? e=δ o->m.get? e=δ o:=λe o w=>B e o (by rw[<- j];rwa[Mg _ w]);let G:∀e o,M.get? e=δ o->m.get? e=δ o:=λe o w=>C e o (by rw[<- f];rwa[Mg _ w]);let V:∀e o,s.heap.get? e=δ o->m.get? e=δ o:=λe o w=>G e o (by rw[<- d];rwa[Mg _ w]);let I:IsZip m (-s+4) (-s+2) (-s+3) .none:=by rw[<- U,<- v];rwa[Mo _ Z]
  let W:IsPair m (-s+3) .none .none:=K _ _ (by rw[<- y,<- l];rwa[Mo _ Z]);let X:IsPair m (-s+2) (.ref (-s)) (.ref$ -s+1):=B _ _ (by rw[<- x,<- j];rwa[Mo _ Z]);let Y:m.get? (-s+1)=δ { cls:=.type (fq b2),data:=.fields (ε [.ref b,.int 0 0]) }:=C _ _ (by rw[<- N,<- f];rwa[Mo _ Z]);let q1:m.get? (-s)=δ { cls:=.type (fq b1),data:=.fields (ε [.ref a,.int 0 0]) }:=G _ _ (by rw[<- d];rwa[Mo _ Z]);erw[#[#[_,I,Z],h m I X W ?_ ?_ V]]
  .cases b1<;>exact#[_,q1,Z,Z]
  .cases b2<;>exact#[_,Y,Z,Z]
end
def Au(n a b:Nat)(h:a < n)(H:b < n):xk (n+4) (n+2) (n+3) n (n+1) a b:=by erw[#[?_,?_,?_,?_,?_,?_,?_,?_,?_,?_,?_,?_,?_,?_,?_,?_,?_,?_]]<;>(show(_:Nat)≠_;omega)
section
variable {prog:ω}{w:bS}{A:bx}{E:η->ι->Prop}
theorem AE(h:l≠J):∀(n i:Nat) (s:ι) (Q:ri η->ι->Prop),s.heap.IsListIter J l i->s.heap.IsList l I->i+n<=I.size->
  (∀a,a.IsListIter J l (i+n)->ey J s.heap a->Q ((I.toList.drop i).take n) ‹a›)->π (χ prog w) A (draw (.ref J) n) Q E s
 |0,i,s,Q,b,_,_,q=>show π _ _ (pure []) Q E s from Mh (q s.heap b (Sx ..):)
 |n+1,i,s,Q,b,c,d,q=>by
  let H:i < I.size:=LA
  erw[(show π _ _ (pyNext (.ref J) >>= _) Q E s from Me$ TB b c (x:=I[i]) (by simp [H]) λm j S=>?_)];erw[Me$ MJ$ AE h n (i+1) _ _ j (c.extBut S.extBut h) LA λf g k=>Mh ?_];let e:=q f (by rw[show i+(n+1)=i+1+n by omega];rwa[g]) (S.trans k);rw[show I.toList.drop i=I[i]::I.toList.drop (i+1) by simp [Sv,H],List.take_succ_cons]at e;assumption
def Am{s:ι}{Q:ri η->ι->Prop}(f:A.handled=θ)(h:s.heap.IsList l i)(a:i.size=n)
  (q:∀c,mI (-s) s.heap c->Q i.toList ‹c›):π (χ prog w) A (unpackItems (.ref l) n θ) Q E s:=by
 let H:l≠-s:=by let⟨o,g,_⟩:=h;rwa[Mt$ Mn g]
 unfold unpackItems;erw[Me ?_];unfold notIterableAtAll;erw[Me$ NZ h.typeIs slot_list_iter.lookup ?_];erw[Mh ?_];simp only[Ms,Ny];erw[Me$ MJ$ PM h ?_];let I:(s.heap.push { cls:=.type "list_iterator",data:=.fields (ε [.ref l,.int 0 0]) }).IsListIter (-s) l 0:=#[_,Mo _ Z,Z,Z];erw[Me$ MJ$ AE H n 0 _ _ I (h.push _) LA λj J S=>?_];let k:(i.toList.drop 0).take n=i.toList:=by rw[Uo,NY (by simp [a])]
 rw[k,Mx (by simp [a])];let L:j.IsList l i:=(h.push _).extBut S.extBut H;erw[Me$ MJ$ T3 f J L (by simp [a]) λm p=>?_];simp only[Option.isSome_none,Ms,Ny];rwa[Mh$ q m λb o d e=>p b o d (S.extBut b o d$ Mg _ e)]
end
section
variable {X:Cx}{pos:Pos}
inductive Ie(K:Ψ)(n:Nat)(t:xh)(v:V)(c:St)(H:Hp)(Q:St->Hp->Prop):Prop
 |mk(a b:_)(_:v= .ref a)(_:aI K H a b)(_:ο b=n)(_:t b c H Q)
def Zo{E:ri dr}{k n:Nat}{t:xh}(g:X.calm=μ)(h:Ei X E t)
  (i:↥((assignEach E X.env).length=n)) (c:↥((assignEach E X.env).findIdx? (·.1)=θ)):PG X (.Tuple E k pos) (Ie X.K n t):=by
 intro P s f H v u Q I r d;let⟨a,x,j,l,m,d⟩:=d;subst j;cases r;let⟨q,R,p,A⟩:=I.list l;rw[assign_Tuple];erw[Me$ Oy ?_];unfold unpack;rw[i,c];erw[Me$ MJ$ Am (I.ok.hd g) p.isList (by simp [<- m,R.length]) λw y=>?_];let z:ap X P f H ‹w›:=I.kept (t':=s.toks) λb o e=>y b o (Mt$ Mn e) e;rwa[h P _ f H x _ Q z (R:) d]
inductive vZ(K:Ψ)(i j k:Nat)(D:a9)(f:St)(x:V)(b:Hp):Prop
 |mk(a c d e:_)(_:x= .ref a)(_:aD K b a [c,d,e])(_:D.nx (((f.set k (δ e)).set j (δ d)).set i (δ c)) b)
def Bl(K:Ψ)(t:TE)(i j k:Nat):TS:=λD a H=>t a H (vZ K i j k D a)
def yC{t e:dr}{T:TE}{x y z:ρ}{i j k:Nat}(n:X.calm=μ)(c:X.N.Nodup)(w:X.N[i]?=δ x)(A:X.N[j]?=δ y)(B:X.N[k]?=δ z)(L:sA X.env.scope x)(C:sA X.env.scope y)(E:sA X.env.scope z)(F:PE X e T)
  (G:X.fn x=μ∨X.env.scope.names.lookup x=δ .local:=by first |exact .inl Z |exact .inr Z) (J:X.fn y=μ∨X.env.scope.names.lookup y=δ .local:=by first |exact .inl Z |exact .inr Z) (M:X.fn z=μ∨X.env.scope.names.lookup z=δ .local:=by first |exact .inl Z |exact .inr Z)
  (O:↥(swapsWithSole [t] e pos.line X.env=pure ν)) (P:↥(swappedStores [t] e X.env=pure (δ [x,y,z]))):PS X (.Assign [t] e pos) (Bl X.K T i j k):=by
 intro p s f H D I h;rw[exec_Assign_arm];erw[Me$ Oy ?_];rw[O];erw[Me$ Mh ?_];rw[Mx LB];erw[Me$ aU (F p s f H _ I h) λv S d=>?_];let⟨xv,g,l,R,a,v1,v2,v3,Q,V,q⟩:=d;rw[P];erw[Me$ Mh ?_];subst Q;cases R;let⟨W,r,Y,hz⟩:=l.tuple V;cases r with
 |cons q1 r=>
  cases r with
  |cons q2 r=>
   cases r with
   |cons q3 r=>
    cases r
    rename_i u U m
    unfold assignStores;erw[Me$ Nx$ Me$ wpAny_unpackItems_tuple (items:=(ε [u,U,m])) (I.ok.hd n) Y λh' hx=>?_];let I2:ap X p f g { S with heap:=h' }:=l.kept (t':=S.toks) λb o e=>hx b o (Mt$ Mn e) e;erw[Me ?_];show π _ _ (assignInOrder [λv=>bindName X.env z v,λv=>bindName X.env y v,λv=>bindName X.env x v] [m,U,u]) _ _ _;erw[Me$ MJ$ SY$ zw I2 c B E q3 (λs2 I3=>?_) M];erw[Me$ MJ$ SY$ zw I3 c A C q2 (λs3 I4=>?_) J];erw[Me$ MJ$ SY$ zw I4 c w L q1 (λs4 I5=>?_) G];rwa[Mh$ Mh #[_,g,I5,q]]
end
def xH(l b:ζ)(I i:Array η)(n N:Nat)(D:rm ζ)(S:Array (rm η))(e:¬(!I.isEmpty&&ff (I.size+i.size))=μ)(W:I.size<=υ)(a:I.size+i.size<=υ+1):
  Meets (dw.«list.extend» #[[.ref l,.ref b],[]]) (λ_ R s=>s.heap.get? l=δ { cls:=.type "list",dict:=θ,data:=.seq I n,slots:=(ε []) }/\s.heap.get? b=δ #[.type "tuple",D,.seq i N,S]/\R (.ok$ .ret ab) { s with heap:=s.heap.update l (bm λx=>x++i),toks:=s.toks }):=by
 erw[UE λp w A R s h=>?_];let⟨f,g,d,t,os⟩:=s;let⟨H,c,h⟩:=h;let F:=AutoSeq1.idx_int;let j:=AutoSeq1.sub_tuple_tuple;let k:=AutoSeq1.sub_list_list;let m:=AutoSeq1.sub_tuple_list;let o:=AutoSeq1.sub_list_tuple;let hz:(I++i).size<=υ+1:=by rw[RD];rwa[a]
 wp_walk using (Rm H Z (hz:=W) (_hz':=hz)),NK H,NK c;exact#[_,Z,h]
section
variable {X:Cx}
inductive iw(K:Ψ)(x:V)(a:ri V)(H:Hp)(Q:VK):Prop
 |mk(l b c d:_)(_:x= .ref l)(_:a=[.ref b])(_:H l=δ (.lst c))(_:aD K H b d)(_:ο c+ο d<=υ)(_:Q .non (ah H l (.lst (c++d))))
def YN:Hh X "list.extend" (iw X.K):=by
 intro p s A H x V v U Q I g j h;let⟨l,b,B,C,rfl,rfl,f,k,D,q⟩:=h;cases g;let⟨u,rfl,m⟩:=j.one;cases m;let⟨z,a,n,r,E,e⟩:=I.lstM f;let⟨i,R,P,F⟩:=I.tuple k;let o:=R.length;let d:a.toArray.size+i.toArray.size<=υ:=by rw[Mm,Mm];omega
 let c:¬(!a.toArray.isEmpty&&ff (a.toArray.size+i.toArray.size))=μ:=by rw[fu d,Rl];rwa[Mq]
 obtain⟨⟨G,O,J,S⟩,t,w,N,y⟩:=P;cases w;cases y;erw[RQ Ui #[_,e,Z] T8 (TX _ _) (xH l b a.toArray i.toArray n N O S c (by rw[Mm];omega) LA) #[e,t,?_]];erw[#[.non,_,I.lset (its':=a++i) f e Lz (r.append R) (by rw[Ml];rwa[N09]),Z,q]]
end
section
variable {prog:ω}{w:bS}{A:bx}{E:η->ι->Prop}{s:ι}
def Jq{R:Result->ι->Prop}{P:Nat->η->Prop}{St:Nat->ι->Prop}
  (W:WalksS prog w A.in1 I N j G n P St) (S:ζ) (H:¬S∈N) (c:ri ρ) (O:ο c=n) (Q:∀i v,P i v->∃x t,c[i]?=δ x/\v= .str x t) (d:∀L:ri ρ,L.Nodup->(∀x∈L,x∈c)->ο L+1 < scanBound):
  ∀(k i:Nat) (s:ι) (L:ri ρ),n - i=k->i<=n->St i s->cn prog w s.heap S L->(∀x,x∈L↔x∈c.take i)->ο L<=i->
   (∀a l,Moved (S::j) G s a->cn prog w a.heap S l->(∀x,x∈l↔x∈c)->ο l<=n->R (.ok$ .ret .none) a)->
   ib (χ prog w) A (.builtin "set.update.loop" #[[.ref S,.ref I],[]]) R s:=by
 let f:¬S∈j:=λz=>H (W.sub _ z);let sub:∀b∈j,b∈S::j:=λb z=>ML _ z;intro k;induction k with
 |zero=>
  intro i s L T U st p q F r;let e:i=n:=LA
  subst e;erw[ND Ph ?_];rw[Nh On];show π _ A.in1 (pyNext (.ref I) >>= _) _ _ s;erw[Me$ W.done s _ _ st λa m=>?_];show π _ A.in1 (ret ab) _ _ a;erw[Mh$ r a L (m.mono sub) (p.at λo e=>m.heap S o f e) (λx=>?_) F];rw[q x,<- O,Np]
 |succ k V=>
  intro i s L T U st p q F r;let J:i < n:=LA
  erw[ND Ph ?_];rw[Nh On];show π _ A.in1 (pyNext (.ref I) >>= _) _ _ s;erw[Me$ W.item i s _ _ J st λv a X u m=>?_];let⟨x,t,B,rfl⟩:=Q i v X;show π _ A.in1 (iu [ks x t] (setAdd S$ .str x t) >>= _) _ _ a;erw[Me$ MJ ?_];let h:L.Nodup:=by let⟨_,_,_,_,_,_,_,_,_,h,_⟩:=p;rwa[h]
  erw[X4 (p.at λo e=>m.heap S o f e) (d L h λx B=>M' ((q x).mp B)) λb h' Y K S2 g=>?_];erw[Mh #[Oh On _,V (i+1) _ _ LA J (W.frame _ a _ _ u g λb d o e=>?_) S2 (λy=>?_) ?_ λC l M D q1 q2=>?_]]
  .rw[K.2 b (λz:b=S=>H (by rw[<- z];rwa[d]))];rwa[e]
  .let tk:c.take (i+1)=c.take i++[x]:=by rw[OA,B];rfl
   rw[tk,Oa,O7,<- q y];split
   .rename_i hm
    exact#[.inl,λz=>z.elim id λe=>e▸hm]
   .rw[Oa,O7]
  .split
   .omega
   .rw[Ml,Oq];omega
  .erw[r C l (Moved.trans W.gtrans ((m.mono sub).then_heap g λb o d e=>?_) M) D q1 q2];rw[K.2 b (λz:b=S=>d (by rw[z];rwa[Mz]))];rwa[e]
end
section
variable {prog:ω}{w:bS}{A:bx}{E:η->ι->Prop}{s:ι}
set_option maxHeartbeats 3200000 in
def JW{Q:η->ι->Prop}
  (hh:A.handled=θ) (hl:s.heap.IsList l I) (hi:StrsAre I.toList n) (C:∀L:ri ρ,L.Nodup->(∀x∈L,x∈n)->ο L+1 < scanBound)
  (h:∀(a:db) (t:Nat) L,cn prog w a (-s) L->(∀x,x∈L↔x∈n)->ο L<=I.size->
   (∀b o,b < -s->s.heap.get? b=δ o->a.get? b=δ o)->s.toks<=t->Q (.ref (-s)) { s with heap:=a,toks:=t }):
  π (χ prog w) A (call (.type "set") [.ref l]) Q E s:=by
 let⟨c,tl,m1⟩:=PySem.F.called_set.mro;let m0:=PySem.F.called_set.made;let sb:=PySem.F.called_set.sub;erw[SX$ SK ?_];show π _ _ (callAny (.type "set") _) _ _ _;erw[Mh #[Code.quiet_builtin _ Ly,ND PySem.F.entry_type_call ?_]];rw[Around.under_plain (weight_type_call_type "set" [.ref l] []) Z];let n1:=PySem.F.called_set.notType;let n2:=PySem.F.called_set.canCreate;let ct:=PySem.F.typeCall_set_1 (.ref l);repeat (any_goals (first |assumption |wp_step))
 erw[OP (Qb (.ref l) (E:=E) (G:=λv S=>v= .ref (-s)/\S=‹s.heap.push (bj w)›) #[Z,Z]) λr S D=>?_];cases r with
 |error e=>rwa[D]
 |ok fl=>
  cases fl with
  |ret o2=>
   let⟨rfl,rfl⟩:=D;let J:(s.heap.push$ bj w).get? (-s)=δ (bj w):=Mo _ Z;let hT:Shared.TypeIs ‹s.heap.push (bj w)› (.ref (-s)) "set":=#[_,J,Z];let li:=PySem.F.called_set.init.lookup;let bi:=PySem.F.called_set.init.bind (.ref (-s));repeat (any_goals (first |assumption |wp_step))
   refine OP (codeAny_call_builtin (R:=wants (λr d=>r= .none/\∃a t L,d={ s with heap:=a,toks:=t }/\cn prog w a (-s) L/\(∀x,x∈L↔x∈n)/\ο L<=I.size/\
     (∀b o,b < -s->s.heap.get? b=δ o->a.get? b=δ o)/\s.toks<=t) E) PySem.F.called_set.init.plain PySem.F.entry_set_init (check_set_init_1 hT ?_)) λp d H=>?_
   .let⟨ol,q,u,nl,y⟩:=hl;let⟨o1,g,K,O⟩:=ol;simp only at u y;subst u;subst y;let f:(s.heap.push$ bj w).get? l=δ { cls:=.type "list",dict:=g,data:=.seq I nl,slots:=O }:=Mg _ q;let ns:=PySem.F.sub_list_set;let nf:=PySem.F.sub_list_frozenset;let ne:(de "list"==de "dict")=ν:=by decide
    let j:(s.heap.push$ bj w).IsList l I:=#[_,f,Z,nl,Z];unfold bj at J hT f j ⊢;unfold dw.«set.__init__» noKeywords Builtin.Frozenset.updateFrom;generalize M:pyIter=PI;wp_walk;subst M;erw[PM j ?_];erw[Me$ SV ?_];let z:l < -s:=Mn q;let h3:A.in1.in1.in1.handled=θ:=by simp [hh]
    let N:l≠(s.heap.push$ bj w).objs.size:=by rw[Na];rwa[Mt$ Of z]
    let P:¬-s∈[(s.heap.push$ bj w).objs.size,l]:=by rw[Na];simp only[Og,MU,P8,not_or];exact#[Mt$ NF _,Nf z]
    let B:ο n=I.size:=by rw[_L.StrsAre.len hi,ME]
    refine Jq ((Walks.list h3 _ l N I).toS) (-s) P n B (λi v hv=>StrsAre.at' hi i v (by rw[Nu];exact hv)) C (I.size - 0) 0 _ [] LA (Mu _)
     #[#[_,Mo _ Z,Z,Z],j.push _] (X5$ Mg _ J) (λx=>by simp) (Mj _) λs' L m T U V=>?_
    let⟨a,g',d',W,X⟩:=s';let eg:g'=s.gens:=m.gens;let ed:d'=s.drawn:=m.drawn;let eo:X=s.os:=m.os;subst eg;subst ed;subst eo;show π _ _ _ _ _ _;erw[Mh ?_];show π _ _ (ret ab) _ _ _;erw[Mh #[Z,a,W,L,Z,T,U,V,λb o C e=>?_,m.toks]];let b1:b≠-s:=Mt C;let b2:b≠(s.heap.push$ bj w).objs.size:=by rw[Na];rwa[Mt$ Of C]
    rwa[m.heap b o (by simp only[Og,MU,P8,not_or];exact#[b1,b2])$ Mg _$ Mg _ e]
   .cases p with
    |error e=>rwa[H]
    |ok k=>
     cases k with
     |ret r=>
      let⟨rfl,a,t,L,rfl,T,U,V,Y,q3⟩:=H;repeat (any_goals (first |assumption |wp_step))
      rwa[h _ _ _ T U V Y q3]
     |_=>rwa[H.elim]
  |_=>rwa[D.elim]
end
section
variable {X:Cx}
def qW(m:X.calm=μ):dA X (.type "set") (λg H Q=>∃(p:ζ) (S:ri ρ),g=[.ref p]/\aI X.K H p (S.map qr)/\(∀L:ri ρ,L.Nodup->(∀x∈L,x∈S)->ο L+1 < scanBound)/\
  ∀l L,H l=θ->L.Nodup->(∀x,x∈L↔x∈S)->Q (.ref l) (ah H l$ Hj X.prog X.w l L)):=by
 intro P s B H g U Q I r h;let⟨p,S,rfl,n,t,q⟩:=h;let⟨u,rfl,R⟩:=eG r;cases R;let⟨i,v,y,C⟩:=I.list n;let j:=zW v;let D:ο i=ο S:=(_L.StrsAre.len j).symm;erw[JW (I.ok.hd m) y.isList (j:) t λc T L d z E k _=>?_];let a:L.Nodup:=by let⟨_,_,_,_,_,_,_,_,_,a,_⟩:=d;rwa[a]
 let A:∀b o,s.heap.get? b=δ o->c.get? b=δ o:=λb o e=>k b o (Mn e) e;obtain⟨o,f⟩:∃o,c.get? (-s)=δ o:=let #[o,_,_,_,f,_]:=d;#[o,f]
 exact#[.ref (-s),_,I.laid A (Mj _) (show aK X.prog X.w _ c _ (Hj X.prog X.w (-s) L) from #[d,#[o,f],λF G x e=>cn.at x e]),Z,q _ _ (I.hok.fresh$ Mj _) a z]
end
section
variable {X:Cx}{CX:pI}{k:Nat}{f C:ζ}{fd:bU}{ps:ri ρ}{sp:Sp}{dvs:ri V}{ds:ri η}{E:XK}{x m:ρ}{p pos apos:Pos}{e:dr}{es:ri dr}{t:TA}
structure sr(K:Ψ)(C:ζ)(m:ρ)(f:ζ):Prop where
 rd:PySem.W.readsIn K C (.type "type")=μ
 ga:specialIn K (.ref C) "__getattribute__"=δ (δ$ .builtin "type.__getattribute__")
 at_:PySem.W.findCls K (.ref C) (.type "type") m=δ (.val$ .ref f)
 kp:fr K (.ref f)=μ
def Zp{pl:Sem Bool}(j:Gl X x)(l:X.mg x=↑C)(M:sr X.K C m f)(F:af X.prog X.w X.K X.mg X.base CX k f fd ps sp)(n:bJ k X.A)(q:au X.K fd ps ds)(u:ay dvs ds)(v:dD CX X E)(y:PA X (e::es) t)
  (a:↥((x==("__debug__":ρ))=ν))
  (c:↥(Δ (e::es) X.env=(ν,eval e X.env)::Δ es X.env)) (d:↥((eT pos$ Δ es X.env).any (·.1)=ν))
  (z:↥(eval (.Call (.Attribute (.Name x p) m apos) (e::es) [] pos) X.env=(do
   let O <- eval (.Name x p) X.env
   standAt apos.atName
   let (f,first) <- iu [O] (getMethod O m pl)
   callWith pos f first (eT pos$ Δ (e::es) X.env) (backToKw pos$ keywordEach [] X.env)))):
  PE X (.Call (.Attribute (.Name x p) m apos) (e::es) [] pos) (dS sp dvs E t):=by
 intro P s g H Q I h;erw[Pr (pl:=pl) (zh I j l ?_ a) z];erw[PySem.W.method_cls I.kIn M.ga$ PySem.W.cls_value I.kIn M.rd M.at_ Z ?_];let B:ap X P g H { s with toks:=s.toks+1 }:=I.kept (h':=s.heap) λb o e=>e;erw[RS (h₀:=X.base) I.ok.mod.kin M.kp (aU (y pos P _ g H _ B h) λU S #[G,J,i,r,D]=>#[i.kIn,?_]) c d];rwa[QS F n q u v i r D]
end
abbrev eV(h:db)(z u v T:ζ)(f:Bool):Prop:=
 h.get? z=δ { cls:=.type "zip",dict:=θ,data:=.fields (ε [rawInt T,.bool f,.bool ν,.ref u,.ref v]),slots:=(ε []) }
section
variable {prog:ω}{w:bS}{A:bx}{E:η->ι->Prop}{s:ι}
def sg{Q:rm fx->ι->Prop}(h:Q (s.heap.get? a) s):π M A (loadIfAlive a) Q E s:=λ_ _ _=>h
def ED{Q:Bool->ι->Prop}(H:eV s.heap z u v T f)(a:∃o,s.heap.get? T=δ o)
  (q:∀h,eV h z u v T μ->mI z s.heap h->h.objs.size=-s->Q ν ‹h›):π (χ prog w) A (bF$ .ref z) Q E s:=by
 unfold bF;erw[Me$ MO H Z (x:=rawInt T) Z ?_];show π _ _ (loadIfAlive ((T:Int).toNat) >>= _) _ _ s;erw[Me$ sg ?_];let⟨o,c⟩:=a;rw[Ng,c];simp only[Tg,Ms,Ny];erw[Me$ MO H Z (x:=.bool f) Z ?_];cases f with
 |true=>simp only[NE,Ms,Ny];rwa[Me$ Mh$ Mh$ q s.heap H (λb o _ e=>e) Z]
 |false=>rw[Mv LB];erw[Me$ Ou H Lz λh d S=>Mh (q h d S.extBut S.1)]
def As{Q:rm η->ι->Prop}(D:xk z u v c d a b)
  (g:eV s.heap z u v T f) (p:∃o,s.heap.get? T=δ o) (q:IsPair s.heap u (.ref c) (.ref d)) (r:gX B s.heap c a k) (t:gX l s.heap d b k) (G:iT B s.heap a C) (F:iT l s.heap b Y) (I:C[k]?=δ x) (J:Y[k]?=δ y)
  (L:∀h,eV h z u v T μ->gX B h c a (k+1)->gX l h d b (k+1)->IsPair h (-s) x y->h.objs.size=-s+1->
   (∀e o,e≠z->e≠c->e≠d->s.heap.get? e=δ o->h.get? e=δ o)->Q (δ$ .ref (-s)) ‹h›):π (χ prog w) A (pyNext$ .ref z) Q E s:=by
 let H:s.TypeIs (.ref z) "zip":=#[_,g,Z];unfold pyNext;erw[Me$ Oz$ M1 (name:=Str.ofString "__next__") H NA$ MY NA H OS (show π _ _ (field (.ref z) 2 >>= _) _ _ _ from ?_)$ OL _];erw[Me$ MO g Z (x:=.bool ν) Z (show π _ _ (field (.ref z) 3 >>= _) _ _ _ from Me$ MO g Z (x:=.ref u) Z$ Me$ Ni q Z ?_)];erw[(show π _ _ (bF (.ref z) >>= _) _ _ _ from Me$ ED g p λO P i n=>?_)];simp only[Ms,Ny];erw[Me ?_];simp only[Tw,NR,OD];erw[Me$ Me$ MJ (show π _ _ (Ω (.ref c) >>= _) _ _ _ from ?_)];erw[Me$ zX (s:=‹O›) (r.kp λo e=>i _ _ D.cz e) (G.kp λo e=>i _ _ D.az e) I λM R j=>Mh (Mh ?_)];erw[Me$ Me$ MJ (show π _ _ (Ω (.ref d) >>= _) _ _ _ from ?_)];let K:∀e o,e≠z->e≠c->s.heap.get? e=δ o->M.get? e=δ o:=λe o n U w=>j.extBut _ _ U (i _ _ n w);erw[Me$ zX (s:=‹M›) (t.kp λo e=>K _ _ D.dz D.cd.symm e) (F.kp λo e=>K _ _ D.bz D.bc e) J λm V S=>Mh (Mh$ Mh ?_)];show π _ _ (newTuple [x,y] >>= _) _ _ _;erw[Me$ O0$ Mh #[_,Z,Mh ?_]];let N:m.objs.size=-s:=by rw[S.1,j.1];rwa[n]
 let W:eV m z u v T μ:=S.extBut _ _ D.dz.symm (j.extBut _ _ D.cz.symm P);show Q (δ$ .ref m.objs.size) _;rw[N];erw[L _ (Mg _ W) (R.kp λo e=>Mg _ (S.extBut _ _ D.cd e)) (V.kp λo e=>Mg _ e) (by rw[<- N];rwa[Mo _ Z]) (by rw[Na,N]) λe o X a2 a3 w=>Mg _ (S.extBut _ _ a3$ K _ _ X a2 w)]
def Eb{b2:Bool}{ys:Array η}{Q:rm η->ι->Prop}(j:A.handled=θ)(D:xk z u v c d a b)
  (H:eV s.heap z u v T f) (l:∃o,s.heap.get? T=δ o) (m:IsPair s.heap u (.ref c) (.ref d)) (p:gX B s.heap c a k) (G:iT B s.heap a q) (r:q[k]?=θ)
  (t:∀i,(∀e o,e≠z->e≠c->e≠d->s.heap.get? e=δ o->i.get? e=δ o)->Q θ ‹i›):π (χ prog w) A (pyNext$ .ref z) Q E s:=by
 let h:s.TypeIs (.ref z) "zip":=#[_,H,Z];unfold pyNext;erw[Me$ Oz$ M1 (name:=Str.ofString "__next__") h NA$ MY NA h OS (show π _ _ (field (.ref z) 2 >>= _) _ _ _ from ?_)$ OL _];erw[Me$ MO H Z (x:=.bool ν) Z (show π _ _ (field (.ref z) 3 >>= _) _ _ _ from Me$ MO H Z (x:=.ref u) Z$ Me$ Ni m Z ?_)];erw[(show π _ _ (bF (.ref z) >>= _) _ _ _ from Me$ ED H l λM F g n=>?_)];simp only[Ms,Ny];erw[Me ?_];simp only[Tw,NR,OD];erw[Me$ Me$ MJ (show π _ _ (Ω (.ref c) >>= _) _ _ _ from ?_)];erw[Me$ QL (s:=‹M›) (j:) (p.kp λo e=>g _ _ D.cz e) (G.kp λo e=>g _ _ D.az e) r λy e S C=>?_];rwa[Me$ Oj (T:="StopIteration") (b:=μ) C Ry$ Mh$ t y λe o n N I w=>S _ _ N (g _ _ n w)]
end
def JE:typeLookup (.type "zip") "__getattr__"=pure θ:=by rw[NC,M8];kernel_rfl
def X8:typeLookup (.type "zip") "keys"=pure θ:=by rw[NC,M8];kernel_rfl
def Xi:entryFor table "zip.__getattribute__"=δ dw.«object.__getattribute__»:=
 Rz (id':="object.__getattribute__") (by kernel_rfl) Ly Ly (by kernel_rfl)
def KZ(a:ζ)(x:Array η)(S:Array (rm η))(u:Tok):
  Meets (dw.«object.__getattribute__» #[[.ref a,.str "keys" u],[]]) (λA R s=>s.heap.get? a=δ { cls:=.type "zip",dict:=θ,data:=.fields x,slots:=S }/\raisesAttr (.ref a) "keys" A R s):=
 UE λp w A R s H=>by
  let⟨c,g,d,t,os⟩:=s;let⟨e,H⟩:=H;let f:(#[c,g,d,t,os]:ι).TypeIs (.ref a) "zip":=#[_,e,Z];let b:=X8;let h:(["__module__","__name__","__qualname__","__doc__","__annotations__"]:ri ρ).contains "keys"=ν:=Ly
  unfold dw.«object.__getattribute__»;repeat (any_goals (first |assumption |wp_step))
  try simp only[h,Ms,Ny]
  repeat (any_goals (first |assumption |wp_step))
  rwa[wpAny_raiseAttrError H.1 H.2$ attrMsg_fits Ly (by size_fits)]
section
variable {prog:ω}{w:bS}{A:bx}{E:η->ι->Prop}{s:ι}
def x6{Q:rm η->ι->Prop}(f:s.heap.get? a=δ { cls:=.type "zip",dict:=θ,data:=.fields x,slots:=j })(k:A.handled=θ)
  (h:∀c T,(∀b o,s.heap.get? b=δ o->c.get? b=δ o)->Q θ { s with heap:=c,toks:=T }):π (χ prog w) A (getAttr? (.ref a) "keys") Q E s:=by
 let⟨l,g,d,T,os⟩:=s;let i:∀t,(#[l,g,d,t,os]:ι).TypeIs (.ref a) "zip":=λ_=>#[_,f,Z];let m:=sub_AttributeError;let n:=ir.lookup;let p:=ir.bind (.ref a);let q:=JE;unfold getAttr? getAttrBy? getAttrBy;repeat (any_goals (first |assumption |exact i _ | ((with_reducible show π _ _ (call (Value.builtin "zip.__getattribute__") _ _) _ _ _);erw[RQ ir (i _) Xi (PySem.F.args_zip_getattribute_2 _ _) (KZ a x j _) #[f,by simpa using k,λc t e H=>?_]]) |wp_step))
 let⟨r,u,v⟩:=H.there;show π _ _ (getattributeRaised _ _ _ _ _ _ _) _ _ _;unfold getattributeRaised;repeat (any_goals (first |assumption |wp_step))
 rwa[h _ _ H.keeps]
def BF(h:db)(z u v c d a b Dd:ζ)(x y:Array η)(i:Nat):Prop:=
 ((IsZip h z u v .none/\∃p q,IsPair h v p q)∨∃T f o,eV h z u v T f/\h.get? T=δ o/\T≠z/\T≠c/\T≠d/\T≠Dd)/\IsPair h u (.ref c) (.ref d)/\gX ν h c a i/\gX ν h d b i/\iT ν h a x/\iT ν h b y
def Av{Dd:ζ}{Q:rm η->ι->Prop}(D:xk z u v c d a b)(l:Dd < -s)(S:BF s.heap z u v c d a b Dd J Y k)(L:J[k]?=δ x)(M:Y[k]?=δ y)
  (N:∀h,BF h z u v c d a b Dd J Y (k+1)->IsPair h (-s) x y->h.objs.size=-s+1->(∀e o,e≠z->e≠v->e≠c->e≠d->s.heap.get? e=δ o->h.get? e=δ o)->Q (δ$ .ref (-s)) ‹h›):π (χ prog w) A (pyNext$ .ref z) Q E s:=by
 let⟨H,g,j,m,G,i⟩:=S;let⟨oc,n,_⟩:=j.ob;let⟨od,r,_⟩:=m.ob;rcases H with ⟨H,p,q,U⟩ | ⟨T,f,o,H,O,t,P,R,V⟩
 .erw[At D H g U j m G i L M λh B v1 I C t F K=>N h #[.inr #[-s,ν,_,B,t,Nf$ Mn H,Nf$ Mn n,Nf$ Mn r,Nf l],K _ _ D.uz D.uv D.uc D.ud g,I,C,G.kp λo e=>K _ _ D.az D.av D.ac D.ad e,i.kp λo e=>K _ _ D.bz D.bv D.bc D.bd e] t F K]
 .erw[As D H #[o,O] g j m G i L M λh B I C W F K=>N h #[.inr #[T,μ,o,B,K _ _ t P R O,t,P,R,V],K _ _ D.uz D.uc D.ud g,I,C,G.kp λo e=>K _ _ D.az D.ac D.ad e,i.kp λo e=>K _ _ D.bz D.bc D.bd e] W F λe o X n2 n3 n4 w=>K e o X n3 n4 w]
def Ee{Dd:ζ}{Q:rm η->ι->Prop}(g:A.handled=θ)(D:xk z u v c d a b)(n:BF s.heap z u v c d a b Dd x ys k)(i:x[k]?=θ)
  (j:∀H,(∀e o,e≠z->e≠v->e≠c->e≠d->s.heap.get? e=δ o->H.get? e=δ o)->Q θ ‹H›):π (χ prog w) A (pyNext$ .ref z) Q E s:=by
 let⟨h,l,m,B,G,C⟩:=n;rcases h with ⟨h,p,q,F⟩ | ⟨T,f,o,h,r,I,J,L,M⟩
 .rwa[Ec (b2:=ν) (p:=p) (q:=q) (ys:=ys) g D h l m G i j]
 .rwa[Eb (b2:=ν) (ys:=ys) g D h #[o,r] l m G i λH K=>j H λe o N O t y w=>K e o N t y w]
structure HG(D z u v c d a b:ζ):Prop where
 z:D≠z
 u:D≠u
 v:D≠v
 c:D≠c
 d:D≠d
 a:D≠a
 b:D≠b
def BF.keep{h j:db}{Dd:ζ}(F:HG Dd z u v c d a b)(k:∀e o,e≠Dd->h.get? e=δ o->j.get? e=δ o)(st:BF h z u v c d a b Dd x y i):BF j z u v c d a b Dd x y i:=by
 let⟨H,l,m,n,G,r⟩:=st;erw[#[?_,k _ _ F.u.symm l,m.kp λo e=>k _ _ F.c.symm e,n.kp λo e=>k _ _ F.d.symm e,G.kp λo e=>k _ _ F.a.symm e,r.kp λo e=>k _ _ F.b.symm e]];rcases H with ⟨H,p,q,B⟩ | ⟨T,f,o,H,g,C,D,I,t⟩
 .rwa[.inl #[k _ _ F.z.symm H,p,q,k _ _ F.v.symm B]]
 .rwa[.inr #[T,f,o,k _ _ F.z.symm H,k _ _ t g,C,D,I,t]]
def K6{K:Type}[DecidableEq K]{knd:KeyKind prog w K}{R:Result->ι->Prop}{Dd:ζ}{x:Array η}(X:A.handled=θ)(D:xk z u v c d a b)(F:HG Dd z u v c d a b)(m:ri (K×η))(Y:ο m=x.size)(h0:x.size<=υ)
  (hP:∀(i:Nat),i < x.size->∃f V k,x[i]?=δ f/\ys[i]?=δ V/\knd.is k f=μ/\m[i]?=δ (k,V)):
  ∀(j i:Nat) (s:ι) (n:Int),x.size - i=j->i<=x.size->BF s.heap z u v c d a b Dd x ys i->s.heap.DictOf knd Dd (merged []$ m.take i)->
   (∀h T,(∀e o,e≠Dd->e≠z->e≠v->e≠c->e≠d->s.heap.get? e=δ o->h.get? e=δ o)->h.DictOf knd Dd (merged [] m)->R (.ok$ .ret .none) { s with heap:=h,toks:=T })->
   ib (χ prog w) A (.builtin "dict.update.loop" #[[.ref Dd,.ref z,.int n 0,.none],[]]) R s:=by
 intro j;induction j with
 |zero=>
  intro i s n hj hi st q C;let e:i=x.size:=LA
  subst e;erw[ND JQ ?_];rw[Nh zG];show π _ A.in1 (pyNext (.ref z) >>= _) _ _ s;erw[Me$ Ee (X:) D st Lz λh g=>?_];show π _ A.in1 (Builtin.Dict.addKeywords Dd [] >>= λ_=>ret ab) _ _ ‹h›;erw[Me ?_];unfold Builtin.Dict.addKeywords;erw[Mh$ Mh$ C h s.toks (λe o _ N t y B w=>g e o N t y B w) ?_];rw[<- Y,Np]at q;let⟨o,es,ep,ho,r⟩:=q;exact#[o,es,ep,g _ _ F.z F.v F.c F.d ho,r]
 |succ j ih=>
  intro i s n hj hi st q C;let M:i < x.size:=LA
  let⟨f,V,k,hx,hy,O,hm⟩:=hP i M;erw[ND JQ ?_];rw[Nh zG];show π _ A.in1 (pyNext (.ref z) >>= _) _ _ s;let⟨oD,G,I,H,rD⟩:=id q;let L:Dd < -s:=Mn H;erw[Me$ Av D L st hx hy λl S P N g=>?_];let hb:Shared.TypeIs ‹l› (.ref (-s)) "tuple":=#[_,P,Z];let J:l.DictOf knd Dd (merged []$ m.take i):=#[oD,G,I,g _ _ F.z F.v F.c F.d H,rD];dsimp only;erw[Me$ MJ ?_];erw[Me$ wpAny_tryCatch ?_];unfold Builtin.Dict.pairItems;erw[Me$ N7 hb ?_];rw[Mv LB];erw[Me$ Ni P Z$ Mh ?_];show π _ A.in1 (iu [f,V]$ dictSet Dd f V) _ _ ‹l›;unfold dictSet;erw[MJ$ MJ$ Me$ knd.pyHash O ?_];let Q:(merged ([]:ri (K×η))$ m.take i).length<=i:=by let:=UL ([]:ri (K×η)) (m.take i);rw[MT]at this;simp only[RX]at this;omega
  erw[wpAny_dictSetHashed_pairs (s:={ s with heap:=l,toks:=s.toks+1 }) O J (λh p sb=>?_) LA];rw[<- merged_take_succ [] m i (k,V) hm]at p;let U:∀e o,e≠Dd->l.get? e=δ o->h.get? e=δ o:=λe o ne w=>(sb.2 e ne).trans w;erw[Mh #[Oh zG _,ih (i+1) _ (n+1) LA M (S.keep F U) p λh2 T k2 d2=>C h2 T (λe o W N t y B w=>k2 e o W N t y B (U _ _ W$ g e o N t y B w)) d2]]
def Qi{K:Type}[DecidableEq K]{knd:KeyKind prog w K}{more:ri (K×η)}{Q:η->ι->Prop}(N:A.handled=θ)(D:xk z u v c d a b)
  (j:IsZip s.heap z u v .none) (P:IsPair s.heap u (.ref c) (.ref d)) (m:∃p q,IsPair s.heap v p q) (U:gX ν s.heap c a 0) (V:gX ν s.heap d b 0) (W:iT ν s.heap a x) (X:iT ν s.heap b ys)
  (hn:ο more=x.size) (n:x.size<=υ) (hP:∀(i:Nat),i < x.size->∃Y vu k,x[i]?=δ Y/\ys[i]?=δ vu/\knd.is k Y=μ/\more[i]?=δ (k,vu))
  (h:∀l t,l.DictOf knd (-s) (merged [] more)->(∀e o,e≠z->e≠v->e≠c->e≠d->s.heap.get? e=δ o->l.get? e=δ o)->Q (.ref (-s)) { s with heap:=l,toks:=t }):
  π (χ prog w) A (call (.type "dict") [.ref z]) Q E s:=by
 erw[Vk (Q₁:=λO S=>O= .ref (-s)/\S=‹s.heap.push { cls:=.type "dict",data:=.dict (ε []) }›) PySem.F.kt_called_dict (PySem.F.kt_typeCall_dict_1 _) PySem.F.entry_dict_init (kt_code_dict_new _ #[Z,Z]) ?_];rintro O S ⟨rfl,rfl⟩;let f:(s.heap.push { cls:=.type "dict",data:=.dict (ε []) }).DictOf knd (-s) []:=SU s.heap;erw[#[f.typeIs,PySem.F.args_dict_init_2 _ _,?_]];unfold dw.«dict.__init__»;erw[Me ?_];unfold Builtin.Dict.selfAndRest;erw[Me$ wpAny_notOrdered_dict f.typeIs ?_];show π _ _ (pure (-s,[Θ z])) _ _ _;erw[Mh ?_];show π _ _ (Builtin.Dict.updateFrom "dict.__init__" (-s) (.ref z) [] .none) _ _ _;unfold Builtin.Dict.updateFrom;generalize hH:s.heap.push { cls:=.type "dict",data:=.dict (ε []) }=H at f ⊢;let G:∀b o,s.heap.get? b=δ o->H.get? b=δ o:=λb o e=>by rw[<- hH];rwa[Mg _ e]
 erw[Me$ N7 #[_,G _ _ j,Z] ?_];rw[Mv LB];erw[Me$ x6 (s:=‹H›) (G _ _ j) (N:) λM t k1=>?_];simp only[Th,O6];erw[Me$ Nx ?_];let g:∀b o,s.heap.get? b=δ o->M.get? b=δ o:=λb o e=>k1 _ _ (G _ _ e);erw[Me$ wpAny_pyIter_zip (s:={ s with heap:=M,toks:=t }) (g _ _ j) ?_];let⟨oD,eD,y,B,rD⟩:=f;let⟨p,q,m⟩:=m;let⟨oc,C,_⟩:=U.ob;let⟨od,I,_⟩:=V.ob;let⟨oa,J,_⟩:=id W;let⟨ob,L,_⟩:=id X;let F:HG (-s) z u v c d a b:=#[Nf$ Mn j,Nf$ Mn P,Nf$ Mn m,Nf$ Mn C,Nf$ Mn I,Nf$ Mn J,Nf$ Mn L];refine Mh #[Oh zG _,OP (K6 (knd:=knd) (A:=A.in1) (R:=λr s'=>r= .ok (.ret .none)/\Q (.ref (-s)) s') (N:) D F more hn n hP x.size 0 { s with heap:=M,toks:=t } 0 Z (Mu _)
  #[.inl #[g _ _ j,p,q,g _ _ m],g _ _ P,U.kp λo e=>g _ _ e,V.kp λo e=>g _ _ e,W.kp λo e=>g _ _ e,X.kp λo e=>g _ _ e] #[oD,eD,y,k1 _ _ B,rD] λl T k2 d2=>#[Z,?_]) λr s' q=>?_]
 .rwa[h l T d2 λe o n1 n2 n3 n4 w=>k2 e o (Mt$ Mn w) n1 n2 n3 n4 (g _ _ w)]
 .let⟨rfl,q⟩:=q;exact#[Z,q]
end
section
variable {X:Cx}{e1 e2:dr}{ta:TA}{p p2 pos pos2:Pos}
inductive Gv(K:Ψ)(Q:VK)(e:ri V)(c:Hp):Prop
 |mk(a b:ζ)(d:ri bu)(f:ri V)(_:e=[.ref a,.ref b])(_:aD K c a (d.map kV))(_:aD K c b f)(_:ο d=ο f)(_:∀l,c l=θ->Q (.ref l) (ah c l (.dK (di [] (d.zip f)))))
def Ll(K:Ψ)(ta:TA):TE:=λa H Q=>ta a H (Gv K Q)
theorem Zq{P:ω}{w:bS}:∀{K:ri bu} {U:ri η},ay (K.map kV) U->∀(i:Nat) (k:bu),K[i]?=δ k->∃u,U[i]?=δ u/\(aZ P w).is k u=μ
 | [],_,_,i,k,h=>by simp at h
 |k0::K,_,.cons (b:=u) h t,0,k,e=>by
  let E:k0=k:=by simpa using e
  subst E;exact#[u,Z,Qp h]
 |k0::K,_,.cons h t,i+1,k,e=>by simpa using Zq (P:=P) (w:=w) t i k (e:)
theorem tV:∀{K:ri bu} {y:ri V} {u:ri η},ay y u->KV (K.zip y) (K.zip u)
 | [],_,_,_=>by simp only[List.zip_nil_left];rwa[.nil]
 |_::_,_,_,.nil=>by simp only[List.zip_nil_right];rwa[.nil]
 |k::K,_,_,.cons h t=>.cons #[Z,h] (tV t)
def Zr(m:Gl X "dict")(n:X.mg "dict"=θ)(t:Gl X "zip")(v:X.mg "zip"=θ)(N:X.calm=μ)(O:PA X [e1,e2] ta)
  (T:↥(Δ [e1,e2] X.env=(ν,eval e1 X.env)::Δ [e2] X.env)) (U:↥((eT pos2$ Δ [e2] X.env).any (·.1)=ν))
  (f:↥(Δ [Expr.Call (.Name "zip" p2) [e1,e2] [] pos2] X.env=(ν,eval (.Call (.Name "zip" p2) [e1,e2] [] pos2) X.env)::Δ [] X.env)) (x:↥((eT pos$ Δ [] X.env).any (·.1)=ν)):
  PE X (.Call (.Name "dict" p) [.Call (.Name "zip" p2) [e1,e2] [] pos2] [] pos) (Ll X.K ta):=by
 intro P s V H Q I h;erw[Nl$ zq I m n Vh ?_];erw[M6 ?_ f x];rw[f];show π _ _ (spliced ((ν,eval _ X.env)::eT pos (Δ [] X.env))) _ _ s;erw[N5 ?_];erw[Nl$ zq I t v Vf ?_];erw[M6 (aU (O pos2 P s V H _ I h) λus S z=>?_) T U];let⟨vs,H1,d,W,Y⟩:=z;let⟨a,b,c,ys,e,gx,gy,hl,q⟩:=Y;subst e;cases W with
 |cons r rr=>
  cases rr with
  |cons r' y=>
   cases y;cases r;cases r';let⟨A,F,G,z1⟩:=d.tuple gx;let⟨j,R,C,z2⟩:=d.tuple gy;let l1:=F.length;let l2:=R.length;rw[Mi]at l1 z1;let la:a < -S:=by let⟨o,D,_⟩:=G;rwa[Mn D]
   let lb:b < -S:=by let⟨o,D,_⟩:=C;rwa[Mn D]
   erw[Ed (b1:=ν) (b2:=ν) (xs:=A.toArray) (ys:=j.toArray) G C λE J u' v' i1 i2 k=>?_];erw[Ot ?_];let Dz:=Au (-S) a b la lb;erw[Qi (s:={ S with heap:=E }) (knd:=aZ X.prog X.w) (more:=c.zip j) (d.ok.hd N) Dz J u' #[_,_,v'] i1 i2 (iT.kp (b:=ν) G λo e=>k _ _ e) (iT.kp (b:=ν) C λo e=>k _ _ e) (by rw[RW,Mm];omega) (by rw[Mm];omega) (λi hi=>?_) λh2 tk dd k2=>?_]
   .rw[Mm]at hi;let L:i < ο c:=by omega
    let M:i < ο j:=LA
    let⟨u,hu,ku⟩:=Zq F i _ (Mf L);erw[#[u,j[i],c[i],by simpa using hu,by simp [M],ku,?_]];rw[Pa];exact#[Mf L,Mf M]
   .let g:KV (di []$ c.zip ys) (merged []$ c.zip j):=KV.merge (tV R) .nil;let zl:(di []$ c.zip ys).length<=υ:=by rw[g.length];let:=UL ([]:ri (bu×η)) (c.zip j);rw[RW]at this;simp only[RX]at this;omega
    let k3:∀e o,S.heap.get? e=δ o->h2.get? e=δ o:=λe o w=>by let l:=Mn w;rwa[k2 e o (Mt$ MD l$ Oi _ _) (Mt$ MD l$ Oi _ _) (Mt l) (Mt$ MD l$ Oi _ _)$ k _ _ w]
    let B:-S<=E.objs.size:=Ol (NN (Oi _ 4)$ Mn J);exact#[.ref E.objs.size,_,d.laid k3 B$ Yj zl (beq_eq_false_iff_ne.mpr$ MX$ Mt$ MD d.big B) g dd,Z,q _$ d.hok.fresh B]
end
end _L
namespace _L
open PySem PySem.Spec PyProof.Rows PySem.SeqAt
section
variable {X:Cx}
def pT{P:ri (ζ×fx)}{f:St}{H:Hp}{s:ι}(I:ap X P f H s){A:bx}{k:ri (bu×V)}{v a:ri (bu×η)}(r:KV k v)(g:KV k a)(N:(a.map (·.1)).Nodup)(j:∀p∈k,∃i,p.2= .int i):PySem.W.KeqHits A s a v μ:=by
 erw[Xw λp l=>?_];let L:=r.length;let⟨i,m,e⟩:=List.getElem_of_mem l;let h:i < ο k:=LA
 let b:k[i]?=δ (k[i].1,k[i].2):=Mf h;let⟨o,q,R⟩:=r.get b;let⟨x,Q,c⟩:=g.get b;let E:p=(k[i].1,o):=by
  let:v[i]?=δ p:=by rw[Mf m,e]
  rw[this]at q;rwa[M5 q]
 subst E;let⟨n,t⟩:=j _ (OE h);rw[t]at R c;let⟨T,rfl⟩:=R;let⟨u,rfl⟩:=c;erw[#[_,JM N$ MM Q,?_]];let⟨y,d,w⟩:=HT.eqAt_int A s n T n u;rw[w.mpr Z]at d;rwa[d]
inductive XC(x y:V)(H:Hp)(Q:VK):Prop
 |mk(a b c:_)(_:x= .ref a)(_:y= .ref b)(_:H a=δ (.dK c))(_:H b=δ (.dK c))(_:∀p∈c,∃i,p.2= .int i)(_:Q (.bl ν) H)
def Dh(e:X.A.units < cLine):eW X (compareOp .NotEq) XC:=by intro p s t H x y v u Q I f g h;let⟨a,b,k,rfl,rfl,i,j,l,q⟩:=h;cases f;cases g;let⟨z,m,V,R,D⟩:=sS I.hok i;let⟨w,M,B,c,d⟩:=sS I.hok j;let⟨_,_,_,_,_,_,_,_,n⟩:=id d;let L:=R.length;let o:=c.length;erw[PySem.W.keq_ne (r:=μ) m M D d e (λ_=>pT I R c n l) ?_];rw[<- L,<- o,Ov];exact#[.bl ν,H,I,Z,q]
end
end _L
namespace _L
open PySem PySem.Spec PyProof.Rows
section
variable {X:Cx}{st:cv}{ss:ri cv}{e:dr}{es:ri dr}
def Lk:TS:=λ_ _ _=>False
def uM:mn X ss Lk:=λ_ _ _ _ _ _ h=>False.elim h
end
end _L
namespace _L
open PySem PySem.Spec PyProof.Rows PySem.SeqAt
inductive FP(K:Ψ)(x y:V)(H:Hp)(Q:VK):Prop
 |mk(a b d e:_)(_:x= .ref a)(_:y= .ref b)(_:aD K H a d)(_:aD K H b e)(_:(d.all cy=μ/\e.all cy=μ/\Q (.bl (sX d e)) H)∨∃(w:ρ) (c:ζ) (zs:ri V) (u:ρ) (i:Int),d=[.str w,.ref c]/\aD K H c zs/\e=[.str u,.int i]/\Q (.bl ν) H)
def Dg{X:Cx}(d:X.A.units+1 < cLine):eW X (compareOp .Eq) (FP X.K):=by
 intro p s m H x y v U Q I f g h;obtain⟨a,b,n,Y,rfl,rfl,k,l,h | ⟨w,c,M,u,i,rfl,o,rfl,q⟩⟩:=h
 .rwa[De (RJ d) p s m H _ _ v U Q I f g #[a,b,n,Y,Z,Z,k,l,h.1,h.2.1,h.2.2]]
 cases f;cases g;let⟨N,r,P,_⟩:=I.tuple k;let⟨O,R,t,_⟩:=I.tuple l;let⟨S,V,z,_⟩:=I.tuple o;cases r with
 |cons B r=>
  cases r with
  |cons C r=>
   cases r;cases R with
   |cons D R=>
    cases R with
    |cons E R=>
     cases R;let⟨T,rfl⟩:=B;cases C;let⟨F,rfl⟩:=D;let⟨G,rfl⟩:=E;erw[eq_tupleAt (e:=λj=>if j=0 then w==u else ν) (show s.heap.IsTuple a _ from P) (show s.heap.IsTuple b _ from t) (RJ d) (λj J L=>?_) ?_]
     .match j,J,L with
      |0,_,_=>rwa[UH w T u F]
      |1,_,_=>rwa[Us i G (show s.heap.IsTuple c _ from z) (by simpa [Around.in1,Around.units] using d)]
     .let e:((eC$ min 2 2).all (λj=>if j=0 then w==u else ν)&&(2:Nat)==2)=ν:=by show((if 0=0 then w==u else ν)&&((if 1=0 then w==u else ν)&&μ)&&μ)=ν;simp
      exact#[.bl ν,H,I,MZ mS e,q]
end _L
namespace _L
open PySem PySem.Spec PyProof.Rows
section
open PySem.W
def rn{K:Ψ}(X:K.In h)(a:h.get? x=δ o)(b:o.cls= .ref C)(H:clsIn K B≠θ)(tB:typeIn K (.ref B)=δ (.type "type"))(m:mroIn K B (.type "BaseException")=δ μ)(c:mroIn K C (.ref B)=δ ν):
  Looks M h (excMatches (.ref x)$ .ref B) ν:=by
 let L:Looks M h (typeOf$ .ref x) (.ref C):=b▸(Uf a).andThen .now;let l:=TH (M:=M) X tB;let _L:Looks M h (isInstance (.ref B)$ .type "tuple") ν:=l.andThen (Ss tc_notTuple);let d:Looks M h (isType$ .ref B) μ:=by
  unfold clsIn at H;split at H
  .rename_i e
   intro A Q E s k q;unfold isType loadHead;rwa[Me$ Rs (k _ _$ X _ _ e)$ Mh q]
  .rwa[absurd Z H]
 let f:Looks M h (isExcClass$ .ref B) μ:=by unfold isExcClass;rwa[d.andThen (by rw[Mv Z];rwa[Rx X m])]
 let g:=Rx (M:=M) X c;intro A Q E s k q;unfold excMatches;erw[Me$ _L A _ E s k ?_];rw[Mx LB];erw[Me$ Mh ?_];dsimp only;erw[Me ?_];rw[NR];erw[Me$ Me$ f A _ E s k ?_];simp only[OM,Ms,Ny];erw[Mh ?_];dsimp only;rw[OD];erw[Mh ?_];erw[Me$ L A _ E s k ?_];erw[Me ?_];rw[NR];erw[Me$ Me$ g A _ E s k ?_];simp only[Ms,Ny];erw[Mh ?_];dsimp only;rw[OD];erw[Mh ?_];rwa[Mh q]
end
def wm(K:Ψ)(A B:ζ)(t:HQ)(b c:TS):TS:=λD a H=>t D (λx C d _ h=>(mroIn K C (.ref A)=δ μ/\∀T,h T=θ->b D a (ah (ah h T$ fj T) x$ gY C d T x))∨(mroIn K C (.ref A)=δ ν/\mroIn K C (.ref B)=δ μ/\∀T,h T=θ->c D a (ah (ah h T$ fj T) x$ gY C d T x))) a H
section
variable {X:Cx}{st a₀ b₀:cv}{as bs:ri cv}{tb:HQ}{ta tc:TS}{ca cb:ρ}{np np' hp hp' pos:Pos}{A B:ζ}
def Zs(b:X.stack=X.env::X.outer)(M:X.env.frame=δ X.env.locals)(hb:IS X st tb)(hg:Gl X ca)(hm:X.mg ca=↑A)(hA:clsIn X.K A≠θ)(tA:typeIn X.K (.ref A)=δ (.type "type"))(mA:mroIn X.K A (.type "BaseException")=δ μ)
  (N:Gl X cb) (O:X.mg cb=↑B) (hB:clsIn X.K B≠θ) (tB:typeIn X.K (.ref B)=δ (.type "type")) (mB:mroIn X.K B (.type "BaseException")=δ μ)
  (hs:∀e,mn (X.mark e λ_ _=>False) (a₀::as) ta) (P:∀e,mn (X.mark e λ_ _=>False) (b₀::bs) tc) (l:↥((ca==("__debug__":ρ))=ν)) (R:↥((cb==("__debug__":ρ))=ν)):
  PS X (.Try [st] [.ExceptHandler (δ$ .Name ca np) θ (a₀::as) hp,.ExceptHandler (δ$ .Name cb np') θ (b₀::bs) hp'] [] [] pos) (wm X.K A B tb ta tc):=by
 intro p s U H D I h;erw[wpAny_Try_except$ Sn$ Nk (hb p s U H D _ I h) (λf g q=>?_) λe g q=>?_]
 .cases f with
  |next=>rwa[OU (OU q)]
  |ret v |brk |cont=>rwa[q]
 let⟨x,C,d,T,V,rfl,m,hx,hT,o,q⟩:=q;obtain⟨⟨ox,vs,h1,h2,h3,h4,W,h6,Y⟩,_⟩:=m.hok x _ hx;obtain⟨⟨oT,J,t1,t2,t3⟩,_⟩:=m.hok T _ hT;let u:=(β.mp h6).1;let f0:X.A.frames=δ (X.env::X.outer):=by rw[<- b];rwa[m.ok.frames]
 let f1:g.heap.FunFrames X.base (X.env::X.outer):=by rw[<- b];rwa[m.stack]
 erw[QG (base:=X.base) f0 f1 M h1 W h6 o t1 t2 t3 λg2 Nd=>?_];let E:(d9 T g.heap).get? x=δ ox:=(MG _ _ o).trans h1;erw[Cq (s:={ g with heap:=g2 }) Nd E W u λg3 N1=>?_];let⟨t,hn,F,i⟩:=(m.cleared hT t1 t2 t3).noted (C:=C) (d:=d) (t':=g.toks) hx E h2 h4 W u Y (by unfold i5;rw[b];rwa[N1]);let i:ap X p U (ah (ah V t$ fj t) x$ gY C d t x) { g with heap:=g3 }:=i;obtain⟨⟨o1,v0,L,k2,k3,k4,k5,k6,k0⟩,_⟩:=i.hok x _ jc;let G:ah (ah V t$ fj t) x (gY C d t x) t=δ (fj t):=by rw[ji F,jc]
 obtain⟨⟨o2,t0,u1,u2,u3⟩,_⟩:=i.hok t _ G;let S:∀{E':η->ι->Prop} {c:cv} {cs:ri cv} {J:TS} {hp:Pos},(∀e,mn (X.mark e λ_ _=>False) (c::cs) J)->J D U (ah (ah V t$ fj t) x$ gY C d t x)->ib (χ X.prog X.w) (X.A.mark$ ↑x) (Code.handlers (.ref x) [.ExceptHandler θ θ (c::cs) hp] X.env) (λr a=>match r with | .ok f=>SP X p D f a | .error y=>cameBackBy (χ X.prog X.w) X.A X.env E' y a) { g with heap:=g3 }:=by
  intro E' c cs J hp hz qz;erw[codeAny_handlers_suite ?_];unfold setFlight;erw[Me$ MO L k5 k6 ?_];rw[Mv (show(Θ t != ab)=μ from by simp)];erw[Nc u1 u2 (β.mp u3).1 ?_];let I4:=i.cleared G u1 u2 u3;erw[Nk (hz (.ref x) p _ _ _ D (I4.mark (.ref x) λ_ _=>False) qz) (λf s6 Q=>?_) λ_ _ z=>z.elim];cases f with
  |next |brk |cont=>let⟨j,H6,k,n⟩:=Q;exact#[_,_,k.unmark I.ok,n]
  |ret v=>let⟨y,j,H6,k,rv,n⟩:=Q;exact#[y,_,_,k.unmark I.ok,rv,n]
 rcases q with ⟨mC,q⟩ | ⟨mC,m0,q⟩
 .erw[RG (Rq ?_) (by intro z;cases z)];erw[zh (i.mark (.ref x) λ_ _=>False) hg hm ?_ l];erw[qJ i.kIn L k2 hA tA mA mC _ _ _ _ (λ_ _ e=>e) ?_];rwa[S hs$ q t hn]
 .erw[RG (Rq ?_) (by intro z;cases z)];erw[zh (i.mark (.ref x) λ_ _=>False) hg hm ?_ l];erw[rn i.kIn L k2 hA tA mA mC _ _ _ _ (λ_ _ e=>e) ?_];erw[RG (Rq ?_) (by intro z;cases z)];erw[zh (i.mark (.ref x) λ_ _=>False) N O ?_ R];erw[qJ i.kIn L k2 hB tB mB m0 _ _ _ _ (λ_ _ e=>e) ?_];rwa[S P$ q t hn]
end
def X9(l:ζ)(i:Array η)(n:Nat)(D:rm ζ)(S:Array (rm η)):
  Meets (dw.«enumerate.__new__» #[[.type "enumerate",.ref l],[]]) (λ_ R s=>s.heap.get? l=δ { cls:=.type "tuple",dict:=D,data:=.seq i n,slots:=S }/\
   R (.ok$ .ret$ .ref (s.heap.push { cls:=.type "tuple_iterator",data:=.fields (ε [.ref l,.int 0 0]) }).objs.size)
    ‹(s.heap.push { cls:=.type "tuple_iterator",data:=.fields (ε [.ref l,.int 0 0]) }).push { cls:=.type "enumerate",data:=.fields (ε [.none,.bool ν,.ref (-s),rawInt 0,.none,.none]) }›):=
 .of_wp λp w A R s h=>by
  let⟨e,g,d,t,os⟩:=s;let⟨H,h⟩:=h;let b:=sub_enumerate;let a:Heap.IsTuple (Shared.heap #[e,g,d,t,os]) l i:=#[_,H,Z,n,Z];wp_walk using NK H;erw[wpAny_stack_any λst=>Mh ?_];split
  .rename_i c _ _ _ _ _
   cases (c==de "enumerate")
   .wp_walk using NK H,OX a;exact#[_,Z,h]
   .wp_walk using NK H,OX a;exact#[_,Z,h]
  .wp_walk using NK H,OX a;exact#[_,Z,h]
section
variable {prog:ω}{w:bS}{A:bx}{E:η->ι->Prop}{s:ι}
def YO{Q:η->ι->Prop}(j:s.heap.IsTuple l i)
  (h:∀H,IsEnum H (-s+1) (-s) 0 .none->H.IsTupleIter (-s) l 0->(∀b o,s.heap.get? b=δ o->H.get? b=δ o)->Q (.ref$ -s+1) ‹H›):
  π (χ prog w) A (call (.type "enumerate") [.ref l]) Q E s:=by
 obtain⟨⟨c,d,D,S⟩,k,a,n,e⟩:=j;replace a:c= .type "tuple":=a;replace e:D= .seq i n:=e;subst a e;erw[TN PySem.F.called_enumerate LB (PySem.F.typeCall_enumerate_1 _) (PySem.F.newCall_enumerate_1 _) (λO=>O3 O _) PySem.F.entry_enumerate_new (X9 l i n d S) #[k,?_]];let f:(s.heap.push { cls:=.type "tuple_iterator",data:=.fields (ε [.ref l,.int 0 0]) }).objs.size=-s+1:=Na ..;show _/\_;rw[f];let g:IsEnum ((s.heap.push { cls:=.type "tuple_iterator",data:=.fields (ε [.ref l,.int 0 0]) }).push { cls:=.type "enumerate",data:=.fields (ε [.none,.bool ν,.ref (-s),rawInt 0,.none,.none]) }) (-s+1) (-s) 0 .none:=by let:=Mo (s.heap.push { cls:=.type "tuple_iterator",data:=.fields (ε [.ref l,.int 0 0]) }) (o:={ cls:=.type "enumerate",data:=.fields (ε [.none,.bool ν,.ref (-s),rawInt 0,.none,.none]) }) Z;rw[f]at this;rwa[this]
 exact#[#[_,g,Z],h _ g #[_,Mg _$ Mo _ Z,Z,Z] λb o x=>Mg _ (Mg _ x)]
def wH{c:Type}{Q:c->ι->Prop}(d:A.handled=θ)
  (h:∀H (e:ζ),(∀b o,s.heap.get? b=δ o->H.get? b=δ o)->Shared.TypeIs ‹H› (.ref e) "StopIteration"->E (.ref e) ‹H›):
  π (χ prog w) A (do raiseNew (<- newExc (.type "StopIteration") []):Sem c) Q E s:=by
 erw[Me ?_];simp only[newExc,newTuple];erw[Me$ M4 ?_ (by size_fits)];erw[Me (m:=firstArgMember _ _)$ PQ (a:=ab) ?_ ?_]
 .first |rfl | (simp only[firstArgMember];rfl)
 erw[M4 ?_ (by size_fits)];simp only[raiseNew];erw[Me$ wpAny_handled ?_];rw[d];erw[Me$ Mh$ wpAny_throw$ h _ _ (λb o e=>Mg _ (Mg _ e)) ?_];exact#[_,Mo _ Z,Z]
def KM{J T:ζ}{i:Nat}{I:Array η}{Q:η->ι->Prop}(g:A.handled=θ)(H:s.heap.IsTupleIter J T i)(j:s.heap.IsTuple T I)(l:I[i]?=θ)
  (q:∀h (e:ζ),mI J s.heap h->Shared.TypeIs ‹h› (.ref e) "StopIteration"->E (.ref e) ‹h›):π (χ prog w) A (Ω$ .ref J) Q E s:=by
 let⟨o,a,p,c⟩:=id H;let⟨O,d,_,N,f⟩:=j;unfold Ω;erw[Me$ M1 (name:=Str.ofString "__next__") H.typeIs Nr$ MY Nr H.typeIs OQ (show π _ _ (field (.ref J) 0 >>= _) _ _ s from ?_)$ OJ _];erw[Me$ MO a c (x:=.ref T) Z (show π _ _ (if (Θ T==ab)=μ then _ else _) _ _ s from ?_)];rw[Mx (show ¬((Θ T==ab)=μ) from Mq)];erw[(show π _ _ (field (.ref J) 1 >>= _) _ _ s from Me$ MO a c (x:=.int i 0) Z (show π _ _ (seqItems? (.ref T) >>= _) _ _ s from Me$ Ni d f ?_))];simp only[Ng,l];erw[Me$ Nx$ Me$ Nc a c Lz ?_];erw[wH (g:) λh e k t=>q h e (λb o m n=>k b o ?_) t];exact(MG _ _$ MX m).trans n
def pW(m:A.handled=θ)(a l:ζ)(d:l≠a)(I:Array η):
  Draws prog w A a [a,l] I.size (λi v=>I[i]?=δ v) (λi h=>h.IsTupleIter a l i/\h.IsTuple l I) where
 live:=λ_ _ st=>let #[o,H,_]:=st.1;#[o,H]
 frame:=λ_ _ _ st g=>#[st.1.at λo e=>g a Lz o e,let #[o,H,r]:=st.2;#[o,g l Lz o H,r]]
 item:=λi s Q E j st n=>KL st.1 st.2 (x:=I[i]) (by simp [j]) λf b c=>n _ f s.toks (by simp [j]) #[b,let #[o,H,r]:=st.2;#[o,c.extBut l o d H,r]] c
 done:=λs Q E st p=>KM m st.1 st.2 Lz λf e k t=>p f e k t
def YQ(c:A.handled=θ)(a l:ζ)(I:Array η)(i:Nat)(d:I[i]?=θ):
  Draws prog w A a [a,l] i (λ_ _=>True) (λj h=>j=i/\h.IsTupleIter a l i/\h.IsTuple l I) where
 live:=λ_ _ st=>let #[o,H,_]:=st.2.1;#[o,H]
 frame:=λ_ _ _ st b=>#[st.1,st.2.1.at λo e=>b a Lz o e,let #[o,H,r]:=st.2.2;#[o,b l Lz o H,r]]
 item:=λj s Q E f st n=>absurd st.1 (Mt f)
 done:=λs Q E st g=>KM c st.2.1 st.2.2 d λm e k t=>g m e k t
end
def Bz(K:Ψ)(a:ζ):It:=
 #[λi H=>∃X x,aD K H a X/\X[i]?=δ x,λi H x h=>∃p v,x= .ref p/\H p=θ/\h=ah H p (.tup [.int i,v])/\∀X,aD K H a X->X[i]?=δ v,λi H=>∃X,aD K H a X/\ο X<=i]
def YR{P:ω}{K:Ψ}(a e g:ζ)(r:e≠g):nS P w K (.Tuple e0 kx tp) (Bz K a) [e,g] e (λi h=>(∃O,IsEnum h e g i O)/\h.IsTupleIter g a i) where
 mem:=by simp
 obj:=λi h st b hb=>by
  obtain⟨⟨O,j⟩,⟨o,ei,c,d⟩⟩:=st;rcases Ξ.mp hb with rfl |hb
  .exact#[_,j,λv z=>by cases (show Data.fields _=Data.cell v from z)]
  .let q:b=g:=by simpa using hb
   subst q;exact#[o,ei,λv z=>by rw[d]at z;cases z]
 keep:=λi h A st k=>#[let #[O,j]:=st.1;#[O,k e Lz _ j],st.2.at λo q=>k g Lz o q]
 item:=by
  intro X Q S T U i f s J H E I L st W;subst Q S T;obtain⟨⟨O,j⟩,l⟩:=st;let⟨xs,x,M,N⟩:=W;let⟨m,R,p,hz⟩:=I.tuple M;let⟨u,hu,ru⟩:=R.get N;let Y:e < -s:=Mn j;let l0:g < -s:=by let⟨_,q,_⟩:=l;rwa[Mn q]
  let h0:a≠g:=λz=>by rw[z]at p;let⟨o1,e1,c1,_⟩:=l;let⟨o2,B,c2,_⟩:=p;rw[e1]at B;cases B;rwa[absurd (c1.symm.trans c2) LB]
  let h1:e∉[g,a]:=λz=>by
   rcases Ξ.mp z with z |z
   .rwa[r z]
   .rw[τ.mp z]at j;let⟨o2,B,c2,_⟩:=p;unfold IsEnum at j;rw[j]at B;cases B;rwa[absurd (show de "enumerate"=de "tuple" from c2) LB]
  erw[wpAny_pyNext_enum_itemD (pW (I.ok.hd U:) g a h0 m.toArray) j #[l,p] (by let:=R.length;let:=(ξ.mp N).1;simp;omega) r h1 λx' A t C ho y hT h4 hk=>#[_,Z,?_]];let D:=y.1;let ex:u=x':=by
   let h2:m.toArray[i]?=δ u:=by simpa using hu
   rw[h2]at C;rwa[M5 C]
  subst ex;let hn:H (-s)=θ:=I.hok.fresh (Mj _);let I1:ap X f J H { s with heap:=A,toks:=t+1 }:=I.turnedN L λb o hb q=>hk b o (λz=>hb (by simp [z])) (λz=>hb (by simp [z])) q;let r2:ay [qs i,x] [gs i t,u]:=.cons #[_,Z] (.cons ru .nil);let I2:ap X f J (ah H (-s)$ .tup [.int i,x]) { s with heap:=A,toks:=t+1 }:=
   I1.track (I.fpOk (Mj _) hn) I.sz #[by show 2<=υ;decide,_,r2,_,hT,Z,_,Z]
  let F:∀b∈[e,g],fi X f (ah H (-s)$ .tup [.int i,x]) b:=λb hb=>by
   let⟨f0,f1⟩:=L b hb;erw[#[?_,f1]];rw[ji]
   .rwa[f0]
   .rcases Ξ.mp hb with rfl |hb
    .rwa[Mt Y]
    .let q:b=g:=by simpa using hb
     subst q;rwa[Mt l0]
  erw[wpAny_letOwnedTupleGo_enum (s:={ s with heap:=A,toks:=t+1 }) ho λG h3 n=>?_];replace n:ey e A G:=n;let I3:ap X f J (ah H (-s)$ .tup [.int i,x]) { s with heap:=G,toks:=t+1 }:=I2.turnedN F λb o hb q=>(n.2 b λz=>hb (by simp [z])).trans q;erw[#[.ref (-s),_,I3,Z,#[_,x,Z,hn,Z,λys hy=>by rw[I.tuple_inj hy M];rwa[N]],#[#[u,by simpa using h3],D.at λo q=>(n.2 g r.symm).trans q],λb hb=>(F b hb).1]]
 done:=by intro X Q S T U i f s J H E I L st W;subst Q S T;obtain⟨⟨O,j⟩,l⟩:=st;let⟨xs,M,N⟩:=W;let⟨m,R,p,hz⟩:=I.tuple M;let hl:=R.length;erw[wpAny_pyNext_enum_endD (YQ (I.ok.hd U:) g a m.toArray i (by simp;omega)) j #[Z,l,p] λA eb=>#[Z,?_]];rwa[I.turnedN (t':=s.toks) L λb o hb q=>eb b o (λz=>hb (by simp [z])) q]
 self:=λ_ _ _ _ _ st h=>by obtain⟨⟨O,j⟩,_⟩:=st;rwa[Uz j h]
section
variable {X:Cx}{elts:ri dr}{kx:Nat}{tp:Pos}
inductive oC(K:Ψ)(R:It->Hp->Prop)(c:ri V)(b:Hp):Prop
 |mk(a:_)(_:c=[.ref a])(_:∃xs,aD K b a xs)(_:R (Bz K a) b)
def Cd(K:Ψ)(t:TA):TI:=λa H R=>t a H (oC K R)
def uJ(g:Gl X "enumerate")(j:X.mg "enumerate"=θ)(k:PA X [a] t)(m:↥(Δ [a] X.env=[(ν,eval a X.env)])):PI X (.Tuple elts kx tp) (.Call (.Name "enumerate" p) [a] [] c) (Cd X.K t):=by
 intro P s n H R I h;erw[Call_$ zq I g j Vg$ M6 (aU (k c P s n H _ I h) λU S z=>?_) m Z];let⟨V,o,i,u,Q⟩:=z;obtain⟨l,e,⟨A,v⟩,q⟩:=Q;subst e;cases u with
 |cons r w=>
  cases w;cases r;let⟨x,B,p,C⟩:=i.tuple v;erw[YO p λD f d y=>?_];erw[Uz f ?_];erw[#[-S+1,[-S+1,-S],_,_,o,Z,i.kept (t':=S.toks) y,YR l _ _$ Nf$ NF _,#[#[_,f],d],λb hb=>?_,q]];rcases Ξ.mp hb with rfl |hb
  .rwa[i.fpOk (NG _)$ i.hok.fresh$ NG _]
  .let e:b=-S:=by simpa using hb
   subst e;rwa[i.fpOk (Mj _)$ i.hok.fresh$ Mj _]
end
def YS{K:Ψ}{xs:ri V}{g:TG}{t:TS}{D:a9}(Pv:Nat->St->Hp->Prop)(j:Pv 0 b H)(k:∀i b H,i<=ο xs->Pv i b H->aD K H a xs)
  (l:∀E:a9,E.rt=D.rt->∀i x p b H,xs[i]?=δ x->H p=θ->(∀c e,Pv (i+1) c e->E.nx c e)->∀G:Prop,((g (.ref p) b (ah H p$ .tup [.int i,x]) λf n=>t E f n)->G)->Pv i b H->G) (o:∀b H,Pv xs.length b H->D.nx b H):pK (Bz K a) g t D b H:=by
 erw[#[λi m b H=>m=ο xs - i/\i<=ο xs/\Pv i b H,#[xs.length,Lz,Mu _,j],?_]];rintro i m b H ⟨rfl,s,p⟩;let q:=k i b H s p;by_cases d:i < ο xs
 .erw[.inr #[#[xs,xs[i],q,Mf d],Pv$ i+1,λc e P=>#[ο xs - (i+1),N09,Z,d,P],λx e y=>?_]];let⟨r,v,rfl,u,rfl,w⟩:=y;rwa[l { D with nx:=Pv (i+1),ct:=Pv (i+1),bk:=D.nx } Z i v r b H (w xs q) u (λ_ _ h=>h) _ (λz=>z) p]
 .rwa[.inl #[#[xs,q,LA],o _ _ (by rw[show ο xs=i by omega];rwa[p])]]
abbrev Lc(K:Ψ)(i j:Nat):TG:=p8 K 2 (dB (bo i)$ dB (bo j) tH)
def Ff{t:St}(h:ο t=2):∃a b,t=[a,b]:=by
 cases t with
 |nil=>cases h
 |cons a r=>
  cases r with
  |nil=>cases h
  |cons b R=>
   cases R with
   |nil=>exact#[a,b,Z]
   |cons _ _=>cases h
def Ya{K:Ψ}{X:ri V}{t:TE}{n:ri V->Hp->Prop}(f:Nat->V)(u:ο X<=υ)(b:aI K H a X)
  (p:∀(i:Nat) (x:V),X[i]?=δ x->∃q y z,x= .ref q/\aD K H q [y,z]/\∀Q:VK,Q (f i) H->t (δ y::δ z::c) H Q) (r:n ((eC X.length).map f) H):
  eP (wS K a) 2 c (Lc K 0 1) mf t n H:=by
 erw[#[λi m o d=>m=ο X - i/\i<=ο X/\o=(eC i).map f/\d=H,#[X.length,Lz,Mu _,Lz,Z],?_]];rintro i m o d ⟨rfl,w,rfl,rfl⟩;by_cases h:i < ο X
 .refine .inr #[#[X,X[i],b,Mf h],?_,λY g=>Y=(eC$ i+1).map f/\g=d,λY g #[P,s]=>#[ο X - (i+1),LA,Z,h,P,s],λv g T j y=>?_]
  .rw[Mi,Pg];omega
  let⟨e,y⟩:=y;subst e;let⟨q,A,B,rfl,k,l⟩:=p i v (y X b);let⟨C,D,rfl⟩:=Ff j;erw[#[q,_,Z,k,Z,_,_,Z,_,_,Z,Z,#[[δ _,δ _],Z,Z],l _ #[?_,Z]]];rw[List.range_succ,MS];rfl
 .let e:i=ο X:=by omega
  subst e;rwa[.inl #[#[X,b,Mj _],r]]
end _L
namespace _L
open PySem PySem.Spec PyProof.Rows PySem.SeqAt PySem.W
def Hu:ri Int->ri Int->Bool
 | [],[]=>ν
 | [],_::_=>μ
 |_::_,[]=>ν
 |a::p,b::q=>if a=b then Hu p q else decide (a < b)
section
variable {prog:ω}{w:bS}{A:bx}{E:η->ι->Prop}{s:ι}{Q:Bool->ι->Prop}
def rR(f:Bool)(h:Q (decide$ a < b) s):π (χ prog w) A (oneLt' f (.int a t)$ .int b u) Q E s:=by
 cases f with
 |true=>rwa[oneLt_int h]
 |false=>rwa[kat_one _ _ (lt_int h)]
theorem XD:∀{p q:ri Int} {U v:ri η},ay (p.map qs) U->ay (q.map qs) v->∀i,f=decide (ο p < ο q)->Q (Hu p q) s->KatLex prog w A b f Q (U.zip v) i s
 | [],[],_,_,.nil,.nil,_,e,h | [],_::_,_,_,.nil,.cons _ _,_,e,h |_::_,[],_,_,.cons _ _,.nil,_,e,h=>by subst e;rwa[h]
 |x::p,y::q,_,_,.cons #[t,c] r,.cons #[u,d] R,i,e,h=>by
  subst c;subst d;let h:Q (if x=y then Hu p q else decide (x < y)) s:=h;erw[kat_cons$ UJ x t y u prog w _ _ ?_];by_cases H:x=y
  .rw[Mv H]at h;rw[beq_iff_eq.mpr H];erw[kat_yes$ XD r R (i+1) ?_ h];rw[e];show decide (ο p+1 < ο q+1)=_;by_cases a:ο p < ο q
   .rw[MN a,MN LA]
   .rw[My a,My LA]
  .rw[Mx H]at h;rw[beq_eq_false_iff_ne.mpr H];rwa[kat_no$ rR _ h]
def BC(h:db)(v:η)(p:ri Int):Prop:=∃a o u n,v= .ref a/\h.get? a=δ o/\o.cls= .type "tuple"/\o.data= .seq u n/\ay (p.map qs) u.toList
def Gz(c:BC s.heap x p)(d:BC s.heap y q)(h:Q (Hu p q) s):π (χ prog w) A (keyLt' (tuples' b) x y) Q E s:=by let⟨a,o,U,n,rfl,e,_,f,H⟩:=c;let⟨i,O,u,N,rfl,K,_,g,k⟩:=d;erw[kat_lt e f K g$ XD H k 0 ?_ h];let l:=H.length;let L:=k.length;rw[Mi]at l L;rw[<- ME,<- ME,<- l,<- L]
theorem Zt:∀{vs:ri η} {ps:ri (ri Int)},ο vs=ο ps->(∀(i:Nat) (v:η) (p:ri Int),vs[i]?=δ v->ps[i]?=δ p->BC h v p/\p≠[])->∃F:ri η,ο F=ο vs/\(∀f∈F,∃i t,f= .int i t)/\KatTups h vs F
 | [],[],_,_=>#[[],Z,λ_ z=>(nomatch z),trivial]
 | [],_::_,e,_ |_::_,[],e,_=>by cases e
 |v::vs,p::ps,e,k=>by
  let⟨F,g,j,l⟩:=Zt (vs:=vs) (ps:=ps) (e:) λi v p b c=>k (i+1) v p (b:) (c:);obtain⟨⟨a,o,U,n,rfl,b,c,m,H⟩,q⟩:=k 0 v p Z Z;cases p with
  |nil=>rwa[absurd Z q]
  |cons i p=>
   cases d:U.toList with
   |nil=>rw[d]at H;cases H
   |cons u r=>
    rw[d]at H;cases H with
    |cons R y=>
     let⟨t,rfl⟩:=(show ∃t,u=gs i t from R);let x:U[0]?=δ (gs i t):=by rw[<- Nu,d];rfl
     exact#[gs i t::F,by simp [g],λf hf=>by
      rcases Ξ.mp hf with rfl |hf
      .exact#[_,_,Z]
      .rwa[j f hf],KatTups.cons b c m x l]
end
section
variable {prog:ω}{w:bS}{A:bx}{E:η->ι->Prop}{s:ι}
def YT{P:Fin->ι->Prop}(H:s.heap.get? a=δ (seqObj "list" ([]:ri η).toArray n))
  (h:P (.done$ .ret .none) ‹sortedHeap s.heap a ([]:ri η) (ε [])›):π (χ prog w) A (dw.«list.sort» #[[.ref a],[]]) P E s:=by
 rw[SI];erw[Me$ TJ H Z ?_];erw[Me$ O5 H Z ?_];obtain⟨e,b⟩:∃e,(s.heap.update a$ bm λ_=>(ε [])).get? a=δ (seqObj "list" (ε []) e):=#[_,SJ H (λ_=>(ε []))];erw[Me$ PR b Z ?_];erw[Me$ O0 ?_];erw[Me$ OT ?_];erw[MJ ?_];let g:(((s.heap.update a$ bm λ_=>(ε [])).push$ seqObj "tuple" ([]:ri η).toArray 0).push$ seqObj "list" (ε []) 0).get? a=δ (seqObj "list" (ε []) e):=Mg _ (Mg _ b);show π (χ prog w) A _ P E ‹((s.heap.update a$ bm λ_=>(ε [])).push$ seqObj "tuple" ([]:ri η).toArray 0).push (seqObj "list" (ε []) 0)›;dsimp only;let S:([]:ri η).toArray.size < 2:=by show 0 < 2;decide
 rw[Mv S,Mv S];erw[Me$ Mh ?_];rw[TQ];erw[Me$ Mh ?_];dsimp only;erw[Me$ PR g Z ?_];let c:(arrOf$ SortSt.mk' general' (([]:ri η).toArray.zip ([]:ri η).toArray) (ε []) 7 θ).map (·.2)=(ε []):=by show(([]:ri η).toArray.zip ([]:ri η).toArray).map (·.2)=(ε []);simp
 rw[c];erw[Me$ O5 g Z ?_ (hsz2:=by show 0<=υ+1;omega)];simp only[NE,Ms,Ny];rwa[Mh h]
def y9{Q:η->ι->Prop}(H:s.heap.IsList l ([]:ri η).toArray)
  (h:Q (.ref$ -s+1) ‹sortedAll s.heap [] (ε [])›):π (χ prog w) A (call (.builtin "sorted") [.ref l]) Q E s:=by
 erw[OF Sy Sa Sb (Sc _) ?_];unfold dw.«sorted»;erw[Me (m:=checkCount "sorted" 1 1 _)$ Mh ?_];erw[Me$ TM H ?_];erw[Me$ OT ?_];let z:((s.heap.push$ seqObj "list" (ε []) 0).update (-s)$ bm (·++([]:ri η).toArray)).objs.size=-s+1:=by rw[RP,Ta]
 let g:(((s.heap.push$ seqObj "list" (ε []) 0).update (-s)$ bm (·++([]:ri η).toArray)).push$ seqObj "list" ([]:ri η).toArray 0).get? (-s+1)=δ (seqObj "list" ([]:ri η).toArray 0):=by rw[<- z];rwa[Mo _ Z]
 show π _ _ _ _ _ ‹((s.heap.push$ seqObj "list" (ε []) 0).update (-s)$ bm (·++([]:ri η).toArray)).push (seqObj "list" ([]:ri η).toArray 0)›;rw[z];erw[Me$ MJ$ MY Ru #[_,g,Z] Ro (YT g #[_,Z,?_]) (RC _)];rwa[Mh #[_,Z,h]]
end
section
variable {X:Cx}
def D4(I:ap X b f H s){p:ri Int}(h:H a=δ (.tup$ p.map qs)):BC s.heap (.ref a) p:=by let⟨i,r,P,_⟩:=I.tuple (aD.of (K:=X.K) h);let⟨o,c,d,n,e⟩:=P;exact#[a,o,i.toArray,n,Z,c,d,e,r]
end
end _L
namespace _L
open PySem PySem.W PySem.Spec PyProof.Rows
section
variable {X:Cx}
theorem Zu{H:Hp}:∀{b:ri V},(∀v∈b,∃(a:ζ) (p:ri Int),v= .ref a/\H a=δ (.tup$ p.map qs)/\p≠[])->∃P:ri (ri Int),ο P=ο b/\∀(i:Nat) (v:V) (p:ri Int),b[i]?=δ v->P[i]?=δ p->∃a,v= .ref a/\H a=δ (.tup$ p.map qs)/\p≠[]
 | [],_=>#[[],Z,λi v p h=>by simp at h]
 |x::b,d=>by
  let⟨P,e,h⟩:=Zu λv c=>d v (ML _ c);let⟨a,p,E,j,k⟩:=d x Mz;erw[#[p::P,by simp [e],λi v q f g=>?_]];cases i with
  |zero=>cases f;cases g;exact#[a,E,j,k]
  |succ i=>rwa[h i v q (f:) (g:)]
end
section
variable {P:ω}{w:bS}{A:bx}{E:η->ι->Prop}{s:ι}{κ:SortKind}{N:Nat}{G:Keyed->Prop}
structure GS(κ:SortKind)(N:Nat)(G:Keyed->Prop)(st:SortSt):Prop where
 k:kindOf st=κ
 z:(arrOf st).size=N
 g:∀x∈(arrOf st).toList,G x
 f:failedOf st=θ
def du(P:ω)(w:bS)(A:bx)(s:ι)(κ:SortKind)(G:Keyed->Prop):Prop:=∀(x y:Keyed),G x->G y->∃b:Bool,∀(E:η->ι->Prop) (Q:Bool->ι->Prop),Q b s->π (χ P w) A (keyLt' κ x.1 y.1) Q E s
def BJ{X:Array Keyed}{i:Nat}(h:i < X.size)(H:∀x∈X.toList,G x):∃x,X[i]?=δ x/\G x:=
 #[X[i],Nj h,H _ Lz]
def jX{X:Array Keyed}{i:Nat}{st:SortSt}{Q:Keyed->SortSt->Prop}(h:i < X.size)(H:∀x∈X.toList,G x)(q:∀x,G x->Q x st):wpS (χ P w) A E s (elem' X i) Q st:=by let⟨x,a,g⟩:=BJ h H;rw[elem'_eq,a];rwa[Mr$ q x g]
def ZT{x y:Keyed}{st:SortSt}{Q:rm Bool->SortSt->Prop}(C:du P w A s κ G)(S:GS κ N G st)(h:G x)(H:G y)(q:∀b,Q (δ b) st):wpS (χ P w) A E s (lt' x y) Q st:=by let⟨b,a⟩:=C x y h H;rw[lt'_eq];erw[Mp$ PJ ?_];rw[S.k];erw[Mp$ Rg$ Oz$ a _ _ #[Z,?_]];rwa[Mr$ q b]
def ql{i j:Nat}{st:SortSt}{Q:rm Bool->SortSt->Prop}(C:du P w A s κ G)(S:GS κ N G st)(h:i < N)(H:j < N)(q:∀b,Q (δ b) st):wpS (χ P w) A E s (ltAt' i j) Q st:=by rw[ltAt'_eq];erw[Mp$ PJ$ Mp$ jX (by rw[S.z];rwa[h]) S.g λx a=>Mp (jX (by rw[S.z];rwa[H]) S.g λy c=>ZT C S a c q)]
def GS.arr{st:SortSt}{X:Array Keyed}(S:GS κ N G st)(h:X.size=N)(H:∀x∈X.toList,G x):GS κ N G (setArr st X):=#[S.k,h,H,S.f]
def GS.perm{st:SortSt}{X:Array Keyed}(S:GS κ N G st)(p:X.Perm (arrOf st)):GS κ N G (setArr st X):=S.arr (p.size_eq.trans S.z) λx h=>S.g x (p.toList.mem_iff.mp h)
def Qr{i j:Nat}{st:SortSt}{Q:Unit->SortSt->Prop}(S:GS κ N G st)(q:∀a,GS κ N G a->pendingOf a=pendingOf st->Q () a):wpS (χ P w) A E s (reverseSlice' i j) Q st:=by rw[reverseSlice'_eq];rwa[Pm$ q _ (S.perm$ mirror_perm _ _ _ _) Z]
def D7{i j:Nat}{st:SortSt}{Q:Unit->SortSt->Prop}(S:GS κ N G st)(q:∀a,GS κ N G a->pendingOf a=pendingOf st->Q () a):wpS (χ P w) A E s (moveDown' i j) Q st:=by rw[moveDown'_eq];rwa[Pm$ q _ (S.perm$ bubble_perm _ _ _) Z]
def Ao{lo d:Nat}{st:SortSt}{Q:rm Nat->SortSt->Prop}(C:du P w A s κ G)(S:GS κ N G st)(h:lo+d<=N)(Y:1<=d)(q:∀n a,GS κ N G a->pendingOf a=pendingOf st->1<=n->n<=d->Q (δ n) a):wpS (χ P w) A E s (countRun' lo d) Q st:=by
 rw[countRun'_eq];erw[Mp$ NT (Nb (I:=λi c a=>a=st/\c=(θ,i)/\i<=d) (Q:=λc a=>a=st/\∃n,c=(θ,n)/\1<=n/\n<=d) ?_ ?_ #[Z,Z,Y]) ?_]
 .rintro i c a O v ⟨rfl,rfl,_⟩;erw[Mp$ ql C S (by show lo+i < N;omega) (by show lo+i - 1 < N;omega) λb=>?_];cases b
  .rwa[Mr #[Z,Z,v]]
  .rwa[Mr #[Z,i,Z,O,N09]]
 .rintro c a ⟨rfl,rfl,b⟩;exact#[Z,_,Z,LA,b]
 rintro c a ⟨rfl,n,rfl,T,U⟩;dsimp only;split
 .rwa[Mr$ q n a S Z T U]
 rename_i R
 let n3:n < d:=by let:¬n=d:=λe=>R (by rw[e];rwa[Ov _]);omega
 let B:∀(m:Nat) (y:SortSt),GS κ N G y->pendingOf y=pendingOf a->1<=m->m<=d->∀(f:Nat->(rm (rm Nat)×Nat)->StateT SortSt Sem (ForInStep$ rm (rm Nat)×Nat)) (g:(rm (rm Nat)×Nat)->StateT SortSt Sem (rm Nat)),
   (∀i x,f i x=(do
    let r <- ltAt' (lo+x.2) (lo+x.2 - 1)
    match r with
    |some μ=>pure (ForInStep.done (θ,x.2))
    |some ν=>pure (ForInStep.yield (θ,x.2+1))
    |none=>pure (ForInStep.done (δ θ,x.2))))->(∀k,g (θ,k)=pure (δ k))->
   wpS (χ P w) A E s (reverseSlice' lo (lo+m) >>= λ_=>forIn [m:d] ((θ,m):rm (rm Nat)×Nat) f >>= g) Q y:=by
  intro m y J K H M f g hf hg;erw[Mp$ Qr J λj l p=>Mp (NT (Nb (I:=λi c a=>a=j/\c=(θ,i)/\i<=d) (Q:=λc a=>a=j/\∃n,c=(θ,n)/\1<=n/\n<=d) ?_ ?_ #[Z,Z,M]) ?_)]
  .rintro i c t O v ⟨rfl,rfl,_⟩;rw[hf];erw[Mp$ ql C l (by show lo+i < N;omega) (by show lo+i - 1 < N;omega) λb=>?_];cases b
   .rwa[Mr #[Z,Z,v]]
   .rwa[Mr #[Z,i,Z,LA,LA]]
  .rintro c t ⟨rfl,rfl,b⟩;exact#[Z,_,Z,LA,b]
  .rintro c t ⟨rfl,k,rfl,k1,k2⟩;rw[hg];rwa[Mr$ q k _ l (p.trans K) k1 k2]
 obtain⟨z,V,W,X⟩:∃z,z=a/\GS κ N G z/\pendingOf z=pendingOf a:=#[a,Z,S,Z];split
 .erw[Mp$ ql C S LA N09 λb=>?_];cases b
  .dsimp only;rw[Mx Mq];erw[Mp$ Qr S λy J K=>?_];clear V W X z;erw[Mp$ Rg$ Nx #[Z,?_]];refine Mp$ NT (Nb (I:=λi c j=>∃u,c=(θ,i,u)/\i<=d/\GS κ N G j/\pendingOf j=pendingOf a) (Q:=λc j=>∃m u,c=(θ,m,u)/\1<=m/\m<=d/\GS κ N G j/\pendingOf j=pendingOf a) ?_ ?_ #[0,Z,LA,J,K]) ?_
   .rintro i c j O v ⟨u,rfl,_,l,p⟩;erw[Mp$ ql C l (by show lo+i < N;omega) (by show lo+i - 1 < N;rwa[N09]) λb=>?_];cases b
    .dsimp only;rw[Mx Mq];erw[Mp$ ql C l (by show lo+i - 1 < N;omega) (by show lo+i < N;omega) λb=>?_];cases b
     .rwa[Mr #[_,Z,v,l,p]]
     .rwa[Mr #[i,_,Z,LA,LA,l,p]]
    .dsimp only;rw[Mv Z];split
     .rwa[Mp$ Qr l λt D F=>Mr #[_,Z,v,D,F.trans p]]
     .rwa[Mr #[_,Z,v,l,p]]
   .rintro c j ⟨u,rfl,b,l,p⟩;exact#[_,_,Z,LA,b,l,p]
   rintro c j ⟨m,u,rfl,H,M,l,p⟩;dsimp only;let L:∀(i:Nat) (x:rm (rm Nat)×Nat),(do
     let __x <- ltAt' (lo+x.snd) (lo+x.snd - 1)
     match __x with
     |some o=>if o=μ then pure (ForInStep.done (θ,x.snd)) else pure (ForInStep.yield (θ,x.snd+1))
     |_=>pure (ForInStep.done (δ θ,x.snd)):StateT SortSt Sem (ForInStep (rm (rm Nat)×Nat)))=(do
       let r <- ltAt' (lo+x.2) (lo+x.2 - 1)
       match r with
       |some μ=>pure (ForInStep.done (θ,x.2))
       |some ν=>pure (ForInStep.yield (θ,x.2+1))
       |none=>pure (ForInStep.done (δ θ,x.2))):=λi x=>by
    congr 1;funext r;rcases r with _ |_ |_<;>rfl
   split
   .erw[Mp$ Qr l λt D F=>?_];rwa[B m t D (F.trans p) H M _ _ L λk=>Z]
   .rwa[B m j l p H M _ _ L λk=>Z]
  .rwa[Mr$ q n a S Z T U]
 .clear V W X;let J:=S;let K:pendingOf a=pendingOf a:=rfl;erw[Mp$ Rg$ Nx #[Z,?_]];refine Mp$ NT (Nb (I:=λi c j=>∃u,c=(θ,i,u)/\i<=d/\GS κ N G j/\pendingOf j=pendingOf a) (Q:=λc j=>∃m u,c=(θ,m,u)/\1<=m/\m<=d/\GS κ N G j/\pendingOf j=pendingOf a) ?_ ?_ #[0,Z,LA,J,K]) ?_
  .rintro i c j O v ⟨u,rfl,_,l,p⟩;erw[Mp$ ql C l (by show lo+i < N;omega) (by show lo+i - 1 < N;omega) λb=>?_];cases b
   .dsimp only;rw[Mx Mq];erw[Mp$ ql C l (by show lo+i - 1 < N;omega) (by show lo+i < N;omega) λb=>?_];cases b
    .rwa[Mr #[_,Z,v,l,p]]
    .rwa[Mr #[i,_,Z,LA,LA,l,p]]
   .dsimp only;rw[Mv Z];split
    .rwa[Mp$ Qr l λt D F=>Mr #[_,Z,v,D,F.trans p]]
    .rwa[Mr #[_,Z,v,l,p]]
  .rintro c j ⟨u,rfl,b,l,p⟩;exact#[_,_,Z,LA,b,l,p]
  rintro c j ⟨m,u,rfl,H,M,l,p⟩;dsimp only;let L:∀(i:Nat) (x:rm (rm Nat)×Nat),(do
    let __x <- ltAt' (lo+x.snd) (lo+x.snd - 1)
    match __x with
    |some o=>if o=μ then pure (ForInStep.done (θ,x.snd)) else pure (ForInStep.yield (θ,x.snd+1))
    |_=>pure (ForInStep.done (δ θ,x.snd)):StateT SortSt Sem (ForInStep (rm (rm Nat)×Nat)))=(do
      let r <- ltAt' (lo+x.2) (lo+x.2 - 1)
      match r with
      |some μ=>pure (ForInStep.done (θ,x.2))
      |some ν=>pure (ForInStep.yield (θ,x.2+1))
      |none=>pure (ForInStep.done (δ θ,x.2))):=λi x=>by
   congr 1;funext r;rcases r with _ |_ |_<;>rfl
  split
  .erw[Mp$ Qr l λt D F=>?_];rwa[B m t D (F.trans p) H M _ _ L λk=>Z]
  .rwa[B m j l p H M _ _ L λk=>Z]
def GG{lo n o:Nat}{st:SortSt}{Q:Bool->SortSt->Prop}(C:du P w A s κ G)(S:GS κ N G st)(h:lo+n<=N)(q:∀a,GS κ N G a->pendingOf a=pendingOf st->Q μ a):wpS (χ P w) A E s (binarySort' lo n o) Q st:=by
 rw[binarySort'_eq];erw[Mp$ NT (Nb (I:=λ_ c a=>c=(θ,())/\GS κ N G a/\pendingOf a=pendingOf st) (Q:=λc a=>c=(θ,())/\GS κ N G a/\pendingOf a=pendingOf st) ?_ (λ_ _ h=>h) #[Z,S,Z]) ?_]
 .rintro k c d p t ⟨rfl,e,f⟩;refine Mp$ NT (Nb (I:=λ_ c a=>a=d/\∃l r,c=(θ,l,r)/\r<=k) (Q:=λc a=>a=d/\∃l r,c=(θ,l,r)/\r<=k) ?_ (λ_ _ h=>h) #[Z,0,k,Z,Mj _]) ?_
  .rintro x c g B u ⟨rfl,l,r,rfl,H⟩;dsimp only;split
   .rwa[Mr #[Z,l,r,Z,H]]
   .rename_i v
    erw[Mp$ ql C e LA LA λb=>?_];cases b
    .rwa[Mr #[Z,_,r,Z,H]]
    .rwa[Mr #[Z,l,_,Z,LA]]
  .rintro c g ⟨rfl,l,r,rfl,H⟩;rwa[Mp$ D7 e λi j m=>Mr #[Z,j,m.trans f]]
 .rintro c d ⟨rfl,e,f⟩;rwa[Mr$ q _ e f]
def hX:Bool->Keyed->Array Keyed->Nat->Nat->Nat->StateT SortSt Sem (rm Nat):=sortPriv% PySem.Builtin.gallop
def re(b:Bool)(S:Keyed)(r:Array Keyed)(i:Nat):StateT SortSt Sem (rm Bool):=do
 let o <- elem' r i
 if b then lt' o S else do
  let a <- lt' S o
  pure (a.map (!·))
def B0(B:Bool)(S:Keyed)(r:Array Keyed)(f m c:Nat):hX B S r f m c=(do
  let mut was:=0
  let mut far:=1
  let mut a:=0
  let mut b:=0
  let δ u <- re B S r (f+c) |return θ
  if u then
   let all:=m - c
   for _ in [0:m] do
    if far≥all then break
    let δ o <- re B S r (f+(c+far)) |return θ
    if !o then break
    was:=far
    far:=2*far+1
   a:=c+was+1
   b:=c+min far all
  else
   let all:=c+1
   for _ in [0:m] do
    if far≥all then break
    let δ o <- re B S r (f+(c - far)) |return θ
    if o then break
    was:=far
    far:=2*far+1
   a:=c+1 - min far all
   b:=c - was
  for _ in [0:m] do
   if a≥b then break
   let M:=a+(b - a) / 2
   let δ o <- re B S r (f+M) |return θ
   if o then a:=M+1 else b:=M
  return δ b):=rfl
def Kl{B:Bool}{a:Keyed}{r:Array Keyed}{i:Nat}{st:SortSt}{Q:rm Bool->SortSt->Prop}(C:du P w A s κ G)(S:GS κ N G st)(h:G a)(H:i < r.size)(c:∀x∈r.toList,G x)(q:∀b,Q (δ b) st):wpS (χ P w) A E s (re B a r i) Q st:=by
 unfold re;erw[Mp$ jX H c λx g=>?_];cases B
 .rwa[Mp$ ZT C S h g λb=>Mr (q _)]
 .rwa[ZT C S g h q]
def Qs{B:Bool}{g:Keyed}{r:Array Keyed}{u m i:Nat}{st:SortSt}{Q:rm Nat->SortSt->Prop}(C:du P w A s κ G)(S:GS κ N G st)(l:G g)(v:u+m<=r.size)(y:i < m)(n:∀x∈r.toList,G x)(q:∀k,k<=m->Q (δ k) st):wpS (χ P w) A E s (hX B g r u m i) Q st:=by
 rw[B0];erw[Mp$ Kl C S l LA n λU=>?_];cases U
 .dsimp only;rw[Mx Mq];refine Mp$ NT (Nb (I:=λ_ c d=>d=st/\∃W f,c=(θ,W,f)) (Q:=λc d=>d=st/\∃W f,c=(θ,W,f)) ?_ (λ_ _ h=>h) #[Z,0,1,Z]) ?_
  .rintro x c e o p ⟨rfl,W,f,rfl⟩;dsimp only;split
   .rwa[Mr #[Z,W,f,Z]]
   .rename_i t
    erw[Mp$ Kl C S l LA n λb=>?_];cases b
    .rwa[Mr #[Z,_,_,Z]]
    .rwa[Mr #[Z,_,_,Z]]
  .rintro c e ⟨rfl,W,f,rfl⟩;dsimp only;refine Mp$ NT (Nb (I:=λ_ c d=>d=e/\∃a b,c=(θ,a,b)/\b<=m) (Q:=λc d=>d=e/\∃a b,c=(θ,a,b)/\b<=m) ?_ (λ_ _ h=>h) #[Z,_,_,Z,N09]) ?_
   .rintro x c j o p ⟨rfl,a,b,rfl,H⟩;dsimp only;split
    .rwa[Mr #[Z,a,b,Z,H]]
    .rename_i t
     erw[Mp$ Kl C S l LA n λk=>?_];cases k
     .rwa[Mr #[Z,a,_,Z,LA]]
     .rwa[Mr #[Z,_,b,Z,H]]
   .rintro c j ⟨rfl,a,b,rfl,H⟩;rwa[Mr$ q b H]
 .dsimp only;rw[Mv Z];refine Mp$ NT (Nb (I:=λ_ c d=>d=st/\∃W f,c=(θ,W,f)) (Q:=λc d=>d=st/\∃W f,c=(θ,W,f)) ?_ (λ_ _ h=>h) #[Z,0,1,Z]) ?_
  .rintro x c e o p ⟨rfl,W,f,rfl⟩;dsimp only;split
   .rwa[Mr #[Z,W,f,Z]]
   .rename_i t
    erw[Mp$ Kl C S l LA n λb=>?_];cases b
    .rwa[Mr #[Z,_,_,Z]]
    .rwa[Mr #[Z,_,_,Z]]
  .rintro c e ⟨rfl,W,f,rfl⟩;dsimp only;refine Mp$ NT (Nb (I:=λ_ c d=>d=e/\∃a b,c=(θ,a,b)/\b<=m) (Q:=λc d=>d=e/\∃a b,c=(θ,a,b)/\b<=m) ?_ (λ_ _ h=>h) #[Z,_,_,Z,LA]) ?_
   .rintro x c j o p ⟨rfl,a,b,rfl,H⟩;dsimp only;split
    .rwa[Mr #[Z,a,b,Z,H]]
    .rename_i t
     erw[Mp$ Kl C S l LA n λk=>?_];cases k
     .rwa[Mr #[Z,a,_,Z,LA]]
     .rwa[Mr #[Z,_,b,Z,H]]
   .rintro c j ⟨rfl,a,b,rfl,H⟩;rwa[Mr$ q b H]
def lX:Nat->StateT SortSt Sem Unit:=sortPriv% PySem.Builtin.setMinGallop
def xV:Array Keyed->Array Keyed->StateT SortSt Sem (Array Keyed):=sortPriv% PySem.Builtin.mergeLo
def xS:Array Keyed->Array Keyed->StateT SortSt Sem (Array Keyed):=sortPriv% PySem.Builtin.mergeHi
def Y6{g:Nat}{st:SortSt}{Q:Unit->SortSt->Prop}(S:GS κ N G st)(q:∀a,GS κ N G a->pendingOf a=pendingOf st->arrOf a=arrOf st->Q () a):wpS (χ P w) A E s (lX g) Q st:=
 Pm (f:=λt=>SortSt.mk' (kindOf t) (arrOf t) (pendingOf t) g (failedOf t)) (q (SortSt.mk' (kindOf st) (arrOf st) (pendingOf st) g$ failedOf st) #[S.k,S.z,S.g,S.f] Z Z)
def nC(x y z:Array Keyed)(i j:Nat):Array Keyed:=z++x.extract i x.size++y.extract j y.size
def Al(x y z:Array Keyed)(i j:Nat):Array Keyed:=z++y.extract j y.size++x.extract i x.size
abbrev wV:=rm (Array Keyed)×Array Keyed×Nat×Nat×Nat×Nat
abbrev nP:=rm (Array Keyed)×Array Keyed×Nat×Nat×Nat×Nat×Nat
abbrev wW:=rm (Array Keyed)×Array Keyed×Nat×Nat×Nat
def Hr(x y:Array Keyed)(l:Nat)(c:wV):StateT SortSt Sem (ForInStep wV):=do
 let b <- elem' y c.2.2.2.1
 let a <- elem' x c.2.2.1
 match <- lt' b a with
 |some S=>
  if S=μ then do
   let b <- elem' y c.2.2.2.1
   if (c.2.2.2.1+1==y.size)=μ then pure (.done (δ$ nC x y (c.2.1.push b) c.2.2.1$ c.2.2.2.1+1,c.2.1.push b,c.2.2.1,c.2.2.2.1+1,0,c.2.2.2.2.2+1))
   else if c.2.2.2.2.2+1≥l then pure (.done (θ,c.2.1.push b,c.2.2.1,c.2.2.2.1+1,0,c.2.2.2.2.2+1)) else pure (.yield (θ,c.2.1.push b,c.2.2.1,c.2.2.2.1+1,0,c.2.2.2.2.2+1))
  else do
   let a <- elem' x c.2.2.1
   if (c.2.2.1+1+1==x.size)=μ then pure (.done (δ$ Al x y (c.2.1.push a) (c.2.2.1+1) c.2.2.2.1,c.2.1.push a,c.2.2.1+1,c.2.2.2.1,c.2.2.2.2.1+1,0))
   else if c.2.2.2.2.1+1≥l then pure (.done (θ,c.2.1.push a,c.2.2.1+1,c.2.2.2.1,c.2.2.2.2.1+1,0)) else pure (.yield (θ,c.2.1.push a,c.2.2.1+1,c.2.2.2.1,c.2.2.2.2.1+1,0))
 |_=>pure (.done (δ (nC x y c.2.1 c.2.2.1 c.2.2.2.1),c.2.1,c.2.2.1,c.2.2.2.1,c.2.2.2.2.1,c.2.2.2.2.2))
def Fk(x y z:Array Keyed)(i j l X Y:Nat):StateT SortSt Sem (ForInStep nP):=do
 let a <- elem' x i
 if (i+1+1==x.size)=μ then pure (.done (δ$ Al x y (z.push a) (i+1) j,z.push a,i+1,j,l,X,Y))
 else if (decide (X < 7)&&decide (Y < 7))=μ then pure (.done (θ,z.push a,i+1,j,l,X,Y)) else pure (.yield (θ,z.push a,i+1,j,l,X,Y))
def Fj(x y z:Array Keyed)(i j l X Y:Nat):StateT SortSt Sem (ForInStep nP):=do
 let b <- elem' y j
 if (j+1==y.size)=μ then pure (.done (δ$ nC x y (z.push b) i$ j+1,z.push b,i,j+1,l,X,Y))
 else do
  let a <- elem' x i
  match <- hX μ a y (j+1) (y.size - (j+1)) 0 with
  |some f=>
   if f > 0 then
    if (j+1+f==y.size)=μ then pure (.done (δ$ nC x y (z.push b++y.extract (j+1) (j+1+f)) i$ j+1+f,z.push b++y.extract (j+1) (j+1+f),i,j+1+f,l,X,f))
    else Fk x y (z.push b++y.extract (j+1) (j+1+f)) i (j+1+f) l X f
   else Fk x y (z.push b) i (j+1) l X f
  |_=>pure (.done (δ (nC x y (z.push b) i (j+1)),z.push b,i,j+1,l,X,Y))
def Fi(x y z:Array Keyed)(i j l X Y:Nat):StateT SortSt Sem (ForInStep nP):=do
 lX l
 let b <- elem' y j
 match <- hX ν b x i (x.size - i) 0 with
 |some f=>
  if f > 0 then
   if (i+f+1==x.size)=μ then pure (.done (δ$ Al x y (z++x.extract i (i+f)) (i+f) j,z++x.extract i (i+f),i+f,j,l,f,Y))
   else if (i+f==x.size)=μ then pure (.done (δ$ nC x y (z++x.extract i (i+f)) (i+f) j,z++x.extract i (i+f),i+f,j,l,f,Y))
   else Fj x y (z++x.extract i (i+f)) (i+f) j l f Y
  else Fj x y z i j l f Y
 |_=>pure (.done (δ (nC x y z i j),z,i,j,l,X,Y))
def Hs(x y:Array Keyed)(c:nP):StateT SortSt Sem (ForInStep nP):=
 if c.2.2.2.2.1 > 1 then Fi x y c.2.1 c.2.2.1 c.2.2.2.1 (c.2.2.2.2.1 - 1) c.2.2.2.2.2.1 c.2.2.2.2.2.2
 else Fi x y c.2.1 c.2.2.1 c.2.2.2.1 c.2.2.2.2.1 c.2.2.2.2.2.1 c.2.2.2.2.2.2
def Ht(x y:Array Keyed)(c:wW):StateT SortSt Sem (ForInStep wW):=do
 let d <- forIn [:x.size+y.size] ((θ,c.2.1,c.2.2.1,c.2.2.2.1,0,0):wV) λ_ d=>Hr x y c.2.2.2.2 d
 match d.1 with
 |some r=>pure (.done (δ r,d.2.1,d.2.2.1,d.2.2.2.1,c.2.2.2.2))
 |none=>do
  rule "list.sort.gallop"
  let d <- forIn [:x.size+y.size] ((θ,d.2.1,d.2.2.1,d.2.2.2.1,c.2.2.2.2+1,d.2.2.2.2.1,d.2.2.2.2.2):nP) λ_ d=>Hs x y d
  match d.1 with
  |some r=>pure (.done (δ r,d.2.1,d.2.2.1,d.2.2.2.1,d.2.2.2.2.1))
  |none=>do
   lX (d.2.2.2.2.1+1)
   pure (.yield (θ,d.2.1,d.2.2.1,d.2.2.2.1,d.2.2.2.2.1+1))
def xW(x y:Array Keyed):xV x y=(do
  rule "list.sort.merge-lo"
  let b:=x.size+y.size
  let mut z:Array Keyed:=(ε [<- elem' y 0])
  let mut i:=0
  let mut j:=1
  if j==y.size then return nC x y z i j
  if i+1==x.size then return Al x y z i j
  let mut least:=gallopOf (<- get)
  for _ in [0:b] do
   let mut xs:=0
   let mut ys:=0
   for _ in [0:b] do
    let δ S <- lt' (<- elem' y j) (<- elem' x i) |return nC x y z i j
    if S then
     z:=z.push (<- elem' y j);j:=j+1;ys:=ys+1;xs:=0
     if j==y.size then return nC x y z i j
     if ys≥least then break
    else
     z:=z.push (<- elem' x i);i:=i+1;xs:=xs+1;ys:=0
     if i+1==x.size then return Al x y z i j
     if xs≥least then break
   rule "list.sort.gallop"
   least:=least+1
   for _ in [0:b] do
    if least > 1 then least:=least - 1
    lX least
    let δ f <- hX ν (<- elem' y j) x i (x.size - i) 0 |return nC x y z i j
    xs:=f
    if f > 0 then
     z:=z++x.extract i (i+f);i:=i+f
     if i+1==x.size then return Al x y z i j
     if i==x.size then return nC x y z i j
    z:=z.push (<- elem' y j);j:=j+1
    if j==y.size then return nC x y z i j
    let δ f <- hX μ (<- elem' x i) y j (y.size - j) 0 |return nC x y z i j
    ys:=f
    if f > 0 then
     z:=z++y.extract j (j+f);j:=j+f
     if j==y.size then return nC x y z i j
    z:=z.push (<- elem' x i);i:=i+1
    if i+1==x.size then return Al x y z i j
    if xs < 7&&ys < 7 then break
   least:=least+1
   lX least
  unsupported "internal:list.sort.merge-bound"):=rfl
def CB(x y:Array Keyed):xV x y=(do
  rule "list.sort.merge-lo"
  let b <- elem' y 0
  if (1==y.size)=μ then pure (nC x y (ε [b]) 0 1)
  else if (0+1==x.size)=μ then pure (Al x y (ε [b]) 0 1)
  else do
   let t <- get
   let c <- forIn [:x.size+y.size] ((θ,(ε [b]),0,1,gallopOf t):wW) λ_ c=>Ht x y c
   match c.1 with
   |some r=>pure r
   |none=>unsupported "internal:list.sort.merge-bound"):=by
 rw[xW];erw[Om λu=>Om λb=>?_];dsimp only;by_cases h:(1==y.size)=μ
 .rw[Mv h,Mv h]
 rw[Mx h,Mx h];by_cases H:(0+1==x.size)=μ
 .rw[Mv H,Mv H]
 rw[Mx H,Mx H];erw[Om λt=>?_];erw[congr (MZ bind$ MZ (forIn _ _)$ funext λk=>funext λc=>?_)$ funext λc=>?_]
 .unfold Ht;refine congr (MZ bind$ MZ (forIn _ _)$ funext λk=>funext λd=>?_)$ funext λd=>?_
  .unfold Hr;rfl
  .let⟨D,a⟩:=d;cases D with
   |some r=>rfl
   |none=>
    dsimp only;erw[Om λu=>?_];erw[congr (MZ bind$ MZ (forIn _ _)$ funext λk=>funext λd=>?_)$ funext λd=>?_]
    .unfold Hs Fi Fj Fk;rfl
    .let⟨D,a⟩:=d;cases D<;>rfl
 .let⟨D,a⟩:=c;cases D<;>rfl
def jS{X:Array Keyed}{x:Keyed}(h:∀y∈X.toList,G y)(a:G x):∀y∈(X.push x).toList,G y:=λy H=>by
 rw[Pb,Oa,O7]at H;rcases H with H |rfl
 .rwa[h y H]
 .rwa[a]
def zb{x Y:Array Keyed}(h:∀y∈x.toList,G y)(k:∀y∈Y.toList,G y):∀y∈(x++Y).toList,G y:=λy H=>by rw[Ti,Oa]at H;rwa[H.elim (h y)$ k y]
def kW{x:Array Keyed}{i j:Nat}(h:∀y∈x.toList,G y):∀y∈(x.extract i j).toList,G y:=λy H=>by rw[Array.toList_extract]at H;rwa[h y$ Rk$ M' H]
def Xk{x y z:Array Keyed}{i j:Nat}(h:∀a∈x.toList,G a)(H:∀a∈y.toList,G a)(b:∀a∈z.toList,G a):∀a∈(nC x y z i j).toList,G a:=zb (zb b$ kW h) (kW H)
def Y7{x y z:Array Keyed}{i j:Nat}(h:∀a∈x.toList,G a)(H:∀a∈y.toList,G a)(b:∀a∈z.toList,G a):∀a∈(Al x y z i j).toList,G a:=zb (zb b$ kW H) (kW h)
structure KS(κ:SortKind)(N:Nat)(G:Keyed->Prop)(st0 st:SortSt):Prop where
 s:GS κ N G st
 p:pendingOf st=pendingOf st0
 a:arrOf st=arrOf st0
def KS.trans{a b c:SortSt}(h:KS κ N G a b)(k:KS κ N G b c):KS κ N G a c:=#[k.s,k.p.trans h.p,k.a.trans h.a]
abbrev a6(G:Keyed->Prop)(x:Array Keyed):Prop:=∀a∈x.toList,G a
section
variable {x y z:Array Keyed}{i j:Nat}{st:SortSt}
def j7{a b:Nat}(h:¬(a==b)=μ):a≠b:=λe=>h (by rw[e];rwa[Ov _])
def GL{l t u:Nat}{Q:ForInStep wV->SortSt->Prop}(C:du P w A s κ G)(S:GS κ N G st)(e:a6 G x)(f:a6 G y)(H:a6 G z)(o:i+1 < x.size)(m:j < y.size)(p:∀r d,a6 G r->Q (.done (δ r,d)) st)
  (q:∀n I J X Y,a6 G n->I+1 < x.size->J < y.size->i+j < I+J->Q (.done (θ,n,I,J,X,Y)) st/\Q (.yield (θ,n,I,J,X,Y)) st):wpS (χ P w) A E s (Hr x y l (θ,z,i,j,t,u)) Q st:=by
 unfold Hr;erw[Mp$ jX m f λb g=>Mp (jX (by show i < x.size;omega) e λa c=>Mp (ZT C S g c λk=>?_))];cases k
 .erw[Mp$ jX (by show i < x.size;omega) e λa c=>?_];dsimp only;split
  .rwa[Mr$ p _ _$ Y7 e f$ jS H c]
  .rename_i h
   let:=j7 h;split
   .rwa[Mr (q _ _ _ _ _ (jS H c) LA m LA).1]
   .rwa[Mr (q _ _ _ _ _ (jS H c) LA m LA).2]
 .erw[Mp$ jX m f λb g=>?_];dsimp only;split
  .rwa[Mr$ p _ _$ Xk e f$ jS H g]
  .rename_i h
   let:=j7 h;split
   .rwa[Mr (q _ _ _ _ _ (jS H g) o LA LA).1]
   .rwa[Mr (q _ _ _ _ _ (jS H g) o LA LA).2]
variable {Q:ForInStep nP->SortSt->Prop}{st0:SortSt}{t0:Nat}
def Bv{l k m:Nat}(S:KS κ N G st0 st)(e:a6 G x)(n:a6 G y)(H:a6 G z)(p:i+1 < x.size)(f:j < y.size)(t:t0<=i+j)(o:∀r d b,a6 G r->KS κ N G st0 b->Q (.done (δ r,d)) b)
  (q:∀c I J L X Y b,a6 G c->I+1 < x.size->J < y.size->t0<=I+J->KS κ N G st0 b->Q (.done (θ,c,I,J,L,X,Y)) b/\Q (.yield (θ,c,I,J,L,X,Y)) b):wpS (χ P w) A E s (Fk x y z i j l k m) Q st:=by
 unfold Fk;erw[Mp$ jX (by show i < x.size;omega) e λa g=>?_];split
 .rwa[Mr$ o _ _ _ (Y7 e n$ jS H g) S]
 .rename_i h
  let:=j7 h;split
  .rwa[Mr (q _ _ _ _ _ _ _ (jS H g) LA f LA S).1]
  .rwa[Mr (q _ _ _ _ _ _ _ (jS H g) LA f LA S).2]
def Bu{l o p:Nat}(C:du P w A s κ G)(S:KS κ N G st0 st)(e:a6 G x)(H:a6 G y)(f:a6 G z)(m:i+1 < x.size)(t:j < y.size)(B:t0<=i+j)(q:∀r d c,a6 G r->KS κ N G st0 c->Q (.done (δ r,d)) c)
  (n:∀k I J L X Y c,a6 G k->I+1 < x.size->J < y.size->t0<=I+J->KS κ N G st0 c->Q (.done (θ,k,I,J,L,X,Y)) c/\Q (.yield (θ,k,I,J,L,X,Y)) c):wpS (χ P w) A E s (Fj x y z i j l o p) Q st:=by
 unfold Fj;erw[Mp$ jX t H λb g=>?_];split
 .rwa[Mr$ q _ _ _ (Xk e H$ jS f g) S]
 rename_i h
 let D:=j7 h;erw[Mp$ jX (by show i < x.size;omega) e λa u=>Mp (Qs C S.s u N09 N09 H λF K=>?_)];dsimp only;split
 .split
  .rwa[Mr$ q _ _ _ (Xk e H$ zb (jS f g)$ kW H) S]
  .rename_i v
   let:=j7 v;rwa[Bv S e H (zb (jS f g)$ kW H) m N09 LA q n]
 .rwa[Bv S e H (jS f g) m LA LA q n]
def Bt{l n o:Nat}(C:du P w A s κ G)(S:KS κ N G st0 st)(h:a6 G x)(H:a6 G y)(c:a6 G z)(p:i+1 < x.size)(e:j < y.size)(t:t0<=i+j)(q:∀r d a,a6 G r->KS κ N G st0 a->Q (.done (δ r,d)) a)
  (k:∀f I J L X Y a,a6 G f->I+1 < x.size->J < y.size->t0<=I+J->KS κ N G st0 a->Q (.done (θ,f,I,J,L,X,Y)) a/\Q (.yield (θ,f,I,J,L,X,Y)) a):wpS (χ P w) A E s (Fi x y z i j l n o) Q st:=by
 unfold Fi;erw[Mp$ Y6 S.s λg m u v=>?_];let K:KS κ N G st0 g:=S.trans #[m,u,v];erw[Mp$ jX e H λb B=>Mp (Qs C m B LA LA h λF O=>?_)];dsimp only;split
 .split
  .rwa[Mr$ q _ _ _ (Y7 h H$ zb c$ kW h) K]
  .rename_i D
   let:=j7 D;split
   .rwa[Mr$ q _ _ _ (Xk h H$ zb c$ kW h) K]
   .rename_i M
    let:=j7 M;rwa[Bu C K h H (zb c$ kW h) LA e LA q k]
 .rwa[Bu C K h H c p e t q k]
def GN{l m n:Nat}(C:du P w A s κ G)(S:KS κ N G st0 st)(h:a6 G x)(H:a6 G y)(c:a6 G z)(e:i+1 < x.size)(f:j < y.size)(g:t0<=i+j)(q:∀r d a,a6 G r->KS κ N G st0 a->Q (.done (δ r,d)) a)
  (k:∀b I J L X Y a,a6 G b->I+1 < x.size->J < y.size->t0<=I+J->KS κ N G st0 a->Q (.done (θ,b,I,J,L,X,Y)) a/\Q (.yield (θ,b,I,J,L,X,Y)) a):wpS (χ P w) A E s (Hs x y (θ,z,i,j,l,m,n)) Q st:=by
 unfold Hs;dsimp only;split
 .rwa[Bt C S h H c e f g q k]
 .rwa[Bt C S h H c e f g q k]
end
def GP{x y z:Array Keyed}{i j m:Nat}{st g:SortSt}{Q:ForInStep wW->SortSt->Prop}(C:du P w A s κ G)(S:KS κ N G g st)(D:a6 G x)(F:a6 G y)(O:a6 G z)(R:i+1 < x.size)(T:j < y.size)
  (M:∀r d a,a6 G r->KS κ N G g a->Q (.done (δ r,d)) a) (U:∀f b J L a,a6 G f->b+1 < x.size->J < y.size->i+j < b+J->KS κ N G g a->Q (.yield (θ,f,b,J,L)) a):wpS (χ P w) A E s (Ht x y (θ,z,i,j,m)) Q st:=by
 unfold Ht;erw[Mp$ NT (Nb (I:=λk c a=>a=st/\∃f b J X Y,c=(θ,f,b,J,X,Y)/\a6 G f/\b+1 < x.size/\J < y.size/\i+j+min k 1<=b+J) (Q:=λc a=>a=st/\((∃r d,c=(δ r,d)/\a6 G r)∨∃f b J X Y,c=(θ,f,b,J,X,Y)/\a6 G f/\b+1 < x.size/\J < y.size/\i+j < b+J)) ?_ ?_ #[Z,z,i,j,0,0,Z,O,R,T,LA]) ?_]
 .rintro k c l V u ⟨rfl,f,b,J,X,Y,rfl,h,H,e,n⟩;rwa[GL C S.s D F h H e (λr d o=>#[Z,.inl #[r,d,Z,o]]) λW i2 j2 x2 y2 q B t v=>#[#[Z,.inr #[_,_,_,_,_,Z,q,B,t,LA]],Z,_,_,_,_,_,Z,q,B,t,LA]]
 .rintro c l ⟨rfl,f,b,J,X,Y,rfl,h,H,e,n⟩;exact#[Z,.inr #[_,_,_,_,_,Z,h,H,e,LA]]
 rintro c l ⟨rfl,⟨r,d,rfl,o⟩ | ⟨f,b,J,X,Y,rfl,h,H,e,n⟩⟩
 .rwa[Mr$ M _ _ _ o S]
 dsimp only;erw[Mp$ Rg$ Nx #[Z,?_]];erw[Mp$ NT (Nb (I:=λ_ c a=>KS κ N G g a/\∃f b J L X Y,c=(θ,f,b,J,L,X,Y)/\a6 G f/\b+1 < x.size/\J < y.size/\i+j+1<=b+J) (Q:=λc a=>KS κ N G g a/\((∃r d,c=(δ r,d)/\a6 G r)∨∃f b J L X Y,c=(θ,f,b,J,L,X,Y)/\a6 G f/\b+1 < x.size/\J < y.size/\i+j+1<=b+J)) ?_ ?_ #[S,f,b,J,_,X,Y,Z,h,H,e,LA]) ?_]
 .rintro k c l V u ⟨p,f,b,J,L,X,Y,rfl,h,H,e,n⟩;rwa[GN (t0:=i+j+1) C p D F h H e n (λr d a o K=>#[K,.inl #[r,d,Z,o]]) λW i2 j2 l2 x2 y2 a q B t v K=>#[#[K,.inr #[_,_,_,_,_,_,Z,q,B,t,v]],K,_,_,_,_,_,_,Z,q,B,t,v]]
 .rintro c l ⟨p,f,b,J,L,X,Y,rfl,h,H,e,n⟩;exact#[p,.inr #[_,_,_,_,_,_,Z,h,H,e,n]]
 rintro c l ⟨p,⟨r,d,rfl,o⟩ | ⟨f,b,J,L,X,Y,rfl,h,H,e,n⟩⟩
 .rwa[Mr$ M _ _ _ o p]
 dsimp only;rwa[Mp$ Y6 p.s λs0 S2 p2 u=>Mr (U _ _ _ _ _ h H e LA$ p.trans #[S2,p2,u])]
def GU{x y:Array Keyed}{st:SortSt}{Q:Array Keyed->SortSt->Prop}(C:du P w A s κ G)(S:GS κ N G st)(t:a6 G x)(l:a6 G y)(X:1<=x.size)(Y:1<=y.size)(q:∀z e,a6 G z->KS κ N G st e->Q z e):wpS (χ P w) A E s (xV x y) Q st:=by
 let u:KS κ N G st st:=#[S,Z,Z];rw[CB];erw[Mp$ Rg$ Nx #[Z,?_]];erw[Mp$ jX Y l λb D=>?_];let v:a6 G (ε [b]):=λa F=>by rw[τ.mp F];rwa[D]
 by_cases m:(1==y.size)=μ
 .rw[Mv m];rwa[Mr$ q _ _ (Xk t l v) u]
 rw[Mx m];by_cases n:(0+1==x.size)=μ
 .rw[Mv n];rwa[Mr$ q _ _ (Y7 t l v) u]
 rw[Mx n];let m:=j7 m;let n:=j7 n;erw[Mp$ PJ ?_];erw[Mp$ NT (Nb (I:=λk c e=>KS κ N G st e/\∃o i j L,c=(θ,o,i,j,L)/\a6 G o/\i+1 < x.size/\j < y.size/\1+k<=i+j) (Q:=λc e=>KS κ N G st e/\∃r d,c=(δ r,d)/\a6 G r) ?_ ?_ #[u,_,0,1,_,Z,v,LA,LA,LA]) ?_]
 .rintro k c f T U ⟨p,o,i,j,L,rfl,h,H,g,J⟩;rwa[GP C p t l h H g (λr d e B K=>#[K,r,d,Z,B]) λV W j2 l2 e M O R b3 K=>#[K,_,_,_,_,Z,M,O,R,LA]]
 .rintro c f ⟨p,o,i,j,L,rfl,h,H,g,J⟩;exfalso;omega
 rintro c f ⟨p,r,d,rfl,B⟩;rwa[Mr$ q _ _ B p]
def nB(x y z:Array Keyed)(i j:Nat):Array Keyed:=x.extract 0 i++y.extract 0 j++z.reverse
def Ak(x y z:Array Keyed)(i j:Nat):Array Keyed:=y.extract 0 j++x.extract 0 i++z.reverse
def qO{x:Array Keyed}(h:a6 G x):a6 G x.reverse:=λy H=>by rw[Array.toList_reverse,List.mem_reverse]at H;rwa[h y H]
def Xl{x y z:Array Keyed}{i j:Nat}(h:a6 G x)(H:a6 G y)(a:a6 G z):a6 G (nB x y z i j):=zb (zb (kW h)$ kW H) (qO a)
def Y8{x y z:Array Keyed}{i j:Nat}(h:a6 G x)(H:a6 G y)(a:a6 G z):a6 G (Ak x y z i j):=zb (zb (kW H)$ kW h) (qO a)
def xT(x y:Array Keyed):xS x y=(do
  rule "list.sort.merge-hi"
  let b:=x.size+y.size
  let mut i:=x.size - 1
  let mut j:=y.size
  let mut z:Array Keyed:=(ε [<- elem' x i])
  if i==0 then return nB x y z i j
  if j==1 then return Ak x y z i j
  let mut least:=gallopOf (<- get)
  for _ in [0:b] do
   let mut xs:=0
   let mut ys:=0
   for _ in [0:b] do
    let δ first <- lt' (<- elem' y (j - 1)) (<- elem' x (i - 1)) |return nB x y z i j
    if first then
     i:=i - 1;z:=z.push (<- elem' x i);xs:=xs+1;ys:=0
     if i==0 then return nB x y z i j
     if xs≥least then break
    else
     j:=j - 1;z:=z.push (<- elem' y j);ys:=ys+1;xs:=0
     if j==1 then return Ak x y z i j
     if ys≥least then break
   rule "list.sort.gallop"
   least:=least+1
   for _ in [0:b] do
    if least > 1 then least:=least - 1
    lX least
    let δ f <- hX ν (<- elem' y (j - 1)) x 0 i (i - 1) |return nB x y z i j
    let m:=i - f
    xs:=m
    if m > 0 then
     z:=z++(x.extract f i).reverse;i:=f
     if i==0 then return nB x y z i j
    j:=j - 1;z:=z.push (<- elem' y j)
    if j==1 then return Ak x y z i j
    let δ f <- hX μ (<- elem' x (i - 1)) y 0 j (j - 1) |return nB x y z i j
    let m:=j - f
    ys:=m
    if m > 0 then
     z:=z++(y.extract f j).reverse;j:=f
     if j==1 then return Ak x y z i j
     if j==0 then return nB x y z i j
    i:=i - 1;z:=z.push (<- elem' x i)
    if i==0 then return nB x y z i j
    if xs < 7&&ys < 7 then break
   least:=least+1
   lX least
  unsupported "internal:list.sort.merge-bound"):=rfl
abbrev wX:=rm (Array Keyed)×Nat×Nat×Array Keyed×Nat×Nat
abbrev mv:=rm (Array Keyed)×Nat×Nat×Array Keyed×Nat×Nat×Nat
abbrev wY:=rm (Array Keyed)×Nat×Nat×Array Keyed×Nat
def Hn(x y:Array Keyed)(l:Nat)(c:wX):StateT SortSt Sem (ForInStep wX):=do
 let b <- elem' y (c.2.2.1 - 1)
 let a <- elem' x (c.2.1 - 1)
 match <- lt' b a with
 |some first=>
  if first=μ then do
   let a <- elem' x (c.2.1 - 1)
   if (c.2.1 - 1==0)=μ then pure (.done (δ$ nB x y (c.2.2.2.1.push a) (c.2.1 - 1) c.2.2.1,c.2.1 - 1,c.2.2.1,c.2.2.2.1.push a,c.2.2.2.2.1+1,0))
   else if c.2.2.2.2.1+1≥l then pure (.done (θ,c.2.1 - 1,c.2.2.1,c.2.2.2.1.push a,c.2.2.2.2.1+1,0)) else pure (.yield (θ,c.2.1 - 1,c.2.2.1,c.2.2.2.1.push a,c.2.2.2.2.1+1,0))
  else do
   let b <- elem' y (c.2.2.1 - 1)
   if (c.2.2.1 - 1==1)=μ then pure (.done (δ$ Ak x y (c.2.2.2.1.push b) c.2.1$ c.2.2.1 - 1,c.2.1,c.2.2.1 - 1,c.2.2.2.1.push b,0,c.2.2.2.2.2+1))
   else if c.2.2.2.2.2+1≥l then pure (.done (θ,c.2.1,c.2.2.1 - 1,c.2.2.2.1.push b,0,c.2.2.2.2.2+1)) else pure (.yield (θ,c.2.1,c.2.2.1 - 1,c.2.2.2.1.push b,0,c.2.2.2.2.2+1))
 |_=>pure (.done (δ (nB x y c.2.2.2.1 c.2.1 c.2.2.1),c.2.1,c.2.2.1,c.2.2.2.1,c.2.2.2.2.1,c.2.2.2.2.2))
def rf(x y z:Array Keyed)(i j l X Y:Nat):StateT SortSt Sem (ForInStep mv):=do
 let a <- elem' x (i - 1)
 if (i - 1==0)=μ then pure (.done (δ$ nB x y (z.push a) (i - 1) j,i - 1,j,z.push a,l,X,Y))
 else if (decide (X < 7)&&decide (Y < 7))=μ then pure (.done (θ,i - 1,j,z.push a,l,X,Y)) else pure (.yield (θ,i - 1,j,z.push a,l,X,Y))
def EY(x y z:Array Keyed)(i j l X Y:Nat):StateT SortSt Sem (ForInStep mv):=do
 let b <- elem' y (j - 1)
 if (j - 1==1)=μ then pure (.done (δ$ Ak x y (z.push b) i$ j - 1,i,j - 1,z.push b,l,X,Y))
 else do
  let a <- elem' x (i - 1)
  match <- hX μ a y 0 (j - 1) (j - 1 - 1) with
  |some f=>
   if j - 1 - f > 0 then
    if (f==1)=μ then pure (.done (δ$ Ak x y (z.push b++(y.extract f$ j - 1).reverse) i f,i,f,z.push b++(y.extract f$ j - 1).reverse,l,X,j - 1 - f))
    else if (f==0)=μ then pure (.done (δ$ nB x y (z.push b++(y.extract f$ j - 1).reverse) i f,i,f,z.push b++(y.extract f$ j - 1).reverse,l,X,j - 1 - f))
    else rf x y (z.push b++(y.extract f$ j - 1).reverse) i f l X (j - 1 - f)
   else rf x y (z.push b) i (j - 1) l X (j - 1 - f)
  |_=>pure (.done (δ (nB x y (z.push b) i (j - 1)),i,j - 1,z.push b,l,X,Y))
def EX(x y z:Array Keyed)(i j l X Y:Nat):StateT SortSt Sem (ForInStep mv):=do
 lX l
 let b <- elem' y (j - 1)
 match <- hX ν b x 0 i (i - 1) with
 |some f=>
  if i - f > 0 then
   if (f==0)=μ then pure (.done (δ$ nB x y (z++(x.extract f i).reverse) f j,f,j,z++(x.extract f i).reverse,l,i - f,Y))
   else EY x y (z++(x.extract f i).reverse) f j l (i - f) Y
  else EY x y z i j l (i - f) Y
 |_=>pure (.done (δ (nB x y z i j),i,j,z,l,X,Y))
def Ho(x y:Array Keyed)(c:mv):StateT SortSt Sem (ForInStep mv):=
 if c.2.2.2.2.1 > 1 then EX x y c.2.2.2.1 c.2.1 c.2.2.1 (c.2.2.2.2.1 - 1) c.2.2.2.2.2.1 c.2.2.2.2.2.2
 else EX x y c.2.2.2.1 c.2.1 c.2.2.1 c.2.2.2.2.1 c.2.2.2.2.2.1 c.2.2.2.2.2.2
def Hq(x y:Array Keyed)(c:wY):StateT SortSt Sem (ForInStep wY):=do
 let d <- forIn [:x.size+y.size] ((θ,c.2.1,c.2.2.1,c.2.2.2.1,0,0):wX) λ_ d=>Hn x y c.2.2.2.2 d
 match d.1 with
 |some r=>pure (.done (δ r,d.2.1,d.2.2.1,d.2.2.2.1,c.2.2.2.2))
 |none=>do
  rule "list.sort.gallop"
  let d <- forIn [:x.size+y.size] ((θ,d.2.1,d.2.2.1,d.2.2.2.1,c.2.2.2.2+1,d.2.2.2.2.1,d.2.2.2.2.2):mv) λ_ d=>Ho x y d
  match d.1 with
  |some r=>pure (.done (δ r,d.2.1,d.2.2.1,d.2.2.2.1,d.2.2.2.2.1))
  |none=>do
   lX (d.2.2.2.2.1+1)
   pure (.yield (θ,d.2.1,d.2.2.1,d.2.2.2.1,d.2.2.2.2.1+1))
def CA(x y:Array Keyed):xS x y=(do
  rule "list.sort.merge-hi"
  let a <- elem' x (x.size - 1)
  if (x.size - 1==0)=μ then pure (nB x y (ε [a]) (x.size - 1) y.size)
  else if (y.size==1)=μ then pure (Ak x y (ε [a]) (x.size - 1) y.size)
  else do
   let t <- get
   let c <- forIn [:x.size+y.size] ((θ,x.size - 1,y.size,(ε [a]),gallopOf t):wY) λ_ c=>Hq x y c
   match c.1 with
   |some r=>pure r
   |none=>unsupported "internal:list.sort.merge-bound"):=by
 rw[xT];erw[Om λu=>Om λb=>?_];dsimp only;by_cases h:(x.size - 1==0)=μ
 .rw[Mv h,Mv h]
 rw[Mx h,Mx h];by_cases H:(y.size==1)=μ
 .rw[Mv H,Mv H]
 rw[Mx H,Mx H];erw[Om λt=>?_];erw[congr (MZ bind$ MZ (forIn _ _)$ funext λk=>funext λc=>?_)$ funext λc=>?_]
 .unfold Hq;refine congr (MZ bind$ MZ (forIn _ _)$ funext λk=>funext λd=>?_)$ funext λd=>?_
  .unfold Hn;rfl
  .let⟨D,e⟩:=d;cases D with
   |some r=>rfl
   |none=>
    dsimp only;erw[Om λu=>?_];erw[congr (MZ bind$ MZ (forIn _ _)$ funext λk=>funext λd=>?_)$ funext λd=>?_]
    .unfold Ho EX EY rf;rfl
    .let⟨D,e⟩:=d;cases D<;>rfl
 .let⟨D,e⟩:=c;cases D<;>rfl
section
variable {x y z:Array Keyed}{i j:Nat}{st:SortSt}
def GH{l v B:Nat}{Q:ForInStep wX->SortSt->Prop}(C:du P w A s κ G)(S:GS κ N G st)(e:a6 G x)(f:a6 G y)(H:a6 G z)(n:1<=i)(o:i<=x.size)(p:2<=j)(t:j<=y.size)(u:∀r d,a6 G r->Q (.done (δ r,d)) st)
  (q:∀m I J X Y,a6 G m->1<=I->I<=x.size->2<=J->J<=y.size->I+J < i+j->Q (.done (θ,I,J,m,X,Y)) st/\Q (.yield (θ,I,J,m,X,Y)) st):wpS (χ P w) A E s (Hn x y l (θ,i,j,z,v,B)) Q st:=by
 unfold Hn;erw[Mp$ jX (by show j - 1 < y.size;omega) f λb g=>Mp (jX (by show i - 1 < x.size;rwa[N09]) e λa c=>Mp (ZT C S g c λk=>?_))];cases k
 .erw[Mp$ jX (by show j - 1 < y.size;rwa[N09]) f λb g=>?_];dsimp only;split
  .rwa[Mr$ u _ _$ Y8 e f$ jS H g]
  .rename_i h
   let:=j7 h;split
   .rwa[Mr (q _ _ _ _ _ (jS H g) n o LA LA LA).1]
   .rwa[Mr (q _ _ _ _ _ (jS H g) n o LA LA LA).2]
 .erw[Mp$ jX (by show i - 1 < x.size;rwa[N09]) e λa c=>?_];dsimp only;split
  .rwa[Mr$ u _ _$ Xl e f$ jS H c]
  .rename_i h
   let:=j7 h;split
   .rwa[Mr (q _ _ _ _ _ (jS H c) LA LA p t N09).1]
   .rwa[Mr (q _ _ _ _ _ (jS H c) LA LA p t LA).2]
variable {Q:ForInStep mv->SortSt->Prop}{st0:SortSt}{t0:Nat}
structure Hf(κ:SortKind)(N:Nat)(G:Keyed->Prop)(x y:Array Keyed)(st0:SortSt)(t0:Nat)(Q:ForInStep mv->SortSt->Prop):Prop where
 r:∀r d st',a6 G r->KS κ N G st0 st'->Q (.done (δ r,d)) st'
 d:∀z' i' j' l' xs' ys' st',a6 G z'->1<=i'->i'<=x.size->2<=j'->j'<=y.size->i'+j'<=t0->KS κ N G st0 st'->Q (.done (θ,i',j',z',l',xs',ys')) st'/\Q (.yield (θ,i',j',z',l',xs',ys')) st'
def Bs{l X Y:Nat}(S:KS κ N G st0 st)(b:a6 G x)(e:a6 G y)(H:a6 G z)(I:1<=i)(f:i<=x.size)(J:2<=j)(c:j<=y.size)(k:i+j<=t0)(q:Hf κ N G x y st0 t0 Q):wpS (χ P w) A E s (rf x y z i j l X Y) Q st:=by
 unfold rf;erw[Mp$ jX (by show i - 1 < x.size;rwa[N09]) b λa g=>?_];split
 .rwa[Mr$ q.r _ _ _ (Xl b e$ jS H g) S]
 .rename_i h
  let:=j7 h;split
  .rwa[Mr (q.d _ _ _ _ _ _ _ (jS H g) LA LA J c LA S).1]
  .rwa[Mr (q.d _ _ _ _ _ _ _ (jS H g) LA LA J c LA S).2]
def Br{l X Y:Nat}(C:du P w A s κ G)(S:KS κ N G st0 st)(c:a6 G x)(H:a6 G y)(d:a6 G z)(I:1<=i)(e:i<=x.size)(J:2<=j)(n:j<=y.size)(o:i+j<=t0)(q:Hf κ N G x y st0 t0 Q):wpS (χ P w) A E s (EY x y z i j l X Y) Q st:=by
 unfold EY;erw[Mp$ jX (by show j - 1 < y.size;omega) H λb g=>?_];split
 .rwa[Mr$ q.r _ _ _ (Y8 c H$ jS d g) S]
 rename_i h
 let p:=j7 h;erw[Mp$ jX (by show i - 1 < x.size;omega) c λa f=>Mp (Qs C S.s f LA N09 H λF t=>?_)];dsimp only;split
 .split
  .rwa[Mr$ q.r _ _ _ (Y8 c H$ zb (jS d g)$ qO$ kW H) S]
  .rename_i k
   let:=j7 k;split
   .rwa[Mr$ q.r _ _ _ (Xl c H$ zb (jS d g)$ qO$ kW H) S]
   .rename_i m
    let:=j7 m;rwa[Bs S c H (zb (jS d g)$ qO$ kW H) I e LA LA LA q]
 .rwa[Bs S c H (jS d g) I e LA LA LA q]
def Bq{l X Y:Nat}(C:du P w A s κ G)(S:KS κ N G st0 st)(h:a6 G x)(H:a6 G y)(a:a6 G z)(I:1<=i)(f:i<=x.size)(J:2<=j)(d:j<=y.size)(g:i+j<=t0)(q:Hf κ N G x y st0 t0 Q):wpS (χ P w) A E s (EX x y z i j l X Y) Q st:=by
 unfold EX;erw[Mp$ Y6 S.s λc e p k=>?_];let K:KS κ N G st0 c:=S.trans #[e,p,k];erw[Mp$ jX (by show j - 1 < y.size;omega) H λb m=>Mp (Qs C e m LA N09 h λF o=>?_)];dsimp only;split
 .split
  .rwa[Mr$ q.r _ _ _ (Xl h H$ zb a$ qO$ kW h) K]
  .rename_i n
   let:=j7 n;rwa[Br C K h H (zb a$ qO$ kW h) LA LA J d LA q]
 .rwa[Br C K h H a I f J d g q]
def GJ{l X Y:Nat}(C:du P w A s κ G)(S:KS κ N G st0 st)(h:a6 G x)(H:a6 G y)(a:a6 G z)(I:1<=i)(b:i<=x.size)(J:2<=j)(c:j<=y.size)(d:i+j<=t0)(q:Hf κ N G x y st0 t0 Q):wpS (χ P w) A E s (Ho x y (θ,i,j,z,l,X,Y)) Q st:=by
 unfold Ho;dsimp only;split
 .rwa[Bq C S h H a I b J c d q]
 .rwa[Bq C S h H a I b J c d q]
end
def GK{x y z:Array Keyed}{i j o:Nat}{st f:SortSt}{Q:ForInStep wY->SortSt->Prop}(C:du P w A s κ G)(S:KS κ N G f st)(U:a6 G x)(V:a6 G y)(hz:a6 G z)(i1:1<=i)(hi:i<=x.size)(O:2<=j)(hj:j<=y.size)
  (W:∀r d a,a6 G r->KS κ N G f a->Q (.done (δ r,d)) a) (qd:∀e b J L a,a6 G e->1<=b->b<=x.size->2<=J->J<=y.size->b+J < i+j->KS κ N G f a->Q (.yield (θ,b,J,e,L)) a):wpS (χ P w) A E s (Hq x y (θ,i,j,z,o)) Q st:=by
 unfold Hq;erw[Mp$ NT (Nb (I:=λk c a=>a=st/\∃e b J X Y,c=(θ,b,J,e,X,Y)/\a6 G e/\1<=b/\b<=x.size/\2<=J/\J<=y.size/\b+J+min k 1<=i+j) (Q:=λc a=>a=st/\((∃r d,c=(δ r,d)/\a6 G r)∨∃e b J X Y,c=(θ,b,J,e,X,Y)/\a6 G e/\1<=b/\b<=x.size/\2<=J/\J<=y.size/\b+J < i+j)) ?_ ?_ #[Z,z,i,j,0,0,Z,hz,i1,hi,O,hj,LA]) ?_]
 .rintro k c g a1 R ⟨rfl,e,b,J,X,Y,rfl,H,B,l,m,n,t⟩;rwa[GH C S.s U V H B l m n (λr d p=>#[Z,.inl #[r,d,Z,p]]) λz2 i2 O x2 y2 u v D F K T=>#[#[Z,.inr #[_,_,_,_,_,Z,u,v,D,F,K,LA]],Z,_,_,_,_,_,Z,u,v,D,F,K,LA]]
 .rintro c g ⟨rfl,e,b,J,X,Y,rfl,H,B,l,m,n,t⟩;exact#[Z,.inr #[_,_,_,_,_,Z,H,B,l,m,n,LA]]
 rintro c g ⟨rfl,⟨r,d,rfl,p⟩ | ⟨e,b,J,X,Y,rfl,H,B,l,m,n,t⟩⟩
 .rwa[Mr$ W _ _ _ p S]
 dsimp only;erw[Mp$ Rg$ Nx #[Z,?_]];erw[Mp$ NT (Nb (I:=λ_ c a=>KS κ N G f a/\∃e b J L X Y,c=(θ,b,J,e,L,X,Y)/\a6 G e/\1<=b/\b<=x.size/\2<=J/\J<=y.size/\b+J<=i+j - 1) (Q:=λc a=>KS κ N G f a/\((∃r d,c=(δ r,d)/\a6 G r)∨∃e b J L X Y,c=(θ,b,J,e,L,X,Y)/\a6 G e/\1<=b/\b<=x.size/\2<=J/\J<=y.size/\b+J<=i+j - 1)) ?_ ?_ #[S,e,b,J,_,X,Y,Z,H,B,l,m,n,LA]) ?_]
 .rintro k c g a1 R ⟨q,e,b,J,L,X,Y,rfl,H,B,l,m,n,t⟩;rwa[GJ (t0:=i+j - 1) C q U V H B l m n t #[λr d a p M=>#[M,.inl #[r,d,Z,p]],λz2 i2 O l2 x2 y2 a u v D F K T M=>#[#[M,.inr #[_,_,_,_,_,_,Z,u,v,D,F,K,T]],M,_,_,_,_,_,_,Z,u,v,D,F,K,T]]]
 .rintro c g ⟨q,e,b,J,L,X,Y,rfl,h⟩;exact#[q,.inr #[_,_,_,_,_,_,Z,h]]
 rintro c g ⟨q,⟨r,d,rfl,p⟩ | ⟨e,b,J,L,X,Y,rfl,H,B,l,m,n,t⟩⟩
 .rwa[Mr$ W _ _ _ p q]
 dsimp only;rwa[Mp$ Y6 q.s λs0 S2 p2 R=>Mr (qd _ _ _ _ _ H B l m n LA$ q.trans #[S2,p2,R])]
def GQ{x y:Array Keyed}{st:SortSt}{Q:Array Keyed->SortSt->Prop}(C:du P w A s κ G)(S:GS κ N G st)(H:a6 G x)(o:a6 G y)(X:1<=x.size)(Y:1<=y.size)(q:∀z e,a6 G z->KS κ N G st e->Q z e):wpS (χ P w) A E s (xS x y) Q st:=by
 let p:KS κ N G st st:=#[S,Z,Z];rw[CA];erw[Mp$ Rg$ Nx #[Z,?_]];erw[Mp$ jX N09 H λa J=>?_];let t:a6 G (ε [a]):=λb M=>by rw[τ.mp M];rwa[J]
 by_cases g:(x.size - 1==0)=μ
 .rw[Mv g];rwa[Mr$ q _ _ (Xl H o t) p]
 rw[Mx g];by_cases l:(y.size==1)=μ
 .rw[Mv l];rwa[Mr$ q _ _ (Y8 H o t) p]
 rw[Mx l];let l:=j7 l;let g:=j7 g;erw[Mp$ PJ ?_];erw[Mp$ NT (Nb (I:=λk c e=>KS κ N G st e/\∃m i j L,c=(θ,i,j,m,L)/\a6 G m/\1<=i/\i<=x.size/\2<=j/\j<=y.size/\i+j+1+k<=x.size+y.size) (Q:=λc e=>KS κ N G st e/\∃r d,c=(δ r,d)/\a6 G r) ?_ ?_ #[p,_,x.size - 1,y.size,_,Z,t,LA,N09,LA,LA,LA]) ?_]
 .rintro k c f a1 a2 ⟨n,m,i,j,L,rfl,h,B,v,D,F,O⟩;rwa[GK C n H o h B v D F (λr d e u K=>#[K,r,d,Z,u]) λz2 i2 j2 l2 e R T U V W c5 K=>#[K,_,_,_,_,Z,R,T,U,V,W,LA]]
 .rintro c f ⟨n,m,i,j,L,rfl,h,B,v,D,F,O⟩;exfalso;omega
 rintro c f ⟨n,r,d,rfl,u⟩;rwa[Mr$ q _ _ u n]
def GX{t st:SortSt}{Q:PUnit->SortSt->Prop}(h:Q #[] t):wpS (χ P w) A E s (set t:StateT SortSt Sem PUnit) Q st:=by unfold wpS;show π _ _ (pure (PUnit.unit,t)) _ _ _;rwa[Mh #[Z,h]]
def bY:Nat->ri (Nat×Nat×Nat)->Nat->Prop
 |a,[],b=>a=b
 |a,r::R,b=>r.1=a/\1<=r.2.1/\bY (a+r.2.1) R b
theorem bY.le:∀{R:ri (Nat×Nat×Nat)} {a b:Nat},bY a R b->a<=b
 | [],_,_,h=>P5 h
 |r::R,_,_,z=>by let⟨_,_,h⟩:=z;rwa[Mw (Oi _ _) h.le]
theorem bY.snoc:∀{R:ri (Nat×Nat×Nat)} {a b n p:Nat},bY a R b->1<=n->bY a (R++[(b,n,p)]) (b+n)
 | [],_,_,_,_,h,k=>by cases h;exact#[Z,k,Z]
 |r::R,_,_,_,_,#[H,c,d],k=>#[H,c,d.snoc k]
theorem bY.two:∀{R:ri (Nat×Nat×Nat)} {a b i:Nat} {r t:Nat×Nat×Nat},bY a R b->R[i]?=δ r->R[i+1]?=δ t->t.1=r.1+r.2.1/\1<=r.2.1/\1<=t.2.1/\t.1+t.2.1<=b/\bY a ((R.set i (r.1,r.2.1+t.2.1,r.2.2)).eraseIdx$ i+1) b
 |r0::T::R,a,b,0,r,t,q,e,c=>by let⟨h,d,H,g,f⟩:=q;cases e;cases c;erw[#[by rw[H,h],d,g,by rw[H];rwa[f.le],h,by show 1<=r0.2.1+T.2.1;omega,?_]];show bY (a+(r0.2.1+T.2.1)) R b;rw[<- Nat.add_assoc];rwa[f]
 |r0::R,a,b,i+1,r,t,q,e,c=>by let⟨h,d,H⟩:=q;let⟨k,K,j,l,m⟩:=H.two (i:=i) (e:) (c:);exact#[k,K,j,l,h,d,m]
 | [r0],_,_,0,_,_,_,_,c=>by simp at c
 | [],_,_,_,_,_,_,e,_=>by simp at e
theorem bY.power:∀{R:ri (Nat×Nat×Nat)} {a b i p:Nat},bY a R b->bY a (R.modify i λr=>(r.1,r.2.1,p)) b
 | [],_,_,_,_,h=>by rw[List.modify_nil];rwa[h]
 |r::R,_,_,0,_,z=>by let⟨H,c,d⟩:=z;rwa[#[H,c,d]]
 |r::R,_,_,i+1,_,z=>by let⟨H,c,d⟩:=z;rwa[#[H,c,d.power]]
theorem XE{G:Keyed->Prop}{k:Nat}:∀(l:ri (Keyed×Nat)) {xs:Array Keyed},(∀p∈l,G p.1)->a6 G xs->(l.foldl (λ(a:Array Keyed) (p:Keyed×Nat)=>a.setIfInBounds (k+p.2) p.1) xs).size=xs.size/\a6 G (l.foldl (λ(a:Array Keyed) (p:Keyed×Nat)=>a.setIfInBounds (k+p.2) p.1) xs)
 | [],_,_,h=>#[Z,h]
 |p::l,xs,b,h=>by
  let⟨c,d⟩:=XE l (xs:=xs.setIfInBounds (k+p.2) p.1) (λq e=>b q (ML _ e)) (λy H=>by
   rw[Array.toList_setIfInBounds]at H;rcases Su H with H |rfl
   .rwa[h y H]
   .rwa[b p Mz])
  exact#[c.trans Lz,d]
def Cz(i:Nat):mergeAt' i=(do
  let t <- get
  let (δ (S,n,p),δ (c,b,_)):=((pendingOf t)[i]?,(pendingOf t)[i+1]?) |unsupported "internal:list.sort.pending"
  set (SortSt.mk' (kindOf t) (arrOf t) (((pendingOf t).setIfInBounds i (S,n+b,p)).eraseIdxIfInBounds$ i+1) (gallopOf t)$ failedOf t)
  let δ k <- hX ν (<- elem' (arrOf t) c) (arrOf t) S n 0 |return ν
  let (S,n):=(S+k,n - k)
  if n==0 then return μ
  let δ b <- hX μ (<- elem' (arrOf t) (S+n - 1)) (arrOf t) c b (b - 1) |return ν
  if b==0 then return μ
  let x:=(arrOf t).extract S c
  let y:=(arrOf t).extract c (c+b)
  let z <- if n<=b then xV x y else xS x y
  modify λt=>setArr t (z.toList.zipIdx.foldl (λa (p,j)=>a.setIfInBounds (S+j) p)$ arrOf t)
  return (failedOf (<- get)).isNone):=rfl
def Bw{i lo:Nat}{st:SortSt}{Q:Bool->SortSt->Prop}(C:du P w A s κ G)(S:GS κ N G st)(R:bY 0 (pendingOf st).toList lo)(Y:lo<=N)(hi:i+1 < (pendingOf st).size)
  (q:∀d,GS κ N G d->bY 0 (pendingOf d).toList lo->(pendingOf d).size+1=(pendingOf st).size->Q μ d):wpS (χ P w) A E s (mergeAt' i) Q st:=by
 rw[Cz];erw[Mp$ PJ ?_];obtain⟨⟨e,n,p⟩,B⟩:∃r,(pendingOf st)[i]?=δ r:=#[(pendingOf st)[i],Nj _];obtain⟨⟨m,h,p2⟩,D⟩:∃r,(pendingOf st)[i+1]?=δ r:=#[(pendingOf st)[i+1],Nj _];let⟨k1,k2,k3,k4,v⟩:=R.two (i:=i) (by rw[Nu];rwa[B]) (by rw[Nu];rwa[D]);simp only at k1 k2 k3 k4;rw[B,D];dsimp only;let z:=S.z;erw[Mp$ GX ?_];let o:GS κ N G (SortSt.mk' (kindOf st) (arrOf st) (((pendingOf st).setIfInBounds i (e,n+h,p)).eraseIdxIfInBounds$ i+1) (gallopOf st)$ failedOf st):=#[S.k,S.z,S.g,S.f];let H:(((pendingOf st).setIfInBounds i (e,n+h,p)).eraseIdxIfInBounds$ i+1).toList=((pendingOf st).toList.set i (e,n+h,p)).eraseIdx (i+1):=by simp
 let I:(((pendingOf st).setIfInBounds i (e,n+h,p)).eraseIdxIfInBounds$ i+1).size+1=(pendingOf st).size:=by rw[<- ME,H,List.length_eraseIdx,O2,ME,Mv hi];omega
 rw[<- H]at v;let F:∀d,KS κ N G (SortSt.mk' (kindOf st) (arrOf st) (((pendingOf st).setIfInBounds i (e,n+h,p)).eraseIdxIfInBounds$ i+1) (gallopOf st)$ failedOf st) d->Q μ d:=λd y=>q d y.s (by rw[y.p];rwa[v]) (by rw[y.p];rwa[I]);let J:KS κ N G (SortSt.mk' (kindOf st) (arrOf st) (((pendingOf st).setIfInBounds i (e,n+h,p)).eraseIdxIfInBounds$ i+1) (gallopOf st)$ failedOf st) (SortSt.mk' (kindOf st) (arrOf st) (((pendingOf st).setIfInBounds i (e,n+h,p)).eraseIdxIfInBounds$ i+1) (gallopOf st)$ failedOf st):=#[o,Z,Z];erw[Mp$ jX LA S.g λb gb=>Mp (Qs C o gb LA LA S.g λk hk=>?_)];dsimp only;split
 .rwa[Mr$ F _ J]
 rename_i M
 let M:=j7 M;erw[Mp$ jX LA S.g λa ga=>Mp (Qs C o ga LA LA S.g λl hl=>?_)];dsimp only;split
 .rwa[Mr$ F _ J]
 rename_i O
 let O:=j7 O;let T:a6 G ((arrOf st).extract (e+k) m):=kW S.g;let U:a6 G ((arrOf st).extract m$ m+l):=kW S.g;let V:1<=((arrOf st).extract (e+k) m).size:=by rw[Rr];omega
 let W:1<=((arrOf st).extract m$ m+l).size:=by rw[Rr];omega
 let L:∀(z:Array Keyed) (c:SortSt),a6 G z->KS κ N G (SortSt.mk' (kindOf st) (arrOf st) (((pendingOf st).setIfInBounds i (e,n+h,p)).eraseIdxIfInBounds$ i+1) (gallopOf st)$ failedOf st) c->wpS (χ P w) A E s (do
   modify λt=>setArr t (z.toList.zipIdx.foldl (λa (p,j)=>a.setIfInBounds (e+k+j) p)$ arrOf t)
   let t <- get
   pure (failedOf t).isNone) Q c:=by
  intro z c u K;let⟨f1,f2⟩:=XE (k:=e+k) z.toList.zipIdx (xs:=arrOf c) (λp hp=>u _ (List.fst_mem_of_mem_zipIdx hp)) K.s.g;let X:GS κ N G (setArr c$ z.toList.zipIdx.foldl (λ(a:Array Keyed) (p:Keyed×Nat)=>a.setIfInBounds (e+k+p.2) p.1)$ arrOf c):=K.s.arr (f1.trans K.s.z) f2;erw[Mp$ Pm$ Mp$ PJ$ Mr ?_];let:(failedOf$ setArr c$ z.toList.zipIdx.foldl (λ(a:Array Keyed) (p:Keyed×Nat)=>a.setIfInBounds (e+k+p.2) p.1)$ arrOf c).isNone=μ:=by rw[X.f];rfl
  show Q (failedOf$ setArr c _).isNone _;rw[show(failedOf$ setArr c$ z.toList.zipIdx.foldl (λ(a:Array Keyed) (x:Keyed×Nat)=>match x with | (p,j)=>a.setIfInBounds (e+k+j) p)$ arrOf c).isNone=μ from this];rwa[q _ X (by show bY 0 (pendingOf c).toList lo;rw[K.p];rwa[v]) (by show(pendingOf c).size+1=_;rw[K.p];rwa[I])]
 split
 .rwa[Mp$ GU C o T U V W λz c u K=>L z c u K]
 .rwa[Mp$ GQ C o T U V W λz c u K=>L z c u K]
def Hw(p:Nat):StateT SortSt Sem (ForInStep$ rm Unit×Unit):=do
 let t <- get
 match (if (pendingOf t).size > 1 then (pendingOf t)[(pendingOf t).size - 2]? else θ) with
 |some (_,_,o)=>
  if o<=p then pure (.done (θ,()))
  else do
   let k <- mergeAt' ((pendingOf t).size - 2)
   if (!k)=μ then pure (.done (δ (),())) else pure (.yield (θ,()))
 |_=>pure (.done (θ,()))
def Ek(N lo n:Nat):StateT SortSt Sem (ForInStep$ rm Unit×Nat):=do
 let t <- get
 match (pendingOf t).back? with
 |some (S,a,_)=>do
  let c <- forIn [:N] ((θ,()):rm Unit×Unit) λ_ _=>Hw (power' N (2*S+a) (2*S+a+a+n) N)
  match c.1 with
  |some r=>pure (.done (δ r,lo))
  |none=>do
   modify λt=>setPending t ((pendingOf t).modify ((pendingOf t).size - 1) λr=>(r.1,r.2.1,power' N (2*S+a) (2*S+a+a+n) N))
   modify λt=>setPending t ((pendingOf t).push (lo,n,0))
   pure (.yield (θ,lo+n))
 |_=>do
  modify λt=>setPending t ((pendingOf t).push (lo,n,0))
  pure (.yield (θ,lo+n))
def Bx{lo n:Nat}{st:SortSt}{Q:ForInStep (rm Unit×Nat)->SortSt->Prop}(C:du P w A s κ G)(S:GS κ N G st)(R:bY 0 (pendingOf st).toList lo)(l:lo<=N)(m:1<=n)
  (q:∀e,GS κ N G e->bY 0 (pendingOf e).toList (lo+n)->Q (.yield (θ,lo+n)) e):wpS (χ P w) A E s (Ek N lo n) Q st:=by
 unfold Ek;erw[Mp$ PJ ?_];let push:∀d,GS κ N G d->bY 0 (pendingOf d).toList lo->GS κ N G (setPending d ((pendingOf d).push (lo,n,0)))/\bY 0 (pendingOf$ setPending d ((pendingOf d).push (lo,n,0))).toList (lo+n):=λd i r=>#[#[i.k,i.z,i.g,i.f],by
  show bY 0 ((pendingOf d).push (lo,n,0)).toList (lo+n);rw[Pb];rwa[r.snoc m]]
 split
 .refine Mp$ NT (Nb (I:=λ_ c e=>c=(θ,())/\GS κ N G e/\bY 0 (pendingOf e).toList lo) (Q:=λc e=>c=(θ,())/\GS κ N G e/\bY 0 (pendingOf e).toList lo) ?_ (λ_ _ h=>h) #[Z,S,R]) ?_
  .rintro k c d _ _ ⟨rfl,i,r⟩;unfold Hw;erw[Mp$ PJ ?_];split
   .split
    .rwa[Mr #[Z,i,r]]
    .rename_i D F J x o j K
     let H:(pendingOf d).size > 1:=by
      by_cases H:(pendingOf d).size > 1
      .rwa[H]
      .rw[Mx H]at j;cases j
     rwa[Mp$ Bw C i r l N09 λt u R2 _=>Mr #[Z,u,R2]]
   .rwa[Mr #[Z,i,r]]
  .rintro c d ⟨rfl,i,r⟩;dsimp only;erw[Mp$ Pm ?_];erw[Mp$ Pm$ Mr ?_];let v:∀p:Array (Nat×Nat×Nat),bY 0 p.toList lo->Q (.yield (θ,lo+n)) (setPending (setPending d p)$ p.push (lo,n,0)):=λp h=>by let⟨a,b⟩:=push (setPending d p) #[i.k,i.z,i.g,i.f] h;exact q _ a b
   rwa[v _ (by rw[Array.toList_modify];rwa[r.power])]
 .erw[Mp$ Pm$ Mr ?_];let⟨y,B⟩:=push st S R;rwa[q _ y B]
def GV{a:Type}{m M:StateT SortSt Sem a}{st:SortSt}{Q:a->SortSt->Prop}(e:M=m)(h:wpS (χ P w) A E s m Q st):wpS (χ P w) A E s M Q st:=by rw[e];rwa[h]
def D8{st:SortSt}{Q:Unit->SortSt->Prop}(C:du P w A s κ G)(S:GS κ N G st)(x:pendingOf st=(ε []))(q:∀a,GS κ N G a->Q () a):wpS (χ P w) A E s sortRuns' Q st:=by
 rw[sortRuns'_eq];erw[Mp$ PJ ?_];rw[S.z];dsimp only;erw[Mp$ NT (Nb (I:=λ_ c a=>∃lo,c=(θ,lo)/\lo<=N/\GS κ N G a/\bY 0 (pendingOf a).toList lo) (Q:=λc a=>∃lo,c=(θ,lo)/\lo<=N/\GS κ N G a/\bY 0 (pendingOf a).toList lo) ?_ (λ_ _ h=>h) #[0,Z,Mu _,S,by rw[x];rwa[Z]]) ?_]
 .rintro k c i _ _ ⟨lo,rfl,H,g,R⟩;dsimp only;split
  .rwa[Mr #[lo,Z,H,g,R]]
  rename_i y
  erw[Mp$ Ao C g LA LA λn b e B D T=>?_];dsimp only;let R2:bY 0 (pendingOf b).toList lo:=by rw[B];rwa[R]
  split
  .rename_i U
   erw[Mp$ Rg$ Nx #[Z,?_]];erw[Mp$ GG C e N09 λf j F=>?_];let l:bY 0 (pendingOf f).toList lo:=by rw[F];rwa[R2]
   rw[Mx Lz];erw[GV (m:=Ek N lo (min (N - lo)$ minRun' N N 0)) ?_$ Bx C j l H N09 λo p u=>#[_,Z,LA,p,u]];unfold Ek;erw[Om λt=>?_];cases (pendingOf t).back? with
   |none=>rfl
   |some r=>
    let⟨J,K,L⟩:=r;dsimp only;erw[congr (MZ bind$ MZ (forIn _ _)$ funext λk=>funext λd=>?_)$ funext λc=>?_]
    .unfold Hw;erw[Om λt=>?_];cases (if (pendingOf t).size > 1 then (pendingOf t)[(pendingOf t).size - 2]? else θ) with
     |none |some r=>rfl
    .let⟨v,M⟩:=c;cases v<;>rfl
  .erw[GV (m:=Ek N lo n) ?_$ Bx C e R2 H D λo p u=>#[_,Z,LA,p,u]];unfold Ek;erw[Om λt=>?_];cases (pendingOf t).back? with
   |none=>rfl
   |some r=>
    let⟨J,K,L⟩:=r;dsimp only;erw[congr (MZ bind$ MZ (forIn _ _)$ funext λk=>funext λd=>?_)$ funext λc=>?_]
    .unfold Hw;erw[Om λt=>?_];cases (if (pendingOf t).size > 1 then (pendingOf t)[(pendingOf t).size - 2]? else θ) with
     |none |some r=>rfl
    .let⟨v,M⟩:=c;cases v<;>rfl
 rintro c i ⟨lo,rfl,H,g,R⟩;dsimp only;erw[Mp$ NT (Nb (I:=λ_ c a=>c=(θ,())/\GS κ N G a/\bY 0 (pendingOf a).toList lo) (Q:=λc a=>c=(θ,())/\GS κ N G a/\bY 0 (pendingOf a).toList lo) ?_ (λ_ _ h=>h) #[Z,g,R]) ?_]
 .rintro k c b _ _ ⟨rfl,e,R2⟩;erw[Mp$ PJ ?_];split
  .rwa[Mr #[Z,e,R2]]
  rename_i V
  let O:∀(c:Prop) [Decidable c],(if c then (pendingOf b).size - 2 - 1 else (pendingOf b).size - 2)+1 < (pendingOf b).size:=λc _=>by split<;>rwa[N09]
  rwa[Mp$ Bw C e R2 H (O _) λf j l _=>Mr #[Z,j,l]]
 .rintro c b ⟨rfl,e,R2⟩;rwa[Mr$ q _ e]
end
section
variable {prog:ω}{w:bS}{A:bx}{E:η->ι->Prop}{s:ι}
def YU{a:ζ}{V:ri η}{d:ri (ri Int)}{n:Nat}{P:Fin->ι->Prop}(D:s.heap.get? a=δ (seqObj "list" V.toArray n))(N:ο V=ο d)(h2:2<=ο V)(R:ο V<=100000)
  (U:∀(i:Nat) (v:η) (p:ri Int),V[i]?=δ v->d[i]?=δ p->BC s.heap v p/\p≠[]/\v≠ .ref a)
  (h:∀O:Array η,O.size=ο V->(∀u∈O.toList,u∈V)->P (.done$ .ret .none) ‹sortedHeap s.heap a V O›):
  π (χ prog w) A (dw.«list.sort» #[[.ref a],[]]) P E s:=by
 rw[SI];let la:a < -s:=Mn D;erw[Me$ TJ D Z ?_];erw[Me$ O5 D Z ?_];obtain⟨B,I⟩:∃B,(s.heap.update a$ bm λ_=>(ε [])).get? a=δ (seqObj "list" (ε []) B):=#[_,SJ D (λ_=>(ε []))];erw[Me$ PR I Z ?_];erw[Me$ O0 ?_ (by show ο V<=_;rw[Op];omega)];erw[Me$ OT ?_];erw[MJ ?_];let J:(((s.heap.update a$ bm λ_=>(ε [])).push$ seqObj "tuple" V.toArray 0).push$ seqObj "list" (ε []) 0).get? a=δ (seqObj "list" (ε []) B):=Mg _ (Mg _ I);let K:∀c v,c≠a->s.heap.get? c=δ v->(((s.heap.update a$ bm λ_=>(ε [])).push$ seqObj "tuple" V.toArray 0).push$ seqObj "list" (ε []) 0).get? c=δ v:=λc v W e=>
  Mg _ (Mg _ (by rw[Ts _ _ _ _ W];rwa[e]))
 show π (χ prog w) A _ P E ‹((s.heap.update a$ bm λ_=>(ε [])).push$ seqObj "tuple" V.toArray 0).push (seqObj "list" (ε []) 0)›;dsimp only;let k:∀(i:Nat) (v:η) (p:ri Int),V[i]?=δ v->d[i]?=δ p->BC (((s.heap.update a$ bm λ_=>(ε [])).push$ seqObj "tuple" V.toArray 0).push$ seqObj "list" (ε []) 0) v p/\p≠[]:=λi v p X Y=>by obtain⟨⟨b,o,us,m,rfl,b1,b2,b3,b4⟩,hp,F⟩:=U i v p X Y;exact#[#[b,o,us,m,Z,K _ _ (λz=>F (by rw[z])) b1,b2,b3,b4],hp]
 let⟨fs,f1,f2,f3⟩:=Zt N k;let C:¬V.toArray.size < 2:=by rw[Mm];omega
 rw[Mx C,Mx C];erw[Me$ kat_kind (T:=.type "int") f3 LA (λf hf=>?_) LB ?_]
 .let⟨i,t,rfl⟩:=f2 f hf;rwa[Ss Z]
 let G:∀b,du prog w A ‹((s.heap.update a$ bm λ_=>(ε [])).push$ seqObj "tuple" V.toArray 0).push (seqObj "list" (ε []) 0)› (tuples' b) (λx:Keyed=>∃i:Nat,V[i]?=δ x.1/\x.2=x.1):=by intro b x y l hy;let⟨i,H,_⟩:=l;let⟨j,L,_⟩:=hy;let li:=(ξ.mp H).1;let lj:=(ξ.mp L).1;let B:d[i]?=δ (d[i]'LA):=Mf _;let e2:d[j]?=δ (d[j]'LA):=Mf _;exact#[_,λE Q q=>Gz (k i _ _ H B).1 (k j _ _ L e2).1 q]
 let eF:GS (tuples'$ de "int" != de "tuple") V.length (λx:Keyed=>∃i:Nat,V[i]?=δ x.1/\x.2=x.1) (SortSt.mk' (tuples'$ de "int" != de "tuple") (V.toArray.zip V.toArray) (ε []) 7 θ):=by
  erw[#[Z,?_,λx l=>?_,Z]]
  .show(V.toArray.zip V.toArray).size=ο V;simp
  .let l:x∈V.zip V:=by simpa using l
   let⟨i,H⟩:=mF.mp l;rw[Pa]at H;exact#[i,H.1,by let:=H.1.symm.trans H.2;injection this with this;rwa[this.symm]]
 erw[Me$ Nk (D8 (Q:=λ_ S=>GS (tuples'$ de "int" != de "tuple") V.length (λx:Keyed=>∃i:Nat,V[i]?=δ x.1/\x.2=x.1) S) (G _) eF Z λS r=>r) ?_ λ_ _ e=>e];rintro ⟨⟨⟩,S⟩ s' ⟨rfl,r⟩;dsimp only;erw[Me$ PR J Z ?_];erw[Me$ O5 J Z ?_ (hsz2:=by rw[Uj,r.z,Op];omega)];rw[r.f];simp only[NE,Ms,Ny];erw[Mh ?_];erw[h _ (by rw[Uj];rwa[r.z]) λu M=>?_];rw[Array.toList_map]at M;let⟨x,l,rfl⟩:=dg.mp M;let⟨i,H,e⟩:=r.g x l;rw[e];rwa[MM H]
def Ab{l:ζ}{vs:ri η}{ps:ri (ri Int)}{Q:η->ι->Prop}(f:s.heap.IsList l vs.toArray)(H:ο vs=ο ps)(j:2<=ο vs)(b:ο vs<=100000)
  (q:∀(i:Nat) (v:η) (p:ri Int),vs[i]?=δ v->ps[i]?=δ p->BC s.heap v p/\p≠[])
  (h:∀O:Array η,O.size=ο vs->(∀u∈O.toList,u∈vs)->Q (.ref$ -s+1) ‹sortedAll s.heap vs O›):π (χ prog w) A (call (.builtin "sorted") [.ref l]) Q E s:=by
 erw[OF Sy Sa Sb (Sc _) ?_];unfold dw.«sorted»;erw[Me (m:=checkCount "sorted" 1 1 _)$ Mh ?_];erw[Me$ TM f ?_ (by rw[Op];omega)];erw[Me$ OT ?_ (by rw[Op];omega)];let d:((s.heap.push$ seqObj "list" (ε []) 0).update (-s)$ bm (·++vs.toArray)).objs.size=-s+1:=by rw[RP,Ta]
 let g:(((s.heap.push$ seqObj "list" (ε []) 0).update (-s)$ bm (·++vs.toArray)).push$ seqObj "list" vs.toArray 0).get? (-s+1)=δ (seqObj "list" vs.toArray 0):=by rw[<- d];rwa[Mo _ Z]
 let k:∀c v,s.heap.get? c=δ v->(((s.heap.push$ seqObj "list" (ε []) 0).update (-s)$ bm (·++vs.toArray)).push$ seqObj "list" vs.toArray 0).get? c=δ v:=λc v e=>
  Mg _ (by rw[Ts _ _ _ _$ Mt$ Mn e];rwa[Mg _ e])
 show π _ _ _ _ _ ‹((s.heap.push$ seqObj "list" (ε []) 0).update (-s)$ bm (·++vs.toArray)).push (seqObj "list" vs.toArray 0)›;rw[d];erw[Me$ MJ$ MY Ru #[_,g,Z] Ro (YU g H j b (λi v p r t=>?_) λO x y=>#[_,Z,?_]) (RC _)]
 .obtain⟨⟨a,o,U,n,rfl,B,C,D,F⟩,G⟩:=q i v p r t;exact#[#[a,o,U,n,Z,k _ _ B,C,D,F],G,λz=>by injection z with z;rwa[absurd z$ Mt$ Of$ Mn B]]
 .rwa[Mh #[_,Z,h O x y]]
end
section
variable {X:Cx}
inductive uR(K:Ψ)(c:ri V)(H:Hp)(Q:VK):Prop
 |mk(l:ζ)(b:ri V)(_:c=[.ref l])(_:aI K H l b)(_:ο b<=100000)(_:∀v∈b,∃(a:ζ) (p:ri Int),v= .ref a/\H a=δ (.tup (p.map qs))/\p≠[])(_:∀(r:ζ) (ws:ri V),H r=θ->Q (.ref r) (ah H r (.lst ws)))
def Xj:dA X (.builtin "sorted") (uR X.K):=by
 intro P s D H xs us Q I r h;let⟨l,vs,rfl,g,n,E,k⟩:=h;let⟨u,rfl,F⟩:=eG r;cases F;let⟨b,t,y,_⟩:=I.list g;let le:=t.length;let f:∀(o:ri η) (W:ri V),ay W o->ο W<=100000->EP X P D Q (.ref$ -s+1) ‹sortedAll s.heap b o.toArray›:=λo W rw lw=>by let⟨c,G⟩:=sortedAll_at s.heap b o.toArray;exact#[.ref$ -s+1,_,I.laid (t':=s.toks) (λ_ _ e=>sortedAll_old e) (NG _) (show aK X.prog X.w _ _ _ (.lst W) from #[by rw[Op];omega,o,c,rw,G]),Z,k _ W$ I.hok.fresh$ NG _]
 let A:∀i,i < ο vs->∃v u,vs[i]?=δ v/\b[i]?=δ u/\aE v u:=λi d=>by let⟨U,j,q⟩:=t.get (Mf d);exact#[_,U,Mf d,j,q]
 let⟨ps,lp,J⟩:=Zu E;by_cases B:2<=ο b
 .refine Ab (vs:=b) (ps:=ps) y.isList LA B LA (λi v p C L=>?_) λo o1 O=>?_
  .let d:i < ο vs:=by let:=(ξ.mp C).1;omega
   let⟨M,U,j,q,z⟩:=A i d;rw[C]at q;cases q;let⟨a,N,S,T⟩:=J i M p j L;subst N;cases z;exact#[D4 I S,T]
  .let all:∀l:ri η,(∀u∈l,u∈b)->∃W:ri V,ay W l:=λl=>by
    induction l with
    |nil=>exactλ_=>#[[],.nil]
    |cons u l Y=>intro g;let⟨W,m⟩:=Y λx hx=>g x (ML _ hx);let⟨i,d⟩:=mF.mp (g u Mz);let li:=(ξ.mp d).1;let⟨v,U,j,q,z⟩:=A i LA;rw[d]at q;cases q;exact#[v::W,.cons z m]
   let⟨W,m⟩:=all o.toList O;let:=m.length;rwa[f o.toList W m (by rw[this,ME];omega)]
 .rcases b with _ | ⟨v,_ | ⟨v2,R⟩⟩
  .rwa[y9 (y.isList:)$ f [] [] .nil$ Mu _]
  .rwa[Aa (y.isList:)$ f [v] vs t n]
  .rwa[absurd (by show 2<=ο R+2;omega) B]
end
end _L
namespace _L
open PySem PySem.Spec PyProof.Rows
def bJ.m(r:bJ k A)(h:j<=k:=by omega):bJ j A:=r.mono h
def bG{N P:ri ρ}{s:hJ}(a:↥(s.kind=.function))(b:↥(s.isCoroutine=ν))(c:↥(s.isGenerator=ν))(d:autoParam N.Nodup Ly._auto_1)(e:↥(N.take (ο P)=P))(f:autoParam (∀x∈P,s.names.lookup x=δ .local ∨ s.names.lookup x=δ .cell) Ly._auto_1)(g:autoParam (∀y∈s.names,y.2≠.free) Ly._auto_1):ak N P s:=#[a,b,c,d,e,f,g]
def sI{N:ri ρ}{s t:hJ}{M:ri ρ}{i:ri Nat}(a:autoParam (∀y∈t.names,y.2≠.cell) Ly._auto_1)(b:↥(t.kind=.function))(c:autoParam (∀y∈t.names,y.2=.local->t.names.lookup y.1=δ .local) Ly._auto_1)(d:autoParam (∀y∈t.names,y.2=.free->s.names.lookup y.1=δ .cell) Ly._auto_1)(e:autoParam (M.drop n=i.map (λi=>N.getD i Str.empty)) Ly._auto_1)(f:↥(ο M=n+ο i))(g:autoParam (∀j∈i,t.names.lookup (N.getD j Str.empty)=δ .free) Ly._auto_1):bE N s t M n i:=#[a,b,c,d,e,f,g]
end _L
local macro_rules|`(tactic|obtain $p:rcasesPat:=$t)=>`(tactic|(refine _L.aV λG k=>?_;rcases $t:term with $p:rcasesPat<;>(refine k ?_;clear k)))
local macro_rules|`(⇑$n)=>do{let i:=Lean.mkIdent;`(_L.af $(i `P) $(i `w) $(i `K) $(i `mg) $(i `base) _L.aF $n)}
namespace _K
open PySem PySem.Spec PyProof.Rows _L
abbrev z0z:ri ρ:=["_law_box_here","_law_wide"]
abbrev z1z:ri ρ:=["term"]
abbrev z2z:ri ρ:=["_law_box_here"]
abbrev z3z:ri ρ:=["statement","behind"]
abbrev z4z:ri ρ:=["statement"]
abbrev z5z:ri ρ:=["_law_box_here","_law_names_here","_law_heads","_law_spare","_law_deep"]
abbrev z6z:ri ρ:=["self","parts","cells","most"]
abbrev z7z:ri ρ:=["self","statement","behind"]
abbrev z8z:ri ρ:=["part","n","held"]
abbrev z9z:ri ρ:=["path","what"]
abbrev z10z:ri ρ:=["term","held"]
abbrev z11z:ri ρ:=["self","deed","deep"]
abbrev z12z:ri ρ:=["_law_box_here","_law_names_here","_law_deep"]
abbrev z13z:ri ρ:=["self","body","behind"]
abbrev z14z:ri ρ:=["self","part","args","deep"]
abbrev z15z:ri ρ:=["self","path","old","deep"]
abbrev z16z:ri ρ:=["body","behind"]
abbrev z17z:ri ρ:=["_law_box_here","_law_a","_law_b"]
abbrev z18z:ri ρ:=["name","params","body"]
abbrev z19z:ri ρ:=["_law_box_here","_law_f","_law_inner_here","_law_w"]
abbrev z20z:ri ρ:=["self","statement","place","behind"]
abbrev z21z:ri ρ:=["sign","left","right"]
abbrev z22z:ri ρ:=["self","cells","most"]
abbrev z23z:ri ρ:=["self","path","old","deed","deep"]
abbrev z24z:ri ρ:=["_law_box_here","_law_total"]
abbrev z25z:ri ρ:=["_law_box_here","_law_names_here"]
abbrev z26z:ri ρ:=["parts","f","args","cells","most"]
abbrev z27z:ri ρ:=["parts","old","cells","most"]
abbrev z28z:ri ρ:=["_law_box_here","_law_total","_law_letters","_law_wide","_law_spot_here","_law_signs","_law_first","_law_form","_law_found","_law_k","_law_one","_law_word","_law_some","_law_odd"]
abbrev z29z:ri ρ:=["_law_k","_law_box_here","_law_letters"]
abbrev z30z:ri ρ:=["_law_j","_law_box_here","_law_letters"]
abbrev z31z:ri ρ:=["num","var","op","go","ask","back","chain","sets","iff","ends","calls","reads","gives"]
abbrev z32z:ri ρ:=["_law_one","_law_box_here","_law_names_here"]
abbrev z33z:ri ρ:=["_law_box_here","_law_total","_law_room"]
abbrev z34z:ri ρ:=["_law_box_here","_law_f","_law_g","_law_w"]
abbrev z35z:ri ρ:=["_law_parts","_law_f","_law_args","_law_cells_here","_law_most"]
abbrev z36z:ri ρ:=["_law_parts","_law_old","_law_cells_here","_law_most"]
abbrev z37z:ri ρ:=["_law_box_here","_law_names_here","_law_heads","_law_spare","_law_deep","_law_kind","_law_x","_law_f","_law_params","_law_body_here"]
abbrev z38z:ri ρ:=["_law_box_here","_law_f","_law_inner_here","_law_w","_law_n","_law_i","_law_s","_law_x","_law_y","_law_body_here","_law_spot_here","_law_start","_law_loop"]
abbrev z39z:ri ρ:=["_law_box_here","_law_f","_law_inner_here","_law_w","_law_n","_law_i","_law_s","_law_x","_law_y","_law_spot_here","_law_body_here","_law_kept","_law_some","_law_start","_law_loop"]
abbrev z40z:ri ρ:=["_law_box_here","_law_program","_law_total","_law_f","_law_params","_law_body_here"]
variable {P:ω}{w:bS}{K:Ψ}{mg:ρ->rm η}{base:db}
def bH(i:Nat):cv:=PySem.Challenge.pw_againbook_k39_whole_again_is_the_run.main.body.getD i (.Pass #[0,0,0,0])
abbrev DB:cv:=bH 60
abbrev vo:cv:=bH 61
abbrev iz:cv:=bH 63
def aB(p:ζ)(H h:Hp):Prop:=∀b o,b≠p->H b=δ o->h b=δ o
def aB.refl:aB p H H:=λ_ _ _ h=>h
def aB.trans(a:aB p H d)(b:aB p d e):aB p H e:=λc o n h=>b c o n (a c o n h)
def aB.of_eq{H a:Hp}(h:∀b,b≠p->a b=H b):aB p H a:=λb o n e=>by rw[h b n];rwa[e]
def aB.upd_new{o:HO}(a:aB p H h)(n:h r=θ):aB p H (ah h r o):=λb u N e=>by let q:=a b u N e;rw[ji$ jk q n];rwa[q]
def aB.upd_own(a:aB p H h)(n:H r=θ):aB p H (ah h r o):=λb u N e=>by rw[ji$ jk e n];rwa[a b u N e]
structure aq(H:Hp)(p:ζ):Prop where
 ob:∃a b:Int,0<=a/\1<=b/\b<=2147483646/\H p=δ (.lst [.int a,.int b])
def aq.eq{c:Hp}(B:aq H p)(e:c p=H p):aq c p:=by let⟨a,b,d,f,g,h⟩:=B.ob;exact#[a,b,d,f,g,by rw[e];rwa[h]]
def aq.upd_new{o:HO}(B:aq H p)(n:H r=θ):aq (ah H r o) p:=by let⟨a,b,c,d,e,h⟩:=B.ob;rwa[B.eq (by rw[ji$ jk h n])]
def aq.ne(B:aq H p)(n:H r=θ):r≠p:=by let⟨a,b,c,d,e,h⟩:=B.ob;rwa[MX$ jk h n]
inductive aY(c:ri V)(H:Hp)(Q:VK)(a:XK):Prop
 |mk(p:ζ)(w:Int)(_:c=[.ref p,.int w])(_:aq H p)(_:0 < w)(_:w<=1000000000000000000)(_:∀(d:Int) (H':Hp),0<=d->d < w->aq H' p->(∀b,b≠p->H' b=H b)->Q (.int d) H')
inductive ph(K:Ψ)(e:ri V)(H:Hp)(Q:VK)(c:XK):Prop
 |mk(a:ζ)(d:ri Int)(k:Int)(_:e=[.ref a,.int k])(_:aI K H a (d.map qs))(_:0<=k)(_:k < 1000)(_:∀(r:ζ) (H':Hp),H r=θ->aq H' r->(∀b,b≠r->H' b=H b)->Q (.ref r) H')
def pH:(10:Int) ^ (18:Int).toNat=1000000000000000000:=LB
def tS{ns:ri Int}{k:Int}(H:0<=k)(a:k < (ns.length:Int)):∃v:Int,dN (ns.map qs) k=δ (.int v):=by
 let h:k.toNat < ο ns:=LA
 let e:k=((k.toNat:Nat):Int):=LA
 let q:dN (ns.map qs) ((k.toNat:Nat):Int)=δ (.int ns[k.toNat]):=jE (by rw[MH,Mf h];rfl);rw[<- e]at q;exact#[_,q]
structure Cl(P:ω)(w:bS)(K:Ψ)(mg:ρ->rm η)(base:db)(L:Nat)(f:ζ)(fd:bU)(ps:ri ρ)(sp:Sp)(py:ρ):Prop where
 g:⇑L f fd ps sp
 b:au K fd ps []
 k:fr K (.ref f)=μ
 m:mg py=↑f
def Cl.e{X:Cx}{e:dr}(c:Cl X.prog X.w X.K X.mg X.base L f o q s a)(i:bJ L X.A)(j:PA X (e::E) t)(l:↥(Gl X a))(h:↥((a==("__debug__":ρ))=ν))(n:↥(Δ (e::E) X.env=(ν,eval e X.env)::Δ E X.env))(H:↥((eT d$ Δ E X.env).any (·.1)=ν)):PE X (.Call (.Name a p) (e::E) [] d) (dS s [] E0 t):=ky c.g i l c.m c.k c.b .nil bq j h n H
def jz{X:Cx}(h:PE X a t):PE X (.Subscript a (.Constant (.int i) j p) b) (dU (fX X.K) t$ tC$ .int i):=jr jP h jf λ_ _=>Z
def jx{X:Cx}{p:Pos}(i:Nat)(h:X.N.Nodup)(H:PE X e t)(b:↥(X.N[i]?=δ x))(c:sA X.env.scope x:=by rwa[ψ Z])(d:↥(swapsWith e (δ$ .Name x a) p.line X.env=pure ν))(f:autoParam (X.fn x=μ∨X.env.scope.names.lookup x=δ .local) Wb._auto_1):PS X (.Assign [.Name x a] e p) (dZ t$ bo i):=kY h b c H d f
def jv{K:Ψ}{H:Hp}{Q:VK}(h:H p=δ (.tup x))(a:dN x n=δ v)(q:Q v H)(e:↥(b[i]?=δ (↑p))):dU (fX K) (a8 i) (tC$ .int n) b H Q:=#[_,e,p,x,n,v,Z,Z,aD.of h,a,q]
def kf{X:Cx}(h:PE X a t):PT X (.Compare a [.Eq] [.Constant (.str x) j p] b) (lv$ dU FM t$ tC$ .str x):=jA qD h jl Z
def za{X:Cx}(h:PE X a t):PT X (.Compare a [.Eq] [.Constant (.int x) j p] b) (lv$ dU FM t$ tC$ .int x):=jA qD h jf Z
def iB:ak ["_law_box_here","_law_wide","_law_digit","_law_one","_law_mixed"] z0z (aa vo):=bG
def yr(F:rc K "_law_take" vo f x):⇑1 f x z0z aY:=by
 erw[F.ok iB λC A O s H V Q E z h=>?_]
 let⟨p,W,rfl,B,d,g,q⟩:=h;let⟨a,b,l,i,j,e⟩:=B.ob;refine#[_,jd (jw (jA JF (jr jq (pv 0) jf ∅) jf$ aG _)
   (jd (jx 2 iB.nd$ ju zc (jr jq (pv 0) jf ∅)$ pv 1)
   (jd (zg (ju Kt (jr jq (pv 0) jf ∅)$ pv 1)$ qN (pv 0) jf zz)
   (jg$ jo$ pv 2))) jp)
  (jd (jx 3 iB.nd$ ju zc (ju zr (jr jq (pv 0) jf ∅) jf) jf)
  (jd (zg (ju jW (ju zc (ju jW (ju zr (pv 3) jf) jf) jf) jf)$ qN (pv 0) jf zz)
  (jd (jx 4 iB.nd$ ju Kt (ju jW (ju zr (pv 3) jf)$ jr jq (pv 0) jf ∅) jf)
  (jd (jw (jA JF (pv 1) (ju Js jf jf)$ aG _) (jg$ jx 4 iB.nd$ ju zr (pv 4)$ pv 4) jp)
  (jg$ jo$ ju zc (pv 4)$ pv 1))))),?_]
 erw[#[_,Z,p,_,_,_,Z,Z,aI.of e,Z,_,_,Z,Z,_,Z,?_]];erw[bP (λc=>?_) (λc=>?_)]
 .let D:(0:Int) < a:=Nn c;erw[#[_,Z,p,_,_,_,Z,Z,aI.of e,Z,_,Z,_,_,Z,Z,d,?_]];erw[#[_,Z,p,_,_,_,Z,Z,aI.of e,Z,_,Z,_,_,Z,Z,#[d,g],_,Z,p,_,_,0,Z,Z,e,Z,_,Z,?_]];erw[q (a % W) _ (No _ LA) (M7 _ d) #[a / W,b,Uq l LA,i,j,jc] λb n=>ji n]
 .let I:0<=b*69621 % 2147483647:=No _ LB;let J:b*69621 % 2147483647 < 2147483647:=M7 _ LB;erw[#[_,Z,p,_,_,_,Z,Z,aI.of e,Z,_,_,Z,Z,.inr #[LB,LB],_,_,Z,Z,(by show(0:Int) < 2147483647;decide),?_]];erw[#[_,Z,_,_,Z,Z,.inr #[LB,LB],_,_,Z,Z,_,_,Z,Z,(by show(0:Int) < 2147483646;decide),_,_,Z,Z,_,Z,p,_,_,1,Z,Z,e,Z,?_]];generalize m:b*69621 % 2147483647=o at*;let N:0<=(o*48271+30103) % 2147483646:=No _ LB;let L:(o*48271+30103) % 2147483646 < 2147483646:=M7 _ LB;generalize r:(o*48271+30103) % 2147483646=t at*;erw[#[_,Z,_,_,Z,Z,.inr #[LB,LB],_,Z,p,_,_,_,Z,Z,aI.of jc,Z,_,_,Z,Z,_,_,Z,Z,#[LB,LB],?_]];let X:0<=(o*2147483647+(t+1)) / 8191:=by omega
  let R:(o*2147483647+(t+1)) / 8191 < 18446744073709551616:=LA
  generalize u:(o*2147483647+(t+1)) / 8191=M at*;erw[#[_,Z,_,_,Z,Z,#[LB,LB,LB],_,_,Z,Z,_,Z,?_]];let v:aq (ah H p$ .lst [.int a,.int$ t+1]) p:=#[a,t+1,l,LA,LA,jc];erw[bP (λy=>?_) (λy=>?_)]
  .erw[#[_,Z,_,Z,_,_,Z,Z,.inl #[N09,N09],?_]];erw[#[_,Z,_,Z,_,_,Z,Z,d,?_]];rwa[q _ _ (No _ LA) (M7 _ d) v λb n=>ji n]
  .erw[#[_,Z,_,Z,_,_,Z,Z,d,?_]];rwa[q _ _ (No _ LA) (M7 _ d) v λb n=>ji n]
def mH:ak ["_law_script","_law_k","_law_cell","_law_seed"] ["_law_script","_law_k"] (aa DB):=bG
def CU(F:rc K "_law_box" DB f I)(m:mg "len"=θ)(M:mg "int"=θ):⇑1 f I ["_law_script","_law_k"] (ph K):=by
 erw[F.ok mH λJ A o s H W Q E X h=>?_]
 let⟨a,ns,k,rfl,d,i,L,q⟩:=h;refine#[_,jd (jx 2 mH.nd$ ju jW (ju zr jf$ pv 1) jf)
  (jd (jw (jA Qo (pv 1) (jG jI Z m M9$ ja (pv 0) jb)$ aG _)
   (jg$ jx 2 mH.nd$ jr jq (pv 0) (pv 1) ∅)
   (jg (jw (jA JF (jG jI Z m M9$ ja (pv 0) jb) jf$ aG _)
    (jg$ jx 2 mH.nd$ ju jW (pv 2)$ ju zr (ju zc (jr jq (pv 0) (ju zc (pv 1)$ jG jI Z m M9$ ja (pv 0) jb) ∅) jf) jf) jp)))
  (jd (jx 3 mH.nd$ ju jW (ju zc (ju jW (ju zr (ju zc (pv 2) jf) jf)$ ju zr jf$ pv 1) jf) jf)
  (jg$ jo$ jK$ ja (ju zr (pv 2)$ jF Jy Z M Vm$ ja (Q0 uE (pv 2) (ju Js jf jf)$ aG _) jb)$ ja (pv 3) jb))),?_]
 let e:(ns.map qs).length=ο ns:=Mi _;let T:∀c:Int,∃v:V,∃x:Int,v= .int x/\1<=x/\x<=2147483646/\v= .int ((c % 2147483629*48271+40692*k) % 2147483646+1):=λc=>by let N:0<=(c % 2147483629*48271+40692*k) % 2147483646:=No _ LB;let O:(c % 2147483629*48271+40692*k) % 2147483646 < 2147483646:=M7 _ LB;exact#[_,_,Z,LA,LA,Z]
 let j:∀(c:Int) (r:ζ),H r=θ->Q (.ref r) (ah H r$ .lst [.int$ c*(if decide ((10:Int) ^ (18:Int).toNat<=c)=μ then 1 else 0),.int ((c % 2147483629*48271+40692*k) % 2147483646+1)]):=λc r R=>by
  erw[q r _ R #[_,_,?_,?_,?_,jc] λb n=>ji n]
  .rw[pH];by_cases h:(1000000000000000000:Int)<=c
   .rw[MN h,Mv Z];omega
   .rw[My h,Mx Mq];omega
  .let N:0<=(c % 2147483629*48271+40692*k) % 2147483646:=No _ LB;omega
  .let O:(c % 2147483629*48271+40692*k) % 2147483646 < 2147483646:=M7 _ LB;omega
 let B:∀c:Int,wP c (if decide ((10:Int) ^ (18:Int).toNat<=c)=μ then 1 else 0):=λc=>.inr (by split<;>decide);erw[aj λF0 u=>#[_,Z,_,_,Z,Z,.inl #[LB,LB],_,_,Z,Z,u _ _ ?_]];clear u;erw[aj λS y=>?_];let l:∀c:Int,S [↑a,δ$ .int k,δ$ .int c,θ] H:=λc=>y _ _ (aj λF2 U=>#[_,Z,_,_,Z,Z,(by show(0:Int) < 2147483629;decide),_,_,Z,Z,.inr #[LB,LB],_,Z,_,_,Z,Z,.inl #[LB,LB],_,_,Z,Z,_,_,Z,Z,(by show(0:Int) < 2147483646;decide),_,_,Z,Z,U _ _ (#[_,Z,_,Z,_,_,Z,Z,#[LB,LB,LB],_,_,Z,Z,.inr #[_,Z,_,_,Z,Z,B c,_,Z,bN,j c]])]);clear y;erw[oF λG g=>#[_,Z,_,Z,a,_,Z,.inl d,_,_,Z,Z,_,Z,g _ _ ?_]];clear g;erw[bP (λc=>?_) (λc=>?_)]
 .let C:k < (((ns.map qs).length:Nat):Int):=Nn c;rw[e]at C;let⟨v,p⟩:=tS (ns:=ns) i C;exact#[_,Z,_,Z,a,_,_,_,Z,Z,d,p,l v]
 .let C:¬k < (((ns.map qs).length:Nat):Int):=P9 (lq.mpr c);rw[e]at C;erw[oF λG g=>#[_,Z,a,_,Z,.inl d,_,_,Z,Z,_,Z,g _ _ ?_]];clear g;refine bP (λz=>?_) (λz=>?_)
  .let D:(0:Int) < (((ns.map qs).length:Nat):Int):=Nn z;let⟨v,p⟩:=tS (ns:=ns) (k:=k % (((ns.map qs).length:Nat):Int)) (No _ LA) (by let:=M7 k D;rw[e]at this;rw[e];rwa[this]);exact#[_,Z,_,Z,_,Z,_,Z,a,_,Z,.inl d,_,_,Z,Z,D,a,_,_,_,Z,Z,d,p,_,_,Z,Z,(by show(0:Int) < 2147483629;decide),_,_,Z,Z,.inr #[LB,LB],_,_,Z,Z,l _]
  .rwa[l _]
def ot(i j:ρ):(i++j).length=i.length+j.length:=by show(i.cps++j.cps).size=i.cps.size+j.cps.size;rwa[RD]
def zA:1000000<=υ:=by rw[Op];decide
def am{H:Hp}{o:HO}(h:H b=δ u)(n:H r=θ):ah H r o b=δ u:=by rw[ji$ jk h n];rwa[h]
def vX{z:ρ}{k:Int}(H:0<=k)(a:k < (z.length:Int)):∃c:Nat,dN z.cps.toList k=δ c:=by
 let b:ο z.cps.toList=z.length:=ME;let h:k.toNat < ο z.cps.toList:=LA
 let e:k=((k.toNat:Nat):Int):=LA
 let q:dN z.cps.toList ((k.toNat:Nat):Int)=δ z.cps.toList[k.toNat]:=jE (Mf h);rw[<- e]at q;exact#[_,q]
def Km{ys:ri ρ}{k:Int}(H:0<=k)(a:k < (ys.length:Int)):∃y∈ys,dN (ys.map qr) k=δ (.str y):=by
 let h:k.toNat < ο ys:=LA
 let e:k=((k.toNat:Nat):Int):=LA
 let q:dN (ys.map qr) ((k.toNat:Nat):Int)=δ (.str ys[k.toNat]):=jE (by rw[MH,Mf h];rfl);rw[<- e]at q;exact#[_,OE h,q]
def bg(s:ri ρ)(lo h:rm Int):ri ρ:=(s.drop$ HT.sIx s.length 0 lo).take (HT.sIx s.length s.length h - HT.sIx s.length 0 lo)
def zB(s:ri ρ)(lo h:rm Int):aP (s.map qr) lo h=(bg s lo h).map qr:=by unfold aP bg;rw[Mi,Pj,Ux]
def zL{lo:rm Int}(h:y∈bg s lo H):y∈s:=Rk (M' h)
def qt(s:ri ρ)(lo h:rm Int):(bg s lo h).length<=ο s:=by unfold bg;rw[MT,N4];omega
theorem Jc:∀{ys:ri ρ},(∀y∈ys,y.length<=1)->(ys.map (·.length)).sum<=ο ys
 | [],_=>Mj _
 |y::r,h=>by let a:=h y Mz;let b:=Jc (ys:=r) λz H=>h z (ML _ H);rw[NH,List.sum_cons,MV];omega
def Jd{z:ρ}{ys:ri ρ}(H:z.length=0)(h:∀y∈ys,y.length<=1):(Txt.join z ys).length<=ο ys:=by show(Builtin.Str.glued z ys).length<=_;rw[size_glued,H,Nat.mul_zero,Nat.add_zero];rwa[Jc h]
def dC:ρ:="abcdefghijklmnopqrstuvwxyz"
def JR:dC.length=26:=Ly
def rg(d:Int)(k:Nat):Nat:=97+((d+5*(0+(k:Int))) % 26).toNat
def xR(H:i < 20)(a:j < 20)(h:rg d i=rg d j):i=j:=by unfold rg at h;omega
def Cu(H:0<=k)(a:k < 26)(h:dN dC.cps.toList k=δ c):c=97+k.toNat:=by
 let q:∀m:Fin 26,dN dC.cps.toList (m.val:Int)=δ (97+m.val):=Ly
 let e:=q #[k.toNat,LA];let E:((k.toNat:Nat):Int)=k:=LA
 dsimp only at e;rw[E,h]at e;injection e
def Sh(A S:ρ)(d:Int)(c:Nat)(w:ρ):Prop:=if d=2 then ∃R:ρ,w=R++#[(ε [c])] else w=A++#[(ε [c])]++S∨w=A++#[(ε [c])]++S++"z"∨w="qqqqqqq"++#[(ε [c])]
def kO(a b:ρ):(a++b).cps.toList=a.cps.toList++b.cps.toList:=by show(a.cps++b.cps).toList=_;rwa[Ti]
def XF{R:ρ}(h:R++(#[(ε [c])]:ρ)=r++#[(ε [C])]):c=C:=by let e:=MZ (lu ∘ Str.cps) h;let e:(R++(#[(ε [c])]:ρ)).cps.toList=(r++(#[(ε [C])]:ρ)).cps.toList:=e;rw[kO,kO]at e;let:=List.append_inj_right' e Z;injection this
def xU{S:ρ}(h:A++(#[(ε [c])]:ρ)++S=A++#[(ε [C])]++S):c=C:=by let e:=MZ (lu ∘ Str.cps) h;let e:(A++(#[(ε [c])]:ρ)++S).cps.toList=(A++(#[(ε [C])]:ρ)++S).cps.toList:=e;rw[kO,kO,kO,kO]at e;let:=SN (Pk e);injection this
def Gi{A S : ρ}{d : Int}{c C : Nat}{w : ρ}(i : A.length + S.length <= 5)(h : Sh A S d c w)(H : Sh A S d C w) : c = C := by
  unfold Sh at h H;let l : ∀ c : Nat, (#[(ε [c])] : ρ).length = 1 :=λ_ => Z;let L : (Str.ofString "z").length = 1 := by decide +kernel
  let f : (Str.ofString "qqqqqqq").length = 7 := by decide +kernel
  split at h
  · rename_i a
    rw [Mv a] at H;obtain ⟨R, rfl⟩ := h;obtain ⟨r, e⟩ := H;rwa[XF e]
  · rename_i a
    rw [Mx a] at H;rcases h with rfl | rfl | rfl <;> rcases H with e | e | e
    · rwa[xU e]
    all_goals first
      | rwa[XF e]
      | (have g := MZ Str.length e
         simp only [ot, l, L, f] at g;omega)
      | skip
    let E := MZ (lu ∘ Str.cps) e;let E : (A ++ (#[(ε [c])] : ρ) ++ S ++ ("z" : ρ)).cps.toList = (A ++ (#[(ε [C])] : ρ) ++ S ++ ("z" : ρ)).cps.toList := E;rw [kO, kO (A ++ _ ++ S)] at E;let b := Pk E;rw [kO, kO, kO, kO] at b;let := SN (Pk b);injection this
def XG{y:ri ρ}:y.Nodup↔∀i j:Nat,i < j->j < ο y->y[i]?≠y[j]?:=by
 unfold List.Nodup;rw[List.pairwise_iff_getElem];erw[#[λh i j H a e=>?_,λh i j b a H e=>h i j H a ?_]]
 .rw[Mf (LA:i < ο y),Mf a]at e;injection e with e;rwa[h i j LA a H e]
 .rw[Mf b,Mf a,e]
def vS{A S:ρ}{d D:Int}{Y:ri ρ}(b:A.length+S.length<=5)(g:Y.length<=20)(h:∀j y,Y[j]?=δ y->Sh A S D (rg d j) y):Y.Nodup:=by rw[XG];intro i j c H e;let a:=h i _ (Mf (LA:i < ο Y));let f:=h j _ (Mf H);rw[Mf (LA:i < ο Y),Mf H]at e;injection e with e;rw[e]at a;let:=xR LA LA (Gi b a f);omega
def rE{y:ri ρ}(h:y.Nodup)(b:a∉y):(y.set n a).Nodup:=by
 rw[XG]at h ⊢;intro i j H c e;rw[O2]at c;by_cases d:n=i
 .rw[d,OV LA,Oe LA]at e;rwa[b$ MM e.symm]
 .by_cases f:n=j
  .rw[f,OV N09,Oe LA]at e;rwa[b$ MM e]
  .rw[Oe d,Oe f]at e;rwa[h i j H c e]
def yc{y:ri ρ}(h:oG (.str a) (y.map qr)=ν):a∉y:=λm=>by unfold oG at h;rw[TU]at h;rwa[h (.str a) (dg.mpr #[a,m,Z]) (by simp [nF])]
def xB{ss:ri ρ}{d1 d2:Int}(h:ο ss=(1+d1).toNat)(a:0<=d2)(b:d2 < 1+d1):(bg ss θ$ δ d2).length+(bg ss (δ$ d2+1) θ).length<=d1.toNat:=by
 obtain⟨k,rfl⟩:∃k:Nat,d2=k:=#[d2.toNat,(Tz a).symm];obtain⟨n,rfl⟩:∃n:Nat,d1=n:=#[d1.toNat,(Tz LA).symm];let H:k<=n:=LA
 let h:ο ss=n+1:=by rw[h];omega
 clear a b;unfold bg;rw[show((k:Int)+1)=((k+1:Nat):Int) from Z,HT.sIx_nat,HT.sIx_nat,MT,MT,N4,h,Oo$ NM H,Oo$ Nat.le_succ_of_le H];erw[Mw (Nat.add_le_add (Sd _ _)$ Sd _ _) ?_];show k - 0+(n+1 - (k+1))<=n;rw[RI,Nat.add_sub_add_right,Tt H];rwa[Mj _]
def Iw{S:ρ}:Sh A S d c ("qqqqqqq"++#[(ε [c])]):=by
 unfold Sh;split
 .exact#[_,Z]
 .rwa[.inr$ .inr Z]
def Ix{A S:ρ}{d:Int}{c:Nat}{w:ρ}(h:if d=2 then ∃R:ρ,w=R++#[(ε [c])] else w=A++#[(ε [c])]++S∨w=A++#[(ε [c])]++S++"z"):Sh A S d c w:=by
 unfold Sh;split at h
 .rename_i e;rw[Mv e];rwa[h]
 .rename_i e;rw[Mx e];rwa[h.elim .inl λz=>.inr (.inl z)]
def pre(s:ri ρ)(d:Int):ρ:=Txt.join "" (bg s θ$ δ d)
def fe(s:ri ρ)(d:Int):ρ:=Txt.join "" (bg s (δ$ d+1) θ)
inductive gq(b:ri V)(H:Hp)(Q:VK)(a:XK):Prop
 |mk(p:ζ)(n:Int)(_:b=[.ref p,.int n])(_:aq H p)(_:1<=n)(_:n<=20)(_:∀(r:ζ) (ys:ri ρ) (H':Hp),H r=θ->H' r=δ (.lst (ys.map qr))->(ys.length:Int)=n->(∀y∈ys,y.length<=20)/\ys.Nodup->aq H' p->aB p H H'->Q (.ref r) H')
def ba:ak z28z z24z (aa iz):=bG
def Qj:hJ:=#[.function,[(".0",.local),("_law_k",.local),("_law_take",.globalImplicit),("_law_box_here",.free),("_law_letters",.free)],ν,ν,[]]
def YV:(z29z:ri ρ).Nodup:=Ly
def YW:bE z28z (aa iz) Qj z29z 1 [0,2]:=sI
def Qk:hJ:=#[.function,[(".0",.local),("_law_j",.local),("_law_take",.globalImplicit),("_law_box_here",.free),("_law_letters",.free)],ν,ν,[]]
def YX:(z30z:ri ρ).Nodup:=Ly
def YY:bE z28z (aa iz) Qk z30z 1 [0,2]:=sI
def Jo{p:ζ}{Q:ri V->Hp->Prop}(o:n<=20)(B:aq f p)
  (q:∀(S:ri ρ) (H:Hp),ο S=n->(∀s∈S,s.length<=1)->aq H p->(∀b,b≠p->H b=f b)->Q (S.map qr) H):
  eP (wJ 0 n) 1 [↑p,δ$ .str dC] (bo 0) mf (dU yG (a8 2)$ dS aY [] E0$ al (a8 1)$ al (tC$ .int 26) aQ) Q f:=by
 refine X0 (λi y H=>∃S:ri ρ,y=S.map qr/\ο S=i/\(∀s∈S,s.length<=1)/\aq H p/\∀b,b≠p->H b=f b)
  #[[],Z,Z,(λ_ h=>nomatch h),B,λ_ _=>Z] (Mw o LB) (λi y H #[S,e,l,_]=>by rw[e,Mi,l];rwa[Mj _]) ?_ ?_
 .intro i y H x a;let⟨S,rfl,g,j,m,E⟩:=a;erw[#[_,Z,_,Z,p,26,Z,m,LB,LB,λd A D r t u=>?_]];let⟨c,v⟩:=vX (z:=dC) D (by rw[JR];rwa[r]);erw[#[_,_,c,Z,Z,LB,v,S++[#[(ε [c])]],by rw[MS];rfl,by rw[Ml,g];rfl,λs hs=>?_,t,λb N=>(u b N).trans (E b N)]];rcases γ.mp hs with hs |hs
  .rwa[j s hs]
  .rw[τ.mp hs];rwa[Mj 1]
 .intro y H a;let⟨S,rfl,g,j,m,E⟩:=a;rwa[q S H g j m E]
def Rw(p g r:ζ)(n d D b e:Int)(i c:Nat)(s y:ri ρ)(H:Hp)(L:Nat)(Z:ρ->Prop):_L.St->Hp->Prop:=λa h=>∃W:ρ,(W.length<=L/\Z W)/\
 a=[↑p,δ$ .int n,δ$ .str dC,δ$ .int (1+d),δ$ .int D,↑g,δ$ .int b,δ$ .int e,↑r,δ$ .int (0+(i:Int)),δ$ .str #[(ε [c])],δ$ .str W,θ,θ]/\
 h g=δ (.lst$ s.map qr)/\h r=δ (.lst$ y.map qr)/\aq h p/\aB p H h
def Rf(p r:ζ)(n:Int)(H:Hp):_L.St->Hp->Prop:=λa h=>a[8]?=δ (↑r)/\∃Y:ri ρ,h r=δ (.lst$ Y.map qr)/\(Y.length:Int)=n/\((∀y∈Y,y.length<=20)/\Y.Nodup)/\aq h p/\aB p H h
def QM(Y:ri ρ):(Y.map qr).all cy=μ:=by rw[Pq];intro v h;let⟨y,_,rfl⟩:=dg.mp h;rfl
def vP(Y:ri ρ)(j:Nat)(y:ρ):(Y.map qr).set j (qr y)=(Y.set j y).map qr:=(UF ..).symm
inductive NI(p g r:ζ)(n b c d e:Int)(v:ri ρ)(H:Hp)(i:Nat)(x:_L.St)(a:Hp):Prop
 |mk(s t u:rm V)(w:ri ρ)(f:x=[↑p,δ (.int n),δ (.str dC),δ (.int (1+b)),δ (.int c),↑g,δ (.int d),δ (.int e),↑r,s,t,u,θ,θ])(h:a g=δ (.lst (v.map qr)))(k:a r=δ (.lst (w.map qr)))(l:ο w=i)(m:(∀y∈w,y.length<=20)/\∀j y,w[j]?=δ y->Sh (pre v c) (fe v c) e (rg d j) y)(o:aq a p)(q:aB p H a)
def ut(F:rc K "_law_names" iz f fd)(GT:⇑1 fT f4 z0z aY)(x:au K f4 z0z [])(C:fr K (.ref fT)=μ)
  (M:mg "_law_take"=↑fT) (mr:mg "range"=θ):⇑2 f fd z24z gq:=by
 erw[F.ok ba λc1 A o1 s H vs Q E D h=>?_]
 let⟨p,n,rfl,B,a4,a',q⟩:=h;erw[#[_,(@jd _ _ _ _ _ (@kY _ _ (2) _ _ _ _ ba.nd Z (fz Z) (@jl _ _ _ _) Lx$ .inl Z)$ @jd _ _ _ _ _ (@kY _ _ (3) _ _ _ _ ba.nd Z (ψ Z) (@ju _ _ _ _ _ _ _ _ jW (@jf _ _ _ _)$ @ky _ _ _ _ _ _ _ _ _ _ _ _ _ _ _ _ GT D Z M C x .nil bq (@ja _ _ _ _ _ (@pv _ 0 _ _ Lx (.inr$ .inl Z) LB LB) (@ja _ _ _ _ _ (@jf _ _ _ _) (@jb _) Lx) Lx) LB Lx Lx) Lx$ .inl Z)$ @jd _ _ _ _ _ (@kY _ _ (4) _ _ _ _ ba.nd Z (ψ Z) (@ky _ _ _ _ _ _ _ _ _ _ _ _ _ _ _ _ GT D Z M C x .nil bq (@ja _ _ _ _ _ (@pv _ 0 _ _ Lx (.inr$ .inl Z) LB LB) (@ja _ _ _ _ _ (@pv _ 3 _ _ Lx (.inl Z) LB LB) (@jb _) Lx) Lx) LB Lx Lx) Lx$ .inl Z)$ @jd _ _ _ _ _ (@Zk _ _ _ _ _ _ _ _ _ _ (5) (z29z) (1) ([0,2]) _ _ _ _ ba.nd Z (ψ Z) Z (@kI _ _ _ _ _ _ Z mr (@ja _ _ _ _ _ (@pv _ 3 _ _ Lx (by first |exact ψ Z |exact fz (ψ Z) |exact fz$ fz Z) LB LB) (@jb _) Lx) Lx) YW (λ_ _ _ _ _=>(@jy _ _ (0) _ YV Z (ψ Z) (by first |exact .inl Z |exact .inr Z))) (λ_ _ _ _ _=>(@zI _)) (λ_ _ _ _ _=>(@jr _ _ _ _ _ _ _ Kj (@pv _ 2 _ _ Lx (by first |exact ψ Z |exact fz (ψ Z) |exact fz$ fz Z) LB LB) (@ky _ _ _ _ _ _ _ _ _ _ _ _ _ _ _ _ GT D Z M C x .nil bq (@ja _ _ _ _ _ (@pv _ 1 _ _ Lx (by first |exact ψ Z |exact fz (ψ Z) |exact fz$ fz Z) LB LB) (@ja _ _ _ _ _ (@jf _ _ _ _) (@jb _) Lx) Lx) LB Lx Lx) ∅)) Lx (by first |exact .inl Z |exact .inr Z) (by intro _;rfl))$ @jd _ _ _ _ _ (@kY _ _ (6) _ _ _ _ ba.nd Z (ψ Z) (@ky _ _ _ _ _ _ _ _ _ _ _ _ _ _ _ _ GT D Z M C x .nil bq (@ja _ _ _ _ _ (@pv _ 0 _ _ Lx (.inr$ .inl Z) LB LB) (@ja _ _ _ _ _ (@jf _ _ _ _) (@jb _) Lx) Lx) LB Lx Lx) Lx$ .inl Z)$ @jd _ _ _ _ _ (@kY _ _ (7) _ _ _ _ ba.nd Z (ψ Z) (@ky _ _ _ _ _ _ _ _ _ _ _ _ _ _ _ _ GT D Z M C x .nil bq (@ja _ _ _ _ _ (@pv _ 0 _ _ Lx (.inr$ .inl Z) LB LB) (@ja _ _ _ _ _ (@jf _ _ _ _) (@jb _) Lx) Lx) LB Lx Lx) Lx$ .inl Z)$ @jd _ _ _ _ _ (@kY _ _ (8) _ _ _ _ ba.nd Z (ψ Z) (@jK _ _ _ _$ @jb _) Lx$ .inl Z)$ @jd _ _ _ _ _ (@kh _ _ _ _ _ _ _ _ M3 Z (@kI _ _ _ _ _ _ Z mr (@ja _ _ _ _ _ (@pv _ 1 _ _ Lx (.inl Z) LB LB) (@jb _) Lx) Lx) (@jy _ _ (9) _ ba.nd Z (ψ Z)$ .inl Z) (@jd _ _ _ _ _ (@kY _ _ (10) _ _ _ _ ba.nd Z (ψ Z) (@jr _ _ _ _ _ _ _ Kj (@pv _ 2 _ _ Lx (.inr$ .inl Z) LB LB) (@ju _ _ _ _ _ _ _ _ zc (@ju _ _ _ _ _ _ _ _ jW (@pv _ 6 _ _ Lx (.inl Z) LB LB)$ @ju _ _ _ _ _ _ _ _ zr (@jf _ _ _ _)$ @pv _ 9 _ _ Lx (.inl Z) LB LB)$ @jf _ _ _ _) ∅) Lx$ .inl Z)$ @jd _ _ _ _ _ (@j6 _ _ _$ @kY _ _ (11) _ _ _ _ ba.nd Z (ψ Z) (@ju _ _ _ _ _ _ _ _ zE (@ju _ _ _ _ _ _ _ _ zE (@kJ _ _ _ _ _ _ _ _ _ _ _ _ Pp Pu Pt Q3 (@jl _ _ _ _) (@ja _ _ _ _ _ (@jJ _ _ _ _ _ _ _ _ _ _ kB (@pv _ 5 _ _ Lx (.inl Z) LB LB) (@jV _)$ @jH _ _ _$ @pv _ 4 _ _ Lx (.inl Z) LB LB) (@jb _) Lx) Lx Lx Lx Lx Lx)$ @pv _ 10 _ _ Lx (.inl Z) LB LB)$ @kJ _ _ _ _ _ _ _ _ _ _ _ _ Pp Pu Pt Q3 (@jl _ _ _ _) (@ja _ _ _ _ _ (@jJ _ _ _ _ _ _ _ _ _ _ kB (@pv _ 5 _ _ Lx (.inl Z) LB LB) (@jH _ _ _$ @ju _ _ _ _ _ _ _ _ jW (@pv _ 4 _ _ Lx (.inl Z) LB LB)$ @jf _ _ _ _)$ @jV _) (@jb _) Lx) Lx Lx Lx Lx Lx) Lx$ .inl Z)$ @jd _ _ _ _ _ (@j6 _ _ _$ @jw _ _ _ _ _ _ _ _ (@PW.pt _ _ _$ @qh _ _ _ _ _ _ _ (za$ @pv _ 7 _ _ Lx (.inl Z) LB LB)$ @zF _ _ _ _$ za$ @ju _ _ _ _ _ _ _ _ zc (@pv _ 9 _ _ Lx (.inl Z) LB LB)$ @jf _ _ _ _) (@jg _ _ _$ @kY _ _ (11) _ _ _ _ ba.nd Z (ψ Z) (@ju _ _ _ _ _ _ _ _ zE (@pv _ 11 _ _ Lx (.inl Z) LB LB)$ @jl _ _ _ _) Lx$ .inl Z)$ @jp _)$ @jd _ _ _ _ _ (@j6 _ _ _$ @jw _ _ _ _ _ _ _ _ (za$ @pv _ 7 _ _ Lx (.inl Z) LB LB) (@jg _ _ _$ @kY _ _ (11) _ _ _ _ ba.nd Z (ψ Z) (@ju _ _ _ _ _ _ _ _ zE (@kJ _ _ _ _ _ _ _ _ _ _ _ _ Pp Pu Pt Q3 (@jl _ _ _ _) (@ja _ _ _ _ _ (@zi _ _ _ _ _ _ _ (z30z) (1) ([0,2]) _ _ _ _ Z (@kI _ _ _ _ _ _ Z mr (@ja _ _ _ _ _ (@ky _ _ _ _ _ _ _ _ _ _ _ _ _ _ _ _ GT D Z M C x .nil bq (@ja _ _ _ _ _ (@pv _ 0 _ _ Lx (by first |exact ψ Z |exact fz (ψ Z) |exact fz$ fz Z) LB LB) (@ja _ _ _ _ _ (@jf _ _ _ _) (@jb _) Lx) Lx) LB Lx Lx) (@jb _) Lx) Lx) YY (λ_ _ _ _ _=>(@jy _ _ (0) _ YX Z (ψ Z) (by first |exact .inl Z |exact .inr Z))) (λ_ _ _ _ _=>(@zI _)) (λ_ _ _ _ _=>(@jr _ _ _ _ _ _ _ Kj (@pv _ 2 _ _ Lx (by first |exact ψ Z |exact fz (ψ Z) |exact fz$ fz Z) LB LB) (@ky _ _ _ _ _ _ _ _ _ _ _ _ _ _ _ _ GT D Z M C x .nil bq (@ja _ _ _ _ _ (@pv _ 1 _ _ Lx (by first |exact ψ Z |exact fz (ψ Z) |exact fz$ fz Z) LB LB) (@ja _ _ _ _ _ (@jf _ _ _ _) (@jb _) Lx) Lx) LB Lx Lx) ∅)) (by intro _;rfl)) (@jb _) Lx) Lx Lx Lx Lx Lx)$ @pv _ 10 _ _ Lx (.inl Z) LB LB) Lx$ .inl Z)$ @jp _)$ @jd _ _ _ _ _ (@j6 _ _ _$ @jw _ _ _ _ _ _ _ _ (@jA _ _ _ _ _ _ _ _ zo (@pv _ 11 _ _ Lx (.inl Z) LB LB) (@jh _ _ _ _ _$ @Q4 _ _ Lx) Z) (@jg _ _ _$ @kY _ _ (11) _ _ _ _ ba.nd Z (ψ Z) (@ju _ _ _ _ _ _ _ _ zE (@jl _ _ _ _)$ @pv _ 10 _ _ Lx (.inl Z) LB LB) Lx$ .inl Z)$ @jp _)$ @jg _ _ _$ @jQ _ _ _ _ (@kJ _ _ _ _ _ _ _ _ _ _ _ _ MF MQ MP jT (@pv _ 8 _ _ Lx (.inl Z) LB LB) (@ja _ _ _ _ _ (@pv _ 11 _ _ Lx (.inl Z) LB LB) (@jb _) Lx) Lx Lx Lx Lx Lx) Lx) (by intro _;rfl))$ @jd _ _ _ _ _ (@j6 _ _ _$ @jw _ _ _ _ _ _ _ _ (@jA _ _ _ _ _ _ _ _ qD (@ky _ _ _ _ _ _ _ _ _ _ _ _ _ _ _ _ GT D Z M C x .nil bq (@ja _ _ _ _ _ (@pv _ 0 _ _ Lx (.inr$ .inl Z) LB LB) (@ja _ _ _ _ _ (@jf _ _ _ _) (@jb _) Lx) Lx) LB Lx Lx) (@jf _ _ _ _)$ aG _) (@jd _ _ _ _ _ (@kY _ _ (12) _ _ _ _ ba.nd Z (ψ Z) (@jK _ _ _ _$ @Q4 _ _ Lx) Lx$ .inl Z)$ @jd _ _ _ _ _ (@kY _ _ (13) _ _ _ _ ba.nd Z (ψ Z) (@jr _ _ _ _ _ _ _ jq (@pv _ 12 _ _ Lx (.inl Z) LB LB) (@ky _ _ _ _ _ _ _ _ _ _ _ _ _ _ _ _ GT D Z M C x .nil bq (@ja _ _ _ _ _ (@pv _ 0 _ _ Lx (.inr$ .inl Z) LB LB) (@ja _ _ _ _ _ (@jf _ _ _ _) (@jb _) Lx) Lx) LB Lx Lx) ∅) Lx$ .inl Z)$ @jg _ _ _$ @jw _ _ _ _ _ _ _ _ (@jA _ _ _ _ _ _ _ _ Jj (@pv _ 13 _ _ Lx (.inl Z) LB LB) (@pv _ 8 _ _ Lx (.inl Z) LB LB) Z) (@jg _ _ _$ @zg _ _ _ _ _ _ (@pv _ 13 _ _ Lx (.inl Z) LB LB) (@qN _ _ _ _ _ _ _ (@pv _ 8 _ _ Lx (.inl Z) LB LB) (@ky _ _ _ _ _ _ _ _ _ _ _ _ _ _ _ _ GT D Z M C x .nil bq (@ja _ _ _ _ _ (@pv _ 0 _ _ Lx (.inr$ .inl Z) LB LB) (@ja _ _ _ _ _ (@pv _ 1 _ _ Lx (.inl Z) LB LB) (@jb _) Lx) Lx) LB Lx Lx) zz (by intro _;rfl)) Lx Lx Lx)$ @jp _)$ @jp _)$ @jg _ _ _$ @jo _ _ _ _$ @pv _ 8 _ _ Lx (.inl Z) LB LB),?_]];erw[fc λE0 f0=>f0 _ _ ?_];erw[fc λG a=>#[_,Z,p,6,Z,B,LB,LB,λd1 H1 b0 b1 U e1=>#[_,_,Z,Z,a _ _ ?_]]];erw[fc λE2 f2=>#[_,Z,_,Z,p,_,Z,U,LA,LA,λd2 H2 b2 b3 B2 e2=>f2 _ _ ?_]];clear f0 a f2;erw[fc λG a=>#[_,Z,_,Z,LA,LA,?_]];erw[Jo (p:=p) LA B2 λss H3 a3 e B3 e3 g hg=>a _ _ ?_];clear a;let k3:aB p H H3:=(aB.of_eq e1).trans ((aB.of_eq e2).trans$ aB.of_eq e3);let v:g≠p:=B3.ne hg;erw[fc λG a=>#[_,Z,p,26,Z,B3.upd_new hg,LB,LB,λW H4 b4 b5 B4 e4=>a _ _ ?_]];erw[fc λE2 f2=>#[_,Z,p,3,Z,B4,LB,LB,λI H5 b7 b9 B5 e5=>f2 _ _ ?_]];clear a f2;let h2:H5 g=δ (.lst$ ss.map qr):=by rw[e5 g v,e4 g v];rwa[jc]
 let k5:aB p H H5:=(k3.upd_new hg).trans ((aB.of_eq e4).trans$ aB.of_eq e5);erw[fc λG a=>#[LB,λr u=>a _ _ ?_]];clear a;let m:r≠p:=B5.ne u;let h4:g≠r:=jk h2 u;let n3:H g=θ:=by
  cases z:H g with
  |none=>rfl
  |some o=>have:=k3 g o v z;rw[hg]at this;cases this
 let X:H r=θ:=by
  cases z:H r with
  |none=>rfl
  |some o=>have:=k5 r o m z;rw[u]at this;cases this
 let b':=zA;erw[fc λG a=>eM λJ j=>#[_,Z,_,Z,LA,LA,j _ _ ?_]];clear j;erw[kn (lo:=0) (NI p g r n d1 d2 W I ss H) #[θ,θ,θ,[],Z,am h2 u,jc,Z,#[(λ_ h=>nomatch h),(λ_ _ h=>nomatch h)],B5.upd_new u,k5.upd_new u] ?_ ?_]
 .intro E0 _ i σ H' hi fE Gq T b;let⟨ok,oo,ow,ys,rfl,L,Y,h0,d,B',k'⟩:=b;clear a;let⟨c,hc⟩:=vX (z:=dC) (k:=(W+5*(0+(i:Int))) % 26) (No _ LB) (by rw[JR];rwa[M7 _ LB]);erw[T ?_];clear T;show eO (dZ _ _) _ E0 _ _;erw[fc λG a=>#[_,Z,_,Z,_,Z,_,_,Z,Z,.inl #[LB,LB],_,_,Z,Z,_,_,Z,Z,(by show(0:Int) < 26;decide),_,_,c,Z,Z,LB,hc,a _ _ ?_]];clear a;let c2:(#[(ε [c])]:ρ).length=1:=rfl;let h5:c=rg W i:=Cu (No _ LB) (M7 _ LB) hc;refine fc λG a=>dI (Rw p g r n d1 d2 W I i c ss ys H 13 (·=pre ss d2++#[(ε [c])]++fe ss d2)) (λE2 _ t=>?_) λO H1 b=>?_
  .clear a fE;erw[#[Z,_,Z,_,Z,_,Z,g,_,Z,aI.of L,λs1 n1=>?_]];let z1:=Jc (ys:=bg ss θ (δ d2)) λy d=>e y (zL d);let z2:=qt ss θ (δ d2);erw[#[_,s1,bg ss θ$ δ d2,Z,Z,aI.of (by rw[jc,zB]),LB,LA,?_]];let j1:=Jd (z:="") (ys:=bg ss θ (δ d2)) Ly λy d=>e y (zL d);erw[#[_,Z,_,_,Z,Z,LA,?_]];erw[#[Z,_,Z,_,Z,_,_,Z,Z,_,Z,g,_,Z,aI.of$ am L n1,λs2 n2=>?_]];let z3:=Jc (ys:=bg ss (δ$ d2+1) θ) λy d=>e y (zL d);let z4:=qt ss (δ$ d2+1) θ;erw[#[_,s2,bg ss (δ$ d2+1) θ,Z,Z,aI.of (by rw[jc,zB]),LB,LA,?_]];let j2:=Jd (z:="") (ys:=bg ss (δ$ d2+1) θ) Ly λy d=>e y (zL d);erw[#[_,_,Z,Z,by rw[ot];omega,?_]];rwa[t _ _ #[_,#[by show(Txt.join ("":ρ) (bg ss θ$ δ d2)++(#[(ε [c])]:ρ)++Txt.join ("":ρ) (bg ss (δ$ d2+1) θ)).length<=13;rw[ot,ot];omega,Z],Z,am (am L n1) n2,am (am Y n1) n2,(B'.upd_new n1).upd_new n2,(k'.upd_new n1).upd_new n2]]
  obtain⟨w1,⟨c3,z1⟩,rfl,g1,r1,U,k1⟩:=b;erw[a _ _ ?_];clear a;erw[fc λG a=>dI (Rw p g r n d1 d2 W I i c ss ys H 14 (λw=>w=pre ss d2++#[(ε [c])]++fe ss d2∨w=pre ss d2++#[(ε [c])]++fe ss d2++"z")) (λE2 _ t=>?_) λO H2 b=>?_]
  .clear a fE;erw[#[_,Z,Z,_,Z,?_]];refine bP (λS=>?_) (λS=>?_)
   .erw[#[_,Z,_,_,Z,Z,(by show(0:Int) < 2;decide),Z,_,Z,?_]];refine bP (λcb=>?_) (λcb=>?_)
    .let hz:(Str.ofString "z").length=1:=by decide+kernel
     erw[#[_,Z,_,_,Z,Z,by rw[hz];omega,?_]];rwa[t _ _ #[_,#[by rw[ot,hz];omega,.inr (by rw[z1])],Z,g1,r1,U,k1]]
    .rwa[t _ _ #[w1,#[LA,.inl z1],Z,g1,r1,U,k1]]
   .rwa[xP$ t _ _ #[w1,#[LA,.inl z1],Z,g1,r1,U,k1]]
  obtain⟨w2,⟨c4,z2⟩,rfl,g2,r2,B2,k2⟩:=b;erw[a _ _ ?_];clear a;erw[fc λG a=>dI (Rw p g r n d1 d2 W I i c ss ys H 14 (λw=>if I=2 then ∃R:ρ,w=R++#[(ε [c])] else w=pre ss d2++#[(ε [c])]++fe ss d2∨w=pre ss d2++#[(ε [c])]++fe ss d2++"z")) (λE2 _ t=>?_) λO H3 b=>?_]
  .clear a fE;erw[#[_,Z,Z,_,Z,?_]];refine bP (λS=>?_) (λS=>?_)
   .erw[#[Z,_,Z,p,8,Z,B2,LB,LB,λd6 H6 d0 d3 B6 e6=>?_]];erw[#[_,Z,LA,LA,?_]];erw[Jo (p:=p) LA B6 λtt H7 c5 h3 B7 e7 g7 n7=>?_];let jt:=Jd (z:="") (ys:=tt) Ly h3;let zt:=Jc h3;erw[#[_,g7,tt,Z,Z,aI.of jc,LB,LA,?_]];erw[#[_,Z,_,_,Z,Z,LA,?_]];let g8:H7 g=δ (.lst$ ss.map qr):=by rw[e7 g v,e6 g v];exact g2
    let r8:H7 r=δ (.lst$ ys.map qr):=by rw[e7 r m,e6 r m];rwa[r2]
    let e5:I=2:=by injection Nn S
    rwa[t _ _ #[_,#[by rw[ot];omega,(Mv e5).mpr #[_,Z]],Z,am g8 n7,am r8 n7,B7.upd_new n7,(k2.trans ((aB.of_eq e6).trans$ aB.of_eq e7)).upd_new n7]]
   .let e5:I≠2:=λz=>S (by rw[z];rwa[MN Z]);rwa[t _ _ #[w2,#[N09,(Mx e5).mpr z2],Z,g2,r2,B2,k2]]
  obtain⟨w3,⟨c6,z3⟩,rfl,g3,r3,B3,k3⟩:=b;erw[a _ _ ?_];clear a;erw[fc λG a=>dI (Rw p g r n d1 d2 W I i c ss ys H 14$ Sh (pre ss d2) (fe ss d2) I c) (λE2 _ t=>?_) λO H4 b=>?_]
  .clear a fE;erw[#[_,Z,LB,λt0 N=>?_]];erw[#[t0,_,Z,.inr$ aD.of jc,Z,pY Lx,_,Z,?_]];refine bP (λS=>?_) (λS=>?_)
   .let hq:(Str.ofString "qqqqqqq").length=7:=by decide+kernel
    erw[#[_,Z,_,_,Z,Z,by rw[hq];omega,?_]];rwa[t _ _ #[_,#[by rw[ot,hq];omega,Iw],Z,am g3 N,am r3 N,B3.upd_new N,k3.upd_new N]]
   .rwa[t _ _ #[w3,#[LA,Ix z3],Z,am g3 N,am r3 N,B3.upd_new N,k3.upd_new N]]
  obtain⟨w4,⟨c7,z4⟩,rfl,g4,r4,B4,k4⟩:=b;erw[a _ _ ?_];clear a;erw[#[_,Z,.inl #[Z,_,aI.of r4],_,Z,r,_,_,Z,Z,r4,by rw[Mi];omega,?_]];erw[fE _ _ #[_,_,_,ys++[w4],Z,by rw[ji h4];rwa[g4],by rw[jc,MS];rfl,by rw[Ml,h0];rfl,#[λy hm=>?_,λj y hj=>?_],B4.eq$ ji$ MX m,k4.upd_own X]]
  .rcases γ.mp hm with hm |hm
   .rwa[d.1 y hm]
   .rw[τ.mp hm];omega
  .by_cases h6:j < ο ys
   .rw[N9 h6]at hj;rwa[d.2 j y hj]
   .let lj:=(ξ.mp hj).1;rw[Ml,Oq]at lj;let ej:j=ο ys:=by omega
    rw[ej,N6$ Mj _,PZ]at hj;injection hj with hj;rw[<- hj,ej,h0,<- h5];rwa[z4]
 .intro σ H' b;let⟨ok,oo,ow,ys,rfl,L,Y,h0,d,B',k'⟩:=b;let h1:(ys.length:Int)=n:=by omega
  let f5:=xB (ss:=ss) (d1:=d1) (d2:=d2) N09 N09 N09;let j1:(pre ss d2).length<=_:=Jd (z:="") (ys:=bg ss θ (δ d2)) Ly λy d=>e y (zL d);let j2:(fe ss d2).length<=_:=Jd (z:="") (ys:=bg ss (δ$ d2+1) θ) Ly λy d=>e y (zL d);let nd:=vS LA LA d.2;let d:=d.1;erw[a _ _ ?_];clear a;erw[aj λF1 a=>dI (Rf p r n H) (λE2 _ t=>?_) λO H1 b=>?_]
  .clear a;erw[oF λG' g'=>#[_,Z,p,6,Z,B',LB,LB,λd6 H6 d0 d3 B6 e6=>#[Z,_,Z,g' _ _ ?_]]];clear g';let r6:H6 r=δ (.lst$ ys.map qr):=by rw[e6 r m];exact Y
   let k6:aB p H H6:=k'.trans (aB.of_eq e6);erw[bP (λS=>?_) (λS=>?_)]
   .erw[fc λE3 f3=>#[LB,λt0 N=>f3 _ _ ?_]];clear f3;let t1:t0≠p:=B6.ne N;erw[fc λE4 f3=>#[_,Z,_,Z,p,13,Z,B6.upd_new N,LB,LB,λd7 H7 d' a0 B7 e7=>?_]];let t7:H7 t0=δ (.lst ((z31z:ri ρ).map qr)):=((e7 t0 t1).trans jc).trans (MZ (λl=>δ (HO.lst l)) Ly);let r7:H7 r=δ (.lst$ ys.map qr):=by rw[e7 r m];exact am r6 N
    let k7:aB p H H7:=(k6.upd_new N).trans (aB.of_eq e7);let⟨od,h7,h8⟩:=Km (ys:=(z31z:ri ρ)) d' (a0:);erw[#[t0,_,_,_,Z,Z,aI.of t7,h8,f3 _ _ ?_]];clear f3;let h':od.length<=20:=by
     let:∀y∈(z31z:ri ρ),y.length<=20:=Ly
     rwa[this od h7]
    erw[oF λG' g'=>#[_,Z,_,Z,r,_,Z,.inl$ aI.of r7,Z,QM _,_,Z,g' _ _ ?_]];clear g';erw[bP (λcb=>?_) (λcb=>?_)]
    .erw[#[_,Z,_,Z,_,Z,_,Z,p,n,Z,B7,LA,LA,λd8 H8 a1 c8 B8 e8=>?_]];let r8:H8 r=δ (.lst$ ys.map qr):=by rw[e8 r m];exact r7
     let k8:aB p H H8:=k7.trans (aB.of_eq e8);erw[#[r,_,d8,d8.toNat,Z,Z,r8,?_,?_]]
     .unfold nW;rw[Mv a1,Mi,Mv LA]
     erw[t _ _ #[Z,ys.set d8.toNat od,by rw[jc,vP],by rw[O2];rwa[h1],#[λy hm=>?_,rE nd$ yc (by let c0:(!oG (.str od) (ys.map qr))=μ:=cb;rw[TY]at c0;rwa[c0])],B8.eq$ ji$ MX m,k8.upd_own X]];rcases Su hm with hm |hm
     .rwa[d y hm]
     .rw[hm];rwa[h']
    .rwa[t _ _ #[Z,ys,r7,h1,#[d,nd],B7,k7]]
   .rwa[t _ _ #[Z,ys,r6,h1,#[d,nd],B6,k6]]
  let⟨a2,y0,r1,l1,y1,U,k1⟩:=b;erw[a _ _ ?_];exact#[_,a2,q r y0 H1 X r1 l1 y1 U k1]
def ai(H h:Hp):Prop:=∀b x,H b=δ (.tup x)->h b=δ (.tup x)
def ae.tm(a:ae H c):ai H c:=λb x h=>a b _ h
def je{H:Hp}{o:HO}(n:H p=θ):ae H (ah H p o):=λb u e=>am e n
def b8{b:Bool}{A B:Prop}(h:b=μ)(x:A):if b=μ then A else B:=by rw[Mv h];rwa[x]
def aT{b:Bool}{A B:Prop}(h:b=ν)(x:B):if b=μ then A else B:=by rw[h,Mx Mq];rwa[x]
def aH:υ=16777216:=by rw[Op]
def aq.same(B:aq H p)(s:ae H c):aq c p:=by let⟨a,b,d,e,f,h⟩:=B.ob;exact#[a,b,d,e,f,s _ _ h]
def aB.of_same(s:ae H h):aB p H h:=λb o _ e=>s _ _ e
def aB.tm(k:aB p H h)(B:aq H p):ai H h:=λb x e=>by let⟨a,c,_,_,_,f⟩:=B.ob;rwa[k b _ (jN e f (by intro w;cases w)) e]
def aB.none(k:aB p H h)(B:aq h p)(n:h r=θ):H r=θ:=by
 cases z:H r with
 |none=>rfl
 |some o=>have:=k _ _ (B.ne n) z;rw[n]at this;cases this
def pP{K:Ψ}{a:ζ}{xs:ri V}{t:TE}{Q:ri V->Hp->Prop}(u:ο xs<=υ)(Pv:Nat->ri V->Hp->Prop)(l:Pv 0 [] H)
  (n:∀i Y h,Pv i Y h->aI K h a xs/\ο Y<=i) (o:∀i x Y h,xs[i]?=δ x->Pv i Y h->t (δ x::d) h λy c=>Pv (i+1) (Y++[y]) c) (q:∀Y h,Pv xs.length Y h->Q Y h):
  eP (wS K a) 1 d (bo 0) mf t Q H:=by
 erw[#[λi m Y h=>m=ο xs - i/\i<=ο xs/\Pv i Y h,#[xs.length,Lz,Mu _,l],?_]];intro i m Y h f;let⟨rfl,z,p⟩:=f;let⟨g,A⟩:=n i Y h p;by_cases b:i < ο xs
 .erw[.inr #[#[xs,xs[i],g,Mf b],LA,Pv$ i+1,λr c s=>#[ο xs - (i+1),LA,Z,b,s],λv c T j y=>?_]];let⟨e,y⟩:=y;subst e;let⟨w,rfl⟩:=xQ j;exact#[#[[δ _],Z,Z],o i v Y c (y xs g) p]
 .let e:i=ο xs:=by omega
  subst e;rwa[.inl #[#[xs,g,Mj _],q Y h p]]
def qC{K:Ψ}{xs:ri V}{t:TE}{Q:ri V->Hp->Prop}(u:ο xs<=υ)(Pv:Nat->ri V->Hp->Prop)(l:Pv 0 [] H)
  (n:∀i Y h,Pv i Y h->aD K h a xs/\ο Y<=i) (o:∀i x Y h,xs[i]?=δ x->Pv i Y h->t (δ x::d) h λy c=>Pv (i+1) (Y++[y]) c) (q:∀Y h,Pv xs.length Y h->Q Y h):
  eP (wT K a) 1 d (bo 0) mf t Q H:=by
 erw[#[λi m Y h=>m=ο xs - i/\i<=ο xs/\Pv i Y h,#[xs.length,Lz,Mu _,l],?_]];intro i m Y h f;let⟨rfl,z,p⟩:=f;let⟨g,A⟩:=n i Y h p;by_cases b:i < ο xs
 .erw[.inr #[#[xs,xs[i],g,Mf b],LA,Pv$ i+1,λr c s=>#[ο xs - (i+1),LA,Z,b,s],λv c T j y=>?_]];let⟨e,y⟩:=y;subst e;let⟨w,rfl⟩:=xQ j;exact#[#[[δ _],Z,Z],o i v Y c (y xs g) p]
 .let e:i=ο xs:=by omega
  subst e;rwa[.inl #[#[xs,g,Mj _],q Y h p]]
abbrev lQ:cv:=bH 62
abbrev oU:cv:=bH 64
inductive Tm where
 |num (n:Int) |var (x:ρ) |op (i:Nat) (a b:Tm)
def Tm.depth:Tm->Nat
 | .num _ | .var _=>0
 | .op _ a b=>max a.depth b.depth+1
def lW:ρ:="+-*/<="
def vQ:lW.length=6:=Ly
def Iv(i:Nat):ρ:=#[(ε [lW.cps.toList.getD i 0])]
def DT(H:0<=d)(a:d < 6):dN lW.cps.toList d=δ (lW.cps.toList.getD d.toNat 0):=by
 let b:ο lW.cps.toList=6:=Ly
 let h:d.toNat < ο lW.cps.toList:=LA
 let e:d=((d.toNat:Nat):Int):=LA
 let q:dN lW.cps.toList ((d.toNat:Nat):Int)=δ (lW.cps.toList.getD d.toNat 0):=jE (by rw[OB,Mf h];rfl);rw[<- e]at q;rwa[q]
def Tm.Good(y:ri ρ):Tm->Prop
 | .num n=>0<=n/\n < 1000000000000000000
 | .var x=>x∈y
 | .op i a b=>i < 6/\a.Good y/\b.Good y
def bf(H:Hp):Tm->ζ->Prop
 | .num n,p=>H p=δ (.tup [.str "num",.int n])
 | .var x,p=>H p=δ (.tup [.str "var",.str x])
 | .op i a b,p=>∃q r,H p=δ (.tup [.str "op",.str (Iv i),.ref q,.ref r])/\bf H a q/\bf H b r
theorem bf.mono{H a:Hp}(h:∀b x,H b=δ (.tup x)->a b=δ (.tup x)):∀{t:Tm} {p:ζ},bf H t p->bf a t p
 | .num _,_,e | .var _,_,e=>h _ _ e
 | .op _ _ _,_,z=>by let⟨q,r,e,E,c⟩:=z;rwa[#[q,r,h _ _ e,bf.mono h E,bf.mono h c]]
def bf.same(h:ae H a)(e:bf H t p):bf a t p:=e.mono λb x z=>h b _ z
def bf.but(B:aq H p)(k:aB p H h)(e:bf H t a):bf h t a:=e.mono λb X z=>by let⟨x,y,_,_,_,d⟩:=B.ob;rwa[k b _ (jN z d (by intro q;cases q)) z]
def bf.new{H:Hp}{o:HO}(n:H r=θ)(e:bf H t a):bf (ah H r o) t a:=e.mono λb x z=>am z n
inductive g9(c:ri V)(H:Hp)(Q:VK)(a:XK):Prop
 |mk(p:ζ)(_:c=[.ref p])(_:aq H p)(_:∀(d:Int) (H':Hp),0<=d->d < 1000000000000000000->aq H' p->(∀b,b≠p->H' b=H b)->Q (.int d) H')
inductive cw(n:Nat)(b:ri V)(H:Hp)(Q:VK)(a:XK):Prop
 |mk(p g:ζ)(d:Int)(c:ri ρ)(_:b=[.ref p,.ref g,.int d])(_:aq H p)(_:H g=δ (.lst (c.map qr)))(_:1<=ο c)(_:c.length<=20)(_:0<=d)(_:d < (n:Int))(_:∀(r:ζ) (T:Tm) (H':Hp),bf H' T r->(T.depth:Int)<=d->T.Good c->aq H' p->aB p H H'->Q (.ref r) H')
def qm{Y:ri ρ}(B:aq H p)(h:H g=δ (.lst$ Y.map qr)):g≠p:=by
 let⟨x,y,_,_,_,b⟩:=B.ob;erw[jN h b λz=>?_];injection z with z
 match Y,z with
 |a::r,z=>injection z with c _;cases c
def vH:ak z2z z2z (aa lQ):=bG
def rN(F:rc K "_law_number" lQ f t)(C:Cl P w K mg base 1 I u z0z aY "_law_take"):⇑2 f t z2z g9:=by
 erw[F.ok vH (λx A o s H v Q E a h=>?_)]
 let⟨p,rfl,B,q⟩:=h;erw[#[_,(jd (jw (za$ C.e a$ ja (pv 0)$ ja jf jb) (jg$ jo$ C.e a$ ja (pv 0)$ ja (ju Js jf jf) jb) jp)$ jg$ jo$ C.e a$ ja (pv 0)$ ja jf jb),?_]];erw[#[_,Z,p,4,Z,B,LB,LB,λL M y G m r=>#[Z,_,Z,?_]]];erw[bP (λc=>?_) (λc=>?_)]
 .erw[#[_,Z,_,_,Z,Z,#[LB,LB,LB],p,_,Z,m,LB,LB,λD g d i j k=>?_]];let z:=pH;rwa[q D g d LA j λb n=>(k b n).trans (r b n)]
 .erw[#[_,Z,p,9,Z,m,LB,LB,λD g d i j k=>?_]];rwa[q D g d LA j λb n=>(k b n).trans (r b n)]
def oq:ak ["_law_box_here","_law_names_here","_law_deep","_law_kind","_law_one"] z12z (aa oU):=bG
def yt(F:rc K "_law_term" oU f fd)(cF:Cl P w K mg base (n+2) f fd z12z (cw n) "_law_term")(S:Cl P w K mg base 1 fT f0 z0z aY "_law_take")(cN:Cl P w K mg base 2 fN f2 z2z g9 "_law_number")(ml:mg "len"=θ):⇑(n+3) f fd z12z (cw$ n+1):=by
 erw[F.ok oq λc0 A T s H vs Q E u h=>?_]
 let⟨p,g,d,ys,rfl,B,hg,v,x,h1,h2,q⟩:=h;erw[#[_,(jd (jx 3 oq.nd$ S.e u.m$ ja (pv 0)$ ja jf jb)$ jd (j6$ jw (PW.pt$ Qm (jA Qo (pv 3) jf$ aG _)$ Jr$ PW.pt$ qh (jA JF (pv 3) jf$ aG _)$ zF$ za$ pv 2) (jg$ jo$ jh$ ja jl$ ja (cN.e u.m$ ja (pv 0) jb) jb) jp)$ jd (jw (jA Qo (pv 3) jf$ aG _) (jg$ jo$ jh$ ja jl$ ja (jr jq (pv 1) (S.e u.m$ ja (pv 0)$ ja (jG jI Z ml M9$ ja (pv 1) jb) jb) ∅) jb) jp)$ jd (jx 4 oq.nd$ cF.e u$ ja (pv 0)$ ja (pv 1)$ ja (ju ki (pv 2) jf) jb)$ jg$ jo$ jh$ ja jl$ ja (jr Kj jl (S.e u.m$ ja (pv 0)$ ja jf jb) ∅)$ ja (pv 4)$ ja (cF.e u$ ja (pv 0)$ ja (pv 1)$ ja (ju ki (pv 2) jf) jb) jb),?_]];let b0:=zA;let j:g≠p:=qm B hg;erw[aj λF1 l=>#[_,Z,p,6,Z,B,LB,LB,λM O k0 k1 R e1=>l _ _ ?_]];clear l;let k:O g=δ (.lst$ ys.map qr):=by rw[e1 g j];rwa[hg]
 let U:aB p H O:=aB.of_eq e1;let num:∀(D:Int) (a:Hp) (r:ζ),0<=D->D < 1000000000000000000->aq a p->(∀b,b≠p->a b=O b)->a r=θ->Q (.ref r) (ah a r$ .tup [.str "num",.int D]):=λD a r C I i o N=>
  q r (.num D) _ jc (by show((0:Nat):Int)<=d;rwa[N09]) #[C,I] (i.upd_new N) ((U.trans$ aB.of_eq o).upd_new N)
 erw[aj λF1 l=>dI (λJ H'=>J=[↑p,↑g,δ$ .int d,δ$ .int M,θ]/\H'=O/\(M<=3∨d≠0)) (λE2 eR fm=>?_) λJ H' W=>?_]
 .clear l;erw[oF λG' G=>#[_,Z,_,_,Z,Z,_,Z,?_]];refine bP (λc=>?_) (λc=>?_)
  .erw[G _ _$ Ck ?_];show gF _ E2 _ _;unfold gF;rw[eR];exact#[_,Z,p,Z,R,λD a C I i o=>#[bN,λr N=>num D a r C I i o N]]
  erw[#[_,Z,_,_,Z,Z,_,Z,?_]];erw[bP (λc2=>?_) (λc2=>?_)]
  .erw[#[_,Z,Z,_,Z,G _ _ ?_]];refine bP (λc3=>?_) (λc3=>?_)
   .show gF _ E2 _ _;unfold gF;rw[eR];exact#[_,Z,p,Z,R,λD a C I i o=>#[bN,λr N=>num D a r C I i o N]]
   .rwa[fm _ _ #[Z,Z,.inr λz=>c3 (by rw[z];rfl)]]
  .let c1:¬(3:Int) < M:=P9 (lq.mpr c2);rwa[G _ _$ xP$ fm _ _ #[Z,Z,.inl LA]]
 let⟨rfl,eH,hk⟩:=W;rw[eH];erw[l _ _ ?_];clear l;erw[aj λF1 l=>oF λG' G=>#[_,Z,_,_,Z,Z,_,Z,G _ _ ?_]];clear G;erw[bP (λc=>?_) (λc=>l _ _ ?_)]
 .-- a variable
  erw[#[_,Z,_,Z,_,Z,g,_,Z,.inl$ aI.of k,p,_,Z,R,by rw[Mi];omega,by rw[Mi];omega,λD a X L i o=>?_]];rw[Mi]at L;let⟨y,hy,Y⟩:=Km (ys:=ys) X L;let t:a g=δ (.lst$ ys.map qr):=by rw[o g j];rwa[k]
  erw[#[g,_,_,_,Z,Z,aI.of t,Y,bN,λr N=>?_]];rwa[q r (.var y) _ jc (by show((0:Nat):Int)<=d;omega) hy (i.upd_new N) ((U.trans$ aB.of_eq o).upd_new N)]
 .let c':¬M < (4:Int):=P9 (lq.mpr c);let hd:d≠0:=hk.resolve_left LA;erw[#[_,Z,_,Z,_,Z,_,_,Z,Z,p,g,d - 1,ys,Z,R,k,v,x,LA,LA,λr1 T1 a t1 d3 g0 i k2=>?_]];let t:a g=δ (.lst$ ys.map qr):=k2 g _ j k;erw[#[_,Z,p,6,Z,i,LB,LB,λs3 H3 s0 s1 B3 e3=>?_]];let h0:H3 g=δ (.lst$ ys.map qr):=by rw[e3 g j];exact t
  let k3:aB p a H3:=aB.of_eq e3;erw[#[lW,_,_,Z,Z,(by rw[vQ];omega),DT s0 s1,?_]];erw[#[_,Z,_,Z,_,Z,_,Z,_,_,Z,Z,p,g,d - 1,ys,Z,B3,h0,v,x,LA,LA,λr2 T2 H4 t2 d4 g1 B4 k4=>?_]];erw[#[sd,λr N=>?_]];let t0:bf H4 T1 r1:=(t1.but i k3).but B3 k4;erw[q r (.op s3.toNat T1 T2) _ #[r1,r2,jc,t0.new N,t2.new N] ?_ #[LA,g0,g1] (B4.upd_new N) (((U.trans k2).trans$ k3.trans k4).upd_new N)];show((max T1.depth T2.depth+1:Nat):Int)<=d;omega
def yb:⇑2 f e z12z (cw 0):=by
 let n:∀v H Q E,¬cw 0 v H Q E:=λv H Q E h=>by let⟨p,g,d,y,_,_,_,_,_,i,b,_⟩:=h;let c:d < ((0:Nat):Int):=b;omega
 exact#[λv H Q E h=>absurd h (n v H Q E),λA o s H a u v Q E _ _ _ _ h=>absurd h (n v H Q E)]
theorem Bo(F:rc K "_law_term" oU f a)(b:au K a z12z [])(m:mg "_law_term"=↑f)(c:Cl P w K mg base 1 g d z0z aY "_law_take")(C:Cl P w K mg base 2 h e z2z g9 "_law_number")(M:mg "len"=θ):
  ∀n:Nat,⇑(n+2) f a z12z (cw n)
 |0=>yb
 |n+1=>yt F #[(Bo F b m c C M n),b,F.kp,m] c C M
end _K
namespace _K
open PySem PySem.Spec PyProof.Rows _L
variable {P:ω}{w:bS}{K:Ψ}{mg:ρ->rm η}{base:db}
local macro_rules|`(‹$n›)=>do{let i:=Lean.mkIdent;`(_K.Cl $(i `P) $(i `w) $(i `K) $(i `mg) $(i `base) $n)}
def Tm.vars:Tm->ri ρ
 | .num _=>[]
 | .var x=>[x]
 | .op _ a b=>a.vars++b.vars
theorem kE:∀{t:Tm},t.Good y->∀x∈t.vars,x∈y
 | .num _,_,_,h=>nomatch h
 | .var _,g,_,h=>by rw[τ.mp h];rwa[g]
 | .op _ _ _,g,_,h=>(γ.mp h).elim (kE g.2.1 _) (kE g.2.2 _)
theorem ke:∀{l m:ri ρ},l.Nodup->(∀x∈l,x∈m)->ο l<=ο m
 | [],_,_,_=>Mu _
 |x::l,m,n,h=>by rw[RV]at n;let H:=h x Mz;let q:=ke (l:=l) (m:=m.erase x) n.2 λy a=>(List.mem_erase_of_ne (λe=>n.1 (by rw[<- e];rwa[a]))).mpr (h y$ ML _ a);rw[List.length_erase_of_mem H]at q;let:0 < ο m:=List.length_pos_of_mem H;rw[MV];omega
theorem KN:∀{l m:ri ρ},l.Nodup->m.Nodup->(∀x,x∈l↔x∈m)->l.Perm m
 | [],[],_,_,_=>.nil
 | [],y::m,_,_,h=>absurd ((h y).mpr Mz) Lz
 |x::l,m,n,N,h=>by
  rw[RV]at n;let a:x∈m:=(h x).mp Mz;erw[(List.Perm.cons x$ KN n.2 (N.erase x) λy=>?_).trans (List.perm_cons_erase a).symm];rw[N.mem_erase_iff];constructor
  .intro H;exact#[λe=>n.1 (by rw[<- e];rwa[H]),(h y).mp$ ML _ H]
  .rintro ⟨b,H⟩;exact(Ξ.mp ((h y).mpr H)).resolve_left b
theorem QN:∀{p:ρ} {l:ri ρ},risingS p l=μ->(p::l).Pairwise λa b=>a.cps.toList<=b.cps.toList
 |p,[],_=>by simp
 |p,x::r,h=>by
  let H:(!ltCps x.cps.toList p.cps.toList&&risingS x r)=μ:=h;rw[Nz]at H;let i:=QN H.2;let c:p.cps.toList<=x.cps.toList:=by let z:=H.1;rw[ltCps_eq]at z;simpa using z
  rw[List.pairwise_cons]at i ⊢;erw[#[λy hy=>?_,List.pairwise_cons.mpr i]];rcases Ξ.mp hy with rfl |hy
  .rwa[c]
  .rwa[List.le_trans c$ i.1 y hy]
def QO(h:sortedS l=μ):l.Pairwise λa b=>a.cps.toList<=b.cps.toList:=by
 cases l with
 |nil=>rwa[.nil]
 |cons x r=>rwa[QN h]
def Yb{l:ri ρ}(p:l.Perm m)(h:sortedS l=μ)(H:sortedS m=μ):l=m:=by erw[List.Perm.eq_of_pairwise (λa b _ _ x y=>?_) (QO h) (QO H) p];let e:=List.le_antisymm x y;cases a;cases b;rwa[MZ Str.mk$ Array.toList_inj.mp e]
inductive Lf where
 |rd (x:ρ) (t:ζ) (T:Tm)
 |st (x:ρ) (t:ζ) (T:Tm)
 |wr (t u:ζ) (T U:Tm)
 |cl (x f:ρ) (q:ζ) (ts:ri (ζ×Tm))
 |gv (t:ζ) (T:Tm)
def wU(H:Hp):Lf->ri V->Prop
 | .rd x t T,v=>v=[.str "read",.str x,.ref t]/\bf H T t
 | .st x t T,v=>v=[.str "set",.str x,.ref t]/\bf H T t
 | .wr t u T U,v=>v=[.str "write",.ref t,.ref u]/\bf H T t/\bf H U u
 | .cl x f q a,v=>v=[.str "call",.str x,.str f,.ref q]/\H q=δ (.tup (a.map λc=>rb c.1))/\∀c∈a,bf H c.2 c.1
 | .gv t T,v=>v=[.str "give",.ref t]/\bf H T t
def wU.mono(k:ai H a)(h:wU H l v):wU a l v:=by
 cases l with
 |rd x t T |st x t T |gv t T=>exact#[h.1,h.2.mono k]
 |wr t u T U=>exact#[h.1,h.2.1.mono k,h.2.2.mono k]
 |cl x f q d=>exact#[h.1,k _ _ h.2.1,λc b=>(h.2.2 c b).mono k]
inductive Bd where
 |nil
 |lf (p:ζ) (l:Lf) (r:Bd)
 |ite (p t:ζ) (T:Tm) (a b r:Bd)
 |loop (p t:ζ) (T:Tm) (a r:Bd)
def Bd.app:Bd->Bd->Bd
 | .nil,s=>s
 | .lf p l r,s=>.lf p l (r.app s)
 | .ite p t T a b r,s=>.ite p t T a b (r.app s)
 | .loop p t T a r,s=>.loop p t T a (r.app s)
def Bd.size:Bd->Nat
 | .nil=>0
 | .lf _ _ r=>r.size+1
 | .ite _ _ _ a b r=>a.size+b.size+r.size+1
 | .loop _ _ _ a r=>a.size+r.size+1
def Bd.dep:Bd->Nat
 | .nil=>0
 | .lf _ _ r=>r.dep
 | .ite _ _ _ a b r=>max (max a.dep b.dep+1) r.dep
 | .loop _ _ _ a r=>max (a.dep+1) r.dep
def dy(y:ri ρ)(T:Tm):Prop:=T.Good y/\T.depth < 6
def Lf.Ok(y:ri ρ):Lf->Prop
 | .rd x _ T | .st x _ T=>x∈y/\dy y T
 | .wr _ _ T U=>dy y T/\dy y U
 | .cl x _ _ t=>x∈y/\ο t<=6/\∀c∈t,dy y c.2
 | .gv _ T=>dy y T
def Bd.Ok(y:ri ρ):Bd->Prop
 | .nil=>True
 | .lf _ l r=>l.Ok y/\r.Ok y
 | .ite _ _ T a b r=>dy y T/\a.Ok y/\b.Ok y/\r.Ok y
 | .loop _ _ T a r=>dy y T/\a.Ok y/\r.Ok y
abbrev ip:=ri (ρ×Nat)
def Lf.Cs(F:ip):Lf->Prop
 | .cl _ f _ t=>(f,t.length)∈F
 |_=>True
def Bd.Cs(F:ip):Bd->Prop
 | .nil=>True
 | .lf _ l r=>l.Cs F/\r.Cs F
 | .ite _ _ _ a b r=>a.Cs F/\b.Cs F/\r.Cs F
 | .loop _ _ _ a r=>a.Cs F/\r.Cs F
theorem Kn{F:ip}:∀{a b:Bd},a.Cs F->b.Cs F->(a.app b).Cs F
 | .nil,_,_,h=>h
 | .lf _ _ _,_,h,k=>#[h.1,Kn h.2 k]
 | .ite _ _ _ _ _ _,_,h,k=>#[h.1,h.2.1,Kn h.2.2 k]
 | .loop _ _ _ _ _,_,h,k=>#[h.1,Kn h.2 k]
theorem kG{F:ip}(k:∀f∈F,f∈G):∀{a:Bd},a.Cs F->a.Cs G
 | .nil,_=>trivial
 | .lf _ l _,h=>#[by cases l<;>first |exact k _ h.1 |trivial,kG k h.2]
 | .ite _ _ _ _ _ _,h=>#[kG k h.1,kG k h.2.1,kG k h.2.2]
 | .loop _ _ _ _ _,h=>#[kG k h.1,kG k h.2]
def Lf.calls:Lf->ip
 | .cl _ f _ t=>[(f,t.length)]
 |_=>[]
def Bd.calls:Bd->ip
 | .nil=>[]
 | .lf _ l r=>l.calls++r.calls
 | .ite _ _ _ a b r=>a.calls++(b.calls++r.calls)
 | .loop _ _ _ a r=>a.calls++r.calls
theorem zC:∀b:Bd,b.Cs b.calls
 | .nil=>trivial
 | .lf _ l r=>#[by cases l<;>first |exact js _ List.mem_cons_self |trivial,kG (λ_ h=>ge _ h) (zC r)]
 | .ite _ _ _ a b r=>#[kG (λ_ h=>js _ h) (zC a),kG (λ_ h=>ge _ (js _ h)) (zC b),kG (λ_ h=>ge _ (ge _ h)) (zC r)]
 | .loop _ _ _ a r=>#[kG (λ_ h=>js _ h) (zC a),kG (λ_ h=>ge _ h) (zC r)]
theorem zD{F:ip}:∀{b:Bd},b.Cs F->∀f∈b.calls,f∈F
 | .nil,_,_,h=>nomatch h
 | .lf _ l r,k,f,h=>(γ.mp h).elim (λh=>by cases l<;>first | (rw[τ.mp h];rwa[k.1]) |exact nomatch h) (zD k.2 f)
 | .ite _ _ _ a b r,k,f,h=>(γ.mp h).elim (zD k.1 f) λh=>(γ.mp h).elim (zD k.2.1 f) (zD k.2.2 f)
 | .loop _ _ _ a r,k,f,h=>(γ.mp h).elim (zD k.1 f) (zD k.2 f)
theorem j3:∀(a b:Bd),(a.app b).size=a.size+b.size
 | .nil,b=>by show b.size=0+b.size;omega
 | .lf _ _ r,b=>by let:=j3 r b;show(r.app b).size+1=r.size+1+b.size;omega
 | .ite _ _ _ x y r,b=>by let:=j3 r b;show x.size+y.size+(r.app b).size+1=x.size+y.size+r.size+1+b.size;omega
 | .loop _ _ _ x r,b=>by let:=j3 r b;show x.size+(r.app b).size+1=x.size+r.size+1+b.size;omega
theorem zj:∀(a b:Bd),(a.app b).dep=max a.dep b.dep
 | .nil,b=>(Nat.zero_max b.dep).symm
 | .lf _ _ r,b=>zj r b
 | .ite _ _ _ x y r,b | .loop _ _ _ x r,b=>by show max _ (r.app b).dep=max (max _ r.dep) b.dep;rw[zj r b,UD]
theorem Ko:∀{a b:Bd},a.Ok y->b.Ok y->(a.app b).Ok y
 | .nil,_,_,h=>h
 | .lf _ _ _,_,g,h=>#[g.1,Ko g.2 h]
 | .ite _ _ _ _ _ _,_,g,h=>#[g.1,g.2.1,g.2.2.1,Ko g.2.2.2 h]
 | .loop _ _ _ _ _,_,g,h=>#[g.1,g.2.1,Ko g.2.2 h]
inductive dGi(H:Hp)(p t:ζ)(T:Tm)(a b R:ri V->Prop)(x:ri V):Prop|mk(q Q A B y:_)(_:x= .ref p::y)(_:H p=δ (.tup [.str "if",.ref t,.ref q,.ref Q]))(_:bf H T t)(_:H q=δ (.tup A))(_:H Q=δ (.tup B))(_:a A)(_:b B)(_:R y)
inductive dGl(H:Hp)(p t:ζ)(T:Tm)(a R:ri V->Prop)(x:ri V):Prop|mk(q A y:_)(_:x= .ref p::y)(_:H p=δ (.tup [.str "while",.ref t,.ref q]))(_:bf H T t)(_:H q=δ (.tup A))(_:a A)(_:R y)
def dG(H:Hp):Bd->ri V->Prop
 | .nil,x=>x=[]
 | .lf p l r,x=>∃v y,x= .ref p::y/\H p=δ (.tup v)/\wU H l v/\dG H r y
 | .ite p t T a b r,x=>dGi H p t T (dG H a) (dG H b) (dG H r) x
 | .loop p t T a r,x=>dGl H p t T (dG H a) (dG H r) x
def dG.mono(k:ai H m):∀{x:ri V},dG H a x->dG m a x:=by
 induction a with
 |nil=>exactλh=>h
 |lf p l r n=>rintro x ⟨v,y,e,c,d,f⟩;exact#[v,y,e,k _ _ c,d.mono k,n f]
 |ite p t T a b r i o I=>rintro x ⟨q,Q,A,B,y,e,c,g,d,f,j,s,u⟩;exact#[q,Q,A,B,y,e,k _ _ c,g.mono k,k _ _ d,k _ _ f,i j,o s,I u]
 |loop p t T a r i I=>rintro x ⟨q,A,y,e,c,g,d,f,j⟩;exact#[q,A,y,e,k _ _ c,g.mono k,k _ _ d,i f,I j]
def dG.app(k:dG H b y):∀{x:ri V},dG H a x->dG H (a.app b) (x++y):=by
 induction a with
 |nil=>intro x h;let e:x=[]:=h;rw[e];rwa[k]
 |lf p l r I=>rintro x ⟨v,z,e,c,d,f⟩;exact#[v,z++y,by rw[e];rfl,c,d,I f]
 |ite p t T a b r _ _ i=>rintro x ⟨q,Q,A,B,z,e,c,g,d,f,j,m,n⟩;exact#[q,Q,A,B,z++y,by rw[e];rfl,c,g,d,f,j,m,i n]
 |loop p t T a r _ i=>rintro x ⟨q,A,z,e,c,g,d,f,j⟩;exact#[q,A,z++y,by rw[e];rfl,c,g,d,f,i j]
def dG.len:∀{x:ri V},dG H a x->ο x<=a.size:=by
 induction a with
 |nil=>intro x h;let e:x=[]:=h;rw[e];rwa[Mj 0]
 |lf p l r I=>rintro x ⟨v,y,e,d,f,c⟩;rw[e];rwa[NM (I c)]
 |ite p t T a b r _ _ i=>rintro x ⟨q,Q,A,B,y,e,d,j,f,c,g,m,k⟩;rw[e];rwa[NM (Mw (i k) (Ul _ _))]
 |loop p t T a r _ i=>rintro x ⟨q,A,y,e,d,j,f,c,g⟩;rw[e];rwa[NM (Mw (i g) (Ul _ _))]
inductive h9(H:Hp):V->Bd->Prop
 |lf (p:ζ) (l:Lf) (vs:ri V) (h1:H p=δ (.tup vs)) (h2:wU H l vs):h9 H (.ref p) (.lf p l .nil)
 |ite (p t:ζ) (T:Tm) (a b:Bd) (qa qb:ζ) (as bs:ri V) (h1:H p=δ (.tup [.str "if",.ref t,.ref qa,.ref qb])) (h0:bf H T t) (h2:H qa=δ (.tup as)) (h3:H qb=δ (.tup bs)) (h4:dG H a as) (h5:dG H b bs):h9 H (.ref p) (.ite p t T a b .nil)
 |loop (p t:ζ) (T:Tm) (a:Bd) (qa:ζ) (as:ri V) (h1:H p=δ (.tup [.str "while",.ref t,.ref qa])) (h0:bf H T t) (h2:H qa=δ (.tup as)) (h3:dG H a as):h9 H (.ref p) (.loop p t T a .nil)
def h9.bd(h:h9 H v s):dG H s [v]:=by
 cases h with
 |lf p l V c d=>exact#[V,[],Z,c,d,Z]
 |ite p t T a b q Q A B c e d f g i=>exact#[q,Q,A,B,[],Z,c,e,d,f,g,i,Z]
 |loop p t T a q A c e d f=>exact#[q,A,[],Z,c,e,d,f,Z]
def h9.mono(k:ai H g)(h:h9 H v s):h9 g v s:=by
 cases h with
 |lf p l V c d=>rwa[.lf p l V (k _ _ c) (d.mono k)]
 |ite p t T a b q Q A B c e d f i j=>rwa[.ite p t T a b q Q A B (k _ _ c) (e.mono k) (k _ _ d) (k _ _ f) (i.mono k) (j.mono k)]
 |loop p t T a q A c e d f=>rwa[.loop p t T a q A (k _ _ c) (e.mono k) (k _ _ d) (f.mono k)]
def dG.last:∀{x:ri V},dG H a x->x=[]/\a= .nil∨∃z v b s,x=z++[v]/\a=b.app s/\dG H b z/\h9 H v s:=by
 induction a with
 |nil=>exactλh=>.inl #[h,Z]
 |lf p l r i=>
  rintro x ⟨u,y,e,f,g,n⟩;rcases i n with ⟨E,d⟩ | ⟨z,v,b,s,E,d,j,k⟩
  .rwa[.inr #[[],.ref p,.nil,.lf p l .nil,by rw[e,E];rfl,by rw[d];rfl,Z,.lf p l u f g]]
  .rwa[.inr #[.ref p::z,v,.lf p l b,s,by rw[e,E];rfl,by rw[d];rfl,#[u,z,Z,f,g,j],k]]
 |ite p t T a b r _ _ i=>
  rintro x ⟨q,Q,A,B,y,e,f,m,g,n,G,C,o⟩;rcases i o with ⟨E,d⟩ | ⟨z,v,c,s,E,d,j,k⟩
  .rwa[.inr #[[],.ref p,.nil,.ite p t T a b .nil,by rw[e,E];rfl,by rw[d];rfl,Z,.ite p t T a b q Q A B f m g n G C]]
  .rwa[.inr #[.ref p::z,v,.ite p t T a b c,s,by rw[e,E];rfl,by rw[d];rfl,#[q,Q,A,B,z,Z,f,m,g,n,G,C,j],k]]
 |loop p t T a r _ i=>
  rintro x ⟨q,A,y,e,f,m,g,G,o⟩;rcases i o with ⟨E,d⟩ | ⟨z,v,c,s,E,d,j,k⟩
  .rwa[.inr #[[],.ref p,.nil,.loop p t T a .nil,by rw[e,E];rfl,by rw[d];rfl,Z,.loop p t T a q A f m g G]]
  .rwa[.inr #[.ref p::z,v,.loop p t T a c,s,by rw[e,E];rfl,by rw[d];rfl,#[q,A,z,Z,f,m,g,G,j],k]]
theorem zJ:∀{a b:Bd},(a.app b).Ok y->a.Ok y/\b.Ok y
 | .nil,_,h=>#[trivial,h]
 | .lf _ _ _,_,h=>#[#[h.1,(zJ h.2).1],(zJ h.2).2]
 | .ite _ _ _ _ _ _,_,h=>#[#[h.1,h.2.1,h.2.2.1,(zJ h.2.2.2).1],(zJ h.2.2.2).2]
 | .loop _ _ _ _ _,_,h=>#[#[h.1,h.2.1,(zJ h.2.2).1],(zJ h.2.2).2]
structure Nm(ss:ri ρ)(M:ρ->Prop):Prop where
 nd:ss.Nodup
 so:sortedS ss=μ
 mem:∀x,x∈ss↔M x
def Nm.uniq(h:Nm a M)(g:Nm s M):a=s:=Yb (KN h.nd g.nd λx=>(h.mem x).trans (g.mem x).symm) h.so g.so
open Classical in
def canon(M:ρ->Prop):ri ρ:=if h:∃s,Nm s M then Classical.choose h else []
def Nm.canon(h:Nm s M):s=canon M:=by let e:∃s,Nm s M:=#[s,h];unfold _K.canon;rw[dif_pos e];rwa[h.uniq$ Classical.choose_spec e]
def Nm.len{s y:ri ρ}{M:ρ->Prop}(h:Nm s M)(H:∀x,M x->x∈y):ο s<=ο y:=ke h.nd λx a=>H x ((h.mem x).mp a)
def Lf.use(M:ρ->Prop):Lf->ρ->Prop
 | .rd x _ T,y | .st x _ T,y=>(M y/\y≠x)∨y∈T.vars
 | .wr _ _ T U,y=>M y∨y∈T.vars∨y∈U.vars
 | .cl x _ _ t,y=>(M y/\y≠x)∨∃c∈t,y∈c.2.vars
 | .gv _ T,y=>y∈T.vars
def Bd.use:Bd->(ρ->Prop)->ρ->Prop
 | .nil,M=>M
 | .lf _ l r,M=>l.use (r.use M)
 | .ite _ _ T a b r,M=>λy=>(a.use (r.use M) y∨b.use (r.use M) y)∨y∈T.vars
 | .loop _ _ T a r,M=>λy=>(a.use (λ_=>False) y∨r.use M y)∨y∈T.vars
theorem J1:∀(a b:Bd) (M:ρ->Prop),(a.app b).use M=a.use (b.use M)
 | .nil,_,_=>rfl
 | .lf _ l r,b,M=>by show l.use ((r.app b).use M)=l.use (r.use (b.use M));rw[J1 r b M]
 | .ite _ _ T x y r,b,M=>by show(λz=>(x.use ((r.app b).use M) z∨y.use ((r.app b).use M) z)∨z∈T.vars)=λz=>(x.use (r.use (b.use M)) z∨y.use (r.use (b.use M)) z)∨z∈T.vars;rw[J1 r b M]
 | .loop _ _ T x r,b,M=>by show(λz=>(x.use (λ_=>False) z∨(r.app b).use M z)∨z∈T.vars)=λz=>(x.use (λ_=>False) z∨r.use (b.use M) z)∨z∈T.vars;rw[J1 r b M]
def Lf.use_in{M:ρ->Prop}{l:Lf}(h:l.Ok Y)(a:∀x,M x->x∈Y):∀y,l.use M y->y∈Y:=by
 intro y H;cases l with
 |rd x t T |st x t T=>rwa[H.elim (λz=>a y z.1) (kE h.2.1 y)]
 |wr t u T U=>rwa[H.elim (a y) λz=>z.elim (kE h.1.1 y) (kE h.2.1 y)]
 |cl x f q d=>rwa[H.elim (λz=>a y z.1) λ#[c,b,z]=>kE (h.2.2 c b).1 y z]
 |gv t T=>rwa[kE h.1 y H]
theorem Bd.use_in:∀{b:Bd} {M:ρ->Prop},b.Ok Y->(∀x,M x->x∈Y)->∀y,b.use M y->y∈Y
 | .nil,_,_,H,y,c=>H y c
 | .lf _ l r,_,h,H,y,c=>Lf.use_in h.1 (Bd.use_in h.2 H) y c
 | .ite _ _ T a b r,_,h,H,y,c=>c.elim (λz=>z.elim (Bd.use_in h.2.1 (Bd.use_in h.2.2.2 H) y) (Bd.use_in h.2.2.1 (Bd.use_in h.2.2.2 H) y)) (kE h.1.1 y)
 | .loop _ _ T a r,_,h,H,y,c=>c.elim (λz=>z.elim (Bd.use_in h.2.1 (λ_ w=>w.elim) y) (Bd.use_in h.2.2 H y)) (kE h.1.1 y)
abbrev eu:cv:=bH 14
abbrev DH:cv:=bH 44
abbrev vp:cv:=bH 45
abbrev yS:cv:=bH 46
abbrev yR:cv:=bH 47
inductive dn(n:Nat)(c:ri V)(H:Hp)(Q:VK)(b:XK):Prop
 |mk(a:ζ)(T:Tm)(d:ri ρ)(_:c=[.ref a])(_:bf H T a)(_:T.depth < n)(_:T.Good d)(_:ο d<=21)(_:∀(r:ζ) (ss:ri ρ) (H':Hp),H r=θ->H' r=δ (.lst (ss.map qr))->ss.Nodup->(∀x,x∈ss↔x∈T.vars)->sortedS ss=μ->ae H H'->Q (.ref r) H')
def vG:ak z1z z1z (aa eu):=bG
def yn{f:ζ}{o:bU}(F:rc K "names_in" eu f o){n:Nat}(C:‹n+1› f o z1z (dn n) "names_in")(M:mg "set"=θ)(p:mg "sorted"=θ):⇑(n+2) f o z1z (dn$ n+1):=by
 erw[F.ok vG (λc0 A O s H vs Q E v h=>?_)]
 let⟨a,T,Y,rfl,t,dp,g,j,q⟩:=h;erw[#[_,(jd (jw (kf$ jz$ pv 0) (jg$ jo$ jK jb) jp)$ jd (jw (kf$ jz$ pv 0) (jg$ jo$ jK$ ja (jz$ pv 0) jb) jp)$ jg$ jo$ jG (zZ Z) Z p RB$ ja (jF (qW Z) Z M Vl$ ja (ju qk (C.e v$ ja (jz$ pv 0) jb)$ C.e v$ ja (jz$ pv 0) jb) jb) jb),?_]];cases T with
 |num m=>have b:H a=δ (.tup [.str "num",.int m]):=t;erw[(jv b Z #[Z,_,Z,b8 Ly ?_])];exact#[LB,λr N=>q r [] _ N jc Rj (λx=>Sm) Z (je N)]
 |var x=>have b:H a=δ (.tup [.str "var",.str x]):=t;erw[(jv b Z #[Z,_,Z,aT Ly ?_])];erw[(jv b Z #[Z,_,Z,b8 Ly ?_])];exact(jv b Z #[io,λr N=>q r [x] _ N jc Lz (λy=>Sm) Z (je N)])
 |op i B D=>let⟨p1,p2,b,h1,h2⟩:=t;let d0:max B.depth D.depth+1 < n+1:=dp;erw[(jv b Z #[Z,_,Z,aT Ly ?_])];erw[(jv b Z #[Z,_,Z,aT Ly ?_])];erw[(jv b Z #[p1,B,Y,Z,h1,LA,g.2.1,j,λr1 S H1 n1 e1 d1 G o1 u=>?_])];erw[(jv (u _ _ b) Z #[p2,D,Y,Z,h2.same u,LA,g.2.2,j,λr2 k H2 n2 e2 d2 I o2 J=>?_])];let l1:ο S<=21:=Mw (ke d1 λx d=>kE g.2.1 x ((G x).mp d)) j;let l2:ο k<=21:=Mw (ke d2 λx d=>kE g.2.2 x ((I x).mp d)) j;let b0:=zA;erw[#[r1,r2,_,_,Z,Z,J _ _ e1,e2,(by rw[Mi,Mi];omega),λc nc=>?_]];erw[#[c,S++k,Z,aI.of (by rw[jc,MS]),(λL nd hs=>NN (NM$ ke nd hs) (by rw[Ml];show ο S+ο k+1 < 4096;omega)),λl L nl dL R=>?_]];let lL:=ke dL λx d=>(R x).mp d;rw[Ml]at lL;erw[#[l,L,Z,jc,LA,λz ss U W dz oz=>?_]];let X:ae H (ah (ah H2 c$ .lst$ S.map qr++k.map qr) l$ Hj P w l L):=(u.trans J).trans ((je nc).trans$ je nl);erw[q z ss _ (X.free U) jc (W.nodup_iff.mpr dz) (λx=>?_) oz$ X.trans$ je U];rw[W.mem_iff,R x,Oa,G x,I x];rwa[γ.symm]
def ya:⇑1 f d z1z (dn 0):=by
 let n:∀v H Q E,¬dn 0 v H Q E:=λv H Q E h=>by let⟨a,T,y,_,_,c,_⟩:=h;rwa[absurd c$ O4 _]
 exact#[λv H Q E h=>absurd h (n v H Q E),λA o s H b u v Q E _ _ _ _ h=>absurd h (n v H Q E)]
theorem A4(F:rc K "names_in" eu f a)(b:au K a z1z [])(c:mg "names_in"=↑f)(m:mg "set"=θ)(M:mg "sorted"=θ):
  ∀n:Nat,⇑(n+1) f a z1z (dn n)
 |0=>ya
 |n+1=>yn F #[(A4 F b c m M n),b,F.kp,c] m M
def Lf.own:Lf->ri (ζ×Tm)
 | .rd _ t T | .st _ t T=>[(t,T)]
 | .wr t u T U=>[(t,T),(u,U)]
 | .cl _ _ _ a=>a
 | .gv t T=>[(t,T)]
def Bd.own:Bd->ri (ζ×Tm)
 | .nil=>[]
 | .lf _ l _=>l.own
 | .ite _ t T _ _ _ | .loop _ t T _ _=>[(t,T)]
def rT(c:ζ×Tm):V:=.ref c.1
inductive mX(b:ri V)(H:Hp)(Q:VK)(a:XK):Prop
 |mk(v:V)(s:Bd)(_:b=[v])(_:h9 H v s)(_:∀(r:ζ) (H':Hp),H' r=δ (.tup (s.own.map rT))->ae H H'->Q (.ref r) H')
def Zv:aP (a::b::r) (δ 1) (δ 2)=[b]:=by
 unfold aP;let e:(1:Int)=((1:Nat):Int):=rfl;let E:(2:Int)=((2:Nat):Int):=rfl;rw[E,e,HT.sIx_nat,HT.sIx_nat,MV,MV];let c:min 1 (ο r+1+1)=1:=LA
 let d:min 2 (ο r+1+1) - 1=1:=LA
 rw[c,d];rfl
def Bg:ak ["statement","word"] z4z (aa DH):=bG
def C2{f:ζ}{j:bU}(F:rc K "own_terms" DH f j):⇑1 f j z4z mX:=by
 erw[F.ok Bg λC A o s H V Q E d h=>?_]
 let⟨v,st,rfl,m,q⟩:=h;erw[#[_,(jd (jx 1 Bg.nd$ jz$ pv 0)$ jd (jw (jA zo (pv 1) (jh$ ja jl$ ja jl jb) Z) (jg$ jo$ jJ kC (pv 0) (jH jf) jV) jp)$ jd (jw (kf$ pv 1) (jg$ jo$ jJ kC (pv 0) (jH jf) jV) jp)$ jd (jw (kf$ pv 1) (jg$ jo$ jz$ pv 0) jp)$ jg$ jo$ jJ kC (pv 0) (jH jf)$ jH jf),?_]];cases m with
 |lf p l V c g=>
  cases l with
  |rd x t T |st x t T=>let⟨rfl,i⟩:=g;erw[(jv c Z #[_,Z,bN,λl n=>#[l,_,Z,.inr$ aD.of jc,Z,Z,_,Z,b8 Ly ?_]])];exact#[_,Z,_,Z,p,_,Z,am c n,λr e d s=>q r e d ((je n).trans s)]
  |wr t u T U=>let⟨rfl,i,L⟩:=g;erw[(jv c Z #[_,Z,bN,λl n=>#[l,_,Z,.inr$ aD.of jc,Z,Z,_,Z,aT Ly ?_]])];erw[#[_,Z,Z,_,Z,b8 Ly ?_]];exact#[_,Z,_,Z,p,_,Z,am c n,λr e d s=>q r e d ((je n).trans s)]
  |cl x M y N=>let⟨rfl,z,i⟩:=g;erw[(jv c Z #[_,Z,bN,λl n=>#[l,_,Z,.inr$ aD.of jc,Z,Z,_,Z,aT Ly ?_]])];erw[#[_,Z,Z,_,Z,aT Ly ?_]];erw[#[_,Z,Z,_,Z,b8 Ly ?_]];exact(jv (am c n) Z$ q y _ (am z n)$ je n)
  |gv t T=>let⟨rfl,i⟩:=g;erw[(jv c Z #[_,Z,bN,λl n=>#[l,_,Z,.inr$ aD.of jc,Z,Z,_,Z,aT Ly ?_]])];erw[#[_,Z,Z,_,Z,aT Ly ?_]];erw[#[_,Z,Z,_,Z,aT Ly ?_]];exact#[_,Z,_,Z,_,Z,p,_,Z,am c n,λr e d s=>q r e (by rw[Zv]at d;rwa[d]) ((je n).trans s)]
 |ite p t T a b B O D R c G g I S W |loop p t T a B D c G g I=>erw[(jv c Z #[_,Z,bN,λl n=>#[l,_,Z,.inr$ aD.of jc,Z,Z,_,Z,aT Ly ?_]])];erw[#[_,Z,Z,_,Z,aT Ly ?_]];erw[#[_,Z,Z,_,Z,aT Ly ?_]];exact#[_,Z,_,Z,_,Z,p,_,Z,am c n,λr e d s=>q r e (by rw[Zv]at d;rwa[d]) ((je n).trans s)]
def KO{K:Ψ}{a:ζ}{Y:ri ρ}{t:TT}{T:TE}{q:ri V->Hp->Prop}{b:_L.St}{H:Hp}(f:ρ->Bool)(L:ο Y<=1000)(A:H a=δ (.lst$ Y.map qr))
  (B:∀y g (Q:Bool->Hp->Prop),y∈Y->ae H g->(∀j,ae g j->Q (f y) j)->t (δ (.str y)::b) g Q)
  (C:∀y g (Q:VK),y∈Y->Q (.str y) g->T (δ (.str y)::b) g Q) (D:∀c,ae H c->q ((Y.filter f).map qr) c):eP (wS K a) 1 b (bo 0) t T q H:=by
 let F:=zA;erw[#[λi m n c=>m=ο Y - i/\i<=ο Y/\n=((Y.take i).filter f).map qr/\ae H c,#[Y.length,Lz,Mu _,Lz,ae.refl H],?_]];rintro i m n c ⟨rfl,M,rfl,k⟩;let d:aI K c a (Y.map qr):=aI.of (k _ _ A);by_cases h:i < ο Y
 .let o:(Y.map qr)[i]?=δ (.str Y[i]):=by rw[MH,Mf h];rfl
  erw[.inr #[#[_,_,d,o],?_,λz j=>z=((Y.take$ i+1).filter f).map qr/\ae H j,λz j #[G,I]=>#[ο Y - (i+1),LA,Z,h,G,I],λv j N l y=>?_]]
  .rw[Mi];let:=Rc f (Y.take i);rw[MT]at this;omega
  let⟨e,y⟩:=y;subst e;let p:=y _ d;rw[o]at p;cases p;let⟨w,rfl⟩:=xQ l;let r:Y[i]∈Y:=OE h;let s:Y.take (i+1)=Y.take i++[Y[i]]:=by rw[NQ,Mf h];rfl
  erw[#[#[[δ _],Z,Z],B Y[i] _ _ r k λJ u=>?_]];cases x:f Y[i] with
  |true=>
   erw[b8 Z$ C Y[i] J _ r #[?_,k.trans u]];rw[s,Tx,MS];let E:[Y[i]].filter f=[Y[i]]:=by simp [x]
   rw[E];rfl
  |false=>
   erw[aT Z #[?_,k.trans u]];rw[s,Tx,MS];let E:[Y[i]].filter f=[]:=by simp [x]
   rw[E];simp
 .let e:i=ο Y:=by omega
  subst e;erw[.inl #[#[_,d,Lz],?_]];rw[NY$ Mj _];rwa[D c k]
def Lf.bt(M:ρ->Prop):Lf->ρ->Prop
 | .rd x _ _,y | .st x _ _,y=>M y/\y≠x
 | .wr _ _ _ _,y=>M y
 | .cl x _ _ _,y=>M y/\y≠x
 | .gv _ _,_=>False
def Bd.bt(M:ρ->Prop):Bd->ρ->Prop
 | .nil,y=>M y
 | .lf _ l _,y=>l.bt M y
 | .ite _ _ _ a b _,y=>a.use M y∨b.use M y
 | .loop _ _ _ a _,y=>a.use (λ_=>False) y∨M y
def wA(h:h9 H v s)(M:ρ->Prop)(y:ρ):s.use M y↔s.bt M y∨∃c∈s.own,y∈c.2.vars:=by
 cases h with
 |lf p l V _ _=>
  cases l with
  |rd x t T |st x t T=>exact#[λz=>z.elim .inl λw=>.inr #[_,τ.mpr Z,w],λz=>z.elim .inl λ#[c,hc,w]=>.inr (by rw[τ.mp hc]at w;rwa[w])]
  |wr t u T U=>
   erw[#[λz=>z.elim .inl λw=>.inr (w.elim (λw=>#[_,Mz ..,w]) λw=>#[_,ML _$ τ.mpr Z,w]),λz=>z.elim .inl λ#[c,hc,w]=>.inr ?_]];rcases Ξ.mp hc with e |hc
   .rw[e]at w;rwa[.inl w]
   .rw[τ.mp hc]at w;rwa[.inr w]
  |cl x f q d=>rwa[Sm]
  |gv t T=>exact#[λw=>.inr #[_,τ.mpr Z,w],λz=>z.elim False.elim λ#[c,hc,w]=>by rw[τ.mp hc]at w;rwa[w]]
 |ite p t T a b Q g A B _ _ _ _ _ _ |loop p t T a Q A _ _ _ _=>exact#[λz=>z.elim .inl λw=>.inr #[_,τ.mpr Z,w],λz=>z.elim .inl λ#[c,hc,w]=>.inr (by rw[τ.mp hc]at w;rwa[w])]
structure NL(H:Hp)(g:ζ)(ss:ri ρ)(M:ρ->Prop)(ys:ri ρ):Prop where
 at':H g=δ (.lst$ ss.map qr)
 nm:Nm ss M
 sub:∀x,M x->x∈ys
 y20:ο ys<=21
def NL.len{H:Hp}{g:ζ}{s:ri ρ}{M:ρ->Prop}{y:ri ρ}(h:NL H g s M y):ο s<=21:=Mw (h.nm.len h.sub) h.y20
def NL.same(h:NL H g a M y)(s:ae H b):NL b g a M y:=#[s _ _ h.at',h.nm,h.sub,h.y20]
structure NU(H:Hp)(g:ζ)(ss:ri ρ)(M:ρ->Prop)(ys:ri ρ):Prop where
 at':H g=δ (.lst$ ss.map qr)
 nd:ss.Nodup
 mem:∀x,x∈ss↔M x
 sub:∀x,M x->x∈ys
 y20:ο ys<=21
def NL.nu(h:NL H g s M y):NU H g s M y:=#[h.at',h.nm.nd,h.nm.mem,h.sub,h.y20]
inductive vV(n:Nat)(c:ri V)(H:Hp)(Q:VK)(a:XK):Prop
 |mk(v:V)(g:ζ)(s:Bd)(b:ri ρ)(M:ρ->Prop)(d:ri ρ)(_:c=[v,.ref g])(_:h9 H v s)(_:NL H g b M d)(_:s.Ok d)(_:s.dep < n+1)(_:s.size<=10000000)(_:∀(r:ζ) (zs:ri ρ) (H':Hp),H' r=δ (.lst (zs.map qr))->(∀y,y∈zs↔s.bt M y)->ο zs<=50->ae H H'->Q (.ref r) H')
inductive gw(n:Nat)(c:ri V)(H:Hp)(Q:VK)(a:XK):Prop
 |mk(v:V)(g:ζ)(s:Bd)(b:ri ρ)(M:ρ->Prop)(d:ri ρ)(_:c=[v,.ref g])(_:h9 H v s)(_:NL H g b M d)(_:s.Ok d)(_:s.dep < n+1)(_:s.size<=10000000)(_:∀(r:ζ) (zs:ri ρ) (H':Hp),H r=θ->NL H' r zs (s.use M) d->ae H H'->Q (.ref r) H')
inductive iQ(n:Nat)(e:ri V)(H:Hp)(Q:VK)(c:XK):Prop
 |mk(a g:ζ)(b:Bd)(f:ri V)(d:ri ρ)(M:ρ->Prop)(h:ri ρ)(_:e=[.ref a,.ref g])(_:H a=δ (.tup f))(_:dG H b f)(_:NU H g d M h)(_:b.Ok h)(_:b.dep < n)(_:b.size<=10000000)(_:∀(r:ζ) (zs:ri ρ) (H':Hp),H r=θ->NL H' r zs (b.use M) h->ae H H'->Q (.ref r) H')
def Nm.empty:Nm [] (λ_=>False):=#[Rj,Z,λx=>#[λh=>absurd h MU,False.elim]]
def Bi:ak ["statement","behind","word"] z3z (aa vp):=bG
def vO:hJ:=#[.function,[(".0",.local),("name",.local),("statement",.free)],ν,ν,[]]
def Fm:(["name","statement"]:ri ρ).Nodup:=Ly
def EF:bE ["statement","behind","word"] (aa vp) vO ["name","statement"] 1 [0]:=sI
def uy{L n:Nat}(F:rc K "used_behind_terms" vp f fd)(J:‹L› fA f0 z16z (iQ n) "used_ahead"):⇑(L+1) f fd z3z (vV n):=by
 erw[F.ok Bi λc0 A O s H vs Q E R h=>?_]
 let⟨v,g,st,G,M,Y,rfl,hs,c,W,hd,hz,q⟩:=h;erw[#[_,(jd (jx 2 Bi.nd$ jz$ pv 0)$ jd (jw (jA zo (pv 2) (jh$ ja jl$ ja jl$ ja jl jb) Z) (jg$ jo$ @zi _ _ _ _ _ _ _ (["name","statement"]) (1) ([0]) _ _ _ _ Z (qA$ pv 1) EF (λ_ _ _ _ _=>(jy (i:=0) Fm Z$ ψ Z)) (λ_ _ _ _ _=>(@Dr _ _ _$ jA Qn (pv 0) (jr (r:=fX K) jP (pv 1) jf ∅)$ aG _)) (λ_ _ _ _ _=>(pv 0)) (by intro _;rfl)) jp)$ jd (jw (kf$ pv 2) (jg$ jo$ ju qk (J.e R.m$ ja (jz$ pv 0)$ ja (pv 1) jb)$ J.e R.m$ ja (jz$ pv 0)$ ja (pv 1) jb) jp)$ jd (jw (kf$ pv 2) (jg$ jo$ ju qk (J.e R.m$ ja (jz$ pv 0)$ ja (jK jb) jb)$ pv 1) jp)$ jd (jw (kf$ pv 2) (jg$ jo$ jK jb) jp)$ jg$ jo$ pv 1),?_]];let g0:=c.len;cases hs with
 |lf p l vs d B=>
  cases l with
  |rd x t T |st x t T=>
   let⟨rfl,X⟩:=B;erw[(jv d Z #[_,Z,gE,λl N=>#[l,_,Z,.inr$ aD.of jc,Z,Z,_,Z,b8 Ly ?_]])];let S:ae H (ah H l$ .tup [.str "set",.str "read",.str "call"]):=je N;erw[#[_,Z,g,Z,#[_,aI.of$ S _ _ c.at'],KO (λy=>!decide (qr y=qr x)) LA (S _ _ c.at') (λy I Q' hy k C=>?_) (λy I Q' hy C=>#[_,Z,C]) λH' k r j=>?_]]
   .exact#[_,Z,jv (k _ _$ S _ _ d) Z #[Z,_,Z,C _$ ae.refl _]]
   .erw[q r _ _ jc (λy=>?_) (Mw (Rc ..) LA) ((S.trans k).trans$ je j)];rw[Uh,c.nm.mem y];exact and_congr_right λ_=>by simp
  |wr t u T U=>let⟨rfl,X,hU⟩:=B;erw[(jv d Z #[_,Z,gE,λl N=>#[l,_,Z,.inr$ aD.of jc,Z,Z,_,Z,aT Ly ?_]])];erw[#[_,Z,Z,_,Z,aT Ly ?_]];erw[#[_,Z,Z,_,Z,aT Ly ?_]];erw[#[_,Z,Z,_,Z,aT Ly ?_]];exact#[_,Z,q g G _ (am c.at' N) c.nm.mem LA$ je N]
  |cl x f' q' ts=>
   let⟨rfl,h8,X⟩:=B;erw[(jv d Z #[_,Z,gE,λl N=>#[l,_,Z,.inr$ aD.of jc,Z,Z,_,Z,b8 Ly ?_]])];let S:ae H (ah H l$ .tup [.str "set",.str "read",.str "call"]):=je N;erw[#[_,Z,g,Z,#[_,aI.of$ S _ _ c.at'],KO (λy=>!decide (qr y=qr x)) LA (S _ _ c.at') (λy I Q' hy k C=>?_) (λy I Q' hy C=>#[_,Z,C]) λH' k r j=>?_]]
   .exact#[_,Z,jv (k _ _$ S _ _ d) Z #[Z,_,Z,C _$ ae.refl _]]
   .erw[q r _ _ jc (λy=>?_) (Mw (Rc ..) LA) ((S.trans k).trans$ je j)];rw[Uh,c.nm.mem y];exact and_congr_right λ_=>by simp
  |gv t T=>let⟨rfl,X⟩:=B;erw[(jv d Z #[_,Z,gE,λl N=>#[l,_,Z,.inr$ aD.of jc,Z,Z,_,Z,aT Ly ?_]])];erw[#[_,Z,Z,_,Z,aT Ly ?_]];erw[#[_,Z,Z,_,Z,aT Ly ?_]];erw[#[_,Z,Z,_,Z,b8 Ly ?_]];exact#[ms,λr j=>q r [] _ jc (λy=>#[λh=>absurd h MU,λh=>(show False from h).elim]) (Mu _) ((je N).trans$ je j)]
 |ite p t T a b qa qb as bs d h0 B h3 h4 h5=>erw[(jv d Z #[_,Z,gE,λl N=>#[l,_,Z,.inr$ aD.of jc,Z,Z,_,Z,aT Ly ?_]])];erw[#[_,Z,Z,_,Z,b8 Ly ?_]];let S:ae H (ah H l$ .tup [.str "set",.str "read",.str "call"]):=je N;let h6:max (max a.dep b.dep+1) 0 < n+1:=hd;let h7:a.size+b.size+0+1<=10000000:=hz;erw[(jv (S _ _ d) Z #[_,Z,qa,g,a,as,G,M,Y,Z,S _ _ B,h4.mono$ ae.tm S,(c.same S).nu,W.2.1,LA,LA,λr1 z1 I _ D k1=>?_])];let z:=S.trans k1;erw[(jv (z _ _ d) Z #[_,Z,qb,g,b,bs,G,M,Y,Z,z _ _ h3,h5.mono$ ae.tm z,(c.same z).nu,W.2.2.1,LA,LA,λr2 z2 H2 _ n2 k2=>?_])];let l1:=D.len;let l2:=n2.len;let b0:=zA;erw[#[r1,r2,_,_,Z,Z,k2 _ _ D.at',n2.at',by rw[Mi,Mi];omega,λr j=>q r (z1++z2) _ (by rw[jc,MS]) (λy=>?_) (by rw[Ml];omega) ((z.trans k2).trans$ je j)]];rw[Oa,D.nm.mem y,n2.nm.mem y];rwa[Sm]
 |loop p t T a qa as d h0 B h3=>erw[(jv d Z #[_,Z,gE,λl N=>#[l,_,Z,.inr$ aD.of jc,Z,Z,_,Z,aT Ly ?_]])];erw[#[_,Z,Z,_,Z,aT Ly ?_]];erw[#[_,Z,Z,_,Z,b8 Ly ?_]];let S:ae H (ah H l$ .tup [.str "set",.str "read",.str "call"]):=je N;let h6:max (a.dep+1) 0 < n+1:=hd;let h7:a.size+0+1<=10000000:=hz;erw[(jv (S _ _ d) Z #[ms,λe ne=>?_])];let z:=S.trans (je (o:=.lst []) ne);erw[#[qa,e,a,as,[],λ_=>False,Y,Z,z _ _ B,h3.mono$ ae.tm z,(NL.nu #[jc,Nm.empty,λ_ w=>w.elim,c.y20]),W.2.1,LA,LA,λr1 z1 I _ D k1=>?_]];let l1:=D.len;let s3:=z.trans k1;let b0:=zA;erw[#[_,Z,r1,g,_,_,Z,Z,D.at',s3 _ _ c.at',by rw[Mi,Mi];omega,λr j=>q r (z1++G) _ (by rw[jc,MS]) (λy=>?_) (by rw[Ml];omega) (s3.trans$ je j)]];rw[Oa,D.nm.mem y,c.nm.mem y];rwa[Sm]
def Dj(h:h9 H v s):∀c∈s.own,bf H c.2 c.1:=by
 cases h with
 |lf p l V _ d=>
  cases l with
  |rd x t T |st x t T |gv t T=>intro c hc;rw[τ.mp hc];rwa[d.2]
  |wr t u T U=>
   intro c hc;rcases Ξ.mp hc with e |hc
   .rw[e];rwa[d.2.1]
   .rw[τ.mp hc];rwa[d.2.2]
  |cl x f q i=>rwa[d.2.2]
 |ite p t T a b Q j A B _ g _ _ _ _ |loop p t T a Q A _ g _ _=>intro c hc;rw[τ.mp hc];rwa[g]
def Dk(h:h9 H v s)(o:s.Ok y):ο s.own<=100/\∀c∈s.own,dy y c.2:=by
 let O:∀(t:ζ) (T:Tm),dy y T->[(t,T)].length<=100/\∀c∈[(t,T)],dy y c.2:=λt T h=>#[by show 1<=100;omega,λc hc=>by rw[τ.mp hc];rwa[h]];cases h with
 |lf p l V _ g=>
  cases l with
  |rd x t T |st x t T=>rwa[O t T o.1.2]
  |wr t u T U=>
   erw[#[by show 2<=100;omega,λc hc=>?_]];rcases Ξ.mp hc with e |hc
   .rw[e];rwa[o.1.1]
   .rw[τ.mp hc];rwa[o.1.2]
  |cl x f q i=>exact#[Mw o.1.2.1 LB,o.1.2.2]
  |gv t T=>rwa[O t T o.1]
 |ite p t T a b Q j A B _ d _ _ _ _ |loop p t T a Q A _ d _ _=>rwa[O t T o.1]
theorem zP:∀(a b c:Bd),(a.app b).app c=a.app (b.app c)
 | .nil,_,_=>rfl
 | .lf p l r,b,c=>by show Bd.lf p l ((r.app b).app c)=_;rw[zP r b c];rfl
 | .ite p t T x y r,b,c=>by show Bd.ite p t T x y ((r.app b).app c)=_;rw[zP r b c];rfl
 | .loop p t T x r,b,c=>by show Bd.loop p t T x ((r.app b).app c)=_;rw[zP r b c];rfl
theorem Je:∀(a:Bd),a.app .nil=a
 | .nil=>rfl
 | .lf p l r=>by show Bd.lf p l (r.app .nil)=_;rw[Je r]
 | .ite p t T x y r=>by show Bd.ite p t T x y (r.app .nil)=_;rw[Je r]
 | .loop p t T x r=>by show Bd.loop p t T x (r.app .nil)=_;rw[Je r]
inductive OI(v:V)(g r k:ζ)(s:Bd)(M:ρ->Prop)(b:Hp)(i:Nat)(n:_L.St)(a:Hp):Prop
 |mk(l:rm V)(m:ri ρ)(d:n=[δ v,↑g,↑k,l])(e:a k=δ (.lst (m.map qr)))(f:∀y,y∈m↔s.bt M y∨∃c∈s.own.take i,y∈c.2.vars)(h:ο m<=50+21*i)(j:aB k b a)
def vK:ak ["statement","behind","names","term"] z3z (aa yS):=bG
def uA{L:Nat}(F:rc K "used_ahead_of" yS f fd)(cB:‹L+9› fB f0 z3z (vV n) "used_behind_terms")(cO:‹1› fO f2 z4z mX "own_terms")(cN:‹7› fN f3 z1z (dn 6) "names_in")(m0:mg "list"=θ)(m2:mg "set"=θ)(m3:mg "sorted"=θ):⇑(L+10) f fd z3z (gw n):=by
 erw[F.ok vK λc0 A o1 s H vs Q E t h=>?_]
 let⟨v,g,st,ss,M,Y,rfl,j,u,U,hd,hz,q⟩:=h;erw[#[_,(jd (jx 2 vK.nd$ jF Jk Z m0 boot_list$ ja (cB.e t.m$ ja (pv 0)$ ja (pv 1) jb) jb)$ jd (kh M3 Z (qi$ cO.e t.m$ ja (pv 0) jb) (jy (i:=3) vK.nd Z$ ψ Z)$ jg$ jQ$ kJ MF OH OG JA (pv 2)$ ja (cN.e t.m$ ja (pv 3) jb) jb)$ jg$ jo$ jG (zZ Z) Z m3 RB$ ja (jF (qW Z) Z m2 Vl$ ja (pv 2) jb) jb),?_]];erw[aj λF1 C=>#[_,Z,_,Z,v,g,st,ss,M,Y,Z,j,u,U,hd,hz,λr1 G H1 e1 m1 l1 k1=>#[r1,_,Z,.inl$ aI.of e1,λN I=>C _ _ ?_]]];clear C;let s2:ae H (ah H1 N$ .lst$ G.map qr):=k1.trans (je I);let J:=j.mono (ae.tm s2);let⟨o2,O⟩:=Dk j U;let a:ah H1 N (.lst$ G.map qr) N=δ (.lst$ G.map qr):=jc;let h0:H N=θ:=k1.free I;generalize ah H1 N (.lst$ G.map qr)=H2 at s2 J a;erw[aj λF1 C=>?_];erw[eM λF kF=>#[_,Z,v,st,Z,J,λr H3 t W=>#[r,Z,#[_,aD.of t],kF _ _ ?_]]];clear kF;let r0:r≠N:=jN t (W _ _ a) (by intro z;cases z);let s3:=s2.trans W;let b0:=zA;erw[Kx (K:=K) (xs:=st.own.map rT) (OI v g r N st M H3) #[_,G,Z,W _ _ a,λy=>?_,N09,aB.refl] (λi σ H' hi h=>?_) ?_ (λσ H' h=>C _ _ ?_)]
 .rw[m1 y];exact#[.inl,λz=>z.elim (λw=>w) λ#[c,p,_]=>absurd p MU]
 .let⟨_,_,_,_,_,_,k⟩:=h;rwa[aD.of$ k _ _ r0 t]
 .clear C;intro E _ i x σ H4 B fE Gq D h;let⟨o3,X,rfl,h1,R,h3,k4⟩:=h;rw[MH]at B;cases p:st.own[i]? with
  |none=>rw[p]at B;cases B
  |some c=>
   rw[p]at B;cases B;erw[D ?_];clear D;let cm:=MM p;let hi:i < ο st.own:=by
    rcases P0 i st.own.length with z |z
    .rwa[z]
    .rw[Nv z]at p;cases p
   let tm:ai H3 H4:=λb xs e=>k4 b _ (jN e (W _ _ a) (by intro z;cases z)) e;show pG _ E [δ v,↑g,↑N,δ$ .ref c.1] H4;erw[#[_,Z,.inl #[Z,_,aI.of h1],_,Z,c.1,c.2,Y,Z,((Dj j c cm).mono$ ae.tm s3).mono tm,(O c cm).2,(O c cm).1,u.y20,λr5 s5 H5 n5 e5 d5 m5 o5 k5=>?_]];let l5:ο s5<=21:=Mw (ke d5 λx B=>kE (O c cm).1 x ((m5 x).mp B)) u.y20;erw[#[N,r5,_,_,Z,Z,k5 _ _ h1,e5,by rw[Mi,Mi];omega,fE _ _ #[_,X++s5,Z,by rw[jc,MS],λy=>?_,by rw[Ml];omega,λb o nb e=>?_]]]
   .rw[Oa,R y,m5 y,NQ,p];erw[#[λz=>z.elim (λz=>z.elim .inl λ#[d,hd,w]=>.inr #[d,NB _ hd,w]) λw=>.inr #[c,MK _$ τ.mpr Z,w],λz=>z.elim (λw=>.inl (.inl w)) λ#[d,hd,w]=>?_]];rcases γ.mp hd with hd |hd
    .rwa[.inl$ .inr #[d,hd,w]]
    .let ed:d=c:=τ.mp hd;rw[ed]at w;rwa[.inr w]
   .rw[ji nb];rwa[k5 _ _$ k4 b o nb e]
 .let⟨o3,X,rfl,h1,R,h3,k4⟩:=h;clear C;rw[Mi]at R h3;let s4:ae H H':=λb o e=>k4 b o (jk e h0) (s3 _ _ e);erw[#[_,Z,N,X,Z,aI.of h1,(λL nd j=>NN (NM$ ke nd j) (by show ο X+1 < 4096;omega)),λl L S h4 hm=>?_]];let sub:∀y∈L,y∈Y:=λy hy=>Bd.use_in U u.sub y ((wA j M y).mpr (by let:=(R y).mp ((hm y).mp hy);rw[Np]at this;assumption));let lL:=Mw (ke h4 sub) u.y20;erw[#[l,L,Z,jc,LA,λr' s0 T pm nd so=>?_]];erw[q r' s0 _ ((s4.trans$ je S).free T) #[jc,#[pm.nodup_iff.mpr nd,so,λy=>?_],Bd.use_in U u.sub,u.y20] ((s4.trans$ je S).trans$ je T)];rw[pm.mem_iff,hm y,R y,wA j M y,Np]
def none_of(s:ae H h)(n:h r=θ):H r=θ:=by
 cases z:H r with
 |none=>rfl
 |some o=>have:=s _ _ z;rw[n]at this;cases this
inductive UI(a g:ζ)(b:Bd)(p:ri V)(M:ρ->Prop)(q:ri ρ)(H:Hp)(i:Nat)(s:_L.St)(d:Hp):Prop
 |mk(n:ζ)(o:rm V)(c m:Bd)(r:ri ρ)(e:s=[↑a,↑g,↑n,o])(f:b=c.app m)(h:dG H c (p.take (ο p - i)))(j:NL d n r (m.use M) q)(k:ae H d)(l:H n=θ)
def oX:ak ["body","behind","names","statement"] z16z (aa yR):=bG
def C9{L:Nat}(F:rc K "used_ahead" yR f fd)(cU:‹L+10› fU f0 z3z (gw n) "used_ahead_of")(J:mg "sorted"=θ)(N:mg "reversed"=θ):⇑(L+11) f fd z16z (iQ$ n+1):=by
 erw[F.ok oX λc0 A O s H vs Q E hr h=>?_]
 let⟨a,g,b,xs,R,M,Y,rfl,ha,hb,d,ho,hd,hz,q⟩:=h;erw[#[_,(jd (jx 2 oX.nd$ jG Xd Z J RB$ ja (pv 1) jb)$ jd (kh M3 Z (@uK _ _ _ _ _ _ _ Z N To (pv 0) LB LB Lx Lx) (jy (i:=3) oX.nd Z$ ψ Z)$ jg$ jx 2 oX.nd$ cU.e hr.m$ ja (pv 3)$ ja (pv 2) jb)$ jg$ jo$ pv 2),?_]];let g0:ο R<=21:=Mw (ke d.nd λx o=>d.sub x ((d.mem x).mp o)) d.y20;let b0:=aH;erw[aj λF1 t=>#[_,Z,g,R,Z,aI.of d.at',LA,λl c nl pm so=>t _ _ ?_]];clear t;let T:Nm c M:=#[pm.nodup_iff.mpr d.nd,so,λx=>pm.mem_iff.trans (d.mem x)];let U:ae H (ah H l$ .lst$ c.map qr):=je nl;let u:NL (ah H l$ .lst$ c.map qr) l c M Y:=#[jc,T,d.sub,d.y20];generalize ah H l (.lst$ c.map qr)=H1 at U u;let xl:=hb.len;erw[aj λF1 t=>?_];erw[eM λF kF=>#[_,Z,a,xs,Z,aD.of$ U _ _ ha,kF _ _ ?_]];clear kF;erw[XB (K:=K) (xs:=xs) (UI a g b xs M Y H) #[l,_,b,.nil,c,Z,(Je b).symm,by rw[RI,Np];rwa[hb],u,U,nl] (λi σ H' hi h=>?_) ?_ (λσ H' h=>t _ _ ?_)]
 .let⟨_,_,_,_,_,_,_,_,_,k,_⟩:=h;rwa[aD.of$ k _ _ ha]
 .clear t;intro E _ i x σ H2 o fE Gq p h;let⟨I,o3,pre,fe,W,rfl,j,y,X,B,n2⟩:=h;let hi:i < ο xs:=by
   rcases P0 i xs.length with z |z
   .rwa[z]
   .rw[Nv (z:)]at o;cases o
  rw[OZ hi]at o;let et:xs.take (ο xs - i)=xs.take (ο xs - (i+1))++[x]:=by
   let C:ο xs - i=(ο xs - 1 - i)+1:=LA
   let e2:ο xs - (i+1)=ο xs - 1 - i:=LA
   rw[C,e2,NQ,o];rfl
  rw[et]at y;rcases y.last with ⟨e,_⟩ | ⟨ws,v,D,S,C,e2,h4,h5⟩
  .rwa[absurd e Lz]
  let⟨ew,ev⟩:=T6 C Z;cases ev;subst e2;let h0:=zJ (j▸ho);let G:=zJ h0.1;let a1:b.dep=max (D.app S).dep fe.dep:=by rw[j,zj]
  let a2:(D.app S).dep=max D.dep S.dep:=zj ..;let h6:S.dep<=b.dep:=by rw[a1,a2];rwa[Mw (Py ..)$ P' ..]
  clear a1 a2;let h7:S.size<=b.size:=by rw[j,j3,j3];omega
  erw[p ?_];clear p;show dZ _ _ E [↑a,↑g,↑I,δ x] H2;erw[#[_,Z,_,Z,x,I,S,W,fe.use M,Y,Z,h5.mono$ ae.tm B,X,G.2,LA,LA,λr z H3 nr n3 k3=>fE _ _ #[r,_,D,S.app fe,z,Z,by rw[j,zP],?_,by rw[J1];rwa[n3],B.trans k3,none_of B nr]]];rw[ew];rwa[h4]
 .let⟨I,o3,pre,fe,W,rfl,j,y,X,B,n2⟩:=h;rw[PZ]at y;let ep:pre= .nil:=by
   rcases y.last with ⟨_,e⟩ | ⟨ws,v,D,S,C,_⟩
   .rwa[e]
   .rwa[absurd C Lz]
  rw[ep]at j;erw[#[_,Z,q I W H' n2 ?_ B]];rw[j];rwa[X]
def CH:⇑k f e z16z (iQ 0):=by
 let n:∀v H Q E,¬iQ 0 v H Q E:=λv H Q E h=>by let⟨a,g,b,x,S,M,y,_,_,_,_,_,d,_⟩:=h;rwa[absurd d$ O4 _]
 exact#[λv H Q E h=>absurd h (n v H Q E),λA o s H c u v Q E _ _ _ _ h=>absurd h (n v H Q E)]
theorem GF(F:rc K "used_ahead" yR f e)(FB:rc K "used_behind_terms" vp r g)(d:rc K "used_ahead_of" yS o b)
  (B:au K e z16z []) (i:mg "used_ahead"=↑f) (j:au K g z3z []) (k:mg "used_behind_terms"=↑r) (p:au K b z3z []) (q:mg "used_ahead_of"=↑o) (C:‹1› u s z4z mX "own_terms") (l:‹7› v t z1z (dn 6) "names_in") (M:mg "list"=θ) (a:mg "set"=θ) (m:mg "sorted"=θ) (c:mg "reversed"=θ):
  ∀n:Nat,⇑(3*n+8) f e z16z (iQ n)/\⇑(3*n+10) o b z3z (gw n)
 |0=>by let h:⇑8 f e z16z (iQ 0):=CH;let H:=uy (L:=8) (n:=0) FB #[h,B,F.kp,i];exact#[h,uA (L:=0) d #[H,j,FB.kp,k] C l M a m]
 |n+1=>by
  let I:=(GF F FB d B i j k p q C l M a m c n).2;let h:=C9 (L:=3*n) F #[I,p,d.kp,q] m c;let E:3*n+11=3*(n+1)+8:=LA
  rw[E]at h;let H:=uy (L:=3*(n+1)+8) (n:=n+1) FB #[h,B,F.kp,i];exact#[h,uA (L:=3*(n+1)) d #[H,j,FB.kp,k] C l M a m]
abbrev DA:cv:=bH 49
abbrev u7:cv:=bH 52
abbrev uY:cv:=bH 53
abbrev lT:cv:=bH 54
abbrev vf:cv:=bH 55
def Lf.cut:Lf->Nat
 | .st _ _ _ | .gv _ _=>0
 |_=>1
def Bd.cuts:Bd->Nat
 | .nil=>0
 | .lf _ l r=>l.cut+r.cuts
 | .ite _ _ _ a b r=>1+a.cuts+b.cuts+r.cuts
 | .loop _ _ _ a r=>1+a.cuts+r.cuts
def Bd.inn:Bd->Bd
 | .ite _ _ _ a b _=>a.app b
 | .loop _ _ _ a _=>a
 |_=>.nil
theorem zM:∀(a b:Bd),(a.app b).cuts=a.cuts+b.cuts
 | .nil,b=>by show b.cuts=0+b.cuts;omega
 | .lf _ l r,b=>by let:=zM r b;show l.cut+(r.app b).cuts=l.cut+r.cuts+b.cuts;omega
 | .ite _ _ _ x y r,b=>by let:=zM r b;show 1+x.cuts+y.cuts+(r.app b).cuts=1+x.cuts+y.cuts+r.cuts+b.cuts;omega
 | .loop _ _ _ x r,b=>by let:=zM r b;show 1+x.cuts+(r.app b).cuts=1+x.cuts+r.cuts+b.cuts;omega
inductive mO(b:ri V)(H:Hp)(Q:VK)(a:XK):Prop
 |mk(v:V)(s:Bd)(_:b=[v])(_:h9 H v s)(_:s.size<=10000000)(_:∀(r:ζ) (xs:ri V) (H':Hp),H' r=δ (.tup xs)->dG H' s.inn xs->ae H H'->Q (.ref r) H')
inductive gQ(d:ri V)(H:Hp)(Q:VK)(c:XK):Prop
 |mk(a:ζ)(b:Bd)(e:ri V)(_:d=[.ref a])(_:H a=δ (.tup e))(_:dG H b e)(_:b.size<=10000000)(_:∀H',ae H H'->Q (.int (b.cuts:Int)) H')
def FY:ak z4z z4z (aa DA):=bG
def CT(F:rc K "bodies_in" DA f y):⇑1 f y z4z mO:=by
 erw[F.ok FY λC A o s H V Q E j h=>?_]
 let⟨v,st,rfl,z,B,q⟩:=h;erw[#[_,(jd (jw (kf$ jz$ pv 0) (jg$ jo$ ju j5 (jz$ pv 0)$ jz$ pv 0) jp)$ jd (jw (kf$ jz$ pv 0) (jg$ jo$ jz$ pv 0) jp)$ jg$ jo$ jh jb),?_]];let D:=aH;cases z with
 |lf p l V c d=>
  cases l with
  |rd x t T |st x t T |wr t u T U |cl x f R S |gv t T=>let⟨rfl,_⟩:=d;erw[(jv c Z #[Z,_,Z,aT Ly ?_])];erw[(jv c Z #[Z,_,Z,aT Ly ?_])];exact#[ms,λr N=>q r [] _ jc Z (je N)]
 |ite p t T a b e G g I c J d i m n=>erw[(jv c Z #[Z,_,Z,b8 Ly ?_])];let L:a.size+b.size+0+1<=10000000:=B;let W:=m.len;let X:=n.len;exact(jv c Z$ jv c Z #[e,G,g,I,Z,Z,d,i,LA,λr M j s=>q r _ M j ((n.mono$ ae.tm s).app$ m.mono$ ae.tm s) s])
 |loop p t T a e g c J d i=>erw[(jv c Z #[Z,_,Z,aT Ly ?_])];erw[(jv c Z #[Z,_,Z,b8 Ly ?_])];exact(jv c Z$ q e g H d i$ ae.refl H)
def Ad(h:h9 H v s):s.inn.size < s.size/\∃(p:ζ) (w:ρ) (r:ri V),v= .ref p/\H p=δ (.tup (.str w::r))/\s.cuts=(if oG (.str w) [.str "set",.str "give"]=μ then 0 else 1)+s.inn.cuts:=by
 cases h with
 |lf p l i c d=>
  erw[#[Nat.zero_lt_succ _,?_]];cases l with
  |rd x t T |wr t u T U |cl x f Q j=>let⟨rfl,_⟩:=d;exact#[p,_,_,Z,c,by rw[Mx Ly];rfl]
  |st x t T |gv t T=>let⟨rfl,_⟩:=d;exact#[p,_,_,Z,c,by rw[Mv Ly];rfl]
 |ite p t T a b q k A B c e d g m n=>erw[#[by show(a.app b).size < a.size+b.size+0+1;rw[j3];omega,p,_,_,Z,c,?_]];rw[Mx Ly];show 1+a.cuts+b.cuts+0=1+(a.app b).cuts;rw[zM];omega
 |loop p t T a q A c e d g=>erw[#[by show a.size < a.size+0+1;omega,p,_,_,Z,c,?_]];rw[Mx Ly];show 1+a.cuts+0=1+a.cuts;omega
def gM:dN (v::y) 0=δ v:=jE (j:=0) Z
inductive MI(a n:ζ)(b:Bd)(H:Hp)(m:Nat)(p:_L.St)(c:Hp):Prop
 |mk(l:rm V)(W:Bd)(o:ri V)(k:Nat)(d:m=W.size)(e:p=[↑a,δ (.int (k:Int)),↑n,l])(f:c n=δ (.lst o))(g:dG c W o)(h:k+W.cuts=b.cuts)(i:W.size<=10000000)(j:aB n H c)
def iA:ak ["body","many","todo","statement"] ["body"] (aa u7):=bG
def yl(F:rc K "many_cuts" u7 f fd)(cB:‹1› fB f0 z4z mO "bodies_in")(m0:mg "list"=θ):⇑2 f fd ["body"] gQ:=by
 erw[F.ok iA λc0 A o1 s H vs Q E hr h=>?_]
 let⟨a,b,xs,rfl,ha,hb,hz,q⟩:=h;erw[#[_,(jd (jx 1 iA.nd jf)$ jd (jx 2 iA.nd$ jF Jk Z m0 boot_list$ ja (pv 0) jb)$ jd (Ks M3 (@uN _ _ _ (pv 2) (λ_=>Z))$ jd (jx 3 iA.nd$ Do MF PySem.F.slot_list_pop PySem.F.type_list_pop CD$ pv 2)$ jd (j6$ jw (jA Jj (jz$ pv 3) (jh$ ja jl$ ja jl jb) Z) (jg$ Ds (i:=1) iA.nd Z (ψ Z) jf Ci) jp)$ jg$ jQ$ kJ MF OH OG YN (pv 2)$ ja (cB.e hr.m$ ja (pv 3) jb) jb)$ jg$ jo$ pv 1),?_]];let b0:=aH;erw[aj λU d=>d _ _ ?_];clear d;erw[aj λU d=>#[_,Z,a,_,Z,.inr$ aD.of ha,λt C=>d _ _ ?_]];clear d;let s0:ae H (ah H t$ .lst xs):=je C;erw[aj λU d=>?_];erw[oy (MI a t b H) b.size #[_,b,xs,0,Z,Z,jc,hb.mono$ ae.tm s0,LA,hz,λc o N e=>s0 _ _ e] ?_];intro m σ D E _ fE F X Y Gq y h;let⟨o3,W,zs,k,rfl,rfl,x,h2,h3,h4,h5⟩:=h;erw[y #[_,Z,!zs.isEmpty,.inl #[zs,aI.of x,Z],?_]];clear y;rcases h2.last with ⟨e1,e2⟩ | ⟨g,v,B,n,e1,e2,g1,g2⟩
 .rw[e1];erw[Y _$ d _ _ #[_,Z,?_]];rw[e2]at h3;let e3:k=b.cuts:=by let:k+0=b.cuts:=h3;rwa[N09]
  rw[e3];rwa[q _ λc o e=>h5 c o (jk e C) e]
 .rw[e1];let ne:(!(g++[v]).isEmpty)=μ:=by cases g<;>rfl
  rw[ne];erw[X _ ?_];clear Y X d;let h6:W.size=B.size+n.size:=by rw[e2,j3]
  let h7:W.cuts=B.cuts+n.cuts:=by rw[e2,zM]
  let⟨h8,p,w',r,rfl,hp,hc⟩:=Ad g2;rw[e1]at x;erw[aj λU d=>#[_,Z,.inl #[Z,_,aI.of x],t,_,.ref p,Z,Z,x,Lz,d _ _ ?_]];clear d;rw[List.dropLast_concat];let T:ai D (ah D t$ .lst g):=λc ys e=>by rw[ji$ jN e x (by intro z;cases z)];rwa[e]
  let t2:ah D t (.lst g) t=δ (.lst g):=jc;let u:=g1.mono T;let I:=g2.mono T;let J:=T _ _ hp;let k2:aB t H (ah D t$ .lst g):=λc o N e=>by rw[ji N];rwa[h5 c o N e]
  generalize ah D t (.lst g)=H2 at t2 u I J k2;clear T x h2 h5 g1 g2 hp;let R:∀(j:Nat) (H3:Hp),ae H2 H3->j+B.cuts+n.inn.cuts=b.cuts->pG (Iz K "list" (iw K) (a8 2)$ al (dS mO [] E0$ al (a8 3) aQ) aQ) E [↑a,δ$ .int (j:Int),↑t,↑p] H3:=λj H3 L hk=>by
   let g0:=I.mono (ae.tm L);erw[#[_,Z,.inl #[Z,_,aI.of$ L _ _ t2],_,Z,.ref p,n,Z,g0,LA,λr' ys H4 h0 hy s4=>?_]];let S:=L.trans s4;let l1:=u.len;let l2:=hy.len;erw[#[t,r',g,ys,Z,Z,S _ _ t2,aD.of h0,LA,fE (B.app n.inn).size _ _ (by rw[j3];omega) #[_,B.app n.inn,g++ys,j,Z,Z,jc,?_,by rw[zM];omega,by rw[j3];omega,λc o N e=>?_]]]
   .let M:ai H4 (ah H4 t$ .lst$ g++ys):=λc z0 e=>by rw[ji$ jN e (S _ _ t2) (by intro z;cases z)];exact e
    exact(hy.mono M).app ((u.mono$ ae.tm S).mono M)
   .rw[ji N];rwa[S _ _$ k2 c o N e]
  erw[aj λU d=>dI (λO H'=>∃j:Nat,O=[↑a,δ$ .int (j:Int),↑t,↑p]/\ae H2 H'/\j+B.cuts+n.inn.cuts=b.cuts) (λE2 _ fm=>?_) λO H' h=>?_]
  .clear d fE;erw[oE λG X Y=>(jv J gM #[bN,λl nl=>#[l,_,Z,.inr$ aD.of jc,Z,Z,_,Z,?_]])];cases hv:oG (.str w') [.str "set",.str "give"] with
   |true=>rw[hv,Mv Z]at hc;rwa[Y _$ fm _ _ #[k,Z,je nl,LA]]
   |false=>rw[hv,Mx Mq]at hc;erw[X _ #[_,Z,_,_,Z,Z,fm _ _ #[k+1,?_,je nl,LA]]];show [_,δ$ qs ((k:Int)+1),_,_]=[_,δ$ qs ((k+1:Nat):Int),_,_];rfl
  .let⟨j,rfl,L,hk⟩:=h;rwa[d _ _$ R j H' L hk]
inductive Hd where
 |go (n:Int) |give (t:ζ)
structure Wy where
 sets:ri (ρ×ζ)
 goal:Hd
inductive Dd where
 |st (p:ζ) |ask (t:ζ)
structure Ct where
 M:ρ->Prop
 d:Dd
 ws:ri Wy
structure Pc where
 M:ρ->Prop
 w:Wy
inductive aLt(H:Hp)(l:Tr)(W:V->ri V->Prop)(x:V):Prop|mk(_:l.isL=μ)(a X:_)(_:x= .ref a)(_:H a=δ (.tup X))(_:W .non X)
inductive aLc(h t:Tr)(W R:V->ri V->Prop)(X:ri V):Prop|mk(_:h.isL=ν)(_:t.isL=μ)(y Y:_)(_:X=y::Y)(_:W y [])(_:R .non Y)
def aL(H:Hp):Tr->V->ri V->Prop
 | .lf v,x,_=>x=v/\Li v=μ
 | .tp l,x,_=>aLt H l (aL H l) x
 | .nil,_,X=>X=[]
 | .cons h t,_,X=>aLc h t (aL H h) (aL H t) X
def aL.mono(k:ai H d):∀{t:Tr} {x:V} {X:ri V},aL H t x X->aL d t x X:=by
 intro t;induction t with
 |lf v |nil=>exactλh=>h
 |tp l f=>rintro x X ⟨h,a,Y,e,b,c⟩;exact#[h,a,Y,e,k _ _ b,f c]
 |cons h t i I=>rintro x X ⟨E,g,y,Y,e,b,c⟩;exact#[E,g,y,Y,e,i b,I c]
def aC:ri Tr->Tr
 | []=>.nil
 |t::T=>.cons t (aC T)
def QP:∀t:ri Tr,(aC t).isL=μ
 | [] |_::_=>rfl
def ax(t:ri Tr):Tr:=.tp (aC t)
def aJ(x:ρ):Tr:=.lf (.str x)
def rV(a:ζ):Tr:=.lf (.ref a)
def aw(n:Int):Tr:=.lf (.int n)
section
variable {H:Hp}
def jB:aL H (aC []) .non []:=rfl
def jm{t:Tr}(h:t.isL=ν)(a:aL H t y [])(b:aL H (aC T) .non Y):aL H (aC (t::T)) .non (y::Y):=#[h,QP T,y,Y,Z,a,b]
def jD(h:H a=δ (.tup x))(b:aL H (aC t) .non x):aL H (ax t) (.ref a) []:=#[QP t,a,x,Z,h,b]
def jR:aL H (aJ x) (.str x) []:=#[Z,Z]
def Jt:aL H (rV a) (.ref a) []:=#[Z,Z]
def jY:aL H (aw n) (.int n) []:=#[Z,Z]
theorem J2(a:aL H (aC s) .non Y):∀{T:ri Tr} {x:ri V},aL H (aC T) .non x->aL H (aC$ T++s) .non (x++Y)
 | [],x,h=>by let e:x=[]:=h;rw[e];rwa[a]
 |t::T,x,h=>by let⟨E,_,y,z,e,b,c⟩:=h;rw[e];rwa[jm E b (J2 a c)]
theorem zk:∀{T:ri Tr} {x:ri V},aL H (aC T) .non x->ο x=ο T
 | [],x,h=>by let e:x=[]:=h;rw[e];rfl
 |t::T,x,h=>by let⟨_,_,y,z,e,_,a⟩:=h;rw[e,MV,MV,zk a]
theorem XH:∀(S:ri ρ),aL H (aC$ S.map aJ) .non (S.map qr)
 | []=>rfl
 |s::S=>jm Z jR (XH S)
theorem Zw:∀{T:ri Tr} {x:ri V},aL H (aC T) .non x->aL H (aC T.reverse) .non x.reverse
 | [],x,h=>by let e:x=[]:=h;rw[e];rfl
 |t::T,x,h=>by let⟨E,_,y,z,e,a,b⟩:=h;rw[e,Pf,Pf];rwa[J2 (jm E a jB)$ Zw b]
theorem qP:∀{T:ri Tr} {X:ri V},aL H (aC T) .non X->∀(i:Nat) (x:V),X[i]?=δ x->∃t,T[i]?=δ t/\aL H t x []
 | [],X,h,i,x,a=>by let e:X=[]:=h;rw[e]at a;simp at a
 |t::T,X,h,0,x,a=>by let⟨_,_,y,z,e,b,c⟩:=h;rw[e]at a;cases a;exact#[t,Z,b]
 |t::T,X,h,i+1,x,a=>by let⟨_,_,y,z,e,b,c⟩:=h;rw[e]at a;simpa using qP c i x (a:)
end
def Gg(s:ρ×ζ):Tr:=ax [aJ s.1,rV s.2]
def xN:Hd->Tr
 | .go n=>ax [aJ "go",aw n]
 | .give t=>ax [aJ "give",rV t]
def hZ(w:Wy):Tr:=ax [ax$ w.sets.map Gg,xN w.goal]
def Hl:Dd->Tr
 | .st p=>rV p
 | .ask t=>ax [aJ "ask",rV t]
def EG(c:Ct):Tr:=ax [ax ((canon c.M).map aJ),Hl c.d,ax$ c.ws.map hZ]
def Cb(g:Hd):(xN g).isL=ν:=by cases g<;>rfl
def EJ(d:Dd):(Hl d).isL=ν:=by cases d<;>rfl
inductive nE(H:Hp)(p:Pc)(v:V)(g:ζ)(y:ri ρ):Prop|mk(r s W:_)(_:v= .ref r)(_:H r=δ (.tup [.ref g,W]))(_:NL H g s p.M y)(_:aL H (hZ p.w) W [])
def nE.same(h:nE H p v g y)(s:ae H a):nE a p v g y:=by let⟨r,S,W,e,b,c,d⟩:=h;exact#[r,S,W,e,s _ _ b,c.same s,d.mono$ ae.tm s]
def nE.but(h:nE H p v g y)(k:aB f H c)(d:H f=δ (.lst C))(n:g≠f):nE c p v g y:=by let⟨r,s,W,e,i,a,j⟩:=h;let t:ai H c:=λb x e=>k b _ (jN e d (by intro z;cases z)) e;exact#[r,s,W,e,t _ _ i,#[k _ _ n a.at',a.nm,a.sub,a.y20],j.mono t]
def Lf.isCut:Lf->Bool
 | .st _ _ _ | .gv _ _=>ν
 |_=>μ
def Bd.deed:Bd->Dd
 | .lf p _ _=>.st p
 | .ite _ t _ _ _ _ | .loop _ t _ _ _=>.ask t
 | .nil=>.st 0
inductive iF(b:ri V)(H:Hp)(Q:VK)(a:XK):Prop
 |mk(v:V)(s:Bd)(_:b=[v])(_:h9 H v s)(_:∀(d:V) (H':Hp),aL H' (Hl s.deed) d []->ae H H'->Q d H')
inductive gu(b:ri V)(H:Hp)(Q:VK)(a:XK):Prop
 |mk(t:ζ)(T:Tm)(c:ri ρ)(_:b=[.ref t])(_:bf H T t)(_:dy c T)(_:ο c<=21)(_:∀(v:V) (g:ζ) (H':Hp),nE H' #[λx=>x∈T.vars,#[[],.give t]] v g c->H g=θ->ae H H'->Q v H')
inductive pq(K:Ψ)(c:ri V)(H:Hp)(Q:VK)(b:XK):Prop
 |mk(a:ζ)(_:c=[.ref a])(_:aD K H a [.str "num",.int 0])(_:∀(r:ζ),H r=θ->Q (.ref r) (ah H r (.lst [])))
inductive px(K:Ψ)(b:ri V)(H:Hp)(Q:VK)(a:XK):Prop
 |mk(t:ζ)(c:ri ρ)(_:b=[.ref t])(_:aD K H t [.str "num",.int 0])(_:ο c<=21)(_:∀(v:V) (g:ζ) (H':Hp),nE H' #[λx=>x∈(Tm.num 0).vars,#[[],.give t]] v g c->H g=θ->ae H H'->Q v H')
open Classical in
def iD(x:ρ)(t:ζ)(p:Pc):Wy:=if p.M x then #[(x,t)::p.w.sets,p.w.goal] else p.w
inductive iN(d:ri V)(H:Hp)(Q:VK)(a:XK):Prop
 |mk(v b:V)(p t:ζ)(x:ρ)(T:Tm)(c:Pc)(g:ζ)(e:ri ρ)(_:d=[v,b])(_:h9 H v (.lf p (.st x t T) .nil))(_:nE H c b g e)(_:x∈e)(_:dy e T)(_:ο c.w.sets<=10000000)(_:∀(v':V) (g':ζ) (H':Hp),nE H' #[(Lf.st x t T).use c.M,iD x t c] v' g' e->H g'=θ->ae H H'->Q v' H')
def DO:ak z4z z4z (aa uY):=bG
def yh(F:rc K "deed_of" uY f e):⇑1 f e z4z iF:=by
 erw[F.ok DO λC A o s H V Q E z h=>?_]
 let⟨v,st,rfl,g,q⟩:=h;erw[#[_,(jd (jw (jA zo (jz$ pv 0) (jh$ ja jl$ ja jl jb) Z) (jg$ jo$ jh$ ja jl$ ja (jz$ pv 0) jb) jp)$ jg$ jo$ pv 0),?_]];cases g with
 |lf p l V c d=>
  cases l with
  |rd x t T |st x t T |wr t u T U |cl x f B D |gv t T=>let⟨rfl,_⟩:=d;erw[(jv c Z #[bN,λl n=>#[l,_,Z,.inr$ aD.of jc,Z,Z,_,Z,aT Ly ?_]])];exact#[_,Z,q _ _ Jt$ je n]
 |ite p t T a b i I j J c m d y L M |loop p t T a i j c m d y=>erw[(jv c Z #[bN,λl n=>#[l,_,Z,.inr$ aD.of jc,Z,Z,_,Z,b8 Ly ?_]])];erw[(jv (am c n) Z #[bN,λr N=>?_])];rwa[q _ _ (jD jc$ jm Z jR$ jm Z Jt jB) ((je n).trans$ je N)]
def C1{fN:ζ}{fdN:bU}(F:rc K "names_in" eu f b)(c:‹n+1› f b z1z (dn n) "names_in")(m:mg "set"=θ)(M:mg "sorted"=θ):⇑(n+2) f b z1z (pq K):=by
 erw[F.ok vG (λC A o s H v Q E d h=>?_)]
 let⟨a,rfl,g,q⟩:=h;erw[#[_,(jd (jw (kf$ jz$ pv 0) (jg$ jo$ jK jb) jp)$ jd (jw (kf$ jz$ pv 0) (jg$ jo$ jK$ ja (jz$ pv 0) jb) jp)$ jg$ jo$ jG (zZ Z) Z M RB$ ja (jF (qW Z) Z m Vl$ ja (ju qk (c.e d$ ja (jz$ pv 0) jb)$ c.e d$ ja (jz$ pv 0) jb) jb) jb),?_]];erw[#[_,Z,a,_,_,_,Z,Z,g,Z,Z,_,Z,b8 Ly ?_]];exact#[ms,λr N=>q r N]
def oW:ak z1z z1z (aa lT):=bG
def uu(F:rc K "place_of_give" lT f d)(C:‹7› U i z1z (dn 6) "names_in"):⇑8 f d z1z gu:=by
 erw[F.ok oW λj A o s H V Q E l h=>?_]
 let⟨t,T,y,rfl,p,O,b,q⟩:=h;erw[#[_,(jg$ jo$ jh$ ja (C.e l.m$ ja (pv 0) jb)$ ja (jh$ ja (jh jb)$ ja (jh$ ja jl$ ja (pv 0) jb) jb) jb),?_]];erw[#[_,Z,t,T,y,Z,p,O.2,O.1,b,λg v a z B D M G I=>?_]];let J:NL a g v (λx=>x∈T.vars) y:=#[B,#[D,G,M],kE O.1,b];erw[#[ms,λe L=>#[_,Z,bN,λu c=>#[bN,λx N=>#[bN,λr n=>?_]]]]];let S:ae a (ah (ah (ah (ah a e$ .tup []) u$ .tup [.str "give",.ref t]) x$ .tup [.ref e,.ref u]) r$ .tup [.ref g,.ref x]):=(((je L).trans$ je c).trans$ je N).trans (je n);erw[q _ g _ #[r,_,.ref x,Z,jc,J.same S,?_] z (I.trans S)];rwa[jD (am jc n)$ jm Z (jD (am (am (am jc c) N) n) jB)$ jm Z (jD (am (am jc N) n)$ jm Z jR$ jm Z Jt jB) jB]
def C4(F:rc K "place_of_give" lT f j)(C:‹7› G l z1z (pq K) "names_in"):⇑8 f j z1z (px K):=by
 erw[F.ok oW λp A o s H V Q E v h=>?_]
 let⟨t,y,rfl,z,B,q⟩:=h;erw[#[_,(jg$ jo$ jh$ ja (C.e v.m$ ja (pv 0) jb)$ ja (jh$ ja (jh jb)$ ja (jh$ ja jl$ ja (pv 0) jb) jb) jb),?_]];erw[#[_,Z,t,Z,z,λg a=>?_]];let b:ae H (ah H g$ .lst []):=je a;let c:NL (ah H g$ .lst []) g [] (λx=>x∈(Tm.num 0).vars) y:=#[jc,#[Rj,Z,λx=>Sm],λx h=>absurd h MU,B];generalize ah H g (.lst [])=d at b c;erw[#[ms,λe D=>#[_,Z,bN,λu i=>#[bN,λx N=>#[bN,λr n=>?_]]]]];let S:ae d (ah (ah (ah (ah d e$ .tup []) u$ .tup [.str "give",.ref t]) x$ .tup [.ref e,.ref u]) r$ .tup [.ref g,.ref x]):=(((je D).trans$ je i).trans$ je N).trans (je n);erw[q _ g _ #[r,_,.ref x,Z,jc,c.same S,?_] a (b.trans S)];rwa[jD (am jc n)$ jm Z (jD (am (am (am jc i) N) n) jB)$ jm Z (jD (am (am jc N) n)$ jm Z jR$ jm Z Jt jB) jB]
def xO{Y:ri ρ}:oG (.str x) (Y.map qr)=decide (x∈Y):=by
 by_cases h:x∈Y
 .rw[MN h];unfold oG;rw[T7];exact#[.str x,dg.mpr #[x,h,Z],by simp [nF]]
 .rw[My h];unfold oG;rw[TZ];intro z;rw[T7]at z;let⟨v,a,e⟩:=z;let⟨y,H,rfl⟩:=dg.mp a;let E:x=y∨y=x:=by
   first
    |exact .inl (by simpa [nF] using e)
    |exact .inr (by simpa [nF] using e)
  rcases E with rfl |rfl
  .rwa[h H]
  .rwa[h H]
def D9{H:Hp}{w:Wy}{v:V}(h:aL H (hZ w) v []):∃(W s:ζ) (S:ri V) (y:V),v= .ref W/\H W=δ (.tup [.ref s,y])/\H s=δ (.tup S)/\aL H (aC$ w.sets.map Gg) .non S/\aL H (xN w.goal) y []:=by obtain⟨_,W,x,rfl,a,_,_,l,b,e,⟨_,s,S,c,d,f⟩,_,_,g,Y,E,i,j⟩:=h;let k:Y=[]:=j;rw[k]at E;rw[E]at e;rw[e,c]at a;exact#[W,s,S,g,Z,a,d,f,i]
def om:ak ["statement","behind","way"] z3z (aa vf):=bG
def yp(F:rc K "place_of_set" vf f fd)(cU:‹10› fU f0 z3z (gw 0) "used_ahead_of"):⇑11 f fd z3z iN:=by
 erw[F.ok om λc0 A O s H vs Q E hr h=>?_]
 let⟨v,bv,p,t,x,T,C,g,Y,rfl,X,hp,hx,ok,hl,q⟩:=h;erw[#[_,(jd (jx 2 om.nd$ jz$ pv 1)$ jd (j6$ jw (jA zo (jz$ pv 0) (jz$ pv 1) Z) (jg$ jx 2 om.nd$ jh$ ja (ju j5 (jh$ ja (jJ kC (pv 0) (jH jf) jV) jb)$ jz$ pv 2)$ ja (jz$ pv 2) jb) jp)$ jg$ jo$ jh$ ja (cU.e hr.m$ ja (pv 0)$ ja (jz$ pv 1) jb)$ ja (pv 2) jb),?_]];let b0:=aH;let⟨r,ss,wv,rfl,b,B,hW⟩:=hp;let h0:=X;cases X with
 |lf _ _ vs h1 h2=>
  let⟨rfl,hT⟩:=h2;let⟨wa,sa,sx,y,rfl,i,D,j,hy⟩:=D9 hW;erw[aj λF1 d=>(jv b Z$ d _ _ ?_)];clear d;let sl:=zk j;rw[Mi]at sl;erw[aj λF1 d=>dI (λl I=>∃W:V,l=[↑p,↑r,δ W]/\aL I (hZ$ iD x t C) W []/\ae H I) (λE2 _ fm=>?_) λl I h=>?_]
  .clear d;erw[oE λG kT kF=>(jv h1 Z$ jv b Z #[g,_,Z,.inl$ aI.of B.at',Z,QM _,_,Z,?_])];rw[xO];by_cases a:x∈ss
   .rw[MN a];erw[kT _ #[_,Z,_,Z,p,_,Z,h1,λs1 H1 J k1=>#[io,λu nu=>?_]]];let L:=k1.trans (je (o:=.tup [.ref s1]) nu);erw[(jv (L _ _ i) Z #[u,sa,_,_,Z,Z,jc,L _ _ D,by show 1+ο sx<=_;omega,λc H2 hc z=>?_])];let R:=L.trans z;erw[(jv (R _ _ i) Z #[bN,λnw n=>fm _ _ #[.ref nw,Z,?_,R.trans$ je n]])];let tm:=ae.tm (R.trans$ je (o:=.tup [.ref c,y]) n);unfold iD;rw[Mv ((B.nm.mem x).mp a)];erw[jD jc$ jm Z (jD (am hc n)$ jm Z ?_$ j.mono tm)$ jm (Cb _) (hy.mono tm) jB];rwa[jD (am (z _ _$ am J nu) n)$ jm Z jR$ jm Z Jt jB]
   .rw[My a];erw[kF _$ fm _ _ #[_,Z,?_,ae.refl _]];unfold iD;rw[Mx λw=>a ((B.nm.mem x).mpr w)];rwa[hW]
  .let⟨W,rfl,S,k⟩:=h;erw[d _ _ ?_];clear d;erw[#[_,Z,jv (k _ _ b) Z #[.ref p,g,.lf p (.st x t T) .nil,ss,C.M,Y,Z,h0.mono$ ae.tm k,B.same k,#[#[hx,ok],trivial],(by show 0 < 1;decide),(by show 0+1<=10000000;decide),λg' zs H3 n3 N3 z=>?_]]];erw[#[_,Z,bN,λr' N=>q _ g' _ #[r',zs,W,Z,jc,N3.same$ je N,S.mono$ ae.tm$ z.trans$ je N] (k.free n3) ((k.trans z).trans$ je N)]]
abbrev yM:cv:=bp (bH 56) 1
abbrev yQ:cv:=bp (bH 56) 2
abbrev yN:cv:=bp (bH 56) 3
abbrev yU:cv:=bp (bH 56) 4
abbrev uZ:cv:=bp (bH 56) 0
def pL(m:Int)(p:ζ)(l:Lf)(q:Pc×ri Ct):Pc×ri Ct:=match l with
 | .gv t T=>(#[λx=>x∈T.vars,#[[],.give t]],q.2)
 | .st x t T=>(#[(Lf.st x t T).use q.1.M,iD x t q.1],q.2)
 | .rd x t T=>(#[(Lf.rd x t T).use q.1.M,#[[],.go (m - (q.2.length:Int) - 1)]],q.2++[#[(Lf.rd x t T).use q.1.M,.st p,[q.1.w]]])
 | .wr t u T U=>(#[(Lf.wr t u T U).use q.1.M,#[[],.go (m - (q.2.length:Int) - 1)]],q.2++[#[(Lf.wr t u T U).use q.1.M,.st p,[q.1.w]]])
 | .cl x f a b=>(#[(Lf.cl x f a b).use q.1.M,#[[],.go (m - (q.2.length:Int) - 1)]],q.2++[#[(Lf.cl x f a b).use q.1.M,.st p,[q.1.w]]])
def pB(m:Int):Bd->Pc->ri Ct->Pc×ri Ct
 | .nil,c,f=>(c,f)
 | .lf p l r,c,f=>pL m p l (pB m r c f)
 | .ite p t T a b r,c,f=>
  let q:=pB m r c f
  let o:=pB m b q.1 q.2
  let s:=pB m a q.1 o.2
  (#[(Bd.ite p t T a b .nil).use q.1.M,#[[],.go$ m - (q.2.length:Int) - ((Bd.ite p t T a b .nil).cuts:Int)]],s.2++[#[(Bd.ite p t T a b .nil).use q.1.M,.ask t,[s.1.w,o.1.w]]])
 | .loop p t T a r,c,f=>
  let q:=pB m r c f
  let d:Pc:=#[(Bd.loop p t T a .nil).use q.1.M,#[[],.go$ m - (q.2.length:Int) - ((Bd.loop p t T a .nil).cuts:Int)]]
  let s:=pB m a d q.2
  (d,s.2++[#[(Bd.loop p t T a .nil).use q.1.M,.ask t,[s.1.w,q.1.w]]])
theorem Kq(m:Int):∀(a b:Bd) (c:Pc) (f:ri Ct),pB m (a.app b) c f=pB m a (pB m b c f).1 (pB m b c f).2
 | .nil,_,_,_=>rfl
 | .lf p l r,b,c,f=>by show pL m p l (pB m (r.app b) c f)=pL m p l (pB m r _ _);rw[Kq m r b c f]
 | .ite p t T x y r,b,c,f=>by let e:=Kq m r b c f;show pB m (.ite p t T x y$ r.app b) c f=_;unfold pB;rw[e]
 | .loop p t T x r,b,c,f=>by let e:=Kq m r b c f;show pB m (.loop p t T x$ r.app b) c f=_;unfold pB;rw[e]
theorem kj(m:Int):∀(b:Bd) (c:Pc) (F:ri Ct),(pB m b c F).2.length=ο F+b.cuts
 | .nil,_,_=>rfl
 | .lf p l r,c,F=>by
  let e:=kj m r c F;show(pL m p l$ pB m r c F).2.length=ο F+(l.cut+r.cuts);cases l with
  |rd x t T |wr t u T U |cl x f a d=>show((pB m r c F).2++[_]).length=ο F+(1+r.cuts);rw[Ml,e];show _+1=_;omega
  |st x t T |gv t T=>show(pB m r c F).2.length=ο F+(0+r.cuts);omega
 | .ite p t T x y r,c,F=>by let e:=kj m r c F;show((pB m x _ (pB m y _ _).2).2++[_]).length=_;rw[Ml,kj m x,kj m y,e];show _+1=ο F+(1+x.cuts+y.cuts+r.cuts);omega
 | .loop p t T x r,c,F=>by let e:=kj m r c F;show((pB m x _ _).2++[_]).length=_;rw[Ml,kj m x,e];show _+1=ο F+(1+x.cuts+r.cuts);omega
def XI(x:ρ)(t:ζ)(p:Pc):(iD x t p).sets.length<=ο p.w.sets+1:=by
 unfold iD;split
 .rwa[Mj _]
 .rwa[NG _]
theorem Zx(m:Int):∀(b:Bd) (a:Pc) (f:ri Ct),(pB m b a f).1.w.sets.length<=ο a.w.sets+b.size
 | .nil,_,_=>Mj _
 | .lf p l r,a,f=>by
  let e:=Zx m r a f;show(pL m p l$ pB m r a f).1.w.sets.length<=ο a.w.sets+(r.size+1);cases l with
  |st x t T=>have:=XI x t (pB m r a f).1;show(iD x t (pB m r a f).1).sets.length<=_;omega
  |_=>rwa[Mu _]
 | .ite p t T x y r,a,f | .loop p t T x r,a,f=>Mu _
theorem kP:∀b:Bd,b.cuts<=b.size
 | .nil=>Mj _
 | .lf _ l r=>by
  let:=kP r;let h:l.cut<=1:=by cases l<;>first |exact Mj _ |exact Mu _
  show l.cut+r.cuts<=r.size+1;omega
 | .ite _ _ _ a b r=>by let:=kP a;let:=kP b;let:=kP r;show 1+a.cuts+b.cuts+r.cuts<=a.size+b.size+r.size+1;omega
 | .loop _ _ _ a r=>by let:=kP a;let:=kP r;show 1+a.cuts+r.cuts<=a.size+r.size+1;omega
structure CK(K:Ψ)(C:ζ):Prop where
 cl:pJ K C
 nm:aW K C "many"
 nf:aW K C "found"
structure Cg(H:Hp)(C ia dx fa:ζ)(m:Int)(cts:ri Ct)(cs:ri V):Prop where
 ins:H ia=δ (.ins C dx [("many",.int m),("found",.ref fa)])
 fd:H fa=δ (.lst cs)
 tr:aL H (aC$ cts.map EG) .non cs
def Cg.same(h:Cg H C i d f m c a)(s:ae H b):Cg b C i d f m c a:=#[s _ _ h.ins,s _ _ h.fd,h.tr.mono$ ae.tm s]
def Cg.len(h:Cg H C i d f m c a):ο a=ο c:=by rw[zk h.tr,Mi]
def Cg.tm(h:Cg H C i d f m c g)(k:aB f H a):ai H a:=λb x e=>k b _ (jN e h.fd (by intro z;cases z)) e
structure wR(H:Hp)(C ia dx fa:ζ)(m:Int)(cts:ri Ct)(cs:ri V)(pc:Pc)(bv:V)(g:ζ)(ys:ri ρ)(b:Bd):Prop where
 c:Cg H C ia dx fa m cts cs
 p:nE H pc bv g ys
 ng:g≠fa
 ok:b.Ok ys
 sz:ο cts+ο pc.w.sets+b.size<=10000000
def sC(H:Hp)(C i d f:ζ)(m:Int)(y:ri ρ)(q:Pc×ri Ct)(Q:VK):Prop:=∀(v:V) (g:ζ) (c:ri V) (h:Hp),nE h q.1 v g y->g≠f->Cg h C i d f m q.2 c->aB f H h->Q v h
inductive mY(C:ζ)(n:Nat)(l:ri V)(H:Hp)(Q:VK)(c:XK):Prop
 |mk(j h i a g:ζ)(m:Int)(d:ri Ct)(f o:ri V)(k:Pc)(e:V)(p:ri ρ)(b:Bd)(_:l=[.ref j,.ref a,e])(_:wR H C j h i m d f k e g p b)(_:H a=δ (.tup o))(_:dG H b o)(_:b.dep < n)(_:sC H C j h i m p (pB m b k d) Q)
inductive DW(C:ζ)(n:Nat)(j:ri V)(H:Hp)(Q:VK)(a:XK):Prop
 |mk(h e f g:ζ)(m:Int)(b:ri Ct)(d:ri V)(i:Pc)(v c:V)(k:ri ρ)(s:Bd)(_:j=[.ref h,v,c])(_:wR H C h e f m b d i c g k s)(_:h9 H v s)(_:s.dep < n+1)(_:sC H C h e f m k (pB m s i b) Q)
def Bd.isCut:Bd->Bool
 | .lf _ l _=>l.isCut
 | .nil=>ν
 |_=>μ
inductive Ac(C:ζ)(n:Nat)(j:ri V)(H:Hp)(Q:VK)(a:XK):Prop
 |mk(h e f g:ζ)(m:Int)(b:ri Ct)(d:ri V)(i:Pc)(v c:V)(k:ri ρ)(s:Bd)(_:j=[.ref h,v,c])(_:wR H C h e f m b d i c g k s)(_:h9 H v s)(_:s.dep < n+1)(_:s.isCut=μ)(_:sC H C h e f m k (pB m s i b) Q)
def gV(m:Int)(c:Pc)(p:Pc)(f:ri Ct):Bd->ri Wy×ri Ct
 | .ite _ _ _ a b _=>([(pB m a p (pB m b p f).2).1.w,(pB m b p f).1.w],(pB m a p (pB m b p f).2).2)
 | .loop _ _ _ a _=>([(pB m a c f).1.w,p.w],(pB m a c f).2)
 |_=>([p.w],f)
inductive DX(C:ζ)(n:Nat)(o:ri V)(H:Hp)(Q:VK)(a:XK):Prop
 |mk(i e f g h:ζ)(m:Int)(b:ri Ct)(d:ri V)(j k:Pc)(v c l:V)(p:ri ρ)(s:Bd)(_:o=[.ref i,v,l,c])(_:wR H C i e f m b d j c g p s)(_:nE H k l h p)(_:h≠f)(_:k.w.sets=[])(_:h9 H v s)(_:s.dep < n+1)(_:∀(wv:V) (cs':ri V) (H':Hp),aL H' (ax ((gV m k j b s).1.map hZ)) wv []->Cg H' C i e f m (gV m k j b s).2 cs'->aB f H H'->Q wv H')
def Yk(h:h9 H v s)(g:s.isCut=μ)(m:Int)(c:Pc)(F:ri Ct):
  pB m s c F=(#[s.use c.M,#[[],.go$ m - (F.length:Int) - (s.cuts:Int)]],(gV m #[s.use c.M,#[[],.go$ m - (F.length:Int) - (s.cuts:Int)]] c F s).2++[#[s.use c.M,s.deed,(gV m #[s.use c.M,#[[],.go$ m - (F.length:Int) - (s.cuts:Int)]] c F s).1]]):=by
 cases h with
 |lf p l V d e=>
  cases l with
  |rd x t T |wr t u T U |cl x f a k=>rfl
  |st x t T |gv t T=>cases g
 |ite p t T a b q Q A B d i e j n o |loop p t T a q A d i e j=>rfl
def wF(h:nE H p v g y):∃(r:ζ) (W:V),v= .ref r/\H r=δ (.tup [.ref g,W])/\aL H (hZ p.w) W []:=by let⟨r,s,W,e,a,c,b⟩:=h;exact#[r,W,e,a,b]
def Ge:ak ["self","statement","place","behind","other"] z20z (aa yU):=bG
def Fy(F:aN K "ways_of" "Cutting.ways_of" yU f fd)(X:CK K C)(GB:⇑(4*n+31) fB f0 z13z (mY C n))(bB:au K f0 z13z [])(hB:a7 K C "place_of_body" fB):⇑(4*n+32) f fd z20z (DX C n):=by
 erw[F.ok Ge λc3 A o1 s H vs Q E hr h=>?_]
 let⟨i,D,R,g,g2,m,d,S,y,pl,v,bv,G,Y,st,rfl,I,h6,n0,h7,hs,hd,q⟩:=h;erw[#[_,(jd (jw (kf$ jz$ pv 1) (jd (jx 4 Ge.nd$ j9 (pv 0) X.cl hB GB hr.m bB .nil bq$ ja (jz$ pv 1)$ ja (pv 3) jb)$ jg$ jo$ jh$ ja (jr jP (j9 (pv 0) X.cl hB GB hr.m bB .nil bq$ ja (jz$ pv 1)$ ja (pv 3) jb) jf ∅)$ ja (jz$ pv 4) jb) jp)$ jd (jw (kf$ jz$ pv 1) (jg$ jo$ jh$ ja (jr jP (j9 (pv 0) X.cl hB GB hr.m bB .nil bq$ ja (jz$ pv 1)$ ja (pv 2) jb) jf ∅)$ ja (jz$ pv 3) jb) jp)$ jg$ jo$ jh$ ja (jz$ pv 3) jb),?_]];let b0:=aH;let⟨br,bw,rfl,J,L⟩:=wF I.p;cases hs with
 |lf p l vs e M=>
  let f2:gF (bV$ al (dU (fX K) (a8 3)$ tC$ qs 1) aQ) { nx:=λx H'=>Q V.non H',rt:=Q } [↑i,↑p,δ G,↑br,θ] H:=by erw[(jv J Z #[io,λr N=>q (.ref r) S _ (jD jc$ jm Z (L.mono$ ae.tm$ je N) jB) (I.c.same$ je N) (aB.of_same$ je N)])]
  cases l with
  |rd x t T |st x t T |wr t u T U |cl x f q2 ts |gv t T=>let⟨rfl,_⟩:=M;erw[(jv e Z #[Z,_,Z,aT Ly ?_])];erw[(jv e Z #[Z,_,Z,aT Ly ?_])];rwa[f2]
 |ite p t T a b qa qb as bs e h0 M h3 h4 h5=>erw[(jv e Z #[Z,_,Z,b8 Ly ?_])];let h8:max (max a.dep b.dep+1) 0 < n+1:=hd;let hz:ο d+ο y.w.sets+(a.size+b.size+0+1)<=10000000:=I.sz;let W:=I.ok;erw[aj λF1 f1=>#[_,Z,i,D,_,Z,I.c.ins,Z,jv e Z #[_,Z,i,D,R,qb,g,m,d,S,bs,y,.ref br,Y,b,Z,#[I.c,I.p,I.ng,W.2.2.1,LA],h3,h5,LA,λv1 g1 j H1 p1 n1 O z=>f1 _ _ ?_]]];clear f1;let B:=I.c.tm z;let lc:=kj m b y d;let cb:=kP b;erw[#[_,Z,i,D,_,Z,O.ins,Z,jv (B _ _ e) Z #[_,Z,i,D,R,qa,g,m,_,j,as,y,.ref br,Y,a,Z,#[O,I.p.but z I.c.fd I.ng,I.ng,W.2.1,LA],B _ _ M,h4.mono B,LA,λv2 g2 c0 H2 p2 n2 c2 k2=>?_]]];let⟨r2,w2,rfl,h',a0⟩:=wF p2;let⟨r1,w1,rfl,k,o⟩:=wF (p1.but k2 O.fd n1);erw[#[r2,_,_,_,Z,Z,aD.of h',Z,jv k Z #[bN,λr N=>q (.ref r) c0 _ (jD jc$ jm Z (a0.mono$ ae.tm$ je N)$ jm Z (o.mono$ ae.tm$ je N) jB) (c2.same$ je N) ((z.trans k2).trans$ aB.of_same$ je N)]]]
 |loop p t T a qa as e h0 M h3=>erw[(jv e Z #[Z,_,Z,aT Ly ?_])];erw[(jv e Z #[Z,_,Z,b8 Ly ?_])];let h8:max (a.dep+1) 0 < n+1:=hd;let hz:ο d+ο y.w.sets+(a.size+0+1)<=10000000:=I.sz;let W:=I.ok;erw[#[_,Z,i,D,_,Z,I.c.ins,Z,jv e Z #[_,Z,i,D,R,qa,g2,m,d,S,as,pl,G,Y,a,Z,#[I.c,h6,n0,W.2.1,by rw[h7];show ο d+0+a.size<=_;omega],M,h3,LA,λv1 g1 j H1 p1 n1 O z=>?_]]];let⟨r1,w1,rfl,k,o⟩:=wF p1;let B:=I.c.tm z;erw[#[r1,_,_,_,Z,Z,aD.of k,Z,jv (B _ _ J) Z #[bN,λr N=>q (.ref r) j _ (jD jc$ jm Z (o.mono$ ae.tm$ je N)$ jm Z ((L.mono B).mono$ ae.tm$ je N) jB) (O.same$ je N) (z.trans$ aB.of_same$ je N)]]]
def vw:ak ["self","statement","behind","n","names","place","ways"] z7z (aa yN):=bG
def Fu(F:aN K "place_of_cut" "Cutting.place_of_cut" yN f fd)(y:CK K C)(h7:n<=7)(GW:⇑(4*n+32) fW f0 z20z (DX C n))(bW:au K f0 z20z [])(hW:a7 K C "ways_of" fW)(cM:‹2› fM f2 ["body"] gQ "many_cuts")(cU:‹31› fU f3 z3z (gw 7) "used_ahead_of")(cD:‹1› fD f4 z4z iF "deed_of")(ml:mg "len"=θ)(m0:mg "tuple"=θ):⇑(4*n+33) f fd z7z (Ac C n):=by
 erw[F.ok vw λc0 A o1 s H vs Q E Y h=>?_]
 let⟨z,L,l,g,m,a,cs,j,v,bv,ys,st,rfl,I,B,hd,hc,q⟩:=h;erw[#[_,(jd (jx 3 vw.nd$ ju ki (ju ki (kU (pv 0) Z)$ jG jI Z ml M9$ ja (kU (pv 0) Z) jb)$ cM.e Y.m$ ja (jh$ ja (pv 1) jb) jb)$ jd (jx 4 vw.nd$ cU.e Y.m$ ja (pv 1)$ ja (jz$ pv 2) jb)$ jd (jx 5 vw.nd$ jh$ ja (pv 4)$ ja (jh$ ja (jh jb)$ ja (jh$ ja jl$ ja (pv 3) jb) jb) jb)$ jd (jx 6 vw.nd$ j9 (pv 0) y.cl hW GW Y.m bW .nil bq$ ja (pv 1)$ ja (pv 5)$ ja (pv 2) jb)$ jd (jQ$ kJ MF MQ MP jT (kU (pv 0) Z)$ ja (jh$ ja (jF jL Z m0 N0$ ja (pv 4) jb)$ ja (cD.e Y.m$ ja (pv 1) jb)$ ja (pv 6) jb) jb)$ jg$ jo$ pv 5),?_]];let b0:=aH;let⟨br,ss,bw,rfl,h0,hN,h1⟩:=id I.p;let hz:=I.sz;let lc:=I.c.len;erw[aj λF1 i=>#[_,Z,z,C,L,_,_,Z,I.c.ins,y.cl,y.nm,Z,_,Z,z,C,L,_,_,Z,I.c.ins,y.cl,y.nf,Z,l,_,Z,.inl$ aI.of I.c.fd,_,_,Z,Z,_,Z,io,λu nu=>?_]];let s1:ae H (ah H u$ .tup [v]):=je nu;erw[#[u,st,_,Z,jc,(B.mono$ ae.tm s1).bd,LA,λH1 k1=>#[_,_,Z,Z,i _ _ ?_]]];clear i;let S:=s1.trans k1;rw[lc];erw[aj λF1 i=>#[_,Z,jv (S _ _ h0) Z #[v,g,st,ss,j.M,ys,Z,B.mono$ ae.tm S,hN.same S,I.ok,LA,LA,λG zs H2 n2 N2 k2=>i _ _ ?_]]];clear i;let s3:=S.trans k2;let N:G≠l:=λe=>by rw[e,S _ _ I.c.fd]at n2;cases n2
 erw[aj λF1 i=>#[_,Z,ms,λe ne=>#[_,Z,bN,λU O=>#[bN,λx nx=>#[bN,λr nr=>i _ _ ?_]]]]];clear i;let s4:ae H2 (ah (ah (ah (ah H2 e$ .tup []) U$ .tup [.str "go",.int$ m - (a.length:Int) - (st.cuts:Int)]) x$ .tup [.ref e,.ref U]) r$ .tup [.ref G,.ref x]):=(((je ne).trans$ je O).trans$ je nx).trans (je nr);let P4:nE (ah (ah (ah (ah H2 e$ .tup []) U$ .tup [.str "go",.int$ m - (a.length:Int) - (st.cuts:Int)]) x$ .tup [.ref e,.ref U]) r$ .tup [.ref G,.ref x]) #[st.use j.M,#[[],.go$ m - (a.length:Int) - (st.cuts:Int)]] (.ref r) G ys:=
  #[r,zs,.ref x,Z,jc,N2.same s4,jD (am jc nr)$ jm Z (jD (am (am (am jc O) nx) nr) jB)$ jm Z (jD (am (am jc nx) nr)$ jm Z jR$ jm Z jY jB) jB]
 generalize ah (ah (ah (ah H2 e$ .tup []) U$ .tup [.str "go",.int$ m - (a.length:Int) - (st.cuts:Int)]) x$ .tup [.ref e,.ref U]) r (.tup [.ref G,.ref x])=H4 at s4 P4;let R:=s3.trans s4;let c5:=I.c.same R;erw[aj λF1 i=>#[_,Z,z,L,_,Z,c5.ins,Z,_,Z,_,Z,_,Z,z,L,l,g,G,m,a,cs,j,_,v,.ref br,.ref r,ys,st,Z,#[c5,I.p.same R,I.ng,I.ok,I.sz],P4,N,Z,B.mono$ ae.tm R,hd,λwv D H6 w6 c6 k6=>i _ _ ?_]];clear i;let t0:=c5.tm k6;let p6:=P4.but k6 c5.fd N;let z6:H6 G=δ (.lst$ zs.map qr):=k6 _ _ N (s4 _ _ N2.at');let ez:=N2.nm.canon;let l6:=c6.len;let lw:(gV m #[st.use j.M,#[[],.go$ m - (a.length:Int) - (st.cuts:Int)]] j a st).2.length+1=ο a+st.cuts:=by let:=kj m st j a;rw[Yk B hc m j a,Ml]at this;rwa[this]
 let cl:=kP st;erw[aj λF1 i=>#[_,Z,z,C,L,_,_,Z,c6.ins,y.cl,y.nf,Z,.inl #[Z,_,aI.of c6.fd],_,Z,G,_,Z,.inl #[aI.of z6,λnt n0=>?_]]];let s7:ae H6 (ah H6 nt$ .tup$ zs.map qr):=je n0;erw[#[_,Z,v,st,Z,((B.mono$ ae.tm R).mono t0).mono$ ae.tm s7,λd H8 d8 k8=>#[_,Z,gE,λW J=>?_]]];let X:=(s7.trans k8).trans (je (o:=.tup [.ref nt,d,wv]) J);let t:=c6.same X;erw[#[l,D,_,Z,Z,t.fd,LA,i _ _ ?_]];clear i;let T9:aL (ah H8 W$ .tup [.ref nt,d,wv]) (EG #[st.use j.M,st.deed,(gV m #[st.use j.M,#[[],.go$ m - (a.length:Int) - (st.cuts:Int)]] j a st).1]) (.ref W) []:=by erw[jD jc$ jm Z (jD (am (k8 _ _ jc) J) ?_)$ jm (EJ _) (d8.mono$ ae.tm$ je J)$ jm Z (w6.mono$ ae.tm X) jB];rw[<- ez];rwa[XH zs]
 let p9:=p6.same X;generalize ah H8 W (.tup [.ref nt,d,wv])=H9 at X t T9 p9;let k:aB l H9 (ah H9 l$ .lst$ D++[.ref W]):=λb o nb e=>by rw[ji nb];rwa[e]
 let T:=t.tm k;let n1:z≠l:=λe=>by let:=t.ins;rw[e,t.fd]at this;cases this
 erw[#[_,Z,q (.ref r) G (D++[.ref W]) _ ?_ N ?_ (λb o nb e=>k b o nb (X _ _$ k6 b o nb$ R _ _ e))]]
 .rw[Yk B hc m j a];rwa[p9.but k t.fd N]
 .rw[Yk B hc m j a];erw[#[k _ _ n1 t.ins,jc,?_]];rw[MS];rwa[J2 (jm Z (T9.mono T) jB)$ t.tr.mono T]
inductive BI(C u j s a:ζ)(m:Int)(c:ri Ct)(x:Pc)(f:V)(z:ri ρ)(b:Bd)(y:ri V)(H:Hp)(i:Nat)(A:_L.St)(e:Hp):Prop
 |mk(d t:Bd)(v:V)(g:ζ)(h:ri V)(w:rm V)(k:A=[↑u,↑a,δ f,δ v,w])(l:b=d.app t)(n:dG H d (y.take (ο y - i)))(o:nE e (pB m t x c).1 v g z)(p:g≠s)(q:Cg e C u j s m (pB m t x c).2 h)(r:aB s H e)
theorem J3(m:Int):∀(b:Bd) (c:Pc) (F:ri Ct),(pB m b c F).2.length+(pB m b c F).1.w.sets.length<=ο F+ο c.w.sets+b.size
 | .nil,_,_=>Mj _
 | .lf p l r,c,F=>by
  let e:=J3 m r c F;show(pL m p l$ pB m r c F).2.length+(pL m p l$ pB m r c F).1.w.sets.length<=ο F+ο c.w.sets+(r.size+1);cases l with
  |st x t T=>have:=XI x t (pB m r c F).1;show(pB m r c F).2.length+(iD x t (pB m r c F).1).sets.length<=_;omega
  |gv t T=>show(pB m r c F).2.length+0<=_;omega
  |rd x t T |wr t u T U |cl x f a d=>show((pB m r c F).2++[_]).length+0<=_;rw[Ml];show _+1+0<=_;omega
 | .ite p t T x y r,c,F=>by let e:=J3 m r c F;let h:=kP x;let H:=kP y;show((pB m x _ (pB m y _ _).2).2++[_]).length+0<=ο F+ο c.w.sets+(x.size+y.size+r.size+1);rw[Ml,kj m x,kj m y];show _+1+0<=_;omega
 | .loop p t T x r,c,F=>by let e:=J3 m r c F;let h:=kP x;show((pB m x _ _).2++[_]).length+0<=ο F+ο c.w.sets+(x.size+r.size+1);rw[Ml,kj m x];show _+1+0<=_;omega
def Iu:ak z7z z7z (aa yQ):=bG
def Fx(F:aN K "place_of" "Cutting.place_of" yQ f fd)(ck:CK K C)(GC:⇑(4*n+33) fC D z7z (Ac C n))(bC:au K D z7z [])(hC:a7 K C "place_of_cut" fC)(cG:‹8› fG f0 z1z gu "place_of_give")(cS:‹11› fS f1 z3z iN "place_of_set"):⇑(4*n+34) f fd z7z (DW C n):=by
 erw[F.ok Iu λc0 A O s H vs Q E G h=>?_]
 let⟨r,J,fa,g,m,j,z,L,v,B,y,st,rfl,I,M,hd,q⟩:=h;erw[#[_,(jd (jw (kf$ jz$ pv 1) (jg$ jo$ cG.e G.m$ ja (jz$ pv 1) jb) jp)$ jd (jw (kf$ jz$ pv 1) (jg$ jo$ cS.e G.m$ ja (pv 1)$ ja (pv 2) jb) jp)$ jg$ jo$ j9 (pv 0) ck.cl hC GC G.m bC .nil bq$ ja (pv 1)$ ja (pv 2) jb),?_]];let hz:=I.sz;let R:=M;let i:st.isCut=μ->gF (wc C "place_of_cut" (Ac C n) [] E0 (a8 0)$ al (a8 1)$ al (a8 2) aQ) { nx:=λx k=>Q V.non k,rt:=Q } [↑r,δ v,δ B] H:=λhc=>
  #[_,Z,r,J,_,Z,I.c.ins,Z,_,Z,_,Z,r,J,fa,g,m,j,z,L,v,B,y,st,Z,I,M,hd,hc,q]
 cases M with
 |lf p l vs d o=>
  cases l with
  |rd x t T |wr t u T U |cl x f q2 ts=>let⟨rfl,_⟩:=o;erw[(jv d Z #[Z,_,Z,aT Ly ?_])];erw[(jv d Z #[Z,_,Z,aT Ly ?_])];rwa[i Z]
  |gv t T=>
   let⟨rfl,hT⟩:=o;erw[(jv d Z #[Z,_,Z,b8 Ly ?_])];clear i;let Y:ο y<=21:=by let⟨_,_,_,_,_,hN,_⟩:=I.p;rwa[hN.y20]
   exact(jv d Z #[t,T,y,Z,hT,I.ok.1,Y,λW X k p' N S=>q W X z k p' (λe=>by rw[e,I.c.fd]at N;cases N) (I.c.same S) (aB.of_same S)])
  |st x t T=>let⟨rfl,hT⟩:=o;erw[(jv d Z #[Z,_,Z,aT Ly ?_])];erw[(jv d Z #[Z,_,Z,b8 Ly ?_])];clear i;exact#[_,Z,_,Z,.ref p,B,p,t,x,T,L,g,y,Z,R,I.p,I.ok.1.1,I.ok.1.2,LA,λW X k p' N S=>q W X z k p' (λe=>by rw[e,I.c.fd]at N;cases N) (I.c.same S) (aB.of_same S)]
 |ite p t T a b qa qb as bs d h0 o h3 h4 h5 |loop p t T a qa as d h0 o h3=>erw[(jv d Z #[Z,_,Z,aT Ly ?_])];erw[(jv d Z #[Z,_,Z,aT Ly ?_])];rwa[i Z]
def yX:ak ["self","body","behind","place","statement"] z13z (aa yM):=bG
def Ft(F:aN K "place_of_body" "Cutting.place_of_body" yM f fd)(ck:CK K C)(GO:⇑(4*n+34) fO T z7z (DW C n))(bO:au K T z7z [])(hO:a7 K C "place_of" fO)(R:mg "reversed"=θ):⇑(4*n+35) f fd z13z (mY C$ n+1):=by
 erw[F.ok yX λc1 A U s H vs Q E hr h=>?_]
 let⟨r,J,V,a,g,m,d,cs,xs,l,L,Y,b,rfl,I,ha,hb,hd,q⟩:=h;erw[#[_,(jd (jx 3 yX.nd$ pv 2)$ jd (kh M3 Z (@uK _ _ _ _ _ _ _ Z R To (pv 1) LB LB Lx Lx) (jy (i:=4) yX.nd Z$ ψ Z)$ jg$ jx 3 yX.nd$ j9 (pv 0) ck.cl hO GO hr.m bO .nil bq$ ja (pv 4)$ ja (pv 3) jb)$ jg$ jo$ pv 3),?_]];let b0:=aH;let hz:=I.sz;let xl:=hb.len;erw[aj λF1 u=>#[_,Z,u _ _ ?_]];clear u;erw[aj λF1 u=>?_];erw[eM λF kF=>#[_,Z,a,xs,Z,aD.of ha,kF _ _ ?_]];clear kF;erw[XB (K:=K) (xs:=xs) (BI C r J V a m d l L Y b xs H) #[b,.nil,L,g,cs,_,Z,(Je b).symm,by rw[RI,Np];rwa[hb],I.p,I.ng,I.c,aB.refl] (λi σ H' hi h=>?_) ?_ (λσ H' h=>u _ _ ?_)]
 .let⟨_,_,_,_,_,_,_,_,_,_,_,_,k⟩:=h;rwa[aD.of$ I.c.tm k _ _ ha]
 .clear u;intro E _ i x σ H2 M fE Gq t h;let⟨pre,fe,v,W,o,o4,rfl,j,y,X,h4,N,O⟩:=h;let hi:i < ο xs:=by
   rcases P0 i xs.length with z |z
   .rwa[z]
   .rw[Nv (z:)]at M;cases M
  rw[OZ hi]at M;let et:xs.take (ο xs - i)=xs.take (ο xs - (i+1))++[x]:=by
   let D:ο xs - i=(ο xs - 1 - i)+1:=LA
   let e2:ο xs - (i+1)=ο xs - 1 - i:=LA
   rw[D,e2,NQ,M];rfl
  rw[et]at y;rcases y.last with ⟨e,_⟩ | ⟨ws,v',B,S,D,e2,h6,h7⟩
  .rwa[absurd e Lz]
  let⟨ew,ev⟩:=T6 D Z;cases ev;subst e2;let h0:=zJ (j▸I.ok);let G:=zJ h0.1;let a1:b.dep=max (B.app S).dep fe.dep:=by rw[j,zj]
  let a2:(B.app S).dep=max B.dep S.dep:=zj ..;let h8:S.dep<=b.dep:=by rw[a1,a2];rwa[Mw (Py ..)$ P' ..]
  clear a1 a2;let h':b.size=B.size+S.size+fe.size:=by rw[j,j3,j3]
  let hl:=kj m fe l d;let a0:=kP fe;let a3:=Zx m fe l d;let a4:(pB m fe l d).1.w.sets.length+(pB m fe l d).2.length+S.size<=10000000:=by let:=J3 m fe l d;omega
  erw[t ?_];clear t;let tm:=I.c.tm O;show dZ _ _ E [↑r,↑a,δ L,δ v,δ x] H2;erw[#[_,Z,r,J,_,Z,N.ins,Z,_,Z,_,Z,r,J,V,W,m,_,o,_,x,v,Y,S,Z,#[N,X,h4,G.2,LA],h7.mono tm,LA,λv3 g3 c0 H3 p3 n3 c3 k3=>fE _ _ #[B,S.app fe,v3,g3,c0,_,Z,by rw[j,zP],?_,by rw[Kq];rwa[p3],n3,by rw[Kq];rwa[c3],O.trans k3]]];rw[ew];rwa[h6]
 .let⟨pre,fe,v,W,o,o4,rfl,j,y,X,h4,N,O⟩:=h;rw[PZ]at y;let ep:pre= .nil:=by
   rcases y.last with ⟨_,e⟩ | ⟨ws,v,B,S,D,_⟩
   .rwa[e]
   .rwa[absurd D Lz]
  rw[ep]at j;erw[#[_,Z,q v W o H' ?_ h4 ?_ O]]
  .rw[j];rwa[X]
  .rw[j];rwa[N]
def Fp:⇑k f i z13z (mY C 0):=by
 let n:∀v H Q E,¬mY C 0 v H Q E:=λv H Q E h=>by let⟨I,D,F,a,g,m,d,j,x,p,B,y,b,_,_,_,_,e,_⟩:=h;rwa[absurd e$ O4 _]
 exact#[λv H Q E h=>absurd h (n v H Q E),λA o s H c u v Q E _ _ _ _ h=>absurd h (n v H Q E)]
theorem I0(c:CK K C)(FB:aN K "place_of_body" "Cutting.place_of_body" yM g f)(F:aN K "place_of" "Cutting.place_of" yQ A a)(i:aN K "place_of_cut" "Cutting.place_of_cut" yN D b)(j:aN K "ways_of" "Cutting.ways_of" yU E d)
  (B:au K f z13z []) (H:a7 K C "place_of_body" g) (k:au K a z7z []) (l:a7 K C "place_of" A) (o:au K b z7z []) (p:a7 K C "place_of_cut" D) (q:au K d z20z []) (r:a7 K C "ways_of" E)
  (s:‹2› T G ["body"] gQ "many_cuts") (t:‹31› U I z3z (gw 7) "used_ahead_of") (u:‹1› Y J z4z iF "deed_of") (v:‹8› fG L z1z gu "place_of_give") (x:‹11› fS N z3z iN "place_of_set") (y:mg "len"=θ) (m:mg "tuple"=θ) (M:mg "reversed"=θ):
  ∀n:Nat,n<=8->⇑(4*n+31) g f z13z (mY C n)
 |0,_=>Fp
 |n+1,h=>by
  let O:=I0 c FB F i j B H k l o p q r s t u v x y m M n LA;let Q:=Fy j c O B H;let R:=Fu i c LA Q q r s t u y m;let S:=Fx F c R o p v x;let z:=Ft FB c S k l M;let e:4*n+35=4*(n+1)+31:=LA
  rw[e]at z;rwa[z]
def Zy{X:Cx}{K:Ψ}{n:Nat}(a:X.K=K)(b:X.calm=μ)(h:Ei X e t)
  (c:(assignEach e X.env).length=n) (H:(assignEach e X.env).findIdx? (·.1)=θ):PG X (.Tuple e k p) (p8 K n t):=by
 subst a;rwa[zQ b h c H]
abbrev g3(K:Ψ)(i j k:Nat):TG:=p8 K 3 (dB (bo i)$ dB (bo j)$ dB (bo k) tH)
def Ij{t:_L.St}(h:ο t=3):∃a b c,t=[a,b,c]:=by
 cases t with
 |nil=>cases h
 |cons a r=>
  cases r with
  |nil=>cases h
  |cons b R=>
   cases R with
   |nil=>cases h
   |cons c d=>
    cases d with
    |nil=>exact#[a,b,c,Z]
    |cons _ _=>cases h
abbrev ve:cv:=bH 57
abbrev oO:cv:=bH 58
structure Df where
 f:ρ
 p:ζ
 pa:ζ
 pb:ζ
 b:Bd
def Aw(H:Hp)(d:Df)(v:V):Prop:=∃B,v= .ref d.p/\H d.p=δ (.tup [.str d.f,.ref d.pa,.ref d.pb])/\H d.pb=δ (.tup B)/\dG H d.b B
inductive cic(W:V->Prop)(R:ri V->Prop)(a:ri V):Prop|mk(v r:_)(_:a=v::r)(_:W v)(_:R r)
def ci(H:Hp):ri Df->ri V->Prop
 | [],a=>a=[]
 |d::D,a=>cic (Aw H d) (ci H D) a
def Aw.mono(k:ai H a)(h:Aw H d v):Aw a d v:=by let⟨b,e,c,f,g⟩:=h;exact#[b,e,k _ _ c,k _ _ f,g.mono k]
def ci.mono(k:ai H b):∀{a:ri V},ci H D a->ci b D a:=by
 induction D with
 |nil=>exactλh=>h
 |cons d D i=>rintro a ⟨v,r,e,c,f⟩;exact#[v,r,e,c.mono k,i f]
theorem ci.snoc{d:Df}(a:Aw H d v):∀{D:ri Df} {b:ri V},ci H D b->ci H (D++[d]) (b++[v])
 | [],_,h=>by let e:_=[]:=h;rw[e];exact#[v,[],Z,a,Z]
 |_::_,_,z=>by let⟨u,r,e,c,f⟩:=z;rwa[#[u,r++[v],by rw[e];rfl,c,ci.snoc a f]]
theorem ci.len:∀{d:ri Df} {v:ri V},ci H d v->ο v=ο d
 | [],_,h=>by let e:_=[]:=h;rw[e];rfl
 |_::_,_,z=>by let⟨u,r,e,b,a⟩:=z;rw[e,MV,MV,ci.len a]
theorem ci.at:∀{D:ri Df} {b:ri V},ci H D b->∀(i:Nat) (v:V),b[i]?=δ v->∃d,D[i]?=δ d/\Aw H d v
 | [],_,h,i,v,a=>by let e:_=[]:=h;rw[e]at a;simp at a
 |d::_,_,q,0,v,a=>by let⟨u,r,e,c,f⟩:=q;rw[e]at a;cases a;exact#[d,Z,c]
 |_::D,_,q,i+1,v,a=>by let⟨u,r,e,c,f⟩:=q;rw[e]at a;simpa using ci.at f i v (a:)
def nL(d:Df):Prop:=(∃y:ri ρ,y.length<=20/\d.b.Ok y)/\d.b.dep < 8/\d.b.size<=3000
def Im(n:ζ):Pc:=#[λx=>x∈(Tm.num 0).vars,#[[],.give n]]
def gZ(n:ζ)(d:Df):Pc×ri Ct:=pB (d.b.cuts:Int) d.b (Im n) []
def eU(n:ζ)(d:Df):Tr:=ax [aJ d.f,rV d.pa,hZ (gZ n d).1.w,ax ((gZ n d).2.reverse.map EG)]
def nQ(K:Ψ)(n:ζ):Prop:=∀H:Hp,aD K H n [.str "num",.int 0]
inductive pj(C:ζ)(f:ri V)(H:Hp)(Q:VK)(c:XK):Prop
 |mk(e d a:ζ)(b:Bd)(g:ri V)(_:f=[.ref e,.ref a])(_:H e=δ (.ins C d []))(_:H a=δ (.tup g))(_:dG H b g)(_:b.size<=10000000)(_:∀(fa:ζ) (H':Hp),H fa=θ->Cg H' C e d fa (b.cuts:Int) [] []->aB e H H'->Q .non H')
inductive me(K:Ψ)(c:ζ)(e:ri V)(H:Hp)(Q:VK)(a:XK):Prop
 |mk(d:Df)(b:ri V)(_:e=[.str d.f,.ref d.pa,.ref d.pb])(_:H d.pb=δ (.tup b))(_:dG H d.b b)(_:nL d)(_:∀(v:V) (H':Hp),aL H' (eU c d) v []->ae H H'->Q v H')
inductive md(K:Ψ)(e:ζ)(f:ri V)(H:Hp)(Q:VK)(b:XK):Prop
 |mk(a:ζ)(c:ri Df)(g:ri V)(_:f=[.ref a])(_:H a=δ (.tup g))(_:ci H c g)(_:ο c<=1000)(_:∀d∈c,nL d)(_:∀(v:V) (H':Hp),aL H' (ax (c.map (eU e))) v []->ae H H'->Q v H')
def pO{K:Ψ}{t:TE}{Q:ri V->Hp->Prop}{H:Hp}(x:H a=δ (.tup g))(u:ci H D g)(R:ο D<=1000)
  (Pv:Nat->ri V->Hp->Prop) (z:Pv 0 [] H) (A:∀i Y h,Pv i Y h->ae H h/\ο Y<=i)
  (C:∀i d B Y h,D[i]?=δ d->h d.pb=δ (.tup B)->dG h d.b B->Pv i Y h->t (δ (.str d.f)::δ (.ref d.pa)::δ (.ref d.pb)::l) h λy j=>Pv (i+1) (Y++[y]) j)
  (E:∀Y h,Pv D.length Y h->Q Y h):eP (wT K a) 3 l (g3 K 0 1 2) mf t Q H:=by
 let F:=aH;let S:=u.len;erw[#[λi m Y h=>m=ο D - i/\i<=ο D/\Pv i Y h,#[D.length,Lz,Mu _,z],?_]];intro i m Y h c;let⟨rfl,T,p⟩:=c;let⟨s,U⟩:=A i Y h p;let c:aD K h a g:=aD.of (s _ _ x);by_cases n:i < ο D
 .let I:i < ο g:=by omega
  erw[.inr #[#[g,g[i],c,Mf I],LA,Pv$ i+1,λJ j L=>#[ο D - (i+1),LA,Z,n,L],λv j W o y=>?_]];let⟨e,y⟩:=y;subst e;let q:=y g c;let⟨d,r,B,rfl,M,N,O⟩:=(u.mono$ ae.tm s).at i v q;let⟨X,t2,t3,rfl⟩:=Ij o;erw[#[d.p,_,Z,aD.of M,Z,_,_,Z,_,_,Z,_,_,Z,Z,#[[δ _,δ _,δ _],Z,Z],?_]];rwa[C i d B Y j r N O p]
 .let e:i=ο D:=by omega
  subst e;rwa[.inl #[#[g,c,LA],E Y h p]]
def Ga:ak ["self","body"] ["self","body"] (aa uZ):=bG
def CZ(F:aN K "__init__" "Cutting.__init__" uZ f t)(d:CK K C)(u:‹2› M v ["body"] gQ "many_cuts"):⇑3 f t ["self","body"] (pj C):=by
 erw[F.ok Ga λy A O s H V Q E B h=>?_]
 let⟨i,D,a,b,x,rfl,G,I,J,L,q⟩:=h;erw[#[_,(jd (@qj _ _ _ _ _ _ _ _ (pv 0) (u.e B.m$ ja (pv 1) jb) Z)$ jg$ @qj _ _ _ _ _ _ _ _ (pv 0) (jK jb) Z),?_]];erw[aj λS l=>#[_,Z,a,b,x,Z,I,J,L,λT k=>#[_,Z,i,C,D,_,Z,k _ _ G,d.cl,d.nm,LB,l _ _ ?_]]];clear l;erw[#[ms,λg n=>#[_,Z,i,C,D,_,Z,am jc n,d.cl,d.nf,(by show 1 < 1000;decide),?_]]];let N:g≠i:=λe=>by rw[e,jc]at n;cases n
 let p:H g=θ:=by
  cases e:H g with
  |none=>rfl
  |some o=>rw[ji N,k _ _ e]at n;cases n
 erw[q g _ p #[jc,by rw[ji N,jc],Z] λc o r e=>?_];rw[ji r,ji (λz=>by rw[z,p]at e;cases e),ji r];rwa[k _ _ e]
def oj:ak ["name","params","body","cutting","first"] z18z (aa ve):=bG
def yo(F:rc K "part_made" ve f fd)(t:CK K C)(mk:Mk K C fI)(GI:⇑3 fI u ["self","body"] (pj C))(bI:au K u ["self","body"] [])(mC:mg "Cutting"=↑C)(M:mg "NOUGHT"=↑n)(no:nQ K n)(GB:⇑63 fB x z13z (mY C 8))(bB:au K x z13z [])(hB:a7 K C "place_of_body" fB)(cG:‹8› fG f0 z1z (px K) "place_of_give")(y:mg "tuple"=θ)(z:mg "reversed"=θ):⇑64 f fd z18z (me K n):=by
 erw[F.ok oj λc0 A O s H vs Q E B h=>?_]
 let⟨d,G,rfl,hb,a,I,q⟩:=h;erw[#[_,(jd (jx 3 oj.nd$ Q1 mk GI B.m Z mC bI .nil bq$ ja (pv 2) jb)$ jd (jx 4 oj.nd$ j9 (pv 3) t.cl hB GB B.m bB .nil bq$ ja (pv 2)$ ja (cG.e B.m$ ja (q8 (v:=.ref n) Z M Z) jb) jb)$ jg$ jo$ jh$ ja (pv 0)$ ja (pv 1)$ ja (jz$ pv 4)$ ja (@rS _ _ _ _ _ _ _ _ _ Z Z y N0 Z z To (kU (pv 3) Z) LB LB LB LB Lx Lx Lx Lx) jb),?_]];let b0:=aH;obtain⟨⟨ys,y0,ok⟩,J,hz⟩:=I;erw[aj λF1 j=>#[_,Z,λi D N L n0=>?_]];let S:ae H (ah (ah H D$ .own i) i$ .ins C D []):=λc o e=>by rw[ji$ jk e N,ji$ jk e L];rwa[e]
 erw[#[i,D,d.pb,d.b,G,Z,jc,S _ _ hb,a.mono$ ae.tm S,LA,λp H1 nf R k1=>#[Z,j _ _ ?_]]];clear j;let s1:ae H H1:=λc o e=>k1 c o (jk e N) (S _ _ e);let T:H p=θ:=S.free nf;erw[aj λF1 j=>#[_,Z,i,D,_,Z,R.ins,Z,_,Z,n,ys,Z,no _,LA,λv g H2 p2 n2 k2=>?_]];let ng:g≠p:=λe=>by rw[e,R.fd]at n2;cases n2
 let U:=s1.trans k2;erw[#[i,D,p,d.pb,g,_,[],[],G,Im n,v,ys,d.b,Z,#[R.same k2,p2,ng,ok,by show 0+0+d.b.size<=_;omega],U _ _ hb,a.mono$ ae.tm U,J,λv3 g3 k V p3 n3 W k3=>j _ _ ?_]];clear j;let⟨r3,w3,rfl,X,Y⟩:=wF p3;let s3:ae H V:=λc o e=>k3 c o (jk e T) (U _ _ e);erw[#[_,Z,_,Z,jv X Z #[_,Z,i,C,D,_,_,Z,W.ins,t.cl,t.nf,Z,p,k,Z,aI.of W.fd,λl nl=>#[sd,λr nr=>?_]]]];let s5:ae V (ah (ah V l$ .tup k.reverse) r$ .tup [.str d.f,.ref d.pa,w3,.ref l]):=(je nl).trans (je nr);erw[q (.ref r) _ ?_$ s3.trans s5];erw[jD jc$ jm Z jR$ jm Z Jt$ jm Z (Y.mono$ ae.tm s5)$ jm Z (jD (am jc nr) ?_) jB];let e:=Zw (W.tr.mono$ ae.tm s5);rw[<- List.map_reverse]at e;rwa[e]
def DP:ak ["program"] ["program"] (aa oO):=bG
def vN:hJ:=#[.function,[(".0",.local),("name",.local),("params",.local),("body",.local),("part_made",.globalImplicit)],ν,ν,[]]
def ua:(z18z:ri ρ).Nodup:=Ly
def EE:bE ["program"] (aa oO) vN z18z 3 []:=sI
def yk(F:rc K "made" oO f p)(C:‹64› U t z18z (me K N) "part_made")(M:mg "tuple"=θ):⇑65 f p ["program"] (md K N):=by
 erw[F.ok DP λu A o s H V Q E x h=>?_]
 let⟨a,D,X,rfl,g,y,B,O,q⟩:=h;erw[#[_,(jg$ jo$ jF jL Z M N0$ ja (@zi _ _ _ _ _ _ _ (z18z) (3) ([]) _ _ _ _ Z (qi$ pv 0) EE (λ_ _ _ _ _=>(Zy (K:=K) (n:=3) Z Z (jC (jy (i:=0) ua Z$ ψ Z)$ jC (jy (i:=1) ua Z$ ψ Z)$ jC (jy (i:=2) ua Z$ ψ Z) kN) Z Z)) (λ_ _ _ _ _=>(@zI _)) (λ_ _ _ _ _=>(C.e x.m$ ja (pv 0)$ ja (pv 1)$ ja (pv 2) jb)) (by intro _;rfl)) jb),?_]];erw[#[_,Z,a,Z,#[_,aD.of g],?_]];erw[pO g y B (λi V b=>aL b (aC ((D.take i).map$ eU N)) .non V/\ae H b/\i<=ο D) #[Z,ae.refl _,Mu _] (λi V b h=>#[h.2.1,?_]) (λi d G V b c I J h=>?_) (λV b h l L=>?_)]
 .rw[zk h.1,Mi,MT];rwa[Sd ..]
 .let R:i < ο D:=by
   rcases P0 i D.length with z |z
   .rwa[z]
   .rw[Nv z]at c;cases c
  erw[#[_,Z,_,Z,_,Z,d,G,Z,I,J,O d$ MM c,λv Y T j=>#[?_,h.2.1.trans j,R]]];rw[NQ,c,MS];rwa[J2 (jm Z T jB)$ h.1.mono$ ae.tm j]
 .erw[#[l,V,Z,.inl #[aI.of jc,λr S=>?_]]];let s:ae b (ah (ah b l$ .lst V) r$ .tup V):=(je L).trans (je S);erw[q (.ref r) _ (jD jc ?_)$ h.2.1.trans s];let e:=h.1;rw[Np]at e;rwa[e.mono$ ae.tm s]
abbrev vg:cv:=bH 65
abbrev vh:cv:=bH 66
abbrev oM:cv:=bH 67
def a5(p q:ζ)(H h:Hp):Prop:=∀b o,b≠p->b≠q->H b=δ o->h b=δ o
def a5.refl:a5 p q H H:=λ_ _ _ _ h=>h
def a5.trans(a:a5 p q H d)(b:a5 p q d e):a5 p q H e:=λc o n m h=>b c o n m (a c o n m h)
def aB.two(a:aB p H b):a5 p q H b:=λc o n _ h=>a c o n h
def a5.of_same(a:ae H b):a5 p q H b:=λc o _ _ h=>a c o h
def a5.at:a5 p q H (ah H q o):=λb u _ m e=>by rw[ji m];rwa[e]
def dF(H:Hp)(q:ζ):Prop:=∃k:Int,H q=δ (.lst [.int k])
def dF.new{o:HO}(h:dF H q)(n:H r=θ):dF (ah H r o) q:=by let⟨k,e⟩:=h;rwa[#[k,am e n]]
def dF.ne(h:dF H q)(B:aq H p):q≠p:=by let⟨k,e⟩:=h;let⟨a,b,_,_,_,d⟩:=B.ob;rwa[jN e d (by intro z;cases z)]
def dF.but(h:dF H q)(B:aq H p)(k:aB p H a):dF a q:=by let n:=h.ne B;let⟨z,e⟩:=h;exact#[z,k _ _ n e]
def a5.tm(k:a5 p q H h)(B:aq H p)(s:dF H q):ai H h:=λb x e=>by let⟨a,c,_,_,_,f⟩:=B.ob;let⟨z,g⟩:=s;rwa[k b _ (jN e f (by intro w;cases w)) (jN e g (by intro w;cases w)) e]
def gH(H:Hp)(q:ζ):Int:=match H q with
 |some (.lst [.int k])=>k
 |_=>0
def Ju{H:Hp}(e:H q=δ (.lst [.int k])):gH H q=k:=by unfold gH;rw[e]
def Yl{h:Hp}(s:dF H q)(k:∀o,H q=δ o->h q=δ o):gH h q=gH H q:=by let⟨z,e⟩:=s;rw[Ju e,Ju$ k _ e]
def kH(B:aq H p)(s:dF H q)(k:aB p H h):gH h q=gH H q:=Yl s λo e=>k _ _ (s.ne B) e
def km(s:dF H q)(k:ae H h):gH h q=gH H q:=Yl s λo e=>k _ _ e
def He(H:Hp)(c:ρ×ri ρ)(v:V):Prop:=∃p t,v= .ref p/\H p=δ (.tup [.str c.1,.ref t])/\H t=δ (.tup$ c.2.map qr)
def dO(H:Hp):ri (ρ×ri ρ)->ri V->Prop
 | [],a=>a=[]
 |c::C,a=>cic (He H c) (dO H C) a
theorem dO.mono(k:ai H b):∀{c:ri (ρ×ri ρ)} {a:ri V},dO H c a->dO b c a
 | [],_,h=>h
 |_::_,_,z=>by obtain⟨v,r,e,⟨p,t,E,d,f⟩,g⟩:=z;rwa[#[v,r,e,#[p,t,E,k _ _ d,k _ _ f],dO.mono k g]]
theorem dO.snoc(a:He H c v):∀{C:ri (ρ×ri ρ)} {b:ri V},dO H C b->dO H (C++[c]) (b++[v])
 | [],_,h=>by let e:_=[]:=h;rw[e];exact#[v,[],Z,a,Z]
 |_::_,_,z=>by let⟨u,r,e,d,f⟩:=z;rwa[#[u,r++[v],by rw[e];rfl,d,dO.snoc a f]]
theorem dO.len:∀{c:ri (ρ×ri ρ)} {v:ri V},dO H c v->ο v=ο c
 | [],_,h=>by let e:_=[]:=h;rw[e];rfl
 |_::_,_,z=>by let⟨u,r,e,b,a⟩:=z;rw[e,MV,MV,dO.len a]
theorem dO.at:∀{C:ri (ρ×ri ρ)} {b:ri V},dO H C b->∀(i:Nat) (v:V),b[i]?=δ v->∃c,C[i]?=δ c/\He H c v
 | [],_,h,i,v,a=>by let e:_=[]:=h;rw[e]at a;simp at a
 |c::_,_,q,0,v,a=>by let⟨u,r,e,d,f⟩:=q;rw[e]at a;cases a;exact#[c,Z,d]
 |_::C,_,q,i+1,v,a=>by let⟨u,r,e,d,f⟩:=q;rw[e]at a;simpa using dO.at f i v (a:)
def Dv(h:dO H C a)(i:0<=k)(j:k < (a.length:Int)):∃v c,dN a k=δ v/\c∈C/\He H c v:=by
 let b:k.toNat < ο a:=LA
 let d:k=((k.toNat:Nat):Int):=LA
 let E:a[k.toNat]?=δ a[k.toNat]:=Mf b;let e:dN a ((k.toNat:Nat):Int)=δ a[k.toNat]:=jE E;rw[<- d]at e;let⟨c,f,g⟩:=h.at _ _ E;exact#[_,c,e,MM f,g]
def Bd.fit(h:ri (ρ×ri ρ))(y:ri ρ)(d:Nat)(b:Bd):Prop:=(b.Ok y/\b.Cs (h.map λc=>(c.1,c.2.length)))/\b.dep<=d
def Zz:Bd.fit h y d .nil:=#[#[trivial,trivial],Mu _]
def BY{H:ri (ρ×ri ρ)}{l:Lf}(h:l.Ok y)(k:l.Cs (H.map λc=>(c.1,c.2.length))):Bd.fit H y d (.lf p l .nil):=#[#[#[h,trivial],k,trivial],Mu _]
def ZA{a b:Bd}(h:a.fit H y d)(k:b.fit H y d):(a.app b).fit H y d:=#[#[Ko h.1.1 k.1.1,Kn h.1.2 k.1.2],by rw[zj];let:=h.2;let:=k.2;omega]
def xI{a b:Bd}(c:dy y T)(h:a.fit H y d)(k:b.fit H y d):Bd.fit H y (d+1) (.ite p t T a b .nil):=#[#[#[c,h.1.1,k.1.1,trivial],h.1.2,k.1.2,trivial],by show max (max a.dep b.dep+1) 0<=d+1;let:=h.2;let:=k.2;omega]
def tq{a:Bd}(H:dy y T)(h:a.fit b y d):Bd.fit b y (d+1) (.loop p t T a .nil):=#[#[#[H,h.1.1,trivial],h.1.2,trivial],by show max (a.dep+1) 0<=d+1;let:=h.2;omega]
def I8:Nat->Nat
 |0=>1
 |d+1=>1+2*(5*I8 d)
inductive iO(b:ri V)(H:Hp)(Q:VK)(a:XK):Prop
 |mk(p g:ζ)(c:ri ρ)(_:b=[.ref p,.ref g])(_:aq H p)(_:H g=δ (.lst (c.map qr)))(_:1<=ο c)(_:c.length<=20)(_:∀(r:ζ) (T:Tm) (H':Hp),bf H' T r->dy c T->aq H' p->aB p H H'->Q (.ref r) H')
structure nD(H:Hp)(p g h sp:ζ)(ys:ri ρ)(hs:ri (ρ×ri ρ)):Prop where
 B:aq H p
 g:H g=δ (.lst$ ys.map qr)
 y1:1<=ο ys
 y2:ys.length<=20
 h:∃hv,H h=δ (.lst hv)/\dO H hs hv
 h1:1<=ο hs
 h2:hs.length<=20
 h3:∀c∈hs,ο c.2<=6
 s:dF H sp
def nD.gsp{H:Hp}{p g h S:ζ}{y:ri ρ}{b:ri (ρ×ri ρ)}(G:nD H p g h S y b):g≠S:=by
 let⟨k,e⟩:=G.s;erw[jN G.g e λz=>?_];injection z with z;let c:=G.y1
 match y,c,z with
 |a::r,_,z=>injection z with d _;cases d
def nD.hsp{H:Hp}{p g h S:ζ}{y:ri ρ}{f:ri (ρ×ri ρ)}(G:nD H p g h S y f):h≠S/\h≠p:=by
 let⟨k,e⟩:=G.s;let⟨j,E,l⟩:=G.h;let⟨a,b,_,_,_,m⟩:=G.B.ob;let n:=G.h1;let:∃q r,j= .ref q::r:=by
  match f,n,l with
  |c::C,_,#[v,r,e,#[q,t,o,_],_]=>exact#[q,r,by rw[e,o]]
 let⟨q,r,rfl⟩:=this;erw[#[jN E e λz=>?_,jN E m λz=>?_]]
 .injection z with z;injection z with d _;cases d
 .injection z with z;injection z with d _;cases d
def nD.but2{H a:Hp}{p g h S:ζ}{y:ri ρ}{b:ri (ρ×ri ρ)}(G:nD H p g h S y b)(B:aq a p)(s:dF a S)(k:a5 p S H a):nD a p g h S y b:=by let⟨c,e,E⟩:=G.h;exact#[B,k _ _ (qm G.B G.g) G.gsp G.g,G.y1,G.y2,#[c,k _ _ G.hsp.2 G.hsp.1 e,E.mono$ k.tm G.B G.s],G.h1,G.h2,G.h3,s]
def nD.but{H a:Hp}{p g h S:ζ}{y:ri ρ}{b:ri (ρ×ri ρ)}(G:nD H p g h S y b)(B:aq a p)(k:aB p H a):nD a p g h S y b:=G.but2 B (G.s.but G.B k) k.two
inductive lr(n:Nat)(f:ri V)(H:Hp)(Q:VK)(a:XK):Prop
 |mk(p g h e:ζ)(d:Nat)(i:ri ρ)(c:ri (ρ×ri ρ))(_:f=[.ref p,.ref g,.ref h,.ref e,.int (d:Int)])(_:nD H p g h e i c)(_:d < n)(_:0 < gH H e)(_:∀(r:ζ) (b:Bd) (H':Hp),dG H' b [.ref r]->(b.size:Int)+gH H' e<=gH H e->0<=gH H' e->b.fit c i d->aq H' p->dF H' e->a5 p e H H'->Q (.ref r) H')
inductive gO(n:Nat)(f:ri V)(H:Hp)(Q:VK)(a:XK):Prop
 |mk(p g h e:ζ)(d:Nat)(i:ri ρ)(c:ri (ρ×ri ρ))(_:f=[.ref p,.ref g,.ref h,.ref e,.int (d:Int)])(_:nD H p g h e i c)(_:d < n)(_:0<=gH H e)(_:∀(r:ζ) (b:Bd) (bs:ri V) (H':Hp),H' r=δ (.tup bs)->dG H' b bs->(b.size:Int)+gH H' e<=gH H e->0<=gH H' e->b.fit c i d->aq H' p->dF H' e->a5 p e H H'->Q (.ref r) H')
def vJ:ak ["_law_box_here","_law_names_here","_law_kind"] z25z (aa vg):=bG
def yq(F:rc K "_law_spot" vg f M)(C:‹1› Y N z0z aY "_law_take")(O:‹6› fM R z12z (cw 4) "_law_term"):⇑7 f M z25z iO:=by
 erw[F.ok vJ λS A o s H vs Q E a h=>?_]
 let⟨p,g,y,rfl,B,I,i,j,q⟩:=h;erw[#[_,(jd (jx 2 vJ.nd$ C.e a.m$ ja (pv 0)$ ja jf jb)$ jd (jw (jA Qo (pv 2) jf$ aG _) (jg$ jo$ O.e a$ ja (pv 0)$ ja (pv 1)$ ja jf jb) jp)$ jd (jw (za$ pv 2) (jg$ jo$ jh$ ja jl$ ja (ju ki (ju ki (ju Js jf jf) jf)$ C.e a.m$ ja (pv 0)$ ja jf jb) jb) jp)$ jg$ jo$ jh$ ja jl$ ja (C.e a.m$ ja (pv 0)$ ja jf jb) jb),?_]];let k:g≠p:=qm B I;erw[#[_,Z,p,8,Z,B,LB,LB,λkd J k0 k1 l L=>?_]];let t:J g=δ (.lst$ y.map qr):=by rw[L g k];rwa[I]
 let u:aB p H J:=aB.of_eq L;erw[#[_,Z,_,_,Z,Z,_,Z,?_]];erw[bP (λc=>?_) (λc=>?_)]
 .exact#[_,Z,_,Z,p,g,1,y,Z,l,t,i,j,LB,LB,λr T v U dT W b X=>q r T v U #[W,LA] b (u.trans X)]
 erw[#[_,Z,Z,_,Z,?_]];erw[bP (λc=>?_) (λc=>?_)]
 .erw[#[_,_,Z,Z,#[LB,LB,LB],_,_,Z,Z,_,Z,p,4,Z,l,LB,LB,λD v d x b z=>#[_,_,Z,Z,bN,λr n=>?_]]];rwa[q r (.num (1000000000000000000 - 1 - D)) _ jc #[#[LA,LA],(by show 0 < 6;decide)] (b.upd_new n) ((u.trans$ aB.of_eq z).upd_new n)]
 .erw[#[_,Z,p,12,Z,l,LB,LB,λD v d x b z=>#[bN,λr n=>?_]]];rwa[q r (.num D) _ jc #[#[d,LA],(by show 0 < 6;decide)] (b.upd_new n) ((u.trans$ aB.of_eq z).upd_new n)]
def lg:ak z37z z5z (aa vh):=bG
def rZ:hJ:=#[.function,[(".0",.local),("_law_one",.local),("_law_term",.globalImplicit),("_law_box_here",.free),("_law_names_here",.free)],ν,ν,[]]
def CF:(z32z:ri ρ).Nodup:=Ly
def BR:bE z37z (aa vh) rZ z32z 1 [0,1]:=sI
def RH(p g h s:ζ)(d:Nat)(k:Int)(y:ρ)(H:Hp)(a:_L.St)(b:Hp):Prop:=a=[↑p,↑g,↑h,↑s,δ$ .int (d:Int),δ$ .int k,δ$ .str y,θ,θ,θ]/\b=H
def C7(F:rc K "_law_statement" vh f fd)(cT:‹1› fT f0 z0z aY "_law_take")(cM:‹6› fM f3 z12z (cw 4) "_law_term")(cP:‹7› fP f4 z25z iO "_law_spot"){L:Nat}(cB:‹L+9› fB f5 z5z (gO n) "_law_body")(ml:mg "len"=θ)(m0:mg "tuple"=θ):⇑(L+10) f fd z5z (lr$ n+1):=by
 erw[F.ok lg λc3 A o2 s H vs Q E R h=>?_]
 let⟨p,g,h,S,d,ys,hs,rfl,G0,hd,b7,q⟩:=h;erw[#[_,(jd (jx 5 lg.nd$ cT.e R.m$ ja (pv 0)$ ja jf jb)$ jd (jx 6 lg.nd$ jr jq (pv 1) (cT.e R.m$ ja (pv 0)$ ja (jG jI Z ml M9$ ja (pv 1) jb) jb) ∅)$ jd (zg (ju ki (jr jq (pv 3) jf ∅) jf)$ qN (pv 3) jf zz)$ jd (jw (jA Qo (pv 5) jf$ aG _) (jg$ jo$ jh$ ja jl$ ja (pv 6)$ ja (cP.e R.m$ ja (pv 0)$ ja (pv 1) jb) jb) jp)$ jd (jw (PW.pt$ Qm (za$ pv 5)$ Jr$ za$ pv 5) (jg$ jo$ jh$ ja jl$ ja (cP.e R.m$ ja (pv 0)$ ja (pv 1) jb)$ ja (cM.e R.m$ ja (pv 0)$ ja (pv 1)$ ja jf jb) jb) jp)$ jd (jw (PW.pt$ Qm (za$ pv 5)$ Jr$ za$ pv 5) (jd (zg (jr jq (pv 2) (cT.e R.m$ ja (pv 0)$ ja (jG jI Z ml M9$ ja (pv 2) jb) jb) ∅)$ zQ (n:=2) Z$ jC (jy (i:=7) lg.nd Z$ ψ Z)$ jC (jy (i:=8) lg.nd Z$ ψ Z) kN)$ jg$ jo$ jh$ ja jl$ ja (pv 6)$ ja (pv 7)$ ja (jF jL Z m0 N0$ ja (@zi _ _ _ _ _ _ _ (z32z) (1) ([0,1]) _ _ _ _ Z (qi$ pv 8) BR (λ_ _ _ _ _=>(jy (i:=0) CF Z$ ψ Z)) (λ_ _ _ _ _=>(@zI _)) (λ_ _ _ _ _=>(cM.e R.m$ ja (pv 1)$ ja (pv 2)$ ja jf jb)) (by intro _;rfl)) jb) jb) jp)$ jd (j6$ jw (PW.pt$ qh (za$ pv 5)$ zF$ jA JF (pv 4) jf$ aG _) (jd (jx 9 lg.nd$ cB.e R$ ja (pv 0)$ ja (pv 1)$ ja (pv 2)$ ja (pv 3)$ ja (ju ki (pv 4) jf) jb)$ jg$ jo$ jh$ ja jl$ ja (cM.e R.m$ ja (pv 0)$ ja (pv 1)$ ja jf jb)$ ja (pv 9)$ ja (cB.e R$ ja (pv 0)$ ja (pv 1)$ ja (pv 2)$ ja (pv 3)$ ja (ju ki (pv 4) jf) jb) jb) jp)$ jd (j6$ jw (PW.pt$ qh (za$ pv 5)$ zF$ jA JF (pv 4) jf$ aG _) (jg$ jo$ jh$ ja jl$ ja (cM.e R.m$ ja (pv 0)$ ja (pv 1)$ ja jf jb)$ ja (cB.e R$ ja (pv 0)$ ja (pv 1)$ ja (pv 2)$ ja (pv 3)$ ja (ju ki (pv 4) jf) jb) jb) jp)$ jd (jw (za$ pv 5) (jg$ jo$ jh$ ja jl$ ja (cM.e R.m$ ja (pv 0)$ ja (pv 1)$ ja jf jb) jb) jp)$ jg$ jo$ jh$ ja jl$ ja (pv 6)$ ja (cM.e R.m$ ja (pv 0)$ ja (pv 1)$ ja jf jb) jb),?_]];let b9:=aH;let B:=G0.B;let c4:g≠p:=qm B G0.g;erw[aj λF1 o=>#[_,Z,p,10,Z,B,LB,LB,λkd H1 k0 k1 B1 e1=>o _ _ ?_]];clear o;let G1:=G0.but B1 (aB.of_eq e1);let y1:=G0.y1;let y2:=G0.y2;erw[aj λF1 o=>#[_,Z,_,Z,_,Z,g,_,Z,.inl$ aI.of G1.g,p,_,Z,B1,by rw[Mi];omega,by rw[Mi];omega,λd2 H2 d1 d0 B2 e2=>?_]];rw[Mi]at d0;let G2:=G1.but B2 (aB.of_eq e2);let⟨y,hy,a2⟩:=Km (ys:=ys) d1 d0;erw[#[g,_,_,_,Z,Z,aI.of G2.g,a2,o _ _ ?_]];clear o;let⟨k,hk⟩:=G2.s;let ek:gH H S=k:=((kH B1 G1.s$ aB.of_eq e2).trans$ kH B G0.s$ aB.of_eq e1).symm.trans (Ju hk);erw[aj λF1 o=>#[_,Z,S,_,_,_,Z,Z,aI.of hk,Z,_,_,Z,Z,_,Z,S,_,_,0,Z,Z,hk,Z,o _ _ ?_]];clear o;let s0:=G2.s.ne B2;let B3:aq (ah H2 S$ .lst ([.int k].set 0 (.int$ k - 1))) p:=B2.eq (ji$ MX s0);let s3:dF (ah H2 S$ .lst ([.int k].set 0 (.int$ k - 1))) S:=#[k - 1,jc];let K3:a5 p S H (ah H2 S$ .lst ([.int k].set 0 (.int$ k - 1))):=((aB.of_eq e1).trans$ aB.of_eq e2).two.trans a5.at;let G:=G0.but2 B3 s3 K3;let e3:gH (ah H2 S$ .lst ([.int k].set 0 (.int$ k - 1))) S=k - 1:=Ju jc;generalize ah H2 S (.lst ([.int k].set 0 (.int$ k - 1)))=H3 at B3 s3 K3 G e3;let l0:∀(l:Lf) (zs:ri V) (j:Hp) (r:ζ),wU j l zs->l.Ok ys->l.Cs (hs.map λc=>(c.1,c.2.length))->nD j p g h S ys hs->a5 p S H j->gH j S=k - 1->j r=θ->Q (.ref r) (ah j r$ .tup zs):=λl zs j r hl ok cs u K4 e4 nr=>
  q r (.lf r l .nil) _ #[zs,[],Z,jc,hl.mono$ ae.tm$ je nr,Z] (by rw[km u.s$ je nr];show((0+1:Nat):Int)+_<=_;omega) (by rw[km u.s$ je nr];omega) (BY ok cs) (u.B.upd_new nr) (u.s.new nr) (K4.trans$ a5.of_same$ je nr)
 erw[aj λF1 o=>oF λG' C=>#[_,Z,_,_,Z,Z,_,Z,C _ _ ?_]];clear C;erw[bP (λc=>?_) (λc=>o _ _ ?_)]
 .erw[#[_,Z,_,Z,_,Z,p,g,ys,Z,G.B,G.g,y1,y2,λr T j U oT B4 J=>#[gE,λt N=>?_]]];rwa[l0 (.rd y r T) _ j t #[Z,U] #[hy,oT] trivial (G.but B4 J) (K3.trans J.two) ((kH G.B G.s J).trans e3) N]
 let wr:∀(r:ζ) (T0:Tm) (j:Hp),bf j T0 r->dy ys T0->aq j p->aB p H3 j->dS (cw 4) [] E0 (al (a8 0)$ al (a8 1)$ al (tC$ .int 2) aQ) [↑p,↑g,↑h,↑S,δ$ .int (d:Int),δ$ .int kd,δ$ .str y,θ,θ,θ] j (λv D=>3<=υ/\∀t,D t=θ->Q (.ref t) (ah D t$ .tup [.str "write",.ref r,v])):=λr T0 j h4 o1 B4 J=>by erw[#[_,Z,_,Z,p,g,2,ys,Z,B4,(G.but B4 J).g,y1,y2,LB,LB,λW T D U dT gT O a=>#[LB,λt N=>?_]]];rwa[l0 (.wr r W T0 T) _ D t #[Z,h4.but B4 a,U] #[o1,gT,LA] trivial (G.but O$ J.trans a) (K3.trans (J.trans a).two) ((kH G.B G.s$ J.trans a).trans e3) N]
 erw[aj λF1 o=>oF λG' C=>?_];let Y:G' μ H3:=C _ _ (Ck #[_,Z,_,Z,p,g,ys,Z,G.B,G.g,y1,y2,λr T0 j h4 o1 B4 J=>wr r T0 j h4 o1 B4 J]);erw[#[_,Z,Z,_,Z,bP (λc=>Y) (λc=>#[_,Z,Z,_,Z,AB Y λc2=>C _ _ (aT c2$ o _ _ ?_)])]];clear Y C o;let⟨hv,hh,hH⟩:=G.h;let hl:=hH.len;let h1:=G0.h1;let h2:=G0.h2;let c1:∀(f':ρ) (ps:ri ρ) (h':(f',ps.length)∈hs.map λc=>(c.1,c.2.length)) (t:ζ) (j:Hp),nD j p g h S ys hs->a5 p S H j->gH j S=k - 1->j t=δ (.tup$ ps.map qr)->ο ps<=6->
   eP (wT K t) 1 [↑p,↑g] (bo 0) mf (dS (cw 4) [] E0$ al (a8 1)$ al (a8 2)$ al (tC$ .int 1) aQ) (λzs D=>∀l,D l=θ->kQ K [rb l] (ah D l$ .lst zs) λv H6=>4<=υ/\∀r,H6 r=θ->Q (.ref r) (ah H6 r$ .tup [.str "call",.str y,.str f',v])) j:=λf' ps h' t j u K4 e4 ht c5=>by
  erw[qC (K:=K) (xs:=ps.map qr) (by rw[Mi];omega) (λi zs D=>∃ts:ri (ζ×Tm),zs=ts.map (λc=>rb c.1)/\ο ts=i/\(∀c∈ts,bf D c.2 c.1/\dy ys c.2)/\aq D p/\aB p j D) #[[],Z,Z,(λ_ h=>absurd h MU),u.B,aB.refl] (λi zs D h5=>?_) ?_ ?_]
  .let⟨ts,rfl,e5,_,_,a⟩:=h5;exact#[aD.of$ a.tm u.B _ _ ht,by rw[Mi,e5];rwa[Mj _]]
  .intro i x zs D hx a3;let⟨ts,rfl,e5,h5,O,a⟩:=a3;erw[#[_,Z,_,Z,p,g,1,ys,Z,O,(u.but O a).g,y1,y2,LB,LB,λW T H6 U dT gT B6 k6=>#[ts++[(W,T)],by rw[MS];rfl,by rw[Ml,e5];rfl,λc hc=>?_,B6,a.trans k6]]];rcases γ.mp hc with hc |hc
   .exact#[(h5 c hc).1.but O k6,(h5 c hc).2]
   .rw[τ.mp hc];exact#[U,gT,(by show T.depth < 6;omega)]
  .rintro zs D ⟨ts,rfl,e5,h5,O,a⟩ l nl;erw[#[l,_,Z,.inl #[aI.of jc,λl2 n0=>#[LB,λr nr=>?_]]]];let M:=u.but O a;let s6:ae D (ah (ah D l$ .lst$ ts.map λc=>rb c.1) l2$ .tup$ ts.map λc=>rb c.1):=(je nl).trans (je n0);rw[Mi]at e5;rwa[l0 (.cl y f' l2 ts) _ _ r #[Z,jc,λc hc=>(h5 c hc).1.same s6] #[hy,LA,λc hc=>(h5 c hc).2] (by show(f',ts.length)∈_;rw[e5];rwa[h']) (M.but2 ((M.B.upd_new nl).upd_new n0) ((M.s.new nl).new n0)$ a5.of_same s6) ((K4.trans a.two).trans$ a5.of_same s6) ((km M.s s6).trans ((kH u.B u.s a).trans e4)) nr]
 erw[aj λF1 o=>oF λG' C=>?_];let Y:G' μ H3:=by erw[C _ _$ Ck ?_];clear o C;erw[aj λF2 f2=>#[_,Z,_,Z,_,Z,h,_,Z,.inl$ aI.of hh,p,_,Z,G.B,LA,LA,λd4 j d3 d5 B4 e4=>?_]];let u:=G.but B4 (aB.of_eq e4);let J:aB p H3 j:=aB.of_eq e4;let a4:=hH.mono (J.tm G.B);let⟨v,c0,a',a0,p4,t4,rfl,z1,z2⟩:=Dv a4 d3 d5;erw[#[h,_,_,_,Z,Z,aI.of$ J _ _ G.hsp.2 hh,a',p4,_,Z,aD.of z1,Z,_,_,Z,_,_,Z,Z,f2 _ _ ?_]];clear f2;erw[#[_,Z,_,Z,_,Z,t4,Z,#[_,aD.of z2],?_]];rwa[c1 c0.1 c0.2 (dg.mpr #[c0,a0,Z]) t4 j u (K3.trans J.two) ((kH G.B G.s J).trans e3) z2$ G0.h3 c0 a0]
 erw[#[_,Z,Z,_,Z,bP (λc=>Y) (λc=>#[_,Z,Z,_,Z,AB Y λc2=>C _ _ (aT c2$ o _ _ ?_)])]];clear Y C o;let l1:∀(c:(0:Int) < (d:Int)),∃X:Nat,d=X+1:=λc=>#[d - 1,LA];erw[aj λF1 o=>dI (RH p g h S d kd y H3) (λE6 eR f6=>?_) λσ0 H' z=>?_]
 .clear o;erw[oF λG' C=>#[_,Z,Z,_,Z,?_]];erw[bP (λc=>?_) (λc=>C _ _ (xP$ f6 _ _ #[Z,Z]))];erw[#[_,Z,_,_,Z,Z,_,Z,C _ _ ?_]];clear C;erw[bP (λc2=>?_) (λc2=>f6 _ _ #[Z,Z])];clear f6;let⟨X,rfl⟩:=l1 (Nn c2);let ed:(((X+1:Nat):Int) - 1)=((X:Nat):Int):=by omega
  erw[#[_,Z,_,Z,_,Z,_,Z,_,Z,_,_,Z,Z,p,g,h,S,X,ys,hs,(by show [rb p,rb g,rb h,rb S,qs (((X+1:Nat):Int) - 1)]=_;rw[ed]),G,LA,LA,λr b bs j b1 b2 c6 b4 b5 B4 s4 J=>?_]];let u:=G.but2 B4 s4 J;erw[#[_,Z,_,Z,p,g,2,ys,Z,u.B,u.g,y1,y2,LB,LB,λW T D U dT gT O a=>?_]];let M:=u.but O a;erw[#[_,Z,_,Z,_,Z,_,Z,_,Z,_,Z,_,_,Z,Z,p,g,h,S,X,ys,hs,(by show [rb p,rb g,rb h,rb S,qs (((X+1:Nat):Int) - 1)]=_;rw[ed]),M,LA,(by rw[kH u.B u.s a];rwa[b4]),λr3 b3 b0 H6 h6 h7 a1 h8 h0 B6 s6 k6=>#[sd,λt N=>?_]]];let G6:=M.but2 B6 s6 k6;let tm:ai j H6:=λb' xs e=>k6.tm M.B M.s _ _ (a.tm u.B _ _ e);let I:ai H6 (ah H6 t$ .tup [.str "if",.ref W,.ref r,.ref r3]):=ae.tm (je N);rw[eR];erw[q t (.ite t W T b b3 .nil) _ #[r,r3,bs,b0,[],Z,jc,(U.mono$ k6.tm M.B M.s).mono I,I _ _$ tm _ _ b1,I _ _ h6,(b2.mono tm).mono I,h7.mono I,Z] (by let x1:=kH u.B u.s a;rw[km G6.s$ je N];show((b.size+b3.size+0+1:Nat):Int)+_<=_;omega) (by rw[km G6.s$ je N];rwa[h8]) (xI #[gT,LA] b5 h0) (G6.B.upd_new N) (G6.s.new N) (((K3.trans J).trans$ a.two.trans k6).trans$ a5.of_same$ je N)]
 let⟨rfl,e⟩:=z;rw[e];erw[o _ _ ?_];clear o;erw[aj λF1 o=>dI (RH p g h S d kd y H3) (λE6 eR f6=>?_) λσ0 H' z=>?_]
 .clear o;erw[oF λG' C=>#[_,Z,Z,_,Z,?_]];erw[bP (λc=>?_) (λc=>C _ _ (xP$ f6 _ _ #[Z,Z]))];erw[#[_,Z,_,_,Z,Z,_,Z,C _ _ ?_]];clear C;erw[bP (λc2=>?_) (λc2=>f6 _ _ #[Z,Z])];clear f6;let⟨X,rfl⟩:=l1 (Nn c2);let ed:(((X+1:Nat):Int) - 1)=((X:Nat):Int):=by omega
  erw[#[_,Z,_,Z,p,g,2,ys,Z,G.B,G.g,y1,y2,LB,LB,λW T D U dT gT O a=>?_]];let M:=G.but O a;erw[#[_,Z,_,Z,_,Z,_,Z,_,Z,_,_,Z,Z,p,g,h,S,X,ys,hs,(by show [rb p,rb g,rb h,rb S,qs (((X+1:Nat):Int) - 1)]=_;rw[ed]),M,LA,(by rw[kH G.B G.s a];omega),λr3 b3 b0 H6 h6 h7 a1 h8 h0 B6 s6 k6=>#[gE,λt N=>?_]]];let G6:=M.but2 B6 s6 k6;let I:ai H6 (ah H6 t$ .tup [.str "while",.ref W,.ref r3]):=ae.tm (je N);rw[eR];erw[q t (.loop t W T b3 .nil) _ #[r3,b0,[],Z,jc,(U.mono$ k6.tm M.B M.s).mono I,I _ _ h6,h7.mono I,Z] (by let x1:=kH G.B G.s a;rw[km G6.s$ je N];show((b3.size+0+1:Nat):Int)+_<=_;omega) (by rw[km G6.s$ je N];rwa[h8]) (tq #[gT,LA] h0) (G6.B.upd_new N) (G6.s.new N) ((K3.trans$ a.two.trans k6).trans$ a5.of_same$ je N)]
 let⟨rfl,e⟩:=z;rw[e];erw[o _ _ ?_];clear o;erw[aj λF1 o=>oF λG' C=>#[_,Z,Z,_,Z,C _ _ ?_]];clear C;erw[bP (λc=>?_) (λc=>o _ _ ?_)]
 .erw[#[_,Z,_,Z,p,g,2,ys,Z,G.B,G.g,y1,y2,LB,LB,λW T D U dT gT O a=>#[bN,λt N=>?_]]];rwa[l0 (.gv W T) _ D t #[Z,U] #[gT,LA] trivial (G.but O a) (K3.trans a.two) ((kH G.B G.s a).trans e3) N]
 .erw[#[_,Z,_,Z,_,Z,p,g,3,ys,Z,G.B,G.g,y1,y2,LB,LB,λW T D U dT gT O a=>#[gE,λt N=>?_]]];rwa[l0 (.st y W T) _ D t #[Z,U] #[hy,gT,LA] trivial (G.but O a) (K3.trans a.two) ((kH G.B G.s a).trans e3) N]
def oi:ak ["_law_box_here","_law_names_here","_law_heads","_law_spare","_law_deep","_law_body_here","_law_k"] z5z (aa oM):=bG
def ZB(F:rc K "_law_body" oM f fd)(cT:‹1› fT f0 z0z aY "_law_take"){L:Nat}(cS:‹L+8› fS f1 z5z (lr n) "_law_statement")(mr:mg "range"=θ)(m2:mg "tuple"=θ):⇑(L+9) f fd z5z (gO n):=by
 erw[F.ok oi λc0 A o1 s H v Q E hr h=>?_]
 let⟨p,g,h,S,d,ys,hs,rfl,G,hd,h0,q⟩:=h;erw[#[_,(jd (jx 5 oi.nd$ jK jb)$ jd (kh M3 Z (kI Z mr$ ja (cT.e hr.m$ ja (pv 0)$ ja jf jb) jb) (jy (i:=6) oi.nd Z$ ψ Z)$ jg$ jw (jA JF (jr jq (pv 3) jf ∅) jf$ aG _) (jg$ jQ$ kJ MF MQ MP jT (pv 5)$ ja (cS.e hr$ ja (pv 0)$ ja (pv 1)$ ja (pv 2)$ ja (pv 3)$ ja (pv 4) jb) jb) jp)$ jg$ jo$ jF jL Z m2 N0$ ja (pv 5) jb),?_]];let b0:=aH;erw[#[Mu _,λl N=>?_]];let s0:ae H (ah H l$ .lst []):=je N;let O:nD (ah H l$ .lst []) p g h S ys hs:=G.but2 (G.B.upd_new N) (G.s.new N) (a5.of_same s0);let l1:ah H l (.lst []) l=δ (.lst []):=jc;let lp:l≠p:=G.B.ne N;let D:l≠S:=λe=>by let⟨k,z⟩:=G.s;rw[<- e,N]at z;cases z
 let k1:a5 p S H (ah H l$ .lst []):=a5.of_same s0;let R:gH (ah H l$ .lst []) S=gH H S:=km G.s s0;generalize ah H l (.lst [])=H1 at O l1 k1 R;erw[#[_,Z,p,6,Z,O.B,LB,LB,λm H2 m0 m1 B2 e2=>#[_,Z,LA,LA,?_]]];let G2:=O.but B2 (aB.of_eq e2);refine Qw (lo:=0) (λi σ I=>∃(o6:rm V) (v:ri V) (b:Bd),σ=[↑p,↑g,↑h,↑S,δ$ .int (d:Int),↑l,o6]/\I l=δ (.lst v)/\dG I b v/\((b.size:Int)+gH I S<=gH H S/\0<=gH I S)/\b.fit hs ys d/\ο v<=i/\aq I p/\dF I S/\a5 p S H I)
  #[θ,[],.nil,Z,by rw[e2 l lp];rwa[l1],Z,(by rw[kH O.B O.s$ aB.of_eq e2,R];exact#[by show((0:Nat):Int)+_<=_;omega,h0]),Zz,Mu _,B2,G2.s,k1.trans (aB.of_eq e2).two] ?_ ?_
 .intro i σ H3 hi J;let⟨o6,v,b,rfl,a,u,j,x,h1,T,C,U⟩:=J;let G3:=G.but2 T C U;let⟨kk,W⟩:=id C;erw[#[_,Z,S,_,_,_,Z,Z,aI.of W,Z,_,_,Z,Z,_,Z,?_]];refine bP (λc=>?_) (λc=>?_)
  .erw[#[_,Z,.inl #[Z,_,aI.of a],_,Z,_,Z,_,Z,_,Z,_,Z,p,g,h,S,d,ys,hs,Z,G3,hd,(by rw[Ju W];rwa[Nn c]),λr b4 H4 h2 h5 h3 h4 B4 s4 k4=>?_]];let X:H4 l=δ (.lst v):=k4 _ _ lp D a;erw[#[l,_,_,Z,Z,X,LA,?_]];let tm:ai H4 (ah H4 l$ .lst$ v++[.ref r]):=λb' xs e=>by rw[ji$ jN e X (by intro z;cases z)];exact e
   let Y:ai H3 H4:=k4.tm T C;erw[#[_,_,b.app b4,Z,jc,(h2.mono tm).app ((u.mono Y).mono tm),?_,ZA x h4,by rw[Ml];show ο v+1<=i+1;omega,B4.eq$ ji$ MX lp,?_,λb' o n1 n2 e=>?_]]
   .rw[j3,Yl s4 λo e=>by rw[ji$ MX D];rwa[e]];let⟨z1,z2⟩:=j;exact#[LA,h3]
   .let⟨z,hz⟩:=s4;exact#[z,by rw[ji$ MX D];rwa[hz]]
   .rw[ji$ jk e N];rwa[k4 _ _ n1 n2$ U _ _ n1 n2 e]
  .exact#[_,v,b,Z,a,u,j,x,LA,T,C,U]
 .intro σ H3 J;let⟨o6,v,b,rfl,a,u,j,x,h1,T,C,U⟩:=J;erw[#[_,Z,l,v,Z,.inl #[aI.of a,λt M=>?_]]];let hm:(m).toNat<=5:=by omega
  erw[q t b v _ jc (u.mono$ ae.tm$ je M) (by rw[km C$ je M];rwa[j.1]) (by rw[km C$ je M];rwa[j.2]) x (T.upd_new M) (C.new M)$ U.trans$ a5.of_same$ je M]
def ug:⇑8 f c z5z (lr 0):=by
 let n:∀v H Q E,¬lr 0 v H Q E:=λv H Q E h=>by let⟨p,g,h,S,d,y,e,_,_,b,_⟩:=h;rwa[absurd b$ O4 _]
 exact#[λv H Q E h=>absurd h (n v H Q E),λA o s H a u v Q E _ _ _ _ h=>absurd h (n v H Q E)]
theorem Gj(F:rc K "_law_statement" vh f e)(FB:rc K "_law_body" oM g a)(c:‹1› r k z0z aY "_law_take")(C:‹6› s l z12z (cw 4) "_law_term")(h:‹7› t o z25z iO "_law_spot")(b:au K e z5z [])(M:mg "_law_statement"=↑f)(B:au K a z5z [])(i:mg "_law_body"=↑g)(j:mg "len"=θ)(m:mg "tuple"=θ)(d:mg "range"=θ):
  ∀n:Nat,⇑(n+n+8) f e z5z (lr n)/\⇑(n+n+9) g a z5z (gO n)
 |0=>#[ug,ZB (L:=0) FB c #[ug,b,F.kp,M] d m]
 |n+1=>by
  let I:=Gj F FB c C h b M B i j m d n;let E:n+n+10=n+1+(n+1)+8:=LA
  let p:n+n+2+9=n+1+(n+1)+9:=LA
  let H:=C7 (L:=n+n) F c C h #[I.2,B,FB.kp,i] j m;let q:=ZB (L:=n+n+2) FB c #[H,b,F.kp,M] d m;rw[<- E,<- p];exact#[H,q]
def EH{x:ri V}(h:k<=ο x):aP x θ (δ (k:Int))=x.take k:=by
 unfold aP;rw[HT.sIx_nat,HT.sIx_none];let e:min k (ο x)=k:=LA
 rw[e];simp
abbrev Dx:cv:=bH 68
def xF(h:0<=d)(H:d < 4):∃D:Nat,dN [qs 3,.int 3,.int 3,.int 5] d=δ (.int (D:Int))/\D < 6/\I8 D<=111111/\D<=5:=by
 rcases(LA:d=0∨d=1∨d=2∨d=3) with rfl |rfl |rfl |rfl
 .exact#[3,Z,LB,LB,LB]
 .exact#[3,Z,LB,LB,LB]
 .exact#[3,Z,LB,LB,LB]
 .exact#[5,Z,LB,LB,LB]
def sL{ys:ri ρ}{k:Int}(h:ο ys=20)(H:14<=k)(a:k<=20):1<=(bg ys (δ 8)$ δ k).length/\(bg ys (δ 8)$ δ k).length<=20:=by
 erw[#[?_,by let:=qt ys (δ 8) (δ k);omega]];let e:(8:Int)=((8:Nat):Int):=rfl;let E:k=((k.toNat:Nat):Int):=LA
 unfold bg;rw[e,E,HT.sIx_nat,HT.sIx_nat,MT,N4];rwa[N09]
def xz{ss:ri ρ}(h:0<=k):(bg ss θ$ δ k).length<=k.toNat:=by
 let e:k=((k.toNat:Nat):Int):=LA
 unfold bg;rw[e,HT.sIx_nat,HT.sIx_none,MT];omega
def gm{t u:TS}(h:∀E:a9,(∀a b,u D a b->E.nx a b)->t E c H):eO t u D c H:=h { D with nx:=u D } λ_ _ h=>h
def Eu(h:ri (ρ×ri ρ)):Prop:=∀c∈h,c.1.length<=20/\ο c.2<=6
def La(H:Hp)(D:ri Df):Prop:=∀d∈D,∃p:ri ρ,H d.pa=δ (.tup$ p.map qr)/\ο p<=100
def Jh{a:Type}{P:a->Prop}{X:ri a}{x:a}(h:∀c∈X,P c)(H:P x):∀c∈X++[x],P c:=λc b=>by
 rcases γ.mp b with h1 |h1
 .rwa[h c h1]
 .rw[τ.mp h1];rwa[H]
def mw(H:Hp)(D:ri Df)(N:ri Nat):Prop:=ο D=ο N/\∀(i:Nat) (d:Df) (n:Nat),D[i]?=δ d->N[i]?=δ n->∃p:ri ρ,H d.pa=δ (.tup$ p.map qr)/\ο p=n/\n<=100
def mw.mono(h:mw H D N)(k:ai H a):mw a D N:=#[h.1,λi d n b c=>let #[p,e,l]:=h.2 i d n b c;#[p,k _ _ e,l]]
def mw.snoc{d:Df}{p:ri ρ}(h:mw H D N)(e:H d.pa=δ (.tup$ p.map qr))(l:ο p<=100):mw H (D++[d]) (N++[p.length]):=by
 erw[#[by rw[Ml,Ml,h.1];rfl,λi c n a b=>?_]];by_cases f:i < ο D
 .rw[N9 f]at a;rw[N9 (by rw[<- h.1];rwa[f])]at b;rwa[h.2 i c n a b]
 .let g:i < (D++[d]).length:=(ξ.mp a).1;rw[Ml]at g;let E:i=ο D:=by let:i < ο D+1:=g;omega
  subst E;rw[N6$ Mj _,PZ]at a;rw[h.1,N6$ Mj _,PZ]at b;cases a;cases b;exact#[p,e,Z,l]
def mw.v(h:mw H D n):La H D:=λd b=>by
 let⟨i,a,e⟩:=gr.mp b;let c:D[i]?=δ d:=by rw[<- e];rwa[Mf a]
 let⟨p,e,l,k⟩:=h.2 i d _ c (Mf (by rw[<- h.1];rwa[a]));exact#[p,e,LA]
def sw(D:ri Df)(n:ri Nat):Prop:=(∀d∈D,nL d/\d.b.Cs ((D.map Df.f).zip n))/\(D.map Df.f).Nodup/\∀y∈D.map Df.f,y.length<=20
inductive o0(c:ri V)(H:Hp)(Q:VK)(a:XK):Prop
 |mk(p:ζ)(T b:Int)(_:c=[.ref p,.int T,.int b])(_:aq H p)(_:1<=T)(_:T<=8)(_:0<=b)(_:b<=40)(_:∀(r:ζ) (ds:ri Df) (xs:ri V) (H':Hp),H' r=δ (.tup xs)->ci H' ds xs->(ds.length:Int)=T->∀ns:ri Nat,sw ds ns->mw H' ds ns->aq H' p->aB p H H'->Q (.ref r) H')
def cQ:ak ["_law_box_here","_law_total","_law_room","_law_words","_law_most","_law_heads","_law_k","_law_turn","_law_row","_law_some","_law_deep","_law_defs","_law_f","_law_params","_law_spare","_law_body_here"] z33z (aa Dx):=bG
inductive AJ(p k:ζ)(T j:Int)(H:Hp)(b:_L.St)(c:Hp):Prop
 |mk(a:ri ρ)(d:b=[↑p,δ (.int T),δ (.int j),↑k,θ,θ,θ,θ,θ,θ,θ,θ,θ,θ,θ,θ])(e:c k=δ (.lst (a.map qr)))(f:ο a=20)(g:(∀y∈a,y.length<=20)/\(a.take 8).Nodup)(h:aq c p)(i:aB p H c)
inductive AI(p t k:ζ)(T s m:Int)(u:ri ρ)(H:Hp)(i:Nat)(v:_L.St)(a:Hp):Prop
 |mk(o q r:rm V)(l:ri (ρ×ri ρ))(n:ri V)(b:v=[↑p,δ (.int T),δ (.int s),↑t,δ (.int m),↑k,o,q,r,θ,θ,θ,θ,θ,θ,θ])(c:a k=δ (.lst n))(d:dO a l n)(e:ο l=i)(f:Eu l/\l.map (·.1)=u.take i)(g:a t=δ (.lst (u.map qr)))(h:aq a p)(j:aB p H a)
inductive AK(p G y F h:ζ)(T E m:Int)(j:Nat)(I:ri ρ)(z:ri (ρ×ri ρ))(A:ri V)(H:Hp)(i:Nat)(J:_L.St)(g:Hp):Prop
 |mk(B C D b c e f:rm V)(k:ri Df)(l:ri V)(n:J=[↑p,δ (.int T),δ (.int E),↑G,δ (.int m),↑y,B,C,D,↑F,δ (.int (j:Int)),↑h,b,c,e,f])(o:g h=δ (.lst l))(q:ci g k l)(r:ο k=i)(s:(∀d∈k,nL d/\d.b.Cs (z.map λc=>(c.1,c.2.length)))/\k.map Df.f=(z.map (·.1)).take i)(t:g y=δ (.lst A))(u:dO g z A)(v:g F=δ (.lst (I.map qr)))(w:aq g p)(x:aB p H g)(a:mw g k ((z.map λc=>c.2.length).take i))
inductive AL(v:ri (ρ×ri ρ))(D:ri ρ)(p C u z h B A:ζ)(T y m:Int)(i:Nat)(w x:rm V)(c:ρ×ri ρ)(e:Hp)(j:Nat)(E:_L.St)(d:Hp):Prop
 |mk(a:rm V)(f:ζ)(b:Bd)(g:ri V)(k:E=[↑p,δ (.int T),δ (.int y),↑C,δ (.int m),↑u,a,w,x,↑z,δ (.int (i:Int)),↑h,δ (.str c.1),↑B,↑A,↑f])(l:d f=δ (.tup g))(n:dG d b g)(o:(b.size:Int)+gH d A<=y/\0<=gH d A)(q:b.fit v D i)(r:aq d p)(s:dF d A)(t:a5 p A e d)
def CP(F:rc K "_law_any" Dx f fd)(cT:‹1› fT j1 z0z aY "_law_take")(cA:‹2› fA j2 z24z gq "_law_names")(cB:‹21› fB j' z5z (gO 6) "_law_body")(ml:mg "len"=θ)(mr:mg "range"=θ)(m0:mg "tuple"=θ)(mi:mg "int"=θ):⇑22 f fd z33z o0:=by
 erw[F.ok cQ λl4 A o5 s H vs Q E hr h=>?_]
 let⟨p,T,Y,rfl,B,l5,l6,f5,l8,q⟩:=h;erw[#[_,(jd (jx 3 cQ.nd$ cA.e hr.m$ ja (pv 0)$ ja jf jb)$ jd (j6$ jw (za$ cT.e hr.m$ ja (pv 0)$ ja jf jb) (jg$ zg (jJ kB (pv 3) jV$ jH jf)$ @uI _ _ _ _ _ _ _ _ _ (pv 3) jf jf (by intro _;rfl)) jp)$ jd (jx 4 cQ.nd$ jr jq (jK$ ja jf$ ja jf jb) (jF Jy Z mi Vm$ ja (Q0 qD (cT.e hr.m$ ja (pv 0)$ ja jf jb) jf$ aG _) jb) ∅)$ jd (jx 5 cQ.nd$ jK jb)$ jd (kh M3 Z (kI Z mr$ ja (pv 1) jb) (jy (i:=6) cQ.nd Z$ ψ Z)$ jd (jx 7 cQ.nd$ ju jW jf$ cT.e hr.m$ ja (pv 0)$ ja jf jb)$ jd (jx 8 cQ.nd$ ju qk (jJ kB (pv 3) (jH$ pv 7)$ jH jf)$ jJ kB (pv 3) (jH jf)$ jH$ pv 7)$ jg$ jQ$ kJ MF MQ MP jT (pv 5)$ ja (jh$ ja (jr jq (pv 3) (pv 6) ∅)$ ja (jF jL Z m0 N0$ ja (jJ kB (pv 8) jV$ jH$ cT.e hr.m$ ja (pv 0)$ ja (pv 4) jb) jb) jb) jb)$ jd (jx 9 cQ.nd$ jJ kB (pv 3) (jH jf)$ jH$ ju jW jf$ cT.e hr.m$ ja (pv 0)$ ja jf jb)$ jd (jx 10 cQ.nd$ jr jq (jK$ ja jf$ ja jf$ ja jf$ ja jf jb) (cT.e hr.m$ ja (pv 0)$ ja jf jb) ∅)$ jd (jx 11 cQ.nd$ jK jb)$ jd (kh M3 Z (qA$ pv 5) (zQ (n:=2) Z$ jC (jy (i:=12) cQ.nd Z$ ψ Z)$ jC (jy (i:=13) cQ.nd Z$ ψ Z) kN)$ jd (jx 14 cQ.nd$ jK$ ja (pv 2) jb)$ jd (jx 15 cQ.nd$ jh jb)$ jd (kh M3 Z (kI Z mr$ ja jf jb) (jy (i:=6) cQ.nd Z$ ψ Z)$ jg$ jx 15 cQ.nd$ ju j5 (pv 15)$ cB.e hr$ ja (pv 0)$ ja (pv 9)$ ja (pv 5)$ ja (pv 14)$ ja (pv 10) jb)$ jg$ jQ$ kJ MF MQ MP jT (pv 11)$ ja (jh$ ja (pv 12)$ ja (pv 13)$ ja (pv 15) jb) jb)$ jg$ jo$ jF jL Z m0 N0$ ja (pv 11) jb),?_]];let l9:=aH;erw[gm λE1 m1=>?_];erw[#[_,Z,p,20,Z,B,LB,LB,λW ys H1 c5 f7 c6 C B1 k1=>?_]];erw[m1 _ _ ?_];erw[gm λE2 m2=>?_];let wp:W≠p:=B.ne c5;erw[dI (AJ p W T Y H) (λE0 _ fm=>?_) λσ0 H2 l=>?_]
 .clear m2;erw[oF λG' g'=>#[_,Z,p,2,Z,B1,LB,LB,λd1 H2 l' m' B2 e2=>?_]];let h0:H2 W=δ (.lst$ ys.map qr):=by rw[e2 W wp];exact f7
  let k2:=k1.trans (aB.of_eq e2);erw[#[Z,_,Z,g' _ _ ?_]];clear g';erw[bP (λc=>?_) (λc=>fm _ _ #[ys,Z,h0,LA,#[C.1,C.2.sublist$ Oc _ _],B2,k2])];erw[#[_,Z,_,Z,W,_,Z,aI.of h0,λsl n0=>?_]];let f9:W≠sl:=λe=>by rw[<- e,h0]at n0;cases n0
  let o':=B2.ne n0;erw[#[_,Z,W,sl,_,_,_,_,Z,Z,Z,Z,am h0 n0,jc,f9,LB,LB,by rw[Mi];omega,?_,?_]]
  .let:=ze (ys.map qr) θ (δ 2);rw[Mi]at this ⊢;omega
  let e2:aP (ys.map qr) θ (δ 2)=(ys.take 2).map qr:=by rw[show(2:Int)=((2:Nat):Int) from Z,EH (by rw[Mi];omega),Pj]
  erw[fm _ _ #[ys.take 8++ys.take 2++ys.drop 10,Z,?_,?_,?_,(B2.upd_new n0).eq$ ji$ MX wp,?_]]
  .rw[jc,e2,MS,MS,Pj,Ux,Pj];rfl
  .rw[Ml,Ml,MT,MT,N4];omega
  .refine#[λy hy=>?_,?_]
   .rcases γ.mp hy with h |h
    .rcases γ.mp h with h |h
     .rwa[C.1 y$ M' h]
     .rwa[C.1 y$ M' h]
    .rwa[C.1 y$ Rk h]
   .rw[RF,List.take_append_of_le_length (by rw[MT];omega),Um];rwa[C.2.sublist$ Oc _ _]
  .exact(k2.upd_new n0).upd_own c5
 let⟨ys,rfl,h0,c6,C,B2,k2⟩:=l;erw[m2 _ _ ?_];clear m1 m2;erw[gm λE3 m3=>?_];erw[#[bN,λl1 n7=>?_]];erw[#[_,Z,p,3,Z,B2.upd_new n7,LB,LB,λd2 H3 p1 p2 B3 e3=>?_]];let k3:aB p H2 H3:=((aB.refl).upd_new n7).trans (aB.of_eq e3);let l0:=B2.ne n7;let f':H3 l1=δ (.lst [.int 4,.int 7]):=by rw[e3 l1 l0];rwa[jc]
 erw[#[Z,.inr #[_,Z,?_]]];let a':∀c:Bool,∃m:Int,dN [qs 4,qs 7] (if c then 1 else 0)=δ (.int m)/\4<=m/\m<=7:=λc=>by
  cases c
  .exact#[4,Z,LB,LB]
  .exact#[7,Z,LB,LB]
 let⟨m,hm,m4,m7⟩:=a' _;erw[#[l1,_,_,_,Z,Z,aI.of f',hm,?_]];erw[m3 _ _ ?_];erw[gm λE4 m4=>?_];let c7:H3 W=δ (.lst$ ys.map qr):=k3 _ _ wp h0;let k0:=k2.trans k3;erw[#[Mu _,λhl n1=>?_]];erw[m4 _ _ ?_];erw[gm λE5 m5=>?_];let h4:=B3.ne n1;let n5:H hl=θ:=by
  cases z:H hl with
  |none=>rfl
  |some o=>have:=k0 _ _ h4 z;rw[n1]at this;cases this
 let wh:W≠hl:=λe=>by rw[<- e,c7]at n1;cases n1
 erw[eM λJ j=>#[_,Z,T,Z,LA,LA,j _ _ ?_]];clear j;refine kn (lo:=0) (AI p W hl T Y m ys H)
  #[θ,θ,θ,[],[],Z,jc,Z,Z,#[(λc hc=>nomatch hc),Z],am c7 n1,B3.upd_new n1,k0.upd_own n5] ?_ ?_
 .intro D' _ i σ H4 hi f0 Gq u l;let⟨o6,o7,o8,hs,hv,rfl,b1,h6,c8,h7,b2,B4,k4⟩:=l;erw[u ?_];clear u m5 m3 m4;show eO (dZ _ _) _ D' _ _;erw[gm λF1 f1=>?_];erw[#[_,Z,p,6,Z,B4,LB,LB,λD H5 g0 g1 B5 e5=>?_]];let k5:aB p H4 H5:=aB.of_eq e5;let h8:=k5 _ _ wp b2;let b3:=k5 _ _ h4 b1;let b4:=h6.mono (k5.tm B4);erw[#[_,_,Z,Z,?_]];erw[f1 _ _ ?_];show eO (dZ _ _) _ D' _ _;erw[gm λF2 f2=>?_];erw[#[_,Z,_,Z,_,Z,_,Z,W,_,Z,aI.of h8,λs1 n'=>?_]];erw[#[_,Z,_,Z,_,Z,_,Z,W,_,Z,aI.of$ am h8 n',λs2 b5=>?_]];let L1:=qt ys (δ (8+D)) (δ 14);let L0:=qt ys (δ 8) (δ (8+D));let L3:=ze (ys.map qr) (δ (8+D)) (δ 14);let L4:=ze (ys.map qr) (δ 8) (δ (8+D));rw[Mi]at L3 L4;erw[#[s1,s2,_,_,Z,Z,am jc b5,jc,LA,λrl c9=>?_]];erw[f2 _ _ ?_];let er:aP (ys.map qr) (δ (8+D)) (δ 14)++aP (ys.map qr) (δ 8) (δ (8+D))=(bg ys (δ (8+D)) (δ 14)++bg ys (δ 8) (δ (8+D))).map qr:=by rw[zB,zB,MS]
  let s6:ae H5 (ah (ah (ah H5 s1$ .lst$ aP (ys.map qr) (δ (8+D))$ δ 14) s2$ .lst$ aP (ys.map qr) (δ 8)$ δ (8+D)) rl$ .lst$ aP (ys.map qr) (δ (8+D)) (δ 14)++aP (ys.map qr) (δ 8) (δ (8+D))):=((je n').trans$ je b5).trans (je c9);let r6:ah (ah (ah H5 s1$ .lst$ aP (ys.map qr) (δ (8+D))$ δ 14) s2$ .lst$ aP (ys.map qr) (δ 8)$ δ (8+D)) rl (.lst$ aP (ys.map qr) (δ (8+D)) (δ 14)++aP (ys.map qr) (δ 8) (δ (8+D))) rl=δ (.lst ((bg ys (δ (8+D)) (δ 14)++bg ys (δ 8) (δ (8+D))).map qr)):=by rw[jc,er]
  let B6:aq (ah (ah (ah H5 s1$ .lst$ aP (ys.map qr) (δ (8+D))$ δ 14) s2$ .lst$ aP (ys.map qr) (δ 8)$ δ (8+D)) rl$ .lst$ aP (ys.map qr) (δ (8+D)) (δ 14)++aP (ys.map qr) (δ 8) (δ (8+D))) p:=((B5.upd_new n').upd_new b5).upd_new c9;generalize ah (ah (ah H5 s1$ .lst$ aP (ys.map qr) (δ (8+D))$ δ 14) s2$ .lst$ aP (ys.map qr) (δ 8)$ δ (8+D)) rl (.lst$ aP (ys.map qr) (δ (8+D)) (δ 14)++aP (ys.map qr) (δ 8) (δ (8+D)))=H6 at s6 r6 B6;let LR:(bg ys (δ (8+D)) (δ 14)++bg ys (δ 8) (δ (8+D))).length<=40:=by rw[Ml];omega
  generalize bg ys (δ (8+D)) (δ 14)++bg ys (δ 8) (δ (8+D))=r0 at r6 LR;let c':=s6 _ _ h8;let h':=s6 _ _ b3;let ei:(0:Int)+(i:Int)=(i:Int):=Int.zero_add _;rw[ei];obtain⟨y,b7⟩:∃y,ys[i]?=δ y:=#[_,Mf (LA:i < ο ys)];let hy:=MM b7;let a':dN (ys.map qr) (i:Int)=δ (.str y):=jE (by rw[MH,b7];rfl);let rp:rl≠p:=qm B6 r6;erw[#[_,Z,.inl #[Z,_,aI.of h'],_,Z,_,Z,W,_,_,_,Z,Z,aI.of c',a',_,Z,_,Z,_,Z,p,m,Z,B6,LA,LA,λd7 H7 d0 d4 B7 e7=>?_]];let k7:aB p H6 H7:=aB.of_eq e7;erw[#[_,Z,rl,_,Z,aI.of$ k7 _ _ rp r6,λs3 d6=>?_]];erw[#[s3,_,Z,.inl #[aI.of jc,λt nt=>#[bN,λr nr=>?_]]]];rw[zB]at nt nr ⊢;let L8:=xz (ss:=r0) d0;generalize bg r0 θ (δ d7)=ps at*;let s8:ae H7 (ah (ah (ah H7 s3$ .lst$ ps.map qr) t$ .tup$ ps.map qr) r$ .tup [.str y,.ref t]):=((je d6).trans$ je nt).trans (je nr);let t8:ah (ah (ah H7 s3$ .lst$ ps.map qr) t$ .tup$ ps.map qr) r (.tup [.str y,.ref t]) t=δ (.tup$ ps.map qr):=am jc nr;let r8:ah (ah (ah H7 s3$ .lst$ ps.map qr) t$ .tup$ ps.map qr) r (.tup [.str y,.ref t]) r=δ (.tup [.str y,.ref t]):=jc;let B8:aq (ah (ah (ah H7 s3$ .lst$ ps.map qr) t$ .tup$ ps.map qr) r$ .tup [.str y,.ref t]) p:=((B7.upd_new d6).upd_new nt).upd_new nr;generalize ah (ah (ah H7 s3$ .lst$ ps.map qr) t$ .tup$ ps.map qr) r (.tup [.str y,.ref t])=R at s8 t8 r8 B8;let d8:=s8 _ _ (k7 _ _ h4 h');let g2:=s8 _ _ (k7 _ _ wp c');let h5:=h6.len;erw[#[hl,_,_,Z,Z,d8,LA,?_]];let tm:ai R (ah R hl$ .lst$ hv++[.ref r]):=λb xs e=>by rw[ji$ jN e d8 (by intro z;cases z)];rwa[e]
  let g4:=((b4.mono$ ae.tm s6).mono$ k7.tm B6).mono (ae.tm s8);erw[f0 _ _ #[_,_,_,hs++[(y,ps)],_,Z,jc,(g4.mono tm).snoc #[r,t,Z,tm _ _ r8,tm _ _ t8],by rw[Ml,c8];rfl,#[Jh h7.1 #[C.1 y hy,by show ο ps<=6;omega],by rw[MS,h7.2,OA,b7];rfl],by rw[ji wh];rwa[g2],B8.eq$ ji$ MX h4,?_]];erw[aB.upd_own (λb o n e=>?_) n5];rwa[s8 _ _$ k7 _ _ n$ s6 _ _$ k5 _ _ n$ k4 _ _ n e]
 intro σ H4 l;obtain⟨o6,o7,o8,hs,hv,rfl,b1,h6,c8,⟨h7,d'⟩,b2,B4,k4⟩:=l;erw[m5 _ _ ?_];erw[gm λE6 m6=>?_];erw[#[_,Z,_,Z,_,Z,p,7,Z,B4,LB,LB,λD H5 g0 g1 B5 e5=>?_]];let k5:aB p H4 H5:=aB.of_eq e5;let h8:=k5 _ _ wp b2;let b3:=k5 _ _ h4 b1;let b4:=h6.mono (k5.tm B4);erw[#[_,_,Z,Z,_,Z,W,_,Z,aI.of h8,λsm n3=>?_]];erw[m6 _ _ ?_];erw[gm λE7 m7=>?_];let⟨z1,z2⟩:=sL (ys:=ys) (k:=14+D) c6 LA LA;let m6:ah H5 sm (.lst$ aP (ys.map qr) (δ 8)$ δ (14+D)) sm=δ (.lst ((bg ys (δ 8)$ δ (14+D)).map qr)):=by rw[jc,zB]
 let k6:aB p H (ah H5 sm$ .lst$ aP (ys.map qr) (δ 8)$ δ (14+D)):=(k4.trans k5).upd_new n3;let h':=am (o:=.lst (aP (ys.map qr) (δ 8)$ δ (14+D))) b3 n3;let e0:=b4.mono (ae.tm$ je (o:=.lst (aP (ys.map qr) (δ 8)$ δ (14+D))) n3);let B6:=B5.upd_new (o:=.lst (aP (ys.map qr) (δ 8)$ δ (14+D))) n3;generalize ah H5 sm (.lst$ aP (ys.map qr) (δ 8)$ δ (14+D))=H6 at m6 k6 h' e0 B6;generalize bg ys (δ 8) (δ (14+D))=zs at m6 z1 z2;let s':=qm B6 m6;erw[#[sd,λl2 b'=>?_]];erw[#[_,Z,p,4,Z,B6.upd_new b',LB,LB,λd7 H7 d0 d4 B7 e7=>?_]];let k7:aB p H6 H7:=((aB.refl).upd_new b').trans (aB.of_eq e7);let l3:=B6.ne b';let g5:H7 l2=δ (.lst [.int 3,.int 3,.int 3,.int 5]):=by rw[e7 l2 l3];rwa[jc]
 let⟨dp,g6,g7,p3,p4⟩:=xF d0 d4;erw[#[l2,_,_,_,Z,Z,aI.of g5,g6,?_]];erw[m7 _ _ ?_];erw[gm λE8 m8=>?_];let m7:=k7 _ _ s' m6;let c0:=k7 _ _ h4 h';let g8:=e0.mono (k7.tm B6);let k9:=k6.trans k7;erw[#[Mu _,λdl N=>?_]];erw[m8 _ _ ?_];erw[gm λE9 m9=>?_];let d3:=B7.ne N;let n6:H dl=θ:=by
  cases z:H dl with
  |none=>rfl
  |some o=>have:=k9 _ _ d3 z;rw[N]at this;cases this
 let e4:hl≠dl:=λe=>by rw[<- e,c0]at N;cases N
 let s5:sm≠dl:=λe=>by rw[<- e,m7]at N;cases N
 let p5:=h6.len;erw[eM λJ j=>#[_,Z,hl,Z,#[_,aI.of$ am c0 N],j _ _ ?_]];clear j;refine QK (K:=K) (a:=hl) (xs:=hv) (AK p W hl sm dl T Y m dp zs hs hv H)
  #[_,_,_,_,_,_,_,[],[],Z,jc,Z,Z,#[(λc hc=>nomatch hc),Z],am c0 N,g8.mono$ ae.tm$ je N,am m7 N,B7.upd_new N,k9.upd_own n6,#[Z,(λi d n h=>nomatch h)]] ?_ ?_ ?_
 .intro i σ R _ l;let⟨o6,o7,o8,o1,o2,o3,o4,ds,dv,rfl,h5,hD,a0,x,hh,hd,c1,B8,k8,p0⟩:=l;rwa[aI.of hh]
 .intro D' _ i v σ R hx f0 Gq u l;let⟨o6,o7,o8,o1,o2,o3,o4,ds,dv,rfl,h5,hD,a0,x,hh,hd,c1,B8,k8,p0⟩:=l;let p6:i < ο hv:=(ξ.mp hx).1;let⟨c,hc,q0,t0,rfl,w1,w2⟩:=hd.at i v hx;erw[u ?_];clear u m9;let i0:=MM hc;let e6:=h7 c i0;erw[Lp λF6 f6=>#[q0,_,Z,aD.of w1,Z,_,_,Z,_,_,Z,Z,f6 _ _ ?_]];clear f6;show eO (dZ _ _) _ D' _ _;erw[gm λF1 f1=>?_];erw[#[_,Z,io,λM n2=>?_]];erw[f1 _ _ ?_];show eO (dZ _ _) _ D' _ _;erw[gm λF2 f2=>?_];erw[#[ms,λb0 n4=>?_]];erw[f2 _ _ ?_];show eO (Ah _ _ _) _ D' _ _;erw[gm λF3 f3=>?_];let s9:ae R (ah (ah R M$ .lst [.int Y]) b0$ .tup []):=(je n2).trans (je n4);let s4:dF (ah (ah R M$ .lst [.int Y]) b0$ .tup []) M:=#[Y,am jc n4];let b9:ah (ah R M$ .lst [.int Y]) b0 (.tup []) b0=δ (.tup []):=jc;let B9:aq (ah (ah R M$ .lst [.int Y]) b0$ .tup []) p:=(B8.upd_new n2).upd_new n4;let e9:gH (ah (ah R M$ .lst [.int Y]) b0$ .tup []) M=Y:=Ju (am jc n4);generalize ah (ah R M$ .lst [.int Y]) b0 (.tup [])=H9 at s9 s4 b9 B9 e9;let e8:H M=θ:=by
   cases z:H M with
   |none=>rfl
   |some o=>have:=k8 _ _ (B8.ne n2) z;rw[n2]at this;cases this
  let i1:dl≠M:=λe=>by rw[<- e,h5]at n2;cases n2
  let G9:nD H9 p sm hl M zs hs:=#[B9,s9 _ _ c1,z1,z2,#[hv,s9 _ _ hh,hd.mono$ ae.tm s9],LA,LA,λc hc=>(h7 c hc).2,s4];erw[eM λJ j=>#[_,Z,LB,LB,j _ _ ?_]];clear j;refine kn (lo:=0) (AL hs zs p W hl sm dl t0 M T Y m dp o7 o8 c H9)
   #[_,b0,.nil,[],Z,b9,Z,(by rw[e9];exact#[by show((0:Nat):Int)+_<=_;omega,f5]),Zz,B9,s4,a5.refl] ?_ ?_
  .intro p7 _ j σ G hj fin2 Gq u l;let⟨o9,bb,Bb,bs,rfl,c2,a1,a2,I,B',U,L⟩:=l;erw[u ?_];clear u f1 f2 f3;let G0:=G9.but2 B' U L;erw[#[_,Z,_,Z,_,Z,_,Z,_,Z,_,Z,p,sm,hl,M,dp,zs,hs,Z,G0,g7,a2.2,λr b p9 H0 X a4 i2 c3 c4 a3 S k'=>?_]];let tm:=k'.tm B' U;let lb:=a1.len;let p':=a4.len;let⟨i3,i4⟩:=a2;erw[#[bb,r,_,_,Z,Z,tm _ _ c2,X,LA,λr2 H' e' s0=>?_]];let i':aq H' p:=by let⟨a,b,h1,h2,h3,h⟩:=a3.ob;exact#[a,b,h1,h2,h3,s0 _ _ h]
   let s7:dF H' M:=by let⟨z,hz⟩:=S;exact#[z,s0 _ _ hz]
   erw[fin2 _ _ #[_,r2,Bb.app b,_,Z,e',(a4.mono$ ae.tm s0).app ((a1.mono tm).mono$ ae.tm s0),?_,ZA I c4,i',s7,L.trans$ k'.trans$ a5.of_same s0]];rw[j3,km S s0];exact#[LA,c3]
  .intro σ G l;let⟨o9,bb,Bb,bs,rfl,c2,a1,a2,I,B',U,L⟩:=l;erw[f3 _ _ ?_];let O:G dl=δ (.lst dv):=L _ _ d3 i1 (s9 _ _ h5);let G0:=G9.but2 B' U L;let t3:ai R G:=λb xs e=>L.tm B9 s4 _ _ (s9 _ _ e);erw[#[_,Z,.inl #[Z,_,aI.of O],_,Z,_,Z,_,Z,gE,λr nr=>?_]];let S:ae G (ah G r$ .tup [.str c.1,.ref t0,.ref bb]):=je nr;let j0:=hD.len;let f4:Bb.size<=40:=by let⟨i3,i4⟩:=a2;omega
   erw[#[dl,_,_,Z,Z,S _ _ O,LA,?_]];let X:ah G r (.tup [.str c.1,.ref t0,.ref bb]) r=δ (.tup [.str c.1,.ref t0,.ref bb]):=jc;let a3:=B'.upd_new (o:=.tup [.str c.1,.ref t0,.ref bb]) nr;generalize ah G r (.tup [.str c.1,.ref t0,.ref bb])=H0 at S X a3;let tm:ai H0 (ah H0 dl$ .lst$ dv++[.ref r]):=λb xs e=>by rw[ji$ jN e (S _ _ O) (by intro z;cases z)];rwa[e]
   let t2:ai G (ah H0 dl$ .lst$ dv++[.ref r]):=λb xs e=>tm _ _ (S _ _ e);let t1:ai R (ah H0 dl$ .lst$ dv++[.ref r]):=λb xs e=>t2 _ _ (t3 _ _ e);erw[f0 _ _ #[_,_,_,_,_,_,_,ds++[#[c.1,r,t0,bb,Bb]],_,Z,jc,(hD.mono t1).snoc #[bs,Z,tm _ _ X,t2 _ _ c2,a1.mono t2],by rw[Ml,a0];rfl,#[Jh x.1 #[#[#[zs,z2,I.1.1],NN I.2 LA,Mw f4 LB],I.1.2],by rw[MS,x.2,OA,MH,hc];rfl],?_,hd.mono t1,?_,a3.eq$ ji$ MX d3,?_,(by rw[OA,MH,hc];exact(p0.mono t1).snoc (d:=#[c.1,r,t0,bb,Bb]) (t1 _ _ w2) (Mw e6.2 LB))]]
   .let⟨q1,e1,e2⟩:=G0.h;rw[ji e4];rwa[S _ _$ L _ _ G9.hsp.2 G9.hsp.1$ s9 _ _ hh]
   .rw[ji s5];rwa[S _ _ G0.g]
   .erw[aB.upd_own (λb o n e=>?_) n6];rwa[S _ _$ L _ _ n (jk e e8)$ s9 _ _$ k8 _ _ n e]
 .intro σ R l;let⟨o6,o7,o8,o1,o2,o3,o4,ds,dv,rfl,h5,hD,a0,x,hh,hd,c1,B8,k8,p0⟩:=l;erw[m9 _ _ ?_];erw[#[_,Z,dl,dv,Z,.inl #[aI.of h5,λt nt=>?_]]];let nn:(ds.map Df.f).Nodup:=by
   rw[x.2,d'];erw[List.Nodup.sublist (Oc _ _) ?_];let e:∀m,m<=8->ys.take m=(ys.take 8).take m:=λm hm=>by rw[Um,Oo hm]
   rw[e _ LA];rwa[C.2.sublist$ Oc _ _]
  rwa[q t ds dv _ jc (hD.mono$ ae.tm$ je nt) LA (hs.map λc=>c.2.length) #[λd hd=>#[(x.1 d hd).1,by let e:=x.2;rw[NY (by rw[Mi];omega)]at e;rw[e];let z:=(x.1 d hd).2;rw[show(hs.map λc=>(c.1,c.2.length))=(hs.map (·.1)).zip (hs.map λc=>c.2.length) by rw[List.zip_map']]at z;rwa[z]],nn,λy hy=>by rw[x.2,d']at hy;rwa[C.1 y$ M'$ M' hy]] (by let z:=p0.mono (ae.tm$ je (o:=.tup dv) nt);rw[NY (by rw[Mi];omega)]at z;rwa[z]) (B8.upd_new nt) (k8.upd_new nt)]
def ms:0<=υ:=LB
def io:1<=υ:=LB
def bN:2<=υ:=LB
def gE:3<=υ:=LB
def sd:4<=υ:=LB
def ai.trans(a:ai H h)(b:ai h d):ai H d:=λc x e=>b c x (a c x e)
def ai.refl:ai H H:=λ_ _ e=>e
def gG(H:Hp)(y:ri ρ)(k:Nat)(a:ζ):Prop:=∃T,bf H T a/\T.Good y/\T.depth<=k
def gG.mono(h:gG H y k a)(m:ai H b):gG b y k a:=by let⟨T,c,d⟩:=h;rwa[#[T,c.mono m,d]]
def gG.ok(h:gG H y k a)(m:k < 6):∃T,bf H T a/\dy y T:=by let⟨T,b,c,d⟩:=h;rwa[#[T,b,c,NN d m]]
section
variable {Cf:ip}{H:Hp}{ys:ri ρ}
def D6(h:H a=δ (.tup [.str "num",.int n]))(b:0<=n)(c:n < 1000000000000000000):gG H ys 0 a:=#[.num n,h,#[b,c],Mu _]
def ww(h:H a=δ (.tup [.str "var",.str x]))(b:x∈ys):gG H ys 0 a:=#[.var x,h,b,Mu _]
def Sg(s:ρ):Prop:=∃i,i < 6/\s=Iv i
def Bp(h:H a=δ (.tup [.str "op",.str s,.ref b,.ref c]))(d:Sg s)(e:gG H ys j b)(f:gG H ys k c)(q:j < n)(r:k < n):gG H ys n a:=by let⟨i,g,rfl⟩:=d;let⟨B,l,m,t⟩:=e;let⟨C,o,p,u⟩:=f;exact#[.op i B C,#[b,c,h,l,o],#[g,m,p],by show max B.depth C.depth+1<=n;omega]
def zn:Sg "+":=#[0,LB,Ly]
def XJ:Sg "-":=#[1,LB,Ly]
def XL:Sg "*":=#[2,LB,Ly]
def y8:Sg "/":=#[3,LB,Ly]
def Q5:Sg "<":=#[4,LB,Ly]
def Gh:Sg "=":=#[5,LB,Ly]
def yB(h:0<=d)(a:d < 4):∃s,dN [qr "+",.str "+",.str "*",.str "-"] d=δ (.str s)/\Sg s:=by
 rcases(LA:d=0∨d=1∨d=2∨d=3) with rfl |rfl |rfl |rfl
 .exact#[_,Z,zn]
 .exact#[_,Z,zn]
 .exact#[_,Z,XL]
 .exact#[_,Z,XJ]
def yA(h:0<=d)(a:d < 3):∃c,dN (Str.cps "<=*").toList d=δ c/\Sg #[(ε [c])]:=by
 rcases(LA:d=0∨d=1∨d=2) with rfl |rfl |rfl
 .exact#[_,Z,Q5]
 .exact#[_,Z,Gh]
 .exact#[_,Z,XL]
def FG{P:ζ->Prop}(e:0<=d)(f:d < 2)(h:P a)(c:P b):∃x,dN [rb a,.ref b] d=↑x/\P x:=by
 rcases(LA:d=0∨d=1) with rfl |rfl
 .exact#[_,Z,h]
 .exact#[_,Z,c]
def FH{P:ζ->Prop}(g:0<=d)(i:d < 3)(h:P a)(e:P b)(f:P c):∃x,dN [rb a,.ref b,.ref c] d=↑x/\P x:=by
 rcases(LA:d=0∨d=1∨d=2) with rfl |rfl |rfl
 .exact#[_,Z,h]
 .exact#[_,Z,e]
 .exact#[_,Z,f]
def FJ{P:ζ->Prop}(h:P a)(d:P b)(c:Bool):∃x,dN [rb a,.ref b] (if c then 1 else 0)=↑x/\P x:=by
 cases c
 .exact#[_,Z,h]
 .exact#[_,Z,d]
def cj(Cf:ip)(H:Hp)(ys:ri ρ)(d:Nat)(v:V):Prop:=∃s,h9 H v s/\(s.Ok ys/\s.Cs Cf)/\s.dep<=d/\s.size<=1+20*d
def gW(Cf:ip)(H:Hp)(ys:ri ρ)(d:Nat)(x:ri V):Prop:=∃b,dG H b x/\(b.Ok ys/\b.Cs Cf)/\b.dep<=d/\b.size<=(1+20*d)*ο x
def cj.mono(h:cj Cf H ys d v)(m:ai H a):cj Cf a ys d v:=by let⟨s,b,c⟩:=h;rwa[#[s,b.mono m,c]]
def gW.mono(h:gW Cf H ys d x)(m:ai H a):gW Cf a ys d x:=by let⟨s,b,c⟩:=h;rwa[#[s,b.mono m,c]]
def cj.up(h:cj Cf H ys 0 v):cj Cf H ys d v:=by let⟨s,a,b,c,e⟩:=h;rwa[#[s,a,b,LA,LA]]
def Kr:gW Cf H ys d []:=#[.nil,Z,#[trivial,trivial],Mu _,Mu _]
def Jv{xs:ri V}(h:gW Cf H ys d xs)(g:gW Cf H ys d z):gW Cf H ys d (xs++z):=by let⟨a,c,A,f,i⟩:=h;let⟨b,e,B,j,k⟩:=g;erw[#[a.app b,e.app c,#[Ko A.1 B.1,Kn A.2 B.2],by rw[zj];omega,?_]];rw[j3,Ml,Nat.mul_add];omega
def zu(h:cj Cf H ys d v):gW Cf H ys d [v]:=by let⟨s,a,b,c,e⟩:=h;exact#[s,a.bd,b,c,by show s.size<=(1+20*d)*1;omega]
def jZ(h:cj Cf H ys d v)(g:gW Cf H ys d xs):gW Cf H ys d (v::xs):=Jv (xs:=[v]) (zu h) g
def Xm{l:Lf}(h:H p=δ (.tup v))(a:wU H l v)(b:l.Ok ys)(c:l.Cs Cf):cj Cf H ys 0 (.ref p):=#[.lf p l .nil,.lf p l v h a,#[#[b,trivial],c,trivial],Mj 0,Mj 1]
def Go(h:H p=δ (.tup [.str "read",.str x,.ref t]))(a:x∈ys)(b:gG H ys k t)(c:↥(k < 6)):cj Cf H ys 0 (.ref p):=by let⟨T,d,e⟩:=b.ok c;rwa[Xm (l:=.rd x t T) h #[Z,d] #[a,e] trivial]
def Gp(h:H p=δ (.tup [.str "set",.str x,.ref t]))(a:x∈ys)(b:gG H ys k t)(c:↥(k < 6)):cj Cf H ys 0 (.ref p):=by let⟨T,d,e⟩:=b.ok c;rwa[Xm (l:=.st x t T) h #[Z,d] #[a,e] trivial]
def Gm(h:H p=δ (.tup [.str "give",.ref t]))(a:gG H ys k t)(b:↥(k < 6)):cj Cf H ys 0 (.ref p):=by let⟨T,c,d⟩:=a.ok b;rwa[Xm (l:=.gv t T) h #[Z,c] d trivial]
def Gr(h:H p=δ (.tup [.str "write",.ref t,.ref u]))(a:gG H ys k t)(b:gG H ys j u)(c:↥(k < 6))(d:↥(j < 6)):cj Cf H ys 0 (.ref p):=by let⟨T,e,f⟩:=a.ok c;let⟨U,g,i⟩:=b.ok d;rwa[Xm (l:=.wr t u T U) h #[Z,e,g] #[f,i] trivial]
def Gk{f:ρ}(h:H p=δ (.tup [.str "call",.str x,.str f,.ref q]))(b:x∈ys)(a:(f,2)∈Cf)(d:H q=δ (.tup [.ref t,.ref u]))(e:gG H ys k t)(g:gG H ys j u)(i:↥(k < 6))(m:↥(j < 6)):cj Cf H ys 0 (.ref p):=by
 let⟨T,n,o⟩:=e.ok i;let⟨U,r,s⟩:=g.ok m;erw[Xm (l:=.cl x f q [(t,T),(u,U)]) h #[Z,d,λc hc=>?_] #[b,(by show 2<=6;decide),λc hc=>?_] a]
 .rcases Ξ.mp hc with rfl |hc
  .rwa[n]
  .rw[τ.mp hc];rwa[r]
 .rcases Ξ.mp hc with rfl |hc
  .rwa[o]
  .rw[τ.mp hc];rwa[s]
def Gn(h:H p=δ (.tup [.str "if",.ref t,.ref q,.ref Q]))(e:gG H ys k t)(f:H q=δ (.tup A))(g:H Q=δ (.tup B))(G:gW Cf H ys 0 A)(i:gW Cf H ys 0 B)(r:ο A+B.length<=20)(j:↥(k < 6)):cj Cf H ys 1 (.ref p):=by let⟨T,l,m⟩:=e.ok j;let⟨a,n,c,s,u⟩:=G;let⟨b,o,d,v,x⟩:=i;exact#[.ite p t T a b .nil,.ite p t T a b q Q A B h l f g n o,#[#[m,c.1,d.1,trivial],c.2,d.2,trivial],(by show max (max a.dep b.dep+1) 0<=1;omega),(by show a.size+b.size+0+1<=21;omega)]
def vY(h:H p=δ (.tup [.str "while",.ref t,.ref q]))(c:gG H ys k t)(d:H q=δ (.tup A))(g:gW Cf H ys 0 A)(l:A.length<=20)(e:↥(k < 6)):cj Cf H ys 1 (.ref p):=by let⟨T,f,i⟩:=c.ok e;let⟨a,j,b,m,n⟩:=g;exact#[.loop p t T a .nil,.loop p t T a q A h f d j,#[#[i,b.1,trivial],b.2,trivial],(by show max (a.dep+1) 0<=1;omega),(by show a.size+0+1<=21;omega)]
def si(Cf:ip)(n:Nat)(H:Hp)(r:ζ)(f:ρ):Prop:=∃d:Df,Aw H d (.ref r)/\(nL d/\d.b.Cs Cf)/\∃p:ri ρ,H d.pa=δ (.tup$ p.map qr)/\ο p=n/\d.f=f
def si.mono(h:si Cf n H r f)(m:ai H a):si Cf n a r f:=by let⟨d,b,c,p,e,g⟩:=h;rwa[#[d,b.mono m,c,p,m _ _ e,g]]
def EO{f:ρ}{p:ri ρ}(h:H r=δ (.tup [.str f,.ref a,.ref b]))(d:H a=δ (.tup$ p.map qr))(e:ο p=n)(i:H b=δ (.tup x))(g:gW Cf H ys 1 x)(l:ο x<=100)(j:ys.length<=20):si Cf n H r f:=by let⟨c,k,C,m,o⟩:=g;exact#[#[f,r,a,b,c],#[x,Z,h,i,k],#[#[#[ys,j,C.1],(by show c.dep < 8;omega),(by show c.size<=3000;omega)],C.2],p,d,e,Z]
structure Wd(H0 H:Hp)(p wl:ζ)(ys:ri ρ):Prop where
 B:aq H p
 K:aB p H0 H
 w:H wl=δ (.lst$ ys.map qr)
def Wd.np(h:Wd b H p a ys):a≠p:=qm h.B h.w
def Wd.same(h:Wd a H p b ys)(s:ae H c):Wd a c p b ys:=#[h.B.same s,h.K.trans$ aB.of_same s,s _ _ h.w]
def Wd.but(h:Wd b H p c ys)(B:aq a p)(k:aB p H a):Wd b a p c ys:=#[B,h.K.trans k,k _ _ h.np h.w]
def Wd.own{xs:ri V}(h:Wd a H p b ys)(n:a l=θ)(L:l≠p)(c:l≠b):Wd a (ah H l$ .lst z) p b ys:=#[h.B.eq$ ji$ MX L,h.K.upd_own n,by rw[ji$ MX c];rwa[h.w]]
def QT(h:H l=δ (.lst x)):ai H (ah H l$ .lst a):=λb u e=>by rw[ji$ jN e h (by intro z;cases z)];rwa[e]
end
inductive mW(d:ri V)(H:Hp)(Q:VK)(c:XK):Prop
 |mk(p a b:ζ)(e:ri ρ)(k:Nat)(_:d=[.ref p,.ref a,.ref b])(_:aq H p)(_:gG H e k a)(_:gG H e k b)(_:∀(r:ζ) (H':Hp),gG H' e (k+1) r->aq H' p->aB p H H'->Q (.ref r) H')
inductive dm(n:Nat)(b:ri V)(H:Hp)(Q:VK)(a:XK):Prop
 |mk(p c:ζ)(f g:ρ)(d:ri ρ)(_:b=[.ref p,.str f,.str g,.ref c])(_:aq H p)(_:H c=δ (.lst (d.map qr)))(_:ο d=6)(_:∀(r:ζ) (H':Hp),si [(g,2)] n H' r f->aq H' p->aB p H H'->Q (.ref r) H')
abbrev Iq:cv:=bH 69
abbrev oe:cv:=bH 70
abbrev ie:cv:=bH 71
abbrev gf:cv:=bH 72
abbrev uV:cv:=bH 73
def Ik{A:ri V}(h:ο A=5):∃a b c d e,A=[a,b,c,d,e]:=by
 cases A with
 |nil=>cases h
 |cons a r=>
  cases r with
  |nil=>cases h
  |cons b R=>
   cases R with
   |nil=>cases h
   |cons c f=>
    cases f with
    |nil=>cases h
    |cons d g=>
     cases g with
     |nil=>cases h
     |cons e i=>
      cases i with
      |nil=>exact#[a,b,c,d,e,Z]
      |cons _ _=>cases h
def Le{n:Nat}:nW (n+1) 0=δ 0:=by unfold nW;rw[Mv LB,Mv LA];rfl
def Lg{n:Nat}:nW (n+2) 1=δ 1:=by unfold nW;rw[Mv LB,Mv LA];rfl
def mq:dN (v::u::y) 1=δ u:=jE (j:=1) Z
structure Fw(p:ζ)(H H':Hp):Prop where
 t:ai H H'
 b:aB p H H'
def Fw.refl:Fw p H H:=#[ai.refl,aB.refl]
def Fw.trans(a:Fw p H h)(b:Fw p h c):Fw p H c:=#[a.t.trans b.t,a.b.trans b.b]
def Fw.new{p:ζ}{H:Hp}{o:HO}(n:H r=θ):Fw p H (ah H r o):=#[ae.tm$ je n,aB.of_same$ je n]
def Fw.same(s:ae H h):Fw p H h:=#[ae.tm s,aB.of_same s]
def Fw.but(B:aq H p)(c:aB p H h):Fw p H h:=#[c.tm B,c]
def oA(P:Hp->V->Prop):Prop:=∀H h v,ai H h->P H v->P h v
def Ev(a:Hp)(p W:ζ)(y:ri ρ)(b:Hp)(c:_L.St)(t:TE)(P:Hp->V->Prop):Prop:=∀(H:Hp) (Q:VK),Fw p b H->Wd a H p W y->(∀v h,P h v->Wd a h p W y->Fw p H h->Q v h)->t c H Q
def PT(y:ri ρ)(k:Nat)(H:Hp)(v:V):Prop:=∃a,v= .ref a/\gG H y k a
def PB(C:ip)(y:ri ρ)(d n:Nat)(H:Hp)(v:V):Prop:=∃a x,v= .ref a/\H a=δ (.tup x)/\gW C H y d x/\ο x<=n
def PN(y:ri ρ)(_:Hp)(v:V):Prop:=∃x,v= .str x/\x∈y
def PG(_:Hp)(v:V):Prop:=∃s,v= .str s/\Sg s
def PP(n:Nat)(H:Hp)(v:V):Prop:=∃(a:ζ) (x:ri ρ),v= .ref a/\H a=δ (.tup$ x.map qr)/\ο x=n
def wZ(y:ρ)(_:Hp)(v:V):Prop:=v= .str y
def PD(C:ip)(n:Nat)(f:ρ)(H:Hp)(v:V):Prop:=∃a,v= .ref a/\si C n H a f
section
variable {Cf:ip}{ys:ri ρ}{H0 Hb:Hp}{p wl:ζ}{σ:_L.St}
def ar:oA (PT ys k):=λ_ _ _ m #[a,e,h]=>#[a,e,h.mono m]
def dP:oA (PB Cf ys d n):=λ_ _ _ m #[a,x,e,h,H,b]=>#[a,x,e,m _ _ h,H.mono m,b]
def dY:oA λH v=>cj Cf H ys d v:=λ_ _ _ m h=>h.mono m
def lG:oA (PD Cf n f):=λ_ _ _ m #[a,e,h]=>#[a,e,h.mono m]
def Ev.up{P R:Hp->V->Prop}(h:Ev H0 p wl ys Hb σ t P)(k:∀H v,P H v->R H v):Ev H0 p wl ys Hb σ t R:=λH Q m W q=>h H Q m W λv a x=>q v a (k _ _ x)
def jM{P:Hp->V->Prop}(e:σ[i]?=δ (δ v))(M:oA P)(h:P Hb v):Ev H0 p wl ys Hb σ (a8 i) P:=λH Q m W q=>#[v,e,q v H (M _ _ _ m.t h) W .refl]
def qg(h:Sg s):Ev H0 p wl ys Hb σ (tC$ .str s) PG:=λH Q m W q=>q _ H #[s,Z,h] W .refl
def kS{K:Ψ}(e:σ[j]?=δ (↑wl))(a:0<=i)(b:i < (ys.length:Int)):Ev H0 p wl ys Hb σ (dU (iW K) (a8 j)$ tC$ .int i) (PN ys):=λH Q m W q=>by let⟨y,c,h⟩:=Km (ys:=ys) a b;exact#[_,e,wl,_,_,_,Z,Z,aI.of W.w,h,q _ H #[y,Z,c] W .refl]
def kK{Q:VK}{P:Hp->V->Prop}(W:Wd H0 H p wl ys)(q:∀v h,P h v->Wd H0 h p wl ys->Fw p H h->Q v h)(n:H r=θ)(x:ai H (ah H r o)->ah H r o r=δ o->P (ah H r o) (.ref r)):Q (.ref r) (ah H r o):=
 q _ _ (x (ae.tm$ je n) jc) (W.same$ je n) (.new n)
abbrev wO(n:Int):TE:=dS aY [] E0 (al (a8 0)$ al (tC$ .int n) aQ)
def PK(n:Int)(_:Hp)(v:V):Prop:=∃d:Int,v= .int d/\0<=d/\d < n
def kX(e:σ[0]?=δ (↑p))(h:1<=n)(c:n<=1000):Ev H0 p wl ys Hb σ (wO n) (PK n):=λH Q m W q=>
 #[_,e,p,n,Z,W.B,LA,LA,λd f D a b E=>q _ _ #[d,Z,D,a] (W.but b$ aB.of_eq E) (.but W.B$ aB.of_eq E)]
def kL(h:Ev H0 p wl ys Hb σ t (PK n))(g:n<=1000000000000000000):Ev H0 p wl ys Hb σ (bV$ al (tC$ .str "num")$ al t aQ) (PT ys 0):=λH Q m W q=>
 h H _ m W λv i #[d,e,D,j] a b=>#[bN,λr N=>kK (P:=PT ys 0) a (λV c x f k=>q V c x f (b.trans k)) N λ_ z=>#[r,Z,D6 (by rw[z,e]) D LA]]
def QR(h:0<=n)(a:n < m):Ev H0 p wl ys Hb σ (tC$ .int n) (PK m):=λH Q _ W q=>q _ H #[n,Z,h,a] W .refl
def QU(h:Ev H0 p wl ys Hb σ t (PK n))(c:0<=m):Ev H0 p wl ys Hb σ (dU (wN λi j=>qs (i+j)) (tC$ .int m) t) (PK$ m+n):=λH Q M W q=>
 h H _ M W λv a #[d,e,D,f] b k=>#[m,d,Z,e,q _ a #[m+d,Z,LA,LA] b k]
def Kc(h:Ev H0 p wl ys Hb σ t (PN ys)):Ev H0 p wl ys Hb σ (bV$ al (tC$ .str "var")$ al t aQ) (PT ys 0):=λH Q m W q=>
 h H _ m W λv i #[d,e,a] b c=>#[bN,λr n=>kK (P:=PT ys 0) b (λV f x g k=>q V f x g (c.trans k)) n λ_ z=>#[r,Z,ww (by rw[z,e]) a]]
def qc{n:Nat}(h:Ev H0 p wl ys Hb σ T PG)(f:Ev H0 p wl ys Hb σ g (PT ys j))(i:Ev H0 p wl ys Hb σ l (PT ys k))(o:j < n)(u:k < n):Ev H0 p wl ys Hb σ (bV$ al (tC$ .str "op")$ al T$ al g$ al l aQ) (PT ys n):=λH Q m W q=>
 h H _ m W λM v #[s,E,X] y c=>f v _ (m.trans c) y λO A #[a,B,C] D d=>i A _ ((m.trans c).trans d) D λR S #[b,F,G] I e=>#[sd,λr N=>kK (P:=PT ys n) I (λV J x L k=>q V J x L (((c.trans d).trans e).trans k)) N λt z=>
  #[r,Z,Bp (by rw[z,E,B,F]) X ((C.mono e.t).mono t) (G.mono t) o u]]
def EV(e:σ[0]?=δ (↑p)):Ev H0 p wl ys Hb σ (dU yG (tC$ .str "<=*")$ wO 3) PG:=λH Q m W q=>
 kX e LB LB H _ m W λv h #[d,E,D,a] b k=>by let⟨g,i,x⟩:=yA D a;exact#["<=*",d,g,Z,E,Ly,i,q _ h #[_,Z,x] b k]
def Y9{K:Ψ}(e:σ[0]?=δ (↑p))(r:Ev H0 p wl ys Hb σ T (PT ys k))(s:Ev H0 p wl ys Hb σ u (PT ys k)):Ev H0 p wl ys Hb σ (dU (iW K) (nj$ al T$ al u aQ)$ wO 2) (PT ys k):=λH Q m W q=>
 r H _ m W λV y #[a,E,X] z c=>s y _ (m.trans c) z λA C #[b,D,F] h f=>#[bN,λl n=>kX e LB LB _ _ (((m.trans c).trans f).trans$ .new n) (h.same$ je n) λv G #[d,I,J,L] M j=>by
  let⟨g,i,x⟩:=FG (P:=gG C ys k) J L (X.mono f.t) F;rw[<- E,<- D]at i;let t:=(Fw.new (p:=p) (o:=HO.lst [V,A]) n).trans j;exact#[l,_,d,_,Z,I,aI.of$ j.b _ _ (h.B.ne n) jc,i,q _ G #[g,Z,x.mono t.t] M ((c.trans f).trans t)]]
def AH{K:Ψ}(e:σ[0]?=δ (↑p))(u:Ev H0 p wl ys Hb σ T (PT ys k))(y:Ev H0 p wl ys Hb σ z (PT ys k))(A:Ev H0 p wl ys Hb σ C (PT ys k)):Ev H0 p wl ys Hb σ (dU (iW K) (nj$ al T$ al z$ al C aQ)$ wO 3) (PT ys k):=λH Q m W q=>
 u H _ m W λV D #[a,E,X] F f=>y D _ (m.trans f) F λG I #[b,J,L] M h=>A I _ ((m.trans f).trans h) M λN O #[c,R,S] r j=>#[gE,λl n=>kX e LB LB _ _ ((((m.trans f).trans h).trans j).trans$ .new n) (r.same$ je n) λv U #[d,Y,d0,d1] W4 s=>by
  let⟨g,i,x⟩:=FH (P:=gG O ys k) d0 d1 (X.mono (h.trans j).t) (L.mono j.t) S;rw[<- E,<- J,<- R]at i;let t:=(Fw.new (p:=p) (o:=HO.lst [V,G,N]) n).trans s;exact#[l,_,d,_,Z,Y,aI.of$ s.b _ _ (r.B.ne n) jc,i,q _ U #[g,Z,x.mono t.t] W4 (((f.trans h).trans j).trans t)]]
def ET{K:Ψ}(e:σ[0]?=δ (↑p))(r:1<=n)(s:n<=1000)(u:Ev H0 p wl ys Hb σ T (PT ys k))(y:Ev H0 p wl ys Hb σ z (PT ys k)):Ev H0 p wl ys Hb σ (dU (iW K) (nj$ al T$ al z aQ)$ Hy (λX H Q=>(∃i,X=[qs i]/\Q (qs i) H)∨∃k,X=[V.bl k]/\Q (qs (if k=μ then 1 else 0)) H)$ al (dU FM (wO n)$ tC$ .int 0) aQ) (PT ys k):=λH Q m W q=>
 u H _ m W λA C #[a,E,D] F c=>y C _ (m.trans c) F λG I #[b,J,L] h f=>#[bN,λl N=>kX e r s _ _ (((m.trans c).trans f).trans$ .new N) (h.same$ je N) λv M #[d,O,S,U] R j=>by
  subst O;erw[#[Z,.inr #[_,Z,?_]]];let⟨g,i,x⟩:=FJ (P:=gG I ys k) (D.mono f.t) L _;rw[<- E,<- J]at i;let t:=(Fw.new (p:=p) (o:=HO.lst [A,G]) N).trans j;exact#[l,_,_,_,Z,Z,aI.of$ j.b _ _ (h.B.ne N) jc,i,q _ M #[g,Z,x.mono t.t] R ((c.trans f).trans t)]]
def Kd(e:σ[0]?=δ (↑p))(h:Ev H0 p wl ys Hb σ T (PT ys k))(g:Ev H0 p wl ys Hb σ i (PT ys k)):Ev H0 p wl ys Hb σ (dS mW [] E0$ al (a8 0)$ al T$ al i aQ) (PT ys$ k+1):=λH Q m W q=>
 #[_,e,h H _ m W λv j #[a,E,x] l d=>g j _ (m.trans d) l λV y #[b,n,X] c f=>#[p,a,b,ys,k,by rw[E,n];rfl,c.B,x.mono f.t,X,λr o s u C=>q _ o #[r,Z,s] (c.but u C) ((d.trans f).trans$ .but c.B C)]]
def xG{w:ρ}{T a:TE}{A B R:Hp->V->Prop}(M:oA A)(d:oA B)(e:Ev H0 p wl ys Hb σ T A)(f:Ev H0 p wl ys Hb σ a B)(h:∀H r u v,H r=δ (.tup [.str w,u,v])->A H u->B H v->R H (.ref r)):Ev H0 p wl ys Hb σ (bV$ al (tC$ .str w)$ al T$ al a aQ) R:=λH Q m W q=>
 e H _ m W λC g X i b=>f g _ (m.trans b) i λD E j l c=>#[gE,λr n=>kK (P:=R) l (λo s x y k=>q o s x y ((b.trans c).trans k)) n λt z=>h _ _ _ _ z (M _ _ _ t$ M _ _ _ c.t X) (d _ _ _ t j)]
def Ic{w:ρ}{T:TE}{A R:Hp->V->Prop}(M:oA A)(a:Ev H0 p wl ys Hb σ T A)(h:∀H r u,H r=δ (.tup [.str w,u])->A H u->R H (.ref r)):Ev H0 p wl ys Hb σ (bV$ al (tC$ .str w)$ al T aQ) R:=λH Q m W q=>
 a H _ m W λf g X b c=>#[bN,λr n=>kK (P:=R) b (λv d x e k=>q v d x e (c.trans k)) n λt z=>h _ _ _ z (M _ _ _ t X)]
def EQ{w:ρ}{T d e:TE}{A B C R:Hp->V->Prop}(M:oA A)(f:oA B)(g:oA C)(i:Ev H0 p wl ys Hb σ T A)(j:Ev H0 p wl ys Hb σ d B)(l:Ev H0 p wl ys Hb σ e C)(h:∀H r u v x,H r=δ (.tup [.str w,u,v,x])->A H u->B H v->C H x->R H (.ref r)):Ev H0 p wl ys Hb σ (bV$ al (tC$ .str w)$ al T$ al d$ al e aQ) R:=λH Q m W q=>
 i H _ m W λL n X o a=>j n _ (m.trans a) o λO s y D b=>l s _ ((m.trans a).trans b) D λS U E F c=>#[sd,λr N=>kK (P:=R) F (λG I x J k=>q G I x J (((a.trans b).trans c).trans k)) N λt z=>h _ _ _ _ _ z (M _ _ _ t$ M _ _ _ (b.trans c).t X) (f _ _ _ t$ f _ _ _ c.t y) (g _ _ _ t E)]
def CC:oA (PN ys):=λ_ _ _ _ h=>h
def Ke{t T:TE}{k:Nat}(h:Ev H0 p wl ys Hb σ t (PN ys))(b:Ev H0 p wl ys Hb σ T (PT ys k))(c:k < 6):Ev H0 p wl ys Hb σ (bV$ al (tC$ .str "read")$ al t$ al T aQ) (λH v=>cj Cf H ys 0 v):=xG CC ar h b λH r u v z #[x,e,d] #[a,E,f]=>Go (by rw[z,e,E]) d f c
def JG{t T:TE}{k:Nat}(h:Ev H0 p wl ys Hb σ t (PN ys))(b:Ev H0 p wl ys Hb σ T (PT ys k))(c:k < 6):Ev H0 p wl ys Hb σ (bV$ al (tC$ .str "set")$ al t$ al T aQ) (λH v=>cj Cf H ys 0 v):=xG CC ar h b λH r u v z #[x,e,d] #[a,E,f]=>Gp (by rw[z,e,E]) d f c
def Kf{t T:TE}{j k:Nat}(h:Ev H0 p wl ys Hb σ t (PT ys j))(b:Ev H0 p wl ys Hb σ T (PT ys k))(c:j < 6)(d:k < 6):Ev H0 p wl ys Hb σ (bV$ al (tC$ .str "write")$ al t$ al T aQ) (λH v=>cj Cf H ys 0 v):=xG ar ar h b λH r u v z #[x,e,f] #[a,E,g]=>Gr (by rw[z,e,E]) f g c d
def Xn{t:TE}{k:Nat}(h:Ev H0 p wl ys Hb σ t (PT ys k))(b:k < 6):Ev H0 p wl ys Hb σ (bV$ al (tC$ .str "give")$ al t aQ) (λH v=>cj Cf H ys 0 v):=Ic ar h λH r v z #[a,e,c]=>Gm (by rw[z,e]) c b
def sZ{n o T c:TE}{j k:Nat}(C:Ev H0 p wl ys Hb σ n (PN ys)){f:ρ}(D:Ev H0 p wl ys Hb σ o (wZ f))(d:(f,2)∈Cf)(F:Ev H0 p wl ys Hb σ T (PT ys j))(G:Ev H0 p wl ys Hb σ c (PT ys k))(I:j < 6)(J:k < 6):Ev H0 p wl ys Hb σ (bV$ al (tC$ .str "call")$ al n$ al o$ al (bV$ al T$ al c aQ) aQ) (λH v=>cj Cf H ys 0 v):=by
 let' R:Hp->V->Prop:=λH v=>∃q a b,v= .ref q/\H q=δ (.tup [.ref a,.ref b])/\gG H ys j a/\gG H ys k b
 let M:oA R:=λ_ _ _ m #[q,a,b,e,g,L,i]=>#[q,a,b,e,m _ _ g,L.mono m,i.mono m];let N:Ev H0 p wl ys Hb σ (bV$ al T$ al c aQ) R:=λH Q m W q=>
  F H _ m W λv2 O #[a,E,X] S s=>G O _ (m.trans s) S λv3 H3 #[b,l,U] Y A=>#[bN,λr nr=>kK (P:=R) Y (λv' H' x W' k=>q v' H' x W' ((s.trans A).trans k)) nr λt z=>#[r,a,b,Z,by rw[z,E,l],(X.mono A.t).mono t,U.mono t]]
 rwa[EQ CC (B:=wZ f) (λ_ _ _ _ h=>h) M C D N λH r u v x z #[y,e1,g] (E:v= .str f) #[q,a,b,l,i,h4,h5]=>Gk (f:=f) (by rw[z,e1,E,l]) g d i h4 h5 I J]
def AG{t T b:TE}{k n m:Nat}(h:Ev H0 p wl ys Hb σ t (PT ys k))(c:Ev H0 p wl ys Hb σ T (PB Cf ys 0 n))(d:Ev H0 p wl ys Hb σ b (PB Cf ys 0 m))(e:k < 6)(s:n+m<=20):Ev H0 p wl ys Hb σ (bV$ al (tC$ .str "if")$ al t$ al T$ al b aQ) (λH v=>cj Cf H ys 1 v):=
 EQ ar dP dP h c d λH r u v x z #[a,E,f] #[Q,X,g,i,j,y] #[A,B,l,o,q,C]=>Gn (by rw[z,E,g,l]) f i o j q LA e
def AQ{t T:TE}{k n:Nat}(h:Ev H0 p wl ys Hb σ t (PT ys k))(b:Ev H0 p wl ys Hb σ T (PB Cf ys 0 n))(c:k < 6)(i:n<=20):Ev H0 p wl ys Hb σ (bV$ al (tC$ .str "while")$ al t$ al T aQ) (λH v=>cj Cf H ys 1 v):=
 xG ar dP h b λH r u v z #[a,e,d] #[q,x,E,f,g,j]=>vY (by rw[z,e,E]) d f g LA c
def AF{d:Nat}:Ev H0 p wl ys Hb σ (bV aQ) (PB Cf ys d 0):=λH Q m W q=>#[ms,λr n=>kK (P:=PB Cf ys d 0) W q n λt z=>#[r,[],Z,z,Kr,Mj 0]]
def Kg(h:Ev H0 p wl ys Hb σ T (λH v=>cj Cf H ys d v)):Ev H0 p wl ys Hb σ (bV$ al T aQ) (PB Cf ys d 1):=λH Q m W q=>
 h H _ m W λf g X a b=>#[io,λr n=>kK (P:=PB Cf ys d 1) a (λV c x e k=>q V c x e (b.trans k)) n λt z=>#[r,_,Z,z,zu$ X.mono t,Mj 1]]
def Za(h:Ev H0 p wl ys Hb σ T (λH v=>cj Cf H ys d v))(c:Ev H0 p wl ys Hb σ e (λH v=>cj Cf H ys d v)):Ev H0 p wl ys Hb σ (bV$ al T$ al e aQ) (PB Cf ys d 2):=λH Q m W q=>
 h H _ m W λs f X g a=>c f _ (m.trans a) g λu y i j b=>#[bN,λr n=>kK (P:=PB Cf ys d 2) j (λV l x o k=>q V l x o ((a.trans b).trans k)) n λt z=>#[r,_,Z,z,jZ ((X.mono b.t).mono t)$ zu$ i.mono t,Mj 2]]
def ER(h:Ev H0 p wl ys Hb σ T (λH v=>cj Cf H ys d v))(e:Ev H0 p wl ys Hb σ f (λH v=>cj Cf H ys d v))(g:Ev H0 p wl ys Hb σ i (λH v=>cj Cf H ys d v)):Ev H0 p wl ys Hb σ (bV$ al T$ al f$ al i aQ) (PB Cf ys d 3):=λH Q m W q=>
 h H _ m W λC j X l a=>e j _ (m.trans a) l λD n o s b=>g n _ ((m.trans a).trans b) s λE F u y c=>#[gE,λr N=>kK (P:=PB Cf ys d 3) y (λV A x B k=>q V A x B (((a.trans b).trans c).trans k)) N λt z=>#[r,_,Z,z,jZ ((X.mono (b.trans c).t).mono t)$ jZ ((o.mono c.t).mono t)$ zu$ u.mono t,Mj 3]]
def qQ(h:Ev H0 p wl ys Hb σ T (PB Cf ys d n))(e:Ev H0 p wl ys Hb σ f (PB Cf ys d m))(B:n+m<=100):Ev H0 p wl ys Hb σ (dU uQ T f) (PB Cf ys d$ n+m):=λH Q M W q=>
 h H _ M W λV g #[a,x,E,i,X,L] j c=>e g _ (M.trans c) j λC D #[b,z,l,o,u,F] v k=>#[a,b,x,z,E,l,k.t _ _ i,o,Mw (show ο x+ο z<=100 by omega) LB,λr y A s=>q _ y #[r,_,Z,A,Jv ((X.mono k.t).mono$ ae.tm s)$ u.mono$ ae.tm s,by rw[Ml];omega] (v.same s) ((c.trans k).trans$ .same s)]
def Qt(e:σ[i]?=δ (δ$ .str x)):Ev H0 p wl ys Hb σ (a8 i) (wZ x):=jM e (λ_ _ _ _ h=>h) Z
def Zb(h:Ev H0 p wl ys Hb σ T (wZ f))(g:Ev H0 p wl ys Hb σ i (PP m))(j:Ev H0 p wl ys Hb σ l (PB Cf ys 1 n))(O:n<=100)(o:ys.length<=20):Ev H0 p wl ys Hb σ (bV$ al T$ al i$ al l aQ) (PD Cf m f):=λH Q M W q=>
 h H _ M W λv s (E:v= .str f) u c=>g s _ (M.trans c) u λR y #[a,S,A,B,L] C d=>j y _ ((M.trans c).trans d) C λU Y #[b,xs,D,F,X,l4] G e=>#[gE,λr N=>kK (P:=PD Cf m f) G (λV I x J k=>q V I x J (((c.trans d).trans e).trans k)) N λt z=>
  #[r,Z,EO (f:=f) (by rw[z,E,A,D]) (t _ _$ e.t _ _ B) L (t _ _ F) (X.mono t) LA o]]
def AM(h:Ev H0 p wl ys Hb σ T (PN ys)):Ev H0 p wl ys Hb σ (bV$ al T aQ) (PP 1):=λH Q m W q=>
 h H _ m W λV f #[X,e,_] a b=>#[io,λr n=>kK (P:=PP 1) a (λv c x d k=>q v c x d (b.trans k)) n λt z=>#[r,[X],Z,by rw[z,e];rfl,Z]]
def AN(h:Ev H0 p wl ys Hb σ T (PN ys))(b:Ev H0 p wl ys Hb σ c (PN ys)):Ev H0 p wl ys Hb σ (bV$ al T$ al c aQ) (PP 2):=λH Q m W q=>
 h H _ m W λV d #[X,e,_] f a=>b d _ (m.trans a) f λs u #[g,E,_] i j=>#[bN,λr n=>kK (P:=PP 2) i (λv l x o k=>q v l x o ((a.trans j).trans k)) n λt z=>#[r,[X,g],Z,by rw[z,e,E];rfl,Z]]
def cj.lift(h:cj Cf H ys 0 v):cj Cf H ys 1 v:=h.up
def PB.lift(h:PB Cf ys 0 n H v):PB Cf ys 1 n H v:=let #[a,x,e,c,#[b,B,d,g,i],f]:=h;#[a,x,e,c,#[b,B,d,LA,LA],f]
def PB.more(h:PB Cf ys d n H v)(k:n<=m):PB Cf ys d m H v:=by let⟨a,x,e,b,c,f⟩:=h;rwa[#[a,x,e,b,c,Mw f k]]
def qX{a b:TS}(W:Wd H0 H p wl ys)(e:σ[0]?=δ (↑p))(g:1<=n)(i:n<=1000)(j:∀h,Wd H0 h p wl ys->Fw p H h->a D σ h)(l:∀h,Wd H0 h p wl ys->Fw p H h->b D σ h):iX (lv$ dU FM (wO n)$ tC$ .int 0) a b D σ H:=
 kX (Hb:=H) e g i H _ .refl W λv c #[d,E,m,o] f k=>by subst E;exact#[Z,_,Z,bP (λ_=>j c f k) (λ_=>l c f k)]
def jU{D:a9}{P:Hp->V->Prop}(W:Wd H0 H p wl ys)(h:Ev H0 p wl ys H σ t P)(q:∀v a,P a v->Wd H0 a p wl ys->Fw p H a->D.nx (σ.set i$ δ v) a):dZ t (bo i) D σ H:=h H _ .refl W q
def QV{D:a9}{P:Hp->V->Prop}(W:Wd H0 H p wl ys)(h:Ev H0 p wl ys H σ t P)(q:∀v a,P a v->Wd H0 a p wl ys->D.rt v a):gF t D σ H:=h H _ .refl W λv a x b _=>q v a x b
def y6{K:Ψ}{D:a9}(W:Wd H0 H p wl ys)(d:Ev H0 p wl ys H σ T (PT ys 0))(e:Ev H0 p wl ys H σ f (PT ys 0))(g:Ev H0 p wl ys H σ l (PT ys 0))
  (q:∀u v w h,PT ys 0 h u->PT ys 0 h v->PT ys 0 h w->Wd H0 h p wl ys->Fw p H h->D.nx (((σ.set k$ δ w).set j$ δ v).set i$ δ u) h):Bl K (bV$ al T$ al f$ al l aQ) i j k D σ H:=
 d H _ .refl W λV m x o a=>e m _ a o λs y X z b=>g y _ (a.trans b) z λA E B C c=>#[gE,λr n=>#[r,_,_,_,Z,aD.of jc,q V s A _ (ar _ _ _ (ae.tm$ je n)$ ar _ _ _ (b.trans c).t x) (ar _ _ _ (ae.tm$ je n)$ ar _ _ _ c.t X) (ar _ _ _ (ae.tm$ je n) B) (C.same$ je n) (((a.trans b).trans c).trans$ .new n)]]
structure Ow(H0 H:Hp)(p wl l:ζ)(xs:ri V):Prop where
 hl:H l=δ (.lst xs)
 np:l≠p
 lw:l≠wl
 l0:H0 l=θ
def Ow.fw(o:Ow H0 H p wl l x)(k:Fw p H h):Ow H0 h p wl l x:=#[k.b _ _ o.np o.hl,o.np,o.lw,o.l0]
def Ow.new(W:Wd H0 H p wl ys)(n:H l=θ):Ow H0 (ah H l$ .lst x) p wl l x:=#[jc,W.B.ne n,(λe=>by let z:=W.w;rw[<- e,n]at z;cases z),W.K.none W.B n]
def FE{D:a9}(W:Wd H0 H p wl ys)(b:Ev H0 p wl ys H σ t (λH v=>cj Cf H ys 0 v))(q:∀l v h,Ow H0 h p wl l [v]->cj Cf h ys 0 v->Wd H0 h p wl ys->Fw p H h->D.nx (σ.set i$ ↑l) h):dZ (nj$ al t aQ) (bo i) D σ H:=
 b H _ .refl W λV c x a k=>#[io,λl n=>q l V _ (.new a n) (x.mono$ ae.tm$ je n) (a.same$ je n) (k.trans$ .new n)]
def FF{D:a9}(W:Wd H0 H p wl ys)(c:Ev H0 p wl ys H σ T (λH v=>cj Cf H ys 0 v))(d:Ev H0 p wl ys H σ e (λH v=>cj Cf H ys 0 v))(q:∀l u v h,Ow H0 h p wl l [u,v]->cj Cf h ys 0 u->cj Cf h ys 0 v->Wd H0 h p wl ys->Fw p H h->D.nx (σ.set i$ ↑l) h):dZ (nj$ al T$ al e aQ) (bo i) D σ H:=
 c H _ .refl W λV f x g k=>d f _ k g λj m X a b=>#[bN,λl n=>q l V j _ (.new a n) ((x.mono b.t).mono$ ae.tm$ je n) (X.mono$ ae.tm$ je n) (a.same$ je n) ((k.trans b).trans$ .new n)]
def Jw{K:Ψ}{D:a9}(W:Wd H0 H p wl ys)(a:σ[i]?=δ (↑l))(o:Ow H0 H p wl l xs)(b:ο xs<=100)(c:Ev H0 p wl ys H σ T (λH v=>cj Cf H ys 0 v))
  (q:∀v h,cj Cf h ys 0 v->Ow H0 h p wl l (xs++[v])->Wd H0 h p wl ys->ai H h->D.nx σ h):pG (Iz K "list" lI (a8 i)$ al T aQ) D σ H:=
 #[_,a,.inl #[Z,_,aI.of o.hl],c H _ .refl W λv e x d k=>#[l,xs,v,Z,Z,(o.fw k).hl,NN b LB,q v _ (x.mono$ QT (o.fw k).hl) #[jc,o.np,o.lw,o.l0] (d.own (xs:=xs) o.l0 o.np o.lw) (k.t.trans$ QT (o.fw k).hl)]]
def Ag{K:Ψ}{D:a9}(W:Wd H0 H p wl ys)(h:σ[i]?=δ (↑l))(o:Ow H0 H p wl l (u::v::z))
  (q:∀a,Ow H0 a p wl l (v::u::z)->Wd H0 a p wl ys->ai H a->D.nx σ a):dZ (bV$ al (dU (iW K) (a8 i)$ tC$ .int 1)$ al (dU (iW K) (a8 i)$ tC$ .int 0) aQ) (p8 K 2$ dB (BZ (a8 i) (tC$ .int 0) oK)$ dB (BZ (a8 i) (tC$ .int 1) oK) tH) D σ H:=
 #[_,h,l,_,_,_,Z,Z,aI.of o.hl,mq,_,h,l,_,_,_,Z,Z,aI.of o.hl,gM,bN,λt N=>#[t,_,Z,aD.of jc,Z,_,_,Z,_,h,l,_,0,0,Z,Z,am o.hl N,Le (n:=ο z+1),_,_,Z,_,h,l,_,1,1,Z,Z,jc,Lg (n:=z.length),Z,
  q _ #[jc,o.np,o.lw,o.l0] (((W.same$ je N).own (xs:=u::v::z) o.l0 o.np o.lw).own (xs:=u::v::z) o.l0 o.np o.lw) (((ae.tm$ je N).trans$ QT$ am o.hl N).trans$ QT jc)]]
def AO{K:Ψ}{n:Nat}(e:σ[i]?=δ (↑l))(o:Ow H0 Hb p wl l x)(h:gW Cf Hb ys 0 x)(a:ο x<=n):Ev H0 p wl ys Hb σ (Hy (kQ K)$ al (a8 i) aQ) (PB Cf ys 0 n):=λH Q m W q=>
 #[_,e,l,x,Z,.inl #[aI.of (o.fw m).hl,λr N=>kK (P:=PB Cf ys 0 n) W q N λt z=>#[r,x,Z,z,(h.mono m.t).mono t,a]]]
def BN{D:a9}(W:Wd H0 H p wl ys)(u:σ[i]?=δ (↑l))(y:σ[j]?=δ (↑m))(o:Ow H0 H p wl l x)(O:Ow H0 H p wl m z)(C:ο x+ο z<=100)(E:gW Cf H ys 0 x)(F:gW Cf H ys 0 z)
  (G:Ev H0 p wl ys H σ T (λH v=>cj Cf H ys 0 v)) (I:Ev H0 p wl ys H σ J (λH v=>cj Cf H ys 0 v)) (q:∀r U h,Ow H0 h p wl r U->gW Cf h ys 0 U->ο U<=ο x+ο z+2->Wd H0 h p wl ys->Fw p H h->D.nx (σ.set i$ ↑r) h):
  dZ (dU yE (dU yE (a8 i)$ a8 j)$ nj$ al T$ al J aQ) (bo i) D σ H:=
 #[_,u,_,y,l,m,_,_,Z,Z,o.hl,O.hl,Mw C LB,λc n=>G _ _ (.new n) (W.same$ je n) λV L X M k=>I L _ ((Fw.new n).trans k) M λe R Q A s=>#[bN,λd N=>#[c,d,_,_,Z,Z,am ((k.trans s).b _ _ (W.B.ne n) jc) N,jc,by
  let:=aH;show(x++z).length+2<=υ;rw[Ml];omega,λr a=>q r _ _ (.new (A.same$ je N) a) (by
   let f:=(((Fw.new n).trans k).trans s).trans ((Fw.new (p:=p) (o:=HO.lst [V,e]) N).trans$ Fw.new (o:=HO.lst ((x++z)++[V,e])) a);let g:=(Fw.new (p:=p) (o:=HO.lst [V,e]) N).trans (Fw.new (o:=HO.lst ((x++z)++[V,e])) a);rwa[Jv (Jv (E.mono f.t)$ F.mono f.t)$ jZ ((X.mono s.t).mono g.t)$ zu$ Q.mono g.t]) (by rw[Ml,Ml];rwa[Mj _]) ((A.same$ je N).same$ je a) ((((Fw.new n).trans k).trans s).trans ((Fw.new N).trans$ Fw.new a))]]]
def ZC{K:Ψ}{D:a9}(W:Wd H0 H p wl ys)(k:σ[3]?=δ (↑wl))(l:ο ys=6)
  (q:∀a b c d e g,PT ys 0 g a->PT ys 0 g b->PT ys 0 g c->PT ys 0 g d->PT ys 0 g e->Wd H0 g p wl ys->D.nx (((((σ.set 4$ δ a).set 5$ δ b).set 6$ δ c).set 7$ δ d).set 8$ δ e) g):
  dZ (v6 (AV K$ Hz (yH K) (a8 3) mh$ nk$ tC$ qs 5) 1 [] (bo 0) mf$ bV$ al (tC$ qr "var")$ al (a8 0) aQ) (Ie K 5$ dB (bo 4)$ dB (bo 5)$ dB (bo 6)$ dB (bo 7)$ dB (bo 8) tH) D σ H:=by
 let B:=aH;erw[#[_,k,_,Z,wl,_,Z,aI.of W.w,λs n=>?_]];let E:aP (ys.map qr) θ (δ 5)=(ys.take 5).map qr:=by rw[show(5:Int)=((5:Nat):Int) from Z,EH (by rw[Mi];omega),Pj]
 let t:ah H s (.lst$ aP (ys.map qr) θ$ δ 5) s=δ (.lst ((ys.take 5).map qr)):=by rw[E];rwa[jc]
 let S:=je (o:=HO.lst (aP (ys.map qr) θ$ δ 5)) n;generalize ah H s (.lst$ aP (ys.map qr) θ$ δ 5)=A at t S;erw[#[s,Z,#[_,aI.of t],?_]];erw[pP (K:=K) (a:=s) (xs:=(ys.take 5).map qr) (by rw[Mi,MT];omega) (λi j g=>ο j=i/\(∀v∈j,PT ys 0 g v)/\ae A g) #[Z,(λ_ h=>absurd h MU),ae.refl _] (λi j g h=>#[aI.of$ h.2.2 _ _ t,P5 h.1]) (λi x j g C h=>?_) (λj F h L N=>?_)]
 .let⟨y,l,rfl⟩:=dg.mp (MM C);exact#[_,Z,bN,λr u=>#[by rw[Ml,h.1];rfl,Jh (λa z=>ar _ _ _ (ae.tm$ je u) (h.2.1 a z)) #[r,Z,ww jc$ M' l],h.2.2.trans$ je u]]
 .let e:=h.1;rw[Mi,MT]at e;let⟨a,b,c,d,f,rfl⟩:=Ik (show ο j=5 by omega);let m:=ae.tm (je (o:=HO.lst [a,b,c,d,f]) N);exact#[L,_,Z,aI.of jc,Z,_,_,Z,_,_,Z,_,_,Z,_,_,Z,_,_,Z,Z,q a b c d f _ (ar _ _ _ m$ h.2.1 a Lz) (ar _ _ _ m$ h.2.1 b Lz) (ar _ _ _ m$ h.2.1 c Lz) (ar _ _ _ m$ h.2.1 d Lz) (ar _ _ _ m$ h.2.1 f Lz) (((W.same S).same h.2.2).same$ je N)]
end
def Ir:ak z17z z17z (aa Iq):=bG
def Fv(F:rc K "_law_op" Iq f t)(C:‹1› T u z0z aY "_law_take"):⇑2 f t z17z mW:=by
 erw[F.ok Ir λv A O s H V Q E x h=>?_]
 let⟨p,a,b,y,k,rfl,B,z,D,q⟩:=h;erw[#[_,(jg$ jo$ jh$ ja jl$ ja (jr jq (jK$ ja jl$ ja jl$ ja jl$ ja jl jb) (C.e x.m$ ja (pv 0)$ ja jf jb) ∅)$ ja (pv 1)$ ja (pv 2) jb),?_]];erw[#[sd,λl n=>#[_,Z,p,4,Z,B.upd_new n,LB,LB,λd G I J L j=>?_]]];let⟨s,c,M⟩:=yB I J;let g:aB p H G:=((aB.refl).upd_new n).trans (aB.of_eq j);erw[#[l,_,_,_,Z,Z,aI.of (by rw[j l$ B.ne n];rwa[jc]),c,_,Z,_,Z,sd,λr N=>?_]];let S:=je (o:=HO.tup [.str "op",.str s,.ref a,.ref b]) N;rwa[q r _ (Bp jc M ((z.mono$ g.tm B).mono$ ae.tm S) ((D.mono$ g.tm B).mono$ ae.tm S) (NF _)$ NF _) (L.upd_new N)$ g.trans$ aB.of_same S]
def bQ:ak ["_law_box_here","_law_f","_law_g","_law_w","_law_x","_law_i","_law_y","_law_spot_here","_law_body_here","_law_deeper","_law_test","_law_early","_law_last"] z34z (aa oe):=bG
def ur(F:rc K "_law_inner" oe f fd)(I:‹1› fT c1 z0z aY "_law_take")(cO:‹2› fO c2 z17z mW "_law_op"):⇑3 f fd z34z (dm 2):=by
 erw[F.ok bQ λc3 A o1 s H vs Q E l h=>?_]
 let⟨p,T,f0,g,Y,rfl,B,hw,h2,q⟩:=h;erw[#[_,(jd (@yC _ _ _ _ _ _ _ _ (4) (5) (6) Z bQ.nd Z Z Z (ψ Z) (ψ Z) (ψ Z) (jh$ ja (jh$ ja jl$ ja (jr jq (pv 3) jf ∅) jb)$ ja (jh$ ja jl$ ja (jr jq (pv 3) jf ∅) jb)$ ja (jh$ ja jl$ ja (jr jq (pv 3) jf ∅) jb) jb) (by first |exact .inl Z |exact .inr Z) (by first |exact .inl Z |exact .inr Z) (by first |exact .inl Z |exact .inr Z) Lx Lx)$ jd (jx 7 bQ.nd$ jh$ ja jl$ ja jl$ ja (jr jq (jK$ ja (pv 4)$ ja (pv 5) jb) (I.e l.m$ ja (pv 0)$ ja jf jb) ∅)$ ja (jh$ ja jl$ ja (I.e l.m$ ja (pv 0)$ ja jf jb) jb) jb)$ jd (jx 8 bQ.nd$ jh$ ja (jh$ ja jl$ ja (jr jq (pv 3) jf ∅)$ ja (pv 7) jb) jb)$ jd (j6$ jw (za$ I.e l.m$ ja (pv 0)$ ja jf jb) (jd (jx 7 bQ.nd$ jh$ ja jl$ ja jl$ ja (pv 5)$ ja (jh$ ja jl$ ja (ju jW jf$ I.e l.m$ ja (pv 0)$ ja jf jb) jb) jb)$ jg$ jx 8 bQ.nd$ ju j5 (pv 8)$ jh$ ja (jh$ ja jl$ ja (pv 7)$ ja (cO.e l.m$ ja (pv 0)$ ja (pv 4)$ ja (pv 6) jb) jb) jb) jp)$ jd (j6$ jw (za$ I.e l.m$ ja (pv 0)$ ja jf jb) (jd (jx 9 bQ.nd$ jh$ ja jl$ ja (jr jq (pv 3) jf ∅)$ ja (pv 2)$ ja (jh$ ja (jh$ ja jl$ ja jl$ ja (pv 5)$ ja (jh$ ja jl$ ja jf jb) jb)$ ja (pv 6) jb) jb)$ jg$ jx 8 bQ.nd$ ju j5 (pv 8)$ jh$ ja (jh$ ja jl$ ja (pv 5)$ ja (jh$ ja (pv 9) jb)$ ja (jh jb) jb) jb) jp)$ jd (jx 10 bQ.nd$ jh$ ja jl$ ja (jr Kj jl (I.e l.m$ ja (pv 0)$ ja jf jb) ∅)$ ja (pv 6)$ ja (jh$ ja jl$ ja (I.e l.m$ ja (pv 0)$ ja jf jb) jb) jb)$ jd (jx 11 bQ.nd$ jh$ ja jl$ ja (cO.e l.m$ ja (pv 0)$ ja (pv 4)$ ja (pv 6) jb) jb)$ jd (jx 12 bQ.nd$ jh$ ja jl$ ja (cO.e l.m$ ja (pv 0)$ ja (pv 6)$ ja (pv 5) jb) jb)$ jd (jx 8 bQ.nd$ ju j5 (pv 8)$ jh$ ja (jh$ ja jl$ ja (pv 10)$ ja (jh$ ja (pv 11) jb)$ ja (jh jb) jb)$ ja (pv 12) jb)$ jg$ jo$ jh$ ja (pv 1)$ ja (jh$ ja (jr jq (pv 3) jf ∅)$ ja (jr jq (pv 3) jf ∅) jb)$ ja (pv 8) jb),?_]];let W0:Wd H H p T Y:=#[B,aB.refl,hw];erw[aj λF1 f1=>y6 W0 (Kc$ kS Z LB LA) (Kc$ kS Z LB LA) (Kc$ kS Z LB LA) λvx vi vy J xx X U W1 k1=>f1 _ _ ?_];erw[aj λF2 f2=>jU W1 (qc (n:=1) (qg zn) (Y9 Z (jM Z ar xx)$ jM Z ar X) (kL (kX Z LB LB) LB) LB LB) λv2 H2 x2 W2 k2=>f2 _ _ ?_];erw[aj λF3 f3=>jU W2 (Kg$ Ke (Cf:=[(g,2)]) (kS Z LB LA) (jM Z ar x2) LB) λv3 H3 x3 W3 k3=>f3 _ _ ?_];erw[aj λF4 f4=>dI (λL u=>∃(o:rm V) (b:V),L=[δ$ rb p,δ$ qr f0,δ$ qr g,δ$ rb T,δ$ vx,δ$ vi,δ$ vy,o,δ b,θ,θ,θ,θ]/\PB [(g,2)] Y 1 2 u b/\Wd H u p T Y/\ai H3 u) (λE4 _ f5=>qX W3 Z LB LB (λH6 W6 k6=>?_) (λH6 W6 k6=>?_)) λσ0 H5 h0=>?_]
 .clear f4;let C:ai J H6:=((k2.t.trans k3.t).trans k6.t);erw[aj λF7 f7=>jU W6 (qc (n:=1) (qg zn) (jM Z ar$ ar _ _ _ C X) (kL (QU (kX Z LB LB) LB) LB) LB LB) λv7 H7 x7 W7 k7=>f7 _ _ ?_];let D:ai H3 H7:=(k6.t.trans k7.t);let G:ai J H7:=(C.trans k7.t);erw[jU W7 (qQ (jM Z dP$ dP _ _ _ D x3) (Kg$ Kf (Cf:=[(g,2)]) (jM Z ar x7) (Kd Z (jM Z ar$ ar _ _ _ G xx)$ jM Z ar$ ar _ _ _ G U) LB LB) LB) λv8 H8 x8 W8 k8=>f5 _ _ ?_];let m0:ai H3 H8:=(D.trans k8.t);exact#[_,_,Z,(PB.lift x8),W8,m0]
 .clear f4;rwa[f5 _ _ #[_,_,Z,(PB.more (PB.lift$ dP _ _ _ k6.t x3) LB),W6,k6.t]]
 let⟨o5,b5,rfl,x5,W5,k5⟩:=h0;erw[f4 _ _ ?_];clear f4;erw[aj λF9 f9=>dI (λL u=>∃(o:rm V) (b:V),L=[δ$ rb p,δ$ qr f0,δ$ qr g,δ$ rb T,δ$ vx,δ$ vi,δ$ vy,o5,δ b,o,θ,θ,θ]/\PB [(g,2)] Y 1 3 u b/\Wd H u p T Y/\ai H5 u) (λE9 _ f6=>qX W5 Z LB LB (λH0 W k=>?_) (λH0 W k=>?_)) λσ1 H4 h1=>?_]
 .clear f9;let M:ai J H0:=(((k2.t.trans k3.t).trans k5).trans k.t);erw[aj λF0 f'=>jU W (sZ (Cf:=[(g,2)]) (kS Z LB LA) (Qt Z) Mz (qc (n:=1) (qg XJ) (jM Z ar$ ar _ _ _ M X) (kL (QR LB (LB:(1:Int) < 2)) LB) LB LB) (jM Z ar$ ar _ _ _ M U) LB LB) λv0 H9 x0 W4 k0=>f' _ _ ?_];let c:ai H5 H9:=(k.t.trans k0.t);let N:ai J H9:=(M.trans k0.t);erw[jU W4 (qQ (jM Z dP$ dP _ _ _ c x5) (Kg$ AG (jM Z ar$ ar _ _ _ N X) (Kg$ jM Z dY x0) (AF (Cf:=[(g,2)]) (d:=0)) LB LB) LB) λv1 a2 x1 W9 k9=>f6 _ _ ?_];let O:ai H5 a2:=(c.trans k9.t);exact#[_,_,Z,x1,W9,O]
 .clear f9;rwa[f6 _ _ #[_,_,Z,(PB.more (dP _ _ _ k.t x5) LB),W,k.t]]
 let⟨o2,c4,rfl,x4,a3,k'⟩:=h1;erw[f9 _ _ ?_];clear f9;let i:ai J H4:=(((k2.t.trans k3.t).trans k5).trans k');erw[aj λF5 a4=>jU a3 (qc (n:=1) (EV Z) (jM Z ar$ ar _ _ _ i U) (kL (kX Z LB LB) LB) LB LB) λv4 a0 x9 a' k4=>a4 _ _ ?_];let a:ai J a0:=(i.trans k4.t);erw[aj λF6 b0=>jU a' (Xn (Cf:=[(g,2)]) (Kd Z (jM Z ar$ ar _ _ _ a xx)$ jM Z ar$ ar _ _ _ a U) LB) λv5 b1 x' b2 R=>b0 _ _ ?_];let j:ai J b1:=(a.trans R.t);erw[aj λc5 b3=>jU b2 (Xn (Cf:=[(g,2)]) (Kd Z (jM Z ar$ ar _ _ _ j U)$ jM Z ar$ ar _ _ _ j X) LB) λv9 a1 b4 b7 S=>b3 _ _ ?_];let y:ai H4 a1:=((k4.t.trans R.t).trans S.t);let z:ai a0 a1:=(R.t.trans S.t);erw[aj λc6 b9=>jU b7 (qQ (jM Z dP$ dP _ _ _ y x4) (Za (AG (jM Z ar$ ar _ _ _ z x9) (Kg$ jM Z dY$ dY _ _ _ S.t x') (AF (Cf:=[(g,2)]) (d:=0)) LB LB)$ Ev.up (jM Z dY b4) λ_ _=>cj.lift) LB) λv' c7 b' c0 c8=>b9 _ _ ?_];erw[QV c0 (Zb (Qt Z) (AN (kS Z LB LA)$ kS Z LB LA) (jM Z dP b') LB LA) λv u x W'=>?_];let⟨r,rfl,x⟩:=x;rwa[q r u x W'.B W'.K]
def bn:ak z38z z19z (aa ie):=bG
def Ql:hJ:=#[.function,[(".0",.local),("_law_one",.local)],ν,ν,[]]
def YZ:(["_law_one"]:ri ρ).Nodup:=Ly
def Y0:bE z38z (aa ie) Ql ["_law_one"] 1 []:=sI
def rL(F:rc K "_law_looped" ie f fd)(C:‹1› fT d5 z0z aY "_law_take")(cO:‹2› fO d6 z17z mW "_law_op")(mi:mg "int"=θ)(m6:mg "tuple"=θ):⇑3 f fd z19z (dm 1):=by
 erw[F.ok bn λd7 A b2 s H vs Q E l h=>?_]
 let⟨p,W,f0,g,Y,rfl,B,hw,h2,q⟩:=h;erw[#[_,(jd (zg (@zi _ _ _ _ _ _ _ (["_law_one"]) (1) ([]) _ _ _ _ Z (qA$ jJ kB (pv 3) jV$ jH jf) Y0 (λ_ _ _ _ _=>(jy (i:=0) YZ Z$ ψ Z)) (λ_ _ _ _ _=>(@zI _)) (λ_ _ _ _ _=>(jh$ ja jl$ ja (pv 0) jb)) (by intro _;rfl))$ @Zo _ _ _ _ (5) _ Z (jC (jy (i:=4) bn.nd Z$ ψ Z)$ jC (jy (i:=5) bn.nd Z$ ψ Z)$ jC (jy (i:=6) bn.nd Z$ ψ Z)$ jC (jy (i:=7) bn.nd Z$ ψ Z)$ jC (jy (i:=8) bn.nd Z$ ψ Z) kN) Lx Lx)$ jd (jx 9 bn.nd$ jK$ ja (jh$ ja jl$ ja (jr jq (pv 3) jf ∅)$ ja (jh$ ja jl$ ja jl$ ja (pv 5)$ ja (jh$ ja jl$ ja (C.e l.m$ ja (pv 0)$ ja jf jb) jb) jb) jb) jb)$ jd (jQ$ kJ MF MQ MP jT (pv 9)$ ja (jh$ ja jl$ ja (jr jq (pv 3) jf ∅)$ ja (pv 2)$ ja (jh$ ja (pv 7)$ ja (jr jq (jK$ ja (pv 5)$ ja (pv 6) jb) (jF Jy Z mi Vm$ ja (Q0 qD (C.e l.m$ ja (pv 0)$ ja jf jb) jf$ aG _) jb) ∅) jb) jb) jb)$ jd (j6$ jw (za$ C.e l.m$ ja (pv 0)$ ja jf jb) (jd (jx 10 bn.nd$ jh$ ja jl$ ja jl$ ja (pv 5)$ ja (jh$ ja jl$ ja (ju jW jf$ C.e l.m$ ja (pv 0)$ ja jf jb) jb) jb)$ jg$ jQ$ kJ MF MQ MP jT (pv 9)$ ja (jh$ ja jl$ ja (pv 10)$ ja (jr jq (jK$ ja (pv 6)$ ja (pv 8)$ ja (pv 7) jb) (C.e l.m$ ja (pv 0)$ ja jf jb) ∅) jb) jb) jp)$ jd (jQ$ kJ MF MQ MP jT (pv 9)$ ja (jh$ ja jl$ ja (jr jq (pv 3) jf ∅)$ ja (cO.e l.m$ ja (pv 0)$ ja (jr jq (jK$ ja (pv 6)$ ja (pv 6)$ ja (pv 7) jb) (C.e l.m$ ja (pv 0)$ ja jf jb) ∅)$ ja (pv 8) jb) jb) jb)$ jd (j6$ jw (za$ C.e l.m$ ja (pv 0)$ ja jf jb) (jg$ zg (jh$ ja (jr jq (pv 9) jf ∅)$ ja (jr jq (pv 9) jf ∅) jb)$ zQ (n:=2) Z$ jC (qN (pv 9) jf zz)$ jC (qN (pv 9) jf zz) kN) jp)$ jd (jQ$ kJ MF MQ MP jT (pv 9)$ ja (jh$ ja jl$ ja (jr jq (pv 3) jf ∅)$ ja (jh$ ja jl$ ja jl$ ja (pv 5)$ ja (jh$ ja jl$ ja jf jb) jb) jb) jb)$ jd (jx 11 bn.nd$ jh$ ja (jh$ ja jl$ ja (jr jq (pv 3) jf ∅)$ ja (jh$ ja jl$ ja (C.e l.m$ ja (pv 0)$ ja jf jb) jb) jb)$ ja (jh$ ja jl$ ja (jr jq (pv 3) jf ∅)$ ja (jh$ ja jl$ ja (C.e l.m$ ja (pv 0)$ ja jf jb) jb) jb) jb)$ jd (j6$ jw (za$ C.e l.m$ ja (pv 0)$ ja jf jb) (jd (jx 11 bn.nd$ ju j5 (pv 11)$ jh$ ja (jh$ ja jl$ ja (jr jq (pv 3) jf ∅)$ ja (jh$ ja jl$ ja (ju jW jf$ C.e l.m$ ja (pv 0)$ ja jf jb) jb) jb) jb)$ jg$ jx 11 bn.nd$ ju j5 (pv 11)$ jh$ ja (jh$ ja jl$ ja (jr jq (pv 3) jf ∅)$ ja (jh$ ja jl$ ja jl$ ja (pv 4)$ ja (jh$ ja jl$ ja jf jb) jb) jb) jb) jp)$ jd (jx 12 bn.nd$ jh$ ja jl$ ja (jh$ ja jl$ ja jl$ ja (pv 5)$ ja (pv 4) jb)$ ja (jF jL Z m6 N0$ ja (pv 9) jb) jb)$ jg$ jo$ jh$ ja (pv 1)$ ja (jh$ ja (jr jq (pv 3) jf ∅) jb)$ ja (ju j5 (pv 11)$ jh$ ja (pv 12)$ ja (jh$ ja jl$ ja (jh$ ja jl$ ja jf jb)$ ja (pv 6) jb)$ ja (jh$ ja jl$ ja (pv 6) jb) jb) jb),?_]];let W0:Wd H H p W Y:=#[B,aB.refl,hw];erw[aj λF1 f1=>ZC W0 Z h2 λvn vi vs vx vy U xn xi xs xx xy W1=>f1 _ _ ?_];erw[aj λF2 f2=>FE W1 (Ke (Cf:=[(g,2)]) (kS Z LB LA) (qc (n:=1) (qg zn) (jM Z ar xi) (kL (kX Z LB LB) LB) LB LB) LB) λlb u2 H2 o2 x2 W2 k2=>f2 _ _ ?_];erw[aj λF3 f3=>Jw W2 Z o2 (show 1<=100 by decide) (sZ (Cf:=[(g,2)]) (kS Z LB LA) (Qt Z) Mz (jM Z ar$ ar _ _ _ k2.t xx) (ET Z LB LB (jM Z ar$ ar _ _ _ k2.t xi)$ jM Z ar$ ar _ _ _ k2.t xs) LB LB) λu3 H3 x3 o3 W3 k3=>f3 _ _ ?_];erw[aj λF4 f4=>dI (λu c=>∃(o:rm V) (G:ri V),u=[δ$ rb p,δ$ qr f0,δ$ qr g,δ$ rb W,δ$ vn,δ$ vi,δ$ vs,δ$ vx,δ$ vy,δ$ rb lb,o,θ,θ]/\Ow H c p W lb (u2::u3::G)/\gW [(g,2)] c Y 0 G/\G.length<=1/\Wd H c p W Y/\ai H3 c) (λE4 _ f5=>qX W3 Z LB LB (λH6 W6 k6=>?_) (λH6 W6 k6=>?_)) λσ2 H5 h3=>?_]
 .clear f4;let o6:=o3.fw k6;let R:ai U H6:=((k2.t.trans k3).trans k6.t);erw[aj λF7 f7=>jU W6 (qc (n:=1) (qg zn) (jM Z ar$ ar _ _ _ R xi) (kL (QU (kX Z LB LB) LB) LB) LB LB) λv7 H7 x7 W7 k7=>f7 _ _ ?_];let o7:=o6.fw k7;let y:ai U H7:=(R.trans k7.t);erw[Jw W7 Z o7 (show 2<=100 by decide) (Kf (Cf:=[(g,2)]) (jM Z ar x7) (AH Z (jM Z ar$ ar _ _ _ y xs) (jM Z ar$ ar _ _ _ y xy)$ jM Z ar$ ar _ _ _ y xx) LB LB) λu8 H8 x8 o8 W8 k8=>f5 _ _ ?_];let m5:ai H3 H8:=((k6.t.trans k7.t).trans k8);exact#[_,[u8],Z,o8,zu x8,Mj 1,W8,m5]
 .clear f4;let o6:=o3.fw k6;rwa[f5 _ _ #[_,[],Z,o6,Kr,LB,W6,k6.t]]
 let⟨w5,G,rfl,o5,zx,zl,W5,k5⟩:=h3;erw[f4 _ _ ?_];clear f4;let M:ai U H5:=((k2.t.trans k3).trans k5);erw[aj λF9 f9=>Jw W5 Z o5 (show ο G+1+1<=100 by omega) (JG (Cf:=[(g,2)]) (kS Z LB LA) (Kd Z (AH Z (jM Z ar$ ar _ _ _ M xs) (jM Z ar$ ar _ _ _ M xs)$ jM Z ar$ ar _ _ _ M xx)$ jM Z ar$ ar _ _ _ M xy) LB) λu9 H9 x9 o9 W9 k9=>f9 _ _ ?_];let zy:gW [(g,2)] H9 Y 0 (G++[u9]):=Jv (zx.mono k9) (zu x9);let zm:(G++[u9]).length<=2:=by rw[Ml];rwa[NM zl]
 erw[aj λF0 I=>dI (λu c=>∃(X:ri V),u=[δ$ rb p,δ$ qr f0,δ$ qr g,δ$ rb W,δ$ vn,δ$ vi,δ$ vs,δ$ vx,δ$ vy,δ$ rb lb,w5,θ,θ]/\Ow H c p W lb X/\gW [(g,2)] c Y 0 X/\ο X<=4/\Wd H c p W Y/\ai H9 c) (λE1 _ S=>qX W9 Z LB LB (λH0 W4 k=>?_) (λH0 W4 k=>?_)) λσ0 b3 h0=>?_]
 .clear I;let o1:=o9.fw k;erw[Ag W4 Z o1 λH4 b4 b5 k0=>S _ _ ?_];let m0:ai H3 H4:=(((k5.trans k9).trans k.t).trans k0);let m1:ai H2 H4:=((((k3.trans k5).trans k9).trans k.t).trans k0);let z:ai H9 H4:=(k.t.trans k0);exact#[_,Z,b4,jZ ((dY _ _ _ m0 x3))$ jZ ((dY _ _ _ m1 x2))$ zy.mono z,(show(G++[u9]).length+1+1<=4 by omega),b5,z]
 .clear I;let o1:=o9.fw k;let m2:ai H2 H0:=(((k3.trans k5).trans k9).trans k.t);let m3:ai H3 H0:=((k5.trans k9).trans k.t);rwa[S _ _ #[_,Z,o1,jZ ((dY _ _ _ m2 x2))$ jZ ((dY _ _ _ m3 x3))$ zy.mono k.t,(show(G++[u9]).length+1+1<=4 by omega),W4,k.t]]
 let⟨X,rfl,b7,ux,ul,b9,b'⟩:=h0;erw[I _ _ ?_];clear I;let d:ai U b3:=((M.trans k9).trans b');erw[aj λF5 f6=>Jw b9 Z b7 LA (JG (Cf:=[(g,2)]) (kS Z LB LA) (qc (n:=1) (qg zn) (jM Z ar$ ar _ _ _ d xi) (kL (QR LB (LB:(1:Int) < 2)) LB) LB LB) LB) λu0 a1 x1 c0 c1 k1=>f6 _ _ ?_];let b0:gW [(g,2)] a1 Y 0 (X++[u0]):=Jv (ux.mono k1) (zu x1);let bl:(X++[u0]).length<=5:=by rw[Ml];rwa[NM ul]
 erw[aj λF6 f'=>jU c1 (Za (JG (Cf:=[(g,2)]) (kS Z LB LA) (kL (kX Z LB LB) LB) LB)$ JG (Cf:=[(g,2)]) (kS Z LB LA) (kL (kX Z LB LB) LB) LB) λv0 a2 x0 c2 J=>f' _ _ ?_];let o':=c0.fw J;erw[aj λd8 L=>dI (λu c=>∃(b:V),u=[δ$ rb p,δ$ qr f0,δ$ qr g,δ$ rb W,δ$ vn,δ$ vi,δ$ vs,δ$ vx,δ$ vy,δ$ rb lb,w5,δ b,θ]/\Ow H c p W lb (X++[u0])/\PB [(g,2)] Y 0 4 c b/\Wd H c p W Y/\ai a2 c) (λE2 _ T=>qX c2 Z LB LB (λc3 a0 a=>?_) (λc3 a0 a=>?_)) λσ1 a3 h1=>?_]
 .clear L;let o4:=o'.fw a;erw[aj λd' c4=>jU a0 (qQ (jM Z dP$ dP _ _ _ a.t x0) (Kg$ Ke (Cf:=[(g,2)]) (kS Z LB LA) (kL (QU (kX Z LB LB) LB) LB) LB) LB) λv1 c5 x4 c6 k4=>c4 _ _ ?_];let c7:=o4.fw k4;let m4:ai U c5:=((((d.trans k1).trans J.t).trans a.t).trans k4.t);erw[jU c6 (qQ (jM Z dP x4) (Kg$ JG (Cf:=[(g,2)]) (kS Z LB LA) (qc (n:=1) (qg y8) (jM Z ar$ ar _ _ _ m4 xn) (kL (QR LB (LB:(2:Int) < 3)) LB) LB LB) LB) LB) λv2 c8 x5 c9 a4=>T _ _ ?_];let c':=c7.fw a4;let N:ai a2 c8:=((a.t.trans k4.t).trans a4.t);exact#[_,Z,c',x5,c9,N]
 .clear L;let o4:=o'.fw a;rwa[T _ _ #[_,Z,o4,(PB.more (dP _ _ _ a.t x0) LB),a0,a.t]]
 let⟨e0,rfl,a',x',d0,b1⟩:=h1;erw[L _ _ ?_];clear L;let j:ai U a3:=(((d.trans k1).trans J.t).trans b1);let O:ai a1 a3:=(J.t.trans b1);erw[aj λe1 d1=>jU d0 (AQ (qc (n:=1) (qg Q5) (jM Z ar$ ar _ _ _ j xi) (jM Z ar$ ar _ _ _ j xn) LB LB) (AO (n:=5) Z a' (b0.mono O) bl) LB LB) λv3 d2 d3 d4 k'=>d1 _ _ ?_];let e2:=a'.fw k';let D:ai U d2:=(j.trans k'.t);erw[QV d4 (Zb (Qt Z) (AM$ kS Z LB LA) (qQ (Ev.up (jM Z dP$ dP _ _ _ k'.t x') λ_ _=>PB.lift) (ER (jM Z dY d3) (Ev.up (Kf (Cf:=[(g,2)]) (kL (QR LB (LB:(30:Int) < 31)) LB) (jM Z ar$ ar _ _ _ D xs) LB LB) λ_ _=>cj.lift)$ Ev.up (Xn (Cf:=[(g,2)]) (jM Z ar$ ar _ _ _ D xs) LB) λ_ _=>cj.lift) LB) LB LA) λv c x W'=>?_];let⟨r,rfl,x⟩:=x;rwa[q r c x W'.B W'.K]
def HY(b:0<=d)(c:d < 2)(h:cj C H y 0 u)(a:cj C H y 0 v):gW C H y 0 (aP [u,v] θ$ δ (1+d))/\(aP [u,v] θ$ δ (1+d)).length<=2:=by
 rcases(LA:d=0∨d=1) with rfl |rfl
 .exact#[zu h,by show 1<=2;decide]
 .exact#[jZ h$ zu a,by show 2<=2;decide]
def P2(C:ip)(y:ri ρ)(H:Hp)(w:V):Prop:=∃a u v,w= .ref a/\H a=δ (.tup [u,v])/\cj C H y 0 u/\cj C H y 0 v
def A0:oA (P2 C y):=λ_ _ _ m #[a,u,v,e,h,H,b]=>#[a,u,v,e,m _ _ h,H.mono m,b.mono m]
section
variable {Cf:ip}{ys:ri ρ}{H0 Hb:Hp}{p wl:ζ}{σ:_L.St}
def BW(h:Ev H0 p wl ys Hb σ T (λH v=>cj Cf H ys 0 v))(c:Ev H0 p wl ys Hb σ d (λH v=>cj Cf H ys 0 v)):Ev H0 p wl ys Hb σ (bV$ al T$ al d aQ) (P2 Cf ys):=λH Q m W q=>
 h H _ m W λo e X f a=>c e _ (m.trans a) f λs u g i b=>#[bN,λr n=>kK (P:=P2 Cf ys) i (λV j x l k=>q V j x l ((a.trans b).trans k)) n λt z=>#[r,_,_,Z,z,(X.mono b.t).mono t,g.mono t]]
def BV(e:σ[i]?=δ (δ v))(E:σ[0]?=δ (↑p))(h:P2 Cf ys Hb v):Ev H0 p wl ys Hb σ (Hz Du (a8 i) mh$ nk$ dU (wN λi j=>qs (i+j)) (tC$ .int 1)$ wO 2) (PB Cf ys 0 2):=λH Q m W q=>
 #[v,e,kX E LB LB H _ m W λw y #[d,b,D,c] f k=>#[1,d,Z,b,_,Z,by
  let⟨a,u,A,rfl,g,l,n⟩:=A0 _ _ _ (m.trans k).t h;let z:=HY D c l n;exact#[a,_,Z,g,λr o x s=>q _ o #[r,_,Z,x,z.1.mono$ ae.tm s,z.2] (f.same s) (k.trans$ .same s)]]]
end
def aS:ak z39z z19z (aa gf):=bG
def K7:hJ:=#[.function,[(".0",.local),("_law_one",.local)],ν,ν,[]]
def Yc:(["_law_one"]:ri ρ).Nodup:=Ly
def Yd:bE z39z (aa gf) K7 ["_law_one"] 1 []:=sI
def Y1(F:rc K "_law_ticking" gf f fd)(C:‹1› fT b7 z0z aY "_law_take")(cO:‹2› fO b9 z17z mW "_law_op")(mi:mg "int"=θ)(m1:mg "tuple"=θ):⇑3 f fd z19z (dm 1):=by
 erw[F.ok aS λc0 A o5 s H vs Q E c h=>?_]
 let⟨p,W,f0,g,ys,rfl,B,hw,h1,q⟩:=h;erw[#[_,(jd (zg (@zi _ _ _ _ _ _ _ (["_law_one"]) (1) ([]) _ _ _ _ Z (qA$ jJ kB (pv 3) jV$ jH jf) Yd (λ_ _ _ _ _=>(jy (i:=0) Yc Z$ ψ Z)) (λ_ _ _ _ _=>(@zI _)) (λ_ _ _ _ _=>(jh$ ja jl$ ja (pv 0) jb)) (by intro _;rfl))$ @Zo _ _ _ _ (5) _ Z (jC (jy (i:=4) aS.nd Z$ ψ Z)$ jC (jy (i:=5) aS.nd Z$ ψ Z)$ jC (jy (i:=6) aS.nd Z$ ψ Z)$ jC (jy (i:=7) aS.nd Z$ ψ Z)$ jC (jy (i:=8) aS.nd Z$ ψ Z) kN) Lx Lx)$ jd (jx 9 aS.nd$ jh$ ja jl$ ja (ju jW jf$ C.e c.m$ ja (pv 0)$ ja jf jb) jb)$ jd (jx 10 aS.nd$ jK$ ja (jh$ ja jl$ ja (jr jq (pv 3) jf ∅)$ ja (pv 9) jb)$ ja (jh$ ja jl$ ja (jr jq (pv 3) jf ∅)$ ja (jr jq (jK$ ja (pv 5)$ ja (jh$ ja jl$ ja (C.e c.m$ ja (pv 0)$ ja jf jb) jb) jb) (C.e c.m$ ja (pv 0)$ ja jf jb) ∅) jb) jb)$ jd (jQ$ kJ MF MQ MP jT (pv 10)$ ja (jh$ ja jl$ ja (jr jq (pv 3) jf ∅)$ ja (pv 2)$ ja (jh$ ja (jr jq (jK$ ja (pv 7)$ ja (jh$ ja jl$ ja jf jb) jb) (C.e c.m$ ja (pv 0)$ ja jf jb) ∅)$ ja (jr jq (jK$ ja (pv 5)$ ja (jh$ ja jl$ ja jf jb) jb) (C.e c.m$ ja (pv 0)$ ja jf jb) ∅) jb) jb) jb)$ jd (j6$ jw (za$ C.e c.m$ ja (pv 0)$ ja jf jb) (jg$ jQ$ kJ MF MQ MP jT (pv 10)$ ja (jh$ ja jl$ ja (jh$ ja jl$ ja jl$ ja (pv 5)$ ja (jh$ ja jl$ ja (C.e c.m$ ja (pv 0)$ ja jf jb) jb) jb)$ ja (pv 8) jb) jb) jp)$ jd (jx 11 aS.nd$ jh$ ja jl$ ja jf jb)$ jd (jx 12 aS.nd$ jK$ ja (jh$ ja jl$ ja (jr jq (pv 3) jf ∅)$ ja (pv 11) jb)$ ja (jh$ ja jl$ ja (pv 11)$ ja (cO.e c.m$ ja (pv 0)$ ja (pv 6)$ ja (pv 8) jb) jb) jb)$ jd (j6$ jw (za$ C.e c.m$ ja (pv 0)$ ja jf jb) (jg$ jx 12 aS.nd$ jK$ ja (jh$ ja jl$ ja (jr jq (pv 3) jf ∅)$ ja (cO.e c.m$ ja (pv 0)$ ja (pv 6)$ ja (pv 8) jb) jb) jb) jp)$ jd (jx 10 aS.nd$ ju qk (ju qk (pv 10)$ pv 12)$ jK$ ja (jh$ ja jl$ ja (pv 9)$ ja (jh$ ja jl$ ja jl$ ja (pv 5)$ ja (jh$ ja jl$ ja jf jb) jb) jb)$ ja (jh$ ja jl$ ja (jr jq (pv 3) jf ∅)$ ja (jh$ ja jl$ ja jl$ ja (pv 5)$ ja (pv 4) jb) jb) jb)$ jd (jx 13 aS.nd$ jh$ ja (jh$ ja jl$ ja (jr jq (pv 3) jf ∅)$ ja (jh$ ja jl$ ja jf jb) jb)$ ja (jh$ ja jl$ ja (pv 9)$ ja (jh$ ja jl$ ja (C.e c.m$ ja (pv 0)$ ja jf jb) jb) jb) jb)$ jd (jx 14 aS.nd$ jh$ ja jl$ ja (jh$ ja jl$ ja (jr jq (pv 3) jf ∅) jb)$ ja (jF jL Z m1 N0$ ja (pv 10) jb) jb)$ jg$ jo$ jh$ ja (pv 1)$ ja (jh$ ja (jr jq (pv 3) jf ∅) jb)$ ja (ju j5 (jJ kC (pv 13) jV$ jH$ ju jW jf$ C.e c.m$ ja (pv 0)$ ja jf jb)$ jh$ ja (pv 14)$ ja (jh$ ja jl$ ja (pv 6) jb) jb) jb),?_]];let W0:Wd H H p W ys:=#[B,aB.refl,hw];erw[aj λF1 f1=>ZC W0 Z h1 λvn vi vs vx vy H1 xn xi xs xx xy W1=>f1 _ _ ?_];erw[aj λF2 f2=>jU W1 (kL (QU (kX Z LB LB) LB) LB) λv2 H2 x2 W2 k2=>f2 _ _ ?_];erw[aj λF3 f3=>FF W2 (Ke (Cf:=[(g,2)]) (kS Z LB LA) (jM Z ar x2) LB) (Ke (Cf:=[(g,2)]) (kS Z LB LA) (Y9 Z (jM Z ar$ ar _ _ _ k2.t xi)$ kL (kX Z LB LB) LB) LB) λlb u3 w3 H3 o3 x3 y3 W3 k3=>f3 _ _ ?_];let a:ai H1 H3:=(k2.t.trans k3.t);erw[aj λF4 f4=>Jw W3 Z o3 (show 2<=100 by decide) (sZ (Cf:=[(g,2)]) (kS Z LB LA) (Qt Z) Mz (Y9 Z (jM Z ar$ ar _ _ _ a xx)$ kL (QR LB (LB:(3:Int) < 4)) LB) (Y9 Z (jM Z ar$ ar _ _ _ a xi)$ kL (QR LB (LB:(2:Int) < 3)) LB) LB LB) λu4 H4 x4 o4 W4 k4=>f4 _ _ ?_];erw[aj λF5 f5=>dI (λN d=>∃(us:ri V),N=[δ$ rb p,δ$ qr f0,δ$ qr g,δ$ rb W,δ$ vn,δ$ vi,δ$ vs,δ$ vx,δ$ vy,δ$ v2,δ$ rb lb,θ,θ,θ,θ]/\Ow H d p W lb us/\gW [(g,2)] d ys 0 us/\ο us<=4/\Wd H d p W ys/\ai H4 d) (λE5 _ f6=>qX W4 Z LB LB (λH7 W7 u=>?_) (λH7 W7 u=>?_)) λσ1 H6 h2=>?_]
 .clear f5;let o7:=o4.fw u;let D:ai H1 H7:=((a.trans k4).trans u.t);erw[Jw W7 Z o7 (show 3<=100 by decide) (Kf (Cf:=[(g,2)]) (qc (n:=1) (qg zn) (jM Z ar$ ar _ _ _ D xi) (kL (kX Z LB LB) LB) LB LB) (jM Z ar$ ar _ _ _ D xy) LB LB) λu8 H8 x8 o8 W8 k8=>f6 _ _ ?_];let G:ai H4 H8:=(u.t.trans k8);let I:ai H3 H8:=((k4.trans u.t).trans k8);exact#[_,Z,o8,(jZ ((dY _ _ _ I x3))$ jZ ((dY _ _ _ I y3))$ jZ ((dY _ _ _ G x4))$ jZ (x8) Kr),(show 4<=4 by decide),W8,G]
 .clear f5;let o7:=o4.fw u;let J:ai H3 H7:=(k4.trans u.t);rwa[f6 _ _ #[_,Z,o7,(jZ ((dY _ _ _ J x3))$ jZ ((dY _ _ _ J y3))$ jZ ((dY _ _ _ u.t x4)) Kr),(show 3<=4 by decide),W7,u.t]]
 let⟨us,rfl,o6,ux,ul,W6,k6⟩:=h2;erw[f5 _ _ ?_];clear f5;erw[aj λF9 f9=>jU W6 (kL (QR LB (LB:(30:Int) < 31)) LB) λv9 H9 x9 W9 k9=>f9 _ _ ?_];let o9:=o6.fw k9;let b:ai H1 H9:=(((a.trans k4).trans k6).trans k9.t);erw[aj λF0 f7=>FF W9 (Ke (Cf:=[(g,2)]) (kS Z LB LA) (jM Z ar x9) LB) (Kf (Cf:=[(g,2)]) (jM Z ar x9) (Kd Z (jM Z ar$ ar _ _ _ b xs)$ jM Z ar$ ar _ _ _ b xy) LB LB) λlm u0 w0 H0 z0 x0 y0 W5 j=>f7 _ _ ?_];let o1:=o9.fw j;erw[aj λF6 y=>dI (λN d=>∃(m:ζ) (zs:ri V),N=[δ$ rb p,δ$ qr f0,δ$ qr g,δ$ rb W,δ$ vn,δ$ vi,δ$ vs,δ$ vx,δ$ vy,δ$ v2,δ$ rb lb,δ$ v9,↑m,θ,θ]/\Ow H d p W lb us/\Ow H d p W m zs/\gW [(g,2)] d ys 0 zs/\ο zs<=2/\Wd H d p W ys/\ai H0 d) (λE1 _ L=>qX W5 Z LB LB (λH5 O k=>?_) (λH5 O k=>?_)) λσ0 R h0=>?_]
 .clear y;let S:=o1.fw k;let z1:=z0.fw k;let l:ai H1 H5:=((b.trans j.t).trans k.t);erw[FE O (JG (Cf:=[(g,2)]) (kS Z LB LA) (Kd Z (jM Z ar$ ar _ _ _ l xs)$ jM Z ar$ ar _ _ _ l xy) LB) λlq u1 a0 z2 x1 a1 k1=>L _ _ ?_];let o':=S.fw k1;let z:ai H0 a0:=(k.t.trans k1.t);exact#[_,_,Z,o',z2,zu x1,(show 1<=2 by decide),a1,z]
 .clear y;let S:=o1.fw k;let z1:=z0.fw k;rwa[L _ _ #[_,_,Z,S,z1,(jZ ((dY _ _ _ k.t x0))$ jZ ((dY _ _ _ k.t y0)) Kr),(show 2<=2 by decide),O,k.t]]
 let⟨lm,zs,rfl,a2,z3,zx,zl,a3,T⟩:=h0;erw[y _ _ ?_];clear y;let o:ai H2 R:=(((((k3.t.trans k4).trans k6).trans k9.t).trans j.t).trans T);let M:ai H1 R:=((b.trans j.t).trans T);let U:ai H6 R:=((k9.t.trans j.t).trans T);erw[aj λF7 f'=>BN a3 Z Z a2 z3 LA (ux.mono U) zx (Kf (Cf:=[(g,2)]) (jM Z ar$ ar _ _ _ o x2) (qc (n:=1) (qg zn) (jM Z ar$ ar _ _ _ M xi) (kL (QR LB (LB:(1:Int) < 2)) LB) LB LB) LB LB) (JG (Cf:=[(g,2)]) (kS Z LB LA) (qc (n:=1) (qg Q5) (jM Z ar$ ar _ _ _ M xi) (jM Z ar$ ar _ _ _ M xn) LB LB) LB) λlc cs a4 a' cx cl b0 k5=>f' _ _ ?_];let cm:ο cs<=8:=LA
 let X:ai H2 a4:=(o.trans k5.t);erw[aj λb' b1=>jU b0 (BW (JG (Cf:=[(g,2)]) (kS Z LB LA) (kL (QR LB (LB:(1:Int) < 2)) LB) LB)$ Kf (Cf:=[(g,2)]) (jM Z ar$ ar _ _ _ X x2) (kL (kX Z LB LB) LB) LB LB) λv0 c1 x5 b2 Y=>b1 _ _ ?_];let o2:=a'.fw Y;erw[aj λc2 b3=>jU b2 (AQ (Kc$ kS Z LB LA) (AO (n:=8) Z o2 (cx.mono Y.t) cm) LB LB) λv1 b4 x7 b5 k0=>b3 _ _ ?_];let c3:=o2.fw k0;let m0:ai H1 b4:=(((M.trans k5.t).trans Y.t).trans k0.t);erw[QV b5 (Zb (Qt Z) (AM$ kS Z LB LA) (qQ (Ev.up (BV Z Z$ A0 _ _ _ k0.t x5) λ_ _=>PB.lift) (Za (jM Z dY x7)$ Ev.up (Xn (Cf:=[(g,2)]) (jM Z ar$ ar _ _ _ m0 xs) LB) λ_ _=>cj.lift) LB) LB LA) λv d x W'=>?_];let⟨r,rfl,x⟩:=x;rwa[q r d x W'.B W'.K]
def HZ{y:ri ρ}{lo:Nat}(h:ο y=14)(H:lo<=8):(bg y (δ (lo:Int))$ δ ((lo+6:Nat):Int)).length=6:=by unfold bg;rw[HT.sIx_nat,HT.sIx_nat,MT,N4,h,Oo$ Mw H LB,Oo$ Nat.add_le_add_right H 6,Nat.add_sub_cancel_left];rwa[Oo$ Nat.le_sub_of_add_le$ Mw (Tu H 6) LB]
def Lh{k:Nat}(h:k < n):nW n (k:Int)=δ k:=by unfold nW;rw[Mv LA,Mv LA,Ng]
def si.more(h:si C n H r f)(k:∀y∈C,y∈D):si D n H r f:=by let⟨d,b,a,c⟩:=h;rwa[#[d,b,#[a.1,kG k a.2],c]]
def Ib(r:si [(l,N),(m,j),(o,k)] N H a l)(s:si [(l,N),(m,j),(o,k)] j H b m)(t:si [(l,N),(m,j),(o,k)] k H c o)(p:N<=100/\j<=100/\k<=100):∃D,ci H D [.ref a,.ref b,.ref c]/\ο D=3/\((∀d∈D,nL d/\d.b.Cs [(l,N),(m,j),(o,k)])/\D.map Df.f=[l,m,o])/\mw H D [N,j,k]:=by
 let⟨d,u,v,O,y,z,E⟩:=r;let⟨e,A,B,Q,C,F,G⟩:=s;let⟨f,I,J,R,g3,L,M⟩:=t;erw[#[[d,e,f],#[_,_,Z,u,_,_,Z,A,_,_,Z,I,Z],Z,#[λx q=>?_,by rw[<- E,<- G,<- M];rfl],Z,λi x n h g=>?_]]
 .simp only[Og,MU,P8]at q;rcases q with rfl |rfl |rfl
  .rwa[v]
  .rwa[B]
  .rwa[J]
 .match i,h,g with
  |0,h,g=>cases h;cases g;exact#[_,y,z,p.1]
  |1,h,g=>cases h;cases g;exact#[_,C,F,p.2.1]
  |2,h,g=>cases h;cases g;exact#[_,g3,L,p.2.2]
inductive l7(b:ri V)(H:Hp)(Q:VK)(a:XK):Prop
 |mk(p:ζ)(_:b=[.ref p])(_:aq H p)(_:∀(r:ζ) (ds:ri Df) (xs:ri V) (H':Hp),H' r=δ (.tup xs)->ci H' ds xs->ο ds=3->∀ns,sw ds ns->mw H' ds ns->(∃r,ns=1::r)->aq H' p->aB p H H'->Q (.ref r) H')
def Ez(L:ri ρ)(_:Hp)(v:V):Prop:=∃x,v= .str x/\x∈L
section
variable {ys:ri ρ}{H0 Hb:Hp}{p wl:ζ}{σ:_L.St}
def EU{K:Ψ}(e:σ[0]?=δ (↑p))(r:Ev H0 p wl ys Hb σ t (wZ a))(s:Ev H0 p wl ys Hb σ T (wZ b))(u:Ev H0 p wl ys Hb σ x (wZ c)):Ev H0 p wl ys Hb σ (dU (iW K) (nj$ al t$ al T$ al x aQ)$ wO 3) (Ez [a,b,c]):=λH Q m W q=>
 r H _ m W λy z (E:y= .str a) A k=>s z _ (m.trans k) A λC D (F:C= .str b) G f=>u D _ ((m.trans k).trans f) G λI R (J:I= .str c) h j=>#[gE,λl n=>kX e LB LB _ _ ((((m.trans k).trans f).trans j).trans$ .new n) (h.same$ je n) λv L #[d,M,S,U] N o=>by
  obtain⟨g,i,O⟩:∃g,dN [qr a,.str b,.str c] d=δ (.str g)/\g∈[a,b,c]:=by
   rcases(LA:d=0∨d=1∨d=2) with rfl |rfl |rfl
   .exact#[a,Z,Lz]
   .exact#[b,Z,Lz]
   .exact#[c,Z,Lz]
  rw[<- E,<- F,<- J]at i;exact#[l,_,d,_,Z,M,aI.of$ o.b _ _ (h.B.ne n) jc,i,q _ L #[g,Z,O] N (((k.trans f).trans j).trans ((Fw.new n).trans o))]]
def tj{K:Ψ}{lo:Nat}(e:σ[0]?=δ (↑p))(E:σ[1]?=δ (↑wl))(d:Ev H0 p wl ys Hb σ t (wZ f))(l:Ev H0 p wl ys Hb σ T (Ez L))(h:ο ys=14)(o:lo<=8)(s:i=(lo:Int))(u:j=((lo+6:Nat):Int)):
  Ev H0 p wl ys Hb σ (dS (dm n) [] E0$ al (a8 0)$ al t$ al T$ al (Hz (yH K) (a8 1) (nk$ tC$ .int i)$ nk$ tC$ .int j) aQ) (PD (L.map λy=>(y,2)) n f):=λH Q m W q=>
 #[_,e,d H _ m W λv x (z:v= .str f) A k=>l x _ (m.trans k) A λV M #[g,D,c] b F=>#[_,E,_,Z,_,Z,wl,_,Z,aI.of b.w,λr N=>#[p,r,f,g,bg ys (δ i)$ δ j,by rw[z,D];rfl,b.B.upd_new N,by rw[jc,zB],by rw[s,u];exact HZ h o,λa G X I C=>
  q _ G #[a,Z,X.more λy J=>by rw[τ.mp J];rwa[dg.mpr #[g,c,Z]]] ((b.same$ je N).but I C) ((k.trans F).trans ((Fw.new N).trans$ .but (b.B.upd_new N) C))]]]
def qY{K:Ψ}{k:Nat}(e:σ[j]?=δ (↑wl))(a:i=(k:Int))(h:ys[k]?=δ y):Ev H0 p wl ys Hb σ (dU (iW K) (a8 j)$ tC$ .int i) (wZ y):=λH Q m W q=>
 #[_,e,wl,_,_,_,Z,Z,aI.of W.w,(by rw[a];rwa[jE (by rw[MH,h];rfl)]),q _ H Z W .refl]
def ES{n1 n2 n3:Nat}(s:n1<=100/\n2<=100/\n3<=100)(u:Ev H0 p wl ys Hb σ T (PD [(e,n1),(h,n2),(i,n3)] n1 e))(y:Ev H0 p wl ys Hb σ z (PD [(e,n1),(h,n2),(i,n3)] n2 h))(A:Ev H0 p wl ys Hb σ B (PD [(e,n1),(h,n2),(i,n3)] n3 i)):Ev H0 p wl ys Hb σ (bV$ al T$ al z$ al B aQ) (λH v=>∃r D x,v= .ref r/\H r=δ (.tup x)/\ci H D x/\ο D=3/\((∀d∈D,nL d/\d.b.Cs [(e,n1),(h,n2),(i,n3)])/\D.map Df.f=[e,h,i])/\mw H D [n1,n2,n3]):=λH Q m W q=>
 u H _ m W λV C X E k=>y C _ (m.trans k) E λF G I J j=>A G _ ((m.trans k).trans j) J λL H4 M N l=>#[gE,λr n=>q _ _ (by
  let t:=ae.tm (je (o:=HO.tup [V,F,L]) n);let⟨a,O,R⟩:=lG _ _ _ t (lG _ _ _ (j.trans l).t X);let⟨b,S,U⟩:=lG _ _ _ t (lG _ _ _ l.t I);let⟨c,Y,h3⟩:=lG _ _ _ t M;let⟨D,g⟩:=Ib R U h3 s;exact#[r,D,_,Z,by rw[jc,O,S,Y],g]) (N.same$ je n) (((k.trans j).trans l).trans$ .new n)]
end
def eZ:ak ["_law_box_here","_law_w","_law_body_here","_law_deeper","_law_further","_law_first"] z2z (aa uV):=bG
def yf(F:rc K "_law_busy" uV f fd)(T:‹1› fT f0 z0z aY "_law_take")(cO:‹2› fO f1 z17z mW "_law_op")(cA:‹2› fA f7 z24z gq "_law_names")(cL:‹3› fL f9 z19z (dm 1) "_law_looped")(cK:‹3› fK f' z19z (dm 1) "_law_ticking")(cI:‹3› fI a0 z34z (dm 2) "_law_inner"):⇑4 f fd z2z l7:=by
 erw[F.ok eZ λc0 A U s H vs Q E i h=>?_]
 let⟨p,rfl,B,q⟩:=h;erw[#[_,(jd (jx 1 eZ.nd$ cA.e i.m$ ja (pv 0)$ ja jf jb)$ jd (j6$ jw (za$ T.e i.m$ ja (pv 0)$ ja jf jb) (jg$ zg (jr jq (pv 1) jf ∅)$ qN (pv 1) jf zz) jp)$ jd (jx 2 eZ.nd$ jh$ ja (jh$ ja jl$ ja (jr jq (pv 1) jf ∅)$ ja (jh$ ja jl$ ja (jr jq (pv 1) jf ∅) jb) jb)$ ja (jh$ ja jl$ ja (cO.e i.m$ ja (pv 0)$ ja (jh$ ja jl$ ja (jr jq (pv 1) jf ∅) jb)$ ja (jh$ ja jl$ ja (jr jq (pv 1) jf ∅) jb) jb) jb) jb)$ jd (jx 3 eZ.nd$ jh$ ja (jr jq (pv 1) jf ∅)$ ja (jh$ ja (jr jq (pv 1) jf ∅)$ ja (jr jq (pv 1) jf ∅) jb)$ ja (pv 2) jb)$ jd (jx 4 eZ.nd$ jr jq (jK$ ja (jr jq (pv 1) jf ∅)$ ja (jr jq (pv 1) jf ∅)$ ja (jr jq (pv 1) jf ∅) jb) (T.e i.m$ ja (pv 0)$ ja jf jb) ∅)$ jd (jx 5 eZ.nd$ cL.e i.m$ ja (pv 0)$ ja (jr jq (pv 1) jf ∅)$ ja (jr jq (pv 1) jf ∅)$ ja (jJ kB (pv 1) (jH jf)$ jH jf) jb)$ jd (j6$ jw (za$ T.e i.m$ ja (pv 0)$ ja jf jb) (jg$ jx 5 eZ.nd$ cK.e i.m$ ja (pv 0)$ ja (jr jq (pv 1) jf ∅)$ ja (jr jq (pv 1) jf ∅)$ ja (jJ kB (pv 1) (jH jf)$ jH jf) jb) jp)$ jg$ jo$ jh$ ja (pv 5)$ ja (cI.e i.m$ ja (pv 0)$ ja (jr jq (pv 1) jf ∅)$ ja (pv 4)$ ja (jJ kB (pv 1) (jH jf)$ jH jf) jb)$ ja (pv 3) jb),?_]];erw[aj λFa o=>#[_,Z,p,14,Z,B,LB,LB,λj ys Ha X u c d Ba ka=>o _ _ ?_]];clear o;let wp:j≠p:=qm Ba u;erw[aj λFa o=>dI (λn g=>∃Y:ri ρ,n=[δ$ rb p,δ$ rb j,θ,θ,θ,θ]/\g j=δ (.lst$ Y.map qr)/\(ο Y=14/\(Y.take 3).Nodup/\∀y∈Y.take 3,y.length<=20)/\aq g p/\aB p H g) (λE0 _ fm=>qX (W:=#[Ba,ka,u]) Z LB LB (λHb l kb=>?_) (λHb l kb=>fm _ _ #[_,Z,l.w,#[LA,d.2.sublist$ Oc _ _,λy hy=>d.1 y (M' hy)],l.B,l.K])) λσ1 H0 h3=>?_]
 .clear o;let⟨v1,h6,z⟩:=Km (ys:=ys) (k:=1) LB LA;erw[#[_,Z,j,_,_,_,Z,Z,aI.of l.w,z,_,Z,j,_,8,8,Z,Z,l.w,Lh (k:=8) (by rw[Mi];omega),fm _ _ #[ys.set 8 v1,Z,?_,#[by rw[O2];omega,by rw[List.take_set_of_le LB];exact#[d.2.sublist$ Oc _ _,λy hy=>d.1 y (M' hy)]],l.B.eq$ ji$ MX wp,l.K.upd_own X]]];rw[jc,UF]
 obtain⟨ys,rfl,h4,⟨c,C,D⟩,B1,k1⟩:=h3;obtain⟨y0,h0⟩:∃y,ys[0]?=δ y:=#[_,Mf (LA:0 < ο ys)];obtain⟨G,I⟩:∃y,ys[1]?=δ y:=#[_,Mf (LA:1 < ο ys)];obtain⟨y2,N⟩:∃y,ys[2]?=δ y:=#[_,Mf (LA:2 < ο ys)];let e3:ys.take 3=[y0,G,y2]:=by rw[OA,OA,OA,h0,I,N];rfl
 rw[e3]at C D;erw[o _ _ ?_];clear o;let W1:Wd H H0 p j ys:=#[B1,k1,h4];generalize H0=H1 at W1;erw[aj λF2 f2=>jU W1 (Za (Ke (Cf:=[]) (kS Z LB LA) (Kc$ kS Z LB LA) LB)$ Xn (Cf:=[]) (Kd Z (Kc$ kS Z LB LA)$ Kc$ kS Z LB LA) LB) λv2 H2 x2 W2 k2=>f2 _ _ ?_];erw[aj λF3 f3=>jU W2 (Zb (Cf:=[]) (qY (k:=2) Z Z N) (AN (kS Z LB LA)$ kS Z LB LA) (Ev.up (jM Z dP x2) λ_ _=>PB.lift) LB LA) λv3 H3 x3 W3 k3=>f3 _ _ ?_];erw[aj λF4 f4=>jU W3 (EU Z (qY (k:=1) Z Z I) (qY (k:=2) Z Z N)$ qY (k:=2) Z Z N) λv4 H4 x4 W4 k4=>f4 _ _ ?_];erw[aj λF5 f5=>jU W4 (tj (lo:=6) Z Z (qY (k:=0) Z Z h0) (Ev.up (R:=Ez [G]) (qY (k:=1) Z Z I) λ_ _ e=>#[_,e,Mz]) c LB Z Z) λv5 H5 x5 W5 k5=>f5 _ _ ?_];erw[aj λF6 O=>dI (λn g=>∃(b:V),n=[δ$ rb p,δ$ rb j,δ$ v2,δ$ v3,δ$ v4,δ b]/\PD [(G,2)] 1 y0 g b/\Wd H g p j ys/\ai H5 g) (λE6 _ J=>qX W5 Z LB LB (λH8 W8 S=>?_) (λH8 W8 S=>?_)) λσ2 H7 h5=>?_]
 .clear O;erw[jU W8 (tj (lo:=6) Z Z (qY (k:=0) Z Z h0) (Ev.up (R:=Ez [G]) (qY (k:=1) Z Z I) λ_ _ e=>#[_,e,Mz]) c LB Z Z) λv9 H9 x9 W9 k9=>J _ _ ?_];let M:ai H5 H9:=(S.t.trans k9.t);exact#[_,Z,x9,W9,M]
 .clear O;rwa[J _ _ #[_,Z,(lG _ _ _ S.t x5),W8,S.t]]
 let⟨b7,rfl,x7,W7,k7⟩:=h5;erw[O _ _ ?_];clear O;let L:ai H3 H7:=((k4.t.trans k5.t).trans k7);erw[QV W7 (ES (n1:=1) (n2:=2) (n3:=2) #[LB,LB,LB] (Ev.up (jM Z lG x7) (λ_ _ #[a,e,h]=>#[a,e,h.more Lz])) (Ev.up (tj (lo:=7) Z Z (qY (k:=1) Z Z I) (jM (P:=Ez [G,y2,y2]) Z (λ_ _ _ _ h=>h) x4) c LB Z Z) (λ_ _ #[a,e,h]=>#[a,e,h.more Lz])) (Ev.up (jM Z lG$ lG _ _ _ L x3) (λ_ _ #[a,e,h]=>#[a,e,h.more Lz]))) λv g x W'=>?_];let⟨r,ds,xs,rfl,g0,g1,g2,g3,g4⟩:=x;rwa[q r ds xs g g0 g1 g2 [1,2,2] #[by rw[g3.2];rwa[g3.1],by rw[g3.2];exact#[C,D]] g4 #[_,Z] W'.B W'.K]
abbrev oN:cv:=bH 74
def D2(h:0<=d)(H:d < 4):∃m:Int,dN [qs 3,.int 3,.int 3,.int 8] d=δ (.int m)/\3<=m/\m<=8:=by
 rcases(LA:d=0∨d=1∨d=2∨d=3) with rfl |rfl |rfl |rfl
 .exact#[3,Z,LB,LB]
 .exact#[3,Z,LB,LB]
 .exact#[3,Z,LB,LB]
 .exact#[8,Z,LB,LB]
def BU(h:ci H D v)(f:0<=k)(g:k < (v.length:Int)):∃d,dN v k=δ (.ref d.p)/\d∈D/\Aw H d (.ref d.p):=by
 let a:k.toNat < ο v:=LA
 let E:k=((k.toNat:Nat):Int):=LA
 let⟨d,c,b⟩:=h.at k.toNat _ (Mf a);let e:v[k.toNat]= .ref d.p:=b.elim λ_ z=>z.1;erw[#[d,?_,MM c,by rw[<- e];rwa[b]]];rw[E];rwa[jE (by rw[<- e];rwa[Mf a])]
def En(H:Hp)(D:ri Df)(v a:V):Prop:=∃(d:Df) (p:ri ρ) (t:ζ) (I:ri Int),d∈D/\v= .str d.f/\H d.pa=δ (.tup$ p.map qr)/\a= .ref t/\H t=δ (.tup$ I.map qs)/\ο I=ο p/\ο I<=100/\∀i∈I,0<=i/\i < 1000000000000000000
inductive ma(b:ri V)(H:Hp)(Q:VK)(a:XK):Prop
 |mk(p:ζ)(_:b=[.ref p])(_:aq H p)(_:∀(t r:ζ) (v2 v3:V) (ds:ri Df) (xs:ri V) (H':Hp),H' t=δ (.tup [.ref r,v2,v3])->H' r=δ (.tup xs)->ci H' ds xs->1<=ο ds->ο ds<=8->∀ns,sw ds ns->mw H' ds ns->En H' ds v2 v3->aq H' p->aB p H H'->Q (.ref t) H')
def fb:ak z40z z2z (aa oN):=bG
def Ye:hJ:=#[.function,[(".0",.local),("_law_one",.local),("_law_number",.globalImplicit),("_law_box_here",.free)],ν,ν,[]]
def t6:(["_law_one","_law_box_here"]:ri ρ).Nodup:=Ly
def sH:bE z40z (aa oN) Ye ["_law_one","_law_box_here"] 1 [0]:=sI
def yg(F:rc K "_law_case" oN f fd)(M:‹1› fT f0 z0z aY "_law_take")(cN:‹2› fN f3 z2z g9 "_law_number")(cY:‹4› fY f4 z2z l7 "_law_busy")(cZ:‹22› fZ f5 z33z o0 "_law_any")(ml:mg "len"=θ)(m0:mg "tuple"=θ):⇑23 f fd z2z ma:=by
 erw[F.ok fb λc0 A o1 s H vs Q E y h=>?_]
 let⟨p,rfl,B,q⟩:=h;erw[#[_,(jd (jw (jA JF (M.e y.m$ ja (pv 0)$ ja jf jb) jf$ aG _) (jd (jx 1 fb.nd$ cY.e y.m$ ja (pv 0) jb)$ jg$ jo$ jh$ ja (pv 1)$ ja (jz$ jr jP (pv 1) jf ∅)$ ja (jh$ ja (M.e y.m$ ja (pv 0)$ ja jf jb) jb) jb) jp)$ jd (jx 2 fb.nd$ jr jq (jK$ ja jf$ ja jf$ ja jf$ ja jf jb) (M.e y.m$ ja (pv 0)$ ja jf jb) ∅)$ jd (jx 1 fb.nd$ cZ.e y.m$ ja (pv 0)$ ja (ju jW jf$ M.e y.m$ ja (pv 0)$ ja (pv 2) jb)$ ja jf jb)$ jd (zg (jr jP (pv 1) (M.e y.m$ ja (pv 0)$ ja (jG jI Z ml M9$ ja (pv 1) jb) jb) ∅)$ zQ (n:=3) Z$ jC (jy (i:=3) fb.nd Z$ ψ Z)$ jC (jy (i:=4) fb.nd Z$ ψ Z)$ jC (jy (i:=5) fb.nd Z$ ψ Z) kN)$ jg$ jo$ jh$ ja (pv 1)$ ja (pv 3)$ ja (jF jL Z m0 N0$ ja (@zi _ _ _ _ _ _ _ (["_law_one","_law_box_here"]) (1) ([0]) _ _ _ _ Z (qi$ pv 4) sH (λ_ _ _ _ _=>(jy (i:=0) t6 Z$ ψ Z)) (λ_ _ _ _ _=>(@zI _)) (λ_ _ _ _ _=>(cN.e y.m$ ja (pv 1) jb)) (by intro _;rfl)) jb) jb),?_]];let b0:=aH;erw[aj λF1 a=>oF λG1 g1=>#[_,Z,p,3,Z,B,LB,LB,λd1 H1 a0 a1 B1 e1=>#[_,_,Z,Z,_,Z,g1 _ _ ?_]]];clear g1;let k1:aB p H H1:=aB.of_eq e1;erw[bP (λc=>?_) (λc=>a _ _ ?_)]
 .clear a;erw[aj λF2 f2=>#[_,Z,p,Z,B1,λr ds xs H2 N C hl ns D b O B2 k2=>f2 _ _ ?_]];clear f2;let ln:=C.len;let⟨nr,rfl⟩:=O;cases ds with
  |nil=>cases hl
  |cons d r0=>
  let⟨p0,R,S,_⟩:=b.2 0 d 1 Z Z;let h0:=C;obtain⟨u0,rr,rfl,⟨bs,rfl,hp,_⟩,_⟩:=h0;let g:dN (rb d.p::rr) 0=δ (.ref d.p):=gM;erw[#[_,Z,jv N g #[d.p,_,_,_,Z,Z,aD.of hp,gM,_,Z,p,6,Z,B2,LB,LB,λd3 H3 d0 d4 B3 e3=>?_]]];let c3:aB p H2 H3:=aB.of_eq e3;erw[#[io,λu nu=>#[gE,λt U=>?_]]];let s4:ae H3 (ah (ah H3 u$ .tup [.int d3]) t$ .tup [.ref r,.str d.f,.ref u]):=(je nu).trans (je U);let T:=(c3.tm B2).trans (ae.tm s4);rwa[q t r _ _ _ _ _ jc (T _ _ N) (C.mono T) LA LA _ D (b.mono T) #[d,p0,u,[d3],Mz,Z,T _ _ R,Z,am jc U,by rw[S];rfl,(by show 1<=100;decide),λi hi=>by rw[τ.mp hi];omega] (B3.same s4) ((k1.trans k2).trans$ c3.trans$ aB.of_same s4)]
 clear a;erw[aj λF1 a=>#[sd,λl W=>#[_,Z,p,4,Z,B1.upd_new W,LB,LB,λd2 H2 d6 d7 B2 e2=>?_]]];let k2:aB p H1 H2:=((aB.refl).upd_new W).trans (aB.of_eq e2);let⟨m,g,m3,m8⟩:=D2 d6 d7;erw[#[l,_,_,_,Z,Z,aI.of (by rw[e2 l$ B1.ne W];rwa[jc]),g,a _ _ ?_]];clear a;erw[aj λF1 a=>#[_,Z,_,Z,_,Z,p,m,Z,B2,LA,LA,λd3 H3 d0 d4 B3 e3=>#[_,_,Z,Z,p,1+d3,12,Z,B3,LA,LA,LB,LB,λr ds xs H4 G C hl ns D b B4 k4=>a _ _ ?_]]];clear a;let ln:=C.len;let K4:aB p H H4:=(k1.trans k2).trans ((aB.of_eq e3).trans k4);erw[aj λF1 a=>#[_,Z,_,Z,_,Z,r,_,Z,.inr$ aD.of G,p,_,Z,B4,LA,LA,λd5 H5 d8 d' B5 e5=>?_]];let c5:aB p H4 H5:=aB.of_eq e5;let o:=c5.tm B4;let⟨d,g,hd,bs,e,hp,_⟩:=BU (C.mono o) d8 d';erw[#[r,_,_,_,Z,Z,aD.of$ o _ _ G,g,d.p,_,Z,aD.of hp,Z,_,_,Z,_,_,Z,_,_,Z,Z,a _ _ ?_]];clear a;let⟨pv,X,h4⟩:=b.v d hd;let z:=o _ _ X;erw[#[_,Z,_,Z,_,Z,d.pa,Z,#[_,aD.of z],?_]];erw[qC (K:=K) (xs:=pv.map qr) (by rw[Mi];omega) (λi L J=>(∃I:ri Int,L=I.map qs/\ο I=i/\∀j∈I,0<=j/\j < 1000000000000000000)/\aq J p/\aB p H5 J) #[#[[],Z,Z,(λ_ h=>nomatch h)],B5,aB.refl] (λi L J k=>?_) (λi x L J hx k=>?_) (λL J k l W=>?_)]
 .exact#[aD.of$ k.2.2.tm B5 _ _ z,let #[I,e,l,_]:=k.1;by rw[e,Mi,l];rwa[Mj _]]
 .exact#[_,Z,p,Z,k.2.1,λe H7 e0 e1 B7 e7=>#[let #[I,h1,l,h2]:=k.1;#[I++[e],by rw[h1,MS];rfl,by rw[Ml,l];rfl,Jh h2 #[e0,e1]],B7,k.2.2.trans$ aB.of_eq e7]]
 .erw[#[l,_,Z,.inl #[aI.of jc,λl2 n0=>#[gE,λt U=>?_]]]];let s7:ae J (ah (ah (ah J l$ .lst L) l2$ .tup L) t$ .tup [.ref r,.str d.f,.ref l2]):=((je W).trans$ je n0).trans (je U);let T:=o.trans ((k.2.2.tm B5).trans$ ae.tm s7);let⟨I,hz,Y,h3⟩:=k.1;rw[Mi]at Y;rwa[q t r _ _ ds xs _ jc (T _ _ G) (C.mono T) LA LA ns D (b.mono T) #[d,pv,l2,I,hd,Z,T _ _ X,Z,by rw[<- hz];rwa[am jc U],Y,LA,h3] (k.2.1.same s7) (K4.trans$ c5.trans$ k.2.2.trans$ aB.of_same s7)]
abbrev lO:cv:=bH 12
abbrev lU:cv:=bH 13
abbrev aO:=ri (bu×V)
def eL(x:Int):Prop:=0<=x/\x < 1000000000000000000
def GT(k:aO):Prop:=∀p∈k,∃i,p.2= .int i/\eL i
def GT.nil:GT []:=λ_ h=>absurd h MU
def GT.put(h:GT a)(k:bu)(H:eL i):GT (bM a k$ .int i):=by
 intro p hp;unfold bM at hp;split at hp
 .let⟨q,b,rfl⟩:=dg.mp hp;by_cases e:q.1=k
  .rw[Mv e];exact#[i,Z,H]
  .rw[Mx e];rwa[h q b]
 .rcases γ.mp hp with hp |hp
  .rwa[h p hp]
  .rw[τ.mp hp];exact#[i,Z,H]
def GT.val(h:GT a)(e:dM a k=δ v):∃i,v= .int i/\eL i:=by unfold dM at e;let⟨p,H,rfl⟩:=dt.mp e;rwa[h p$ List.mem_of_find?_eq_some H]
def look(a:aO)(k:bu)(z:Int):Int:=match dM a k with
 |some (.int i)=>i
 |_=>z
def Ky(h:GT a)(k:bu)(z:Int):(dM a k).getD (.int z)= .int (look a k z):=by
 unfold look;cases e:dM a k with
 |none=>rfl
 |some v=>let⟨i,rfl,_⟩:=h.val e;rfl
def rj(h:GT a)(e:dM a k=δ v)(z:Int):v= .int (look a k z):=by unfold look;let⟨i,rfl,_⟩:=h.val e;rw[e]
def rh(e:dM a k=θ)(z:Int):look a k z=z:=by unfold look;rw[e]
def J4(h:GT a)(H:eL z):eL (look a k z):=by
 unfold look;cases e:dM a k with
 |none=>rwa[H]
 |some v=>let⟨i,rfl,b⟩:=h.val e;rwa[b]
def J5:eL 0:=#[LB,LB]
def jn(i:Nat)(x y:Int):Int:=match i with
 |0=>(x+y) % 1000000000000000000
 |1=>(x - y) % 1000000000000000000
 |2=>x*y % 1000000000000000000
 |3=>if y=0 then 0 else x / y
 |4=>if x < y then 1 else 0
 |_=>if x=y then 1 else 0
def Tm.ev(k:aO):Tm->Int
 | .num n=>n
 | .var x=>look k (.inr x) 0
 | .op i a b=>jn i (a.ev k) (b.ev k)
def Fd(H:eL x)(c:eL y):eL (jn i x y):=by
 let a:(1000000000000000000:Int)≠0:=LB
 let b:(0:Int) < 1000000000000000000:=LB
 match i with
 |0 |1 |2=>exact#[No _ a,M7 _ b]
 |3=>
  show eL (if y=0 then 0 else x / y);by_cases h:y=0
  .rw[Mv h];exact#[LB,LB]
  .rw[Mx h];let e:=c.1;let d:0 < y:=by omega
   erw[#[Uq H.1 N09,Int.lt_of_le_of_lt ?_ H.2]];rwa[Int.ediv_le_self _ H.1]
 |4=>show eL (if x < y then 1 else 0);split<;>exact#[LB,LB]
 |n+5=>show eL (if x=y then 1 else 0);split<;>exact#[LB,LB]
theorem qZ(g:GT k):∀{t:Tm},t.Good y->eL (t.ev k)
 | .num _,h=>h
 | .var x,_=>J4 g J5
 | .op _ _ _,h=>Fd (qZ g h.2.1) (qZ g h.2.2)
inductive iI(b:ri V)(H:Hp)(Q:VK)(a:XK):Prop
 |mk(i:Nat)(x y:Int)(_:b=[.str (Iv i),.int x,.int y])(_:i < 6)(_:eL x)(_:eL y)(_:Q (.int (jn i x y)) H)
def IV(K:Ψ)(H:Hp)(T:Tm)(a:ζ):Prop:=bf H T a∨(T= .num 0/\aD K H a [.str "num",.int 0])
inductive cg(K:Ψ)(n:Nat)(e:ri V)(H:Hp)(Q:VK)(b:XK):Prop
 |mk(a d:ζ)(T:Tm)(f:ri ρ)(c:aO)(_:e=[.ref a,.ref d])(_:IV K H T a)(_:T.depth < n)(_:T.Good f)(_:H d=δ (.dK c))(_:GT c)(_:Q (.int (T.ev c)) H)
def vC:ak z21z z21z (aa lO):=bG
def rK(F:rc K "joined" lO f b)(m:mg "TOP"=δ (.int 1000000000000000000 t)):⇑1 f b z21z iI:=by
 erw[F.ok vC (λe A o s H d Q E r h=>?_)]
 let⟨i,x,y,rfl,u,g,j,q⟩:=h;erw[#[_,(jd (jw (kf$ pv 0) (jg$ jo$ ju zc (ju jW (pv 1)$ pv 2)$ q8 (v:=.int 1000000000000000000) Z m #[_,Z]) jp)$ jd (jw (kf$ pv 0) (jg$ jo$ ju zc (ju ki (pv 1)$ pv 2)$ q8 (v:=.int 1000000000000000000) Z m #[_,Z]) jp)$ jd (jw (kf$ pv 0) (jg$ jo$ ju zc (ju zr (pv 1)$ pv 2)$ q8 (v:=.int 1000000000000000000) Z m #[_,Z]) jp)$ jd (jw (kf$ pv 0) (jg$ jo$ kM (za$ pv 2) jf$ ju Kt (pv 1)$ pv 2) jp)$ jd (jw (kf$ pv 0) (jg$ jo$ kM (jA Qo (pv 1) (pv 2)$ aG _) jf jf) jp)$ jg$ jo$ kM (jA qD (pv 1) (pv 2)$ aG _) jf jf),?_]];let⟨k,l⟩:=g;let⟨n,p⟩:=j;rcases(LA:i=0∨i=1∨i=2∨i=3∨i=4∨i=5) with rfl |rfl |rfl |rfl |rfl |rfl
 .erw[#[_,Z,Z,_,Z,b8 Ly ?_]];exact#[_,Z,_,Z,_,_,Z,Z,_,_,Z,Z,(by show(0:Int) < 1000000000000000000;decide),q]
 .erw[#[_,Z,Z,_,Z,aT Ly ?_]];erw[#[_,Z,Z,_,Z,b8 Ly ?_]];exact#[_,Z,_,Z,_,_,Z,Z,_,_,Z,Z,(by show(0:Int) < 1000000000000000000;decide),q]
 .erw[#[_,Z,Z,_,Z,aT Ly ?_]];erw[#[_,Z,Z,_,Z,aT Ly ?_]];erw[#[_,Z,Z,_,Z,b8 Ly ?_]];exact#[_,Z,_,Z,_,_,Z,Z,.inl #[LA,LA],_,_,Z,Z,(by show(0:Int) < 1000000000000000000;decide),q]
 .erw[#[_,Z,Z,_,Z,aT Ly ?_]];erw[#[_,Z,Z,_,Z,aT Ly ?_]];erw[#[_,Z,Z,_,Z,aT Ly ?_]];erw[#[_,Z,Z,_,Z,b8 Ly ?_]];let a:Q (.int (if y=0 then 0 else x / y)) H:=q;erw[#[_,Z,Z,_,Z,?_]];refine bP (λc=>?_) (λc=>?_)
  .let C:qs y=qs 0:=Nn c;injection C with C;rw[Mv C]at a;rwa[a]
  .let C:y≠0:=λz=>c (by rw[z];rfl);rw[Mx C]at a;exact#[_,Z,_,Z,_,_,Z,Z,#[LA,LA],a]
 .erw[#[_,Z,Z,_,Z,aT Ly ?_]];erw[#[_,Z,Z,_,Z,aT Ly ?_]];erw[#[_,Z,Z,_,Z,aT Ly ?_]];erw[#[_,Z,Z,_,Z,aT Ly ?_]];erw[#[_,Z,Z,_,Z,b8 Ly ?_]];let a:Q (.int (if x < y then 1 else 0)) H:=q;erw[#[_,Z,_,Z,_,_,Z,Z,_,Z,?_]];refine bP (λc=>?_) (λc=>?_)
  .rw[Mv$ Nn c]at a;rwa[a]
  .rw[Mx$ P9$ lq.mpr c]at a;rwa[a]
 .erw[#[_,Z,Z,_,Z,aT Ly ?_]];erw[#[_,Z,Z,_,Z,aT Ly ?_]];erw[#[_,Z,Z,_,Z,aT Ly ?_]];erw[#[_,Z,Z,_,Z,aT Ly ?_]];erw[#[_,Z,Z,_,Z,aT Ly ?_]];let a:Q (.int (if x=y then 1 else 0)) H:=q;erw[#[_,Z,_,Z,Z,_,Z,?_]];refine bP (λc=>?_) (λc=>?_)
  .let C:qs x=qs y:=Nn c;injection C with C;rw[Mv C]at a;rwa[a]
  .let C:x≠y:=λz=>c (by rw[z];rwa[MN Z]);rw[Mx C]at a;rwa[a]
def y4:ak z10z z10z (aa lU):=bG
def uC(F:rc K "worth" lU f p)(C:‹n+1› f p z10z (cg K n) "worth")(v:‹1› R B z21z iI "joined"):⇑(n+2) f p z10z (cg K$ n+1):=by
 erw[F.ok y4 (λD A o s H V Q E j h=>?_)]
 let⟨a,d,T,y,c,rfl,t,I,g,l,G,q⟩:=h;erw[#[_,(jd (jw (kf$ jz$ pv 0) (jg$ jo$ jz$ pv 0) jp)$ jd (jw (kf$ jz$ pv 0) (jg$ jo$ @Kw _ _ _ _ _ _ _ _ _ (z9 j) (pv 1) (jz$ pv 0) jf #[Lx,Lx,Lx,Lx]) jp)$ jg$ jo$ v.e j.m$ ja (jz$ pv 0)$ ja (C.e j$ ja (jz$ pv 0)$ ja (pv 1) jb)$ ja (C.e j$ ja (jz$ pv 0)$ ja (pv 1) jb) jb),?_]];cases T with
 |num m=>
  let b:aD K H a [.str "num",.int m]:=t.elim (λh=>aD.of h) λz=>by cases z.1;rwa[z.2]
  erw[#[_,Z,a,_,_,_,Z,Z,b,Z,Z,_,Z,b8 Ly ?_]];exact#[_,Z,a,_,_,_,Z,Z,b,Z,q]
 |var x=>
  let b:H a=δ (.tup [.str "var",.str x]):=t.resolve_right λz=>by cases z.1
  erw[(jv b Z #[Z,_,Z,aT Ly ?_])];erw[(jv b Z #[Z,_,Z,b8 Ly ?_])];erw[#[_,Z,d,Z,.inl #[c,.inl l],jv b Z #[_,fh.k (k:=Sum.inr x) l,?_]]];rw[Ky G];rwa[q]
 |op i r u=>
  let⟨J,L,b,M,N⟩:=t.resolve_right λz=>by cases z.1
  let O:max r.depth u.depth+1 < n+1:=I;erw[(jv b Z #[Z,_,Z,aT Ly ?_])];erw[(jv b Z #[Z,_,Z,aT Ly ?_])];erw[(jv b Z ?_)];erw[(jv b Z #[_,Z,J,d,r,y,c,Z,.inl M,LA,g.2.1,l,G,?_])];erw[(jv b Z #[_,Z,L,d,u,y,c,Z,.inl N,LA,g.2.2,l,G,?_])];exact#[i,_,_,Z,g.1,qZ G g.2.1,qZ G g.2.2,q]
def uh:⇑1 f e z10z (cg K 0):=by
 let n:∀v H Q E,¬cg K 0 v H Q E:=λv H Q E h=>by let⟨a,d,T,y,k,_,_,c,_⟩:=h;rwa[absurd c$ O4 _]
 exact#[λv H Q E h=>absurd h (n v H Q E),λA o s H b u v Q E _ _ _ _ h=>absurd h (n v H Q E)]
theorem wG(F:rc K "worth" lU f a)(b:au K a z10z [])(m:mg "worth"=↑f)(c:‹1› e d z21z iI "joined"):
  ∀n:Nat,⇑(n+1) f a z10z (cg K n)
 |0=>uh
 |n+1=>uC F #[(wG F b m c n),b,F.kp,m] c
def TV(H:Hp)(y:ri ρ)(t:ζ)(T:Tm):Prop:=bf H T t/\dy y T
def TV.mono(k:ai H a)(h:TV H y t T):TV a y t T:=#[h.1.mono k,h.2]
inductive Gl where
 |give (t:ζ) (T:Tm) |nought |go (n:Nat)
structure WD where
 sets:ri (ρ×ζ×Tm)
 goal:Gl
def Gl.gol(N:ζ):Gl->Hd
 | .give t _=>.give t
 | .nought=>.give N
 | .go n=>.go (n:Int)
def WD.wy(n:ζ)(w:WD):Wy:=#[w.sets.map λs=>(s.1,s.2.1),w.goal.gol n]
def Es(H:Hp)(y:ri ρ)(m:Nat):Gl->Prop
 | .give t T=>TV H y t T
 | .nought=>True
 | .go n=>n < m
structure wL(H:Hp)(ys:ri ρ)(m N:Nat)(w:WD):Prop where
 sets:∀s∈w.sets,TV H ys s.2.1 s.2.2
 len:ο w.sets<=N
 goal:Es H ys m w.goal
def my(H:Hp)(y:ri ρ)(n:ζ)(m N:Nat)(w:Wy):Prop:=∃d:WD,d.wy n=w/\wL H y m N d
def IK(F:ip)(H:Hp)(y:ri ρ):Dd->Prop
 | .st p=>∃(l:Lf) (v:ri V),H p=δ (.tup v)/\wU H l v/\l.Ok y/\l.isCut=μ/\l.Cs F
 | .ask t=>∃T,TV H y t T
def Dd.ways:Dd->Nat
 | .st _=>1
 | .ask _=>2
structure wQ(F:ip)(H:Hp)(ys:ri ρ)(nA:ζ)(m N:Nat)(c:Ct):Prop where
 mem:∀x,c.M x->x∈ys
 deed:IK F H ys c.d
 ways:∀w∈c.ws,my H ys nA m N w
 len:ο c.ws=c.d.ways
structure wK(H:Hp)(ys:ri ρ)(nA:ζ)(m N:Nat)(pc:Pc):Prop where
 mem:∀x,pc.M x->x∈ys
 way:my H ys nA m N pc.w
section
variable {F:ip}{H H':Hp}{ys:ri ρ}{nA:ζ}{m N N':Nat}
def Es.mono(k:ai H H')(h:Es H ys m g):Es H' ys m g:=by
 cases g with
 |give t T=>rwa[TV.mono k h]
 |nought=>trivial
 |go n=>rwa[h]
def wL.mono(k:ai H H'){w:WD}(h:wL H ys m N w):wL H' ys m N w:=#[λs a=>(h.sets s a).mono k,h.len,h.goal.mono k]
def my.up(a:N<=N'){w:Wy}(h:my H ys nA m N w):my H ys nA m N' w:=by let⟨d,e,v⟩:=h;rwa[#[d,e,v.sets,Mw v.len a,v.goal]]
def wQ.up(a:N<=N')(h:wQ F H ys nA m N c):wQ F H ys nA m N' c:=#[h.mem,h.deed,λw b=>(h.ways w b).up a,h.len]
def wK.up(a:N<=N')(h:wK H ys nA m N p):wK H ys nA m N' p:=#[h.mem,h.way.up a]
def Ym{n:Nat}(a:k=(n:Int))(b:n < m):my H ys nA m N #[[],.go k]:=#[#[[],.go n],by rw[a];rfl,(λ_ h=>absurd h MU),Mu _,b]
theorem Kh:∀(b:Bd) {X:ri V} {g:Pc} {fs:ri Ct} {N:Nat},dG H b X->b.Ok ys->b.Cs F->wK H ys nA m N g->(∀c∈fs,wQ F H ys nA m N c)->ο fs+b.cuts<=m->
  wK H ys nA m (N+b.size) (pB (m:Int) b g fs).1/\∀c∈(pB (m:Int) b g fs).2,wQ F H ys nA m (N+b.size) c
 | .nil,_,_,_,_,_,_,_,o,y,_=>#[o,y]
 | .lf p l r,X,g,fs,N,C,i,k,o,y,D=>by
  let⟨vs,zs,_,h1,I,h3⟩:=C;let E:ο fs+(l.cut+r.cuts)<=m:=D;let⟨R,A⟩:=Kh r h3 i.2 k.2 o y LA;let hl:=kj (m:Int) r g fs;let S:N+r.size<=N+(r.size+1):=LA
  let j:=Lf.use_in i.1 R.mem;let J:l.isCut=μ->l.cut=1->wK H ys nA m (N+(r.size+1)) #[l.use (pB (m:Int) r g fs).1.M,#[[],.go ((m:Int) - ((pB (m:Int) r g fs).2.length:Int) - 1)]]/\∀c∈(pB (m:Int) r g fs).2++[#[l.use (pB (m:Int) r g fs).1.M,.st p,[(pB (m:Int) r g fs).1.w]]],wQ F H ys nA m (N+(r.size+1)) c:=λG h0=>
   #[#[j,Ym (n:=m - (ο fs+r.cuts) - 1) (by rw[hl];rwa[N09]) N09],λc L=>by
    rcases γ.mp L with z |z
    .exact(A c z).up S
    .rw[τ.mp z];exact#[j,#[l,vs,h1,I,i.1,G,k.1],λw hw=>by rw[τ.mp hw];rwa[R.way.up S],Z]]
  show wK H ys nA m (N+(r.size+1)) (pL (m:Int) p l$ pB (m:Int) r g fs).1/\∀c∈(pL (m:Int) p l$ pB (m:Int) r g fs).2,wQ F H ys nA m (N+(r.size+1)) c;cases l with
  |gv t T=>exact#[#[j,#[#[[],.give t T],Z,(λ_ h=>absurd h MU),Mu _,I.2,i.1]],λc G=>(A c G).up S]
  |st x t T=>
   erw[#[#[j,?_],λc G=>(A c G).up S]];show my H ys nA m _ (iD x t (pB (m:Int) r g fs).1);unfold iD;split
   .let⟨d,e,v⟩:=R.way;erw[#[#[(x,t,T)::d.sets,d.goal],by rw[<- e];rfl,λs hs=>?_,NM v.len,v.goal]];rcases Ξ.mp hs with rfl |hs
    .exact#[I.2,i.1.2]
    .rwa[v.sets s hs]
   .rwa[R.way.up S]
  |rd x t T |wr t u T U |cl x f q ts=>rwa[J Z Z]
 | .ite p t T a c r,X,g,fs,N,C,i,k,o,y,D=>by
  let⟨qa,qb,as,bs,zs,_,g1,O,g2,g3,Q,g5,W⟩:=C;let E:ο fs+(1+a.cuts+c.cuts+r.cuts)<=m:=D;let⟨R,A⟩:=Kh r W i.2.2.2 k.2.2 o y LA;let B:=kj (m:Int) r g fs;let⟨c1,c2⟩:=Kh c g5 i.2.2.1 k.2.1 R A LA;let h4:=kj (m:Int) c (pB (m:Int) r g fs).1 (pB (m:Int) r g fs).2;let⟨Y,a2⟩:=Kh a Q i.2.1 k.1 (R.up$ Oi _ _) c2 LA;let S:N+r.size+c.size+a.size<=N+(a.size+c.size+r.size+1):=LA
  let j:∀x,(Bd.ite p t T a c .nil).use (pB (m:Int) r g fs).1.M x->x∈ys:=Bd.use_in #[i.1,i.2.1,i.2.2.1,trivial] R.mem;let hk:(m:Int) - ((pB (m:Int) r g fs).2.length:Int) - ((Bd.ite p t T a c .nil).cuts:Int)=((m - (ο fs+r.cuts) - (1+a.cuts+c.cuts):Nat):Int):=by show(m:Int) - _ - ((1+a.cuts+c.cuts+0:Nat):Int)=_;rw[B];rwa[N09]
  unfold pB;dsimp only;erw[#[#[j,Ym hk N09],λe he=>?_]];rcases γ.mp he with z |z
  .exact(a2 e z).up S
  .rw[τ.mp z];erw[#[j,#[T,O,i.1],λw hw=>?_,Z]];rcases Ξ.mp hw with rfl |hw
   .rwa[Y.way.up S]
   .rw[τ.mp hw];rwa[c1.way.up (by show _<=N+(a.size+c.size+r.size+1);omega)]
 | .loop p t T a r,X,g,fs,N,C,i,k,o,y,D=>by
  let⟨qa,as,zs,_,g1,O,g2,Q,W⟩:=C;let E:ο fs+(1+a.cuts+r.cuts)<=m:=D;let⟨R,A⟩:=Kh r W i.2.2 k.2 o y LA;let B:=kj (m:Int) r g fs;let j:∀x,(Bd.loop p t T a .nil).use (pB (m:Int) r g fs).1.M x->x∈ys:=Bd.use_in #[i.1,i.2.1,trivial] R.mem;let hk:(m:Int) - ((pB (m:Int) r g fs).2.length:Int) - ((Bd.loop p t T a .nil).cuts:Int)=((m - (ο fs+r.cuts) - (1+a.cuts):Nat):Int):=by show(m:Int) - _ - ((1+a.cuts+0:Nat):Int)=_;rw[B];rwa[N09]
  let pl:wK H ys nA m (N+r.size) #[(Bd.loop p t T a .nil).use (pB (m:Int) r g fs).1.M,#[[],.go ((m:Int) - ((pB (m:Int) r g fs).2.length:Int) - ((Bd.loop p t T a .nil).cuts:Int))]]:=#[j,Ym hk N09];let⟨Y,a2⟩:=Kh a Q i.2.1 k.1 pl A LA;let S:N+r.size+a.size<=N+(a.size+r.size+1):=LA
  unfold pB;dsimp only;erw[#[pl.up (by show _<=N+(a.size+r.size+1);omega),λe he=>?_]];rcases γ.mp he with z |z
  .exact(a2 e z).up S
  .rw[τ.mp z];erw[#[j,#[T,O,i.1],λw hw=>?_,Z]];rcases Ξ.mp hw with rfl |hw
   .rwa[Y.way.up S]
   .rw[τ.mp hw];rwa[R.way.up (by show _<=N+(a.size+r.size+1);omega)]
end
def bL(n:ζ)(d:Df):ri Ct:=(gZ n d).2.reverse
def ZD(n:ζ)(d:Df):(bL n d).length=d.b.cuts:=by unfold bL;rw[Tq];exact(kj _ _ _ _).trans (PY _)
def Bc{nA:ζ}{d:Df}(f:dG H d.b B)(g:d.b.Ok y):wK H y nA d.b.cuts d.b.size (gZ nA d).1/\∀c∈bL nA d,wQ d.b.calls H y nA d.b.cuts d.b.size c:=by let p:wK H y nA d.b.cuts 0 (Im nA):=#[λx i=>absurd i MU,#[[],.nought],Z,(λ_ h=>absurd h MU),Mj _,trivial];let⟨a,e⟩:=Kh (m:=d.b.cuts) d.b f g (zC d.b) p (fs:=[]) (λ_ h=>absurd h MU) (by show 0+_<=_;omega);rw[PY]at a e;exact#[a,λc j=>e c (List.mem_reverse.mp j)]
def QQ{M:ρ->Prop}{y:ri ρ}(h:∀x,M x->x∈y):(canon M).length<=ο y:=by
 by_cases e:∃s,Nm s M
 .let⟨s,H⟩:=e;rw[<- H.canon];rwa[H.len h]
 .unfold canon;rw[dif_neg e];rwa[Mu _]
def bZ:ri (ρ×ζ×Tm)->aO->aO
 | [],k=>k
 |s::r,k=>bZ r (bM k (.inr s.1) (.int (s.2.2.ev k)))
def dJ(N:ζ)(d:Df)(n:Nat):ri ρ:=match (bL N d)[n]? with
 |some c=>canon c.M
 |none=>[]
def nX(N:Nat->ri ρ)(k:aO):Gl->Tr
 | .give _ T=>ax [aJ "give",aw (T.ev k)]
 | .nought=>ax [aJ "give",aw 0]
 | .go n=>ax [aJ "go",aw (n:Int),ax ((N n).map λx=>aw (look k (.inr x) 0))]
theorem zR{H:Hp}{ys:ri ρ}:∀{ss:ri (ρ×ζ×Tm)} {k:aO},(∀s∈ss,TV H ys s.2.1 s.2.2)->GT k->GT (bZ ss k)
 | [],_,_,g=>g
 |s::r,k,h,g=>zR (H:=H) (ys:=ys) (ss:=r) (λS a=>h S (ML _ a)) (g.put _ (qZ g (h s Mz).2.1))
def rW{S:ri (ρ×ζ×Tm)}:∀{i:Nat} {s:ρ×ζ×Tm} {k:aO},S[i]?=δ s->bZ (S.take$ i+1) k=bM (bZ (S.take i) k) (.inr s.1) (.int$ s.2.2.ev$ bZ (S.take i) k):=by
 induction S with
 |nil=>intro i s k h;simp at h
 |cons a r I=>
  intro i s k h;cases i with
  |zero=>cases h;rfl
  |succ i=>rwa[I (h:)]
def zN{kvs:aO}{k:bu}{v:V}:(bM kvs k v).length<=ο kvs+1:=by
 unfold bM;split
 .rw[Mi];rwa[NG _]
 .rw[Ml];rwa[Mj _]
theorem XN:∀{ss:ri (ρ×ζ×Tm)} {k:aO},(bZ ss k).length<=ο k+ο ss
 | [],_=>Mj _
 |s::r,k=>by let h:=XN (ss:=r) (k:=bM k (.inr s.1) (.int$ s.2.2.ev k));let H:=zN (kvs:=k) (k:=.inr s.1) (v:=.int (s.2.2.ev k));show(bZ r _).length<=ο k+(ο r+1);omega
def aM(n:ri ρ)(i:ri Int):aO:=di [] ((n.map Sum.inr).zip$ i.map qs)
theorem XO:∀{m:aO} {k:aO},GT k->GT m->GT (di k m)
 | [],_,g,_=>g
 |p::r,k,g,h=>by
  let⟨i,e,H⟩:=h p Mz;let E:bM k p.1 p.2=bM k p.1 (.int i):=by rw[e]
  show GT (di (bM k p.1 p.2) r);rw[E];rwa[XO (g.put _ H) λq a=>h q (ML _ a)]
def qR(h:∀i∈I,eL i):GT (aM n I):=by erw[XO GT.nil λp H=>?_];let⟨i,a,e⟩:=dg.mp (P6 H).2;exact#[i,e.symm,h i a]
def ZE{ns:ri ρ}{is:ri Int}:(aM ns is).length<=ο ns:=by let h:=qI ((ns.map Sum.inr).zip$ is.map qs) [];rw[RW,Mi]at h;show(di [] _).length<=_;let H:(di [] ((ns.map Sum.inr).zip$ is.map qs)).length<=0+min ns.length (is.map qs).length:=h;omega
abbrev n9:cv:=bH 23
abbrev lN:cv:=bH 24
abbrev f8:cv:=bH 28
abbrev lM:cv:=bH 29
abbrev iy:cv:=bH 30
abbrev lR:cv:=bH 31
structure mx(H:Hp)(nA:ζ)(d:Df)(ys:ri ρ)(v:V):Prop where
 tr:aL H (eU nA d) v []
 bd:∃bs,dG H d.b bs
 ok:d.b.Ok ys
 y20:ys.length<=20
 sz:d.b.size<=3000
structure Ep(H:Hp)(nA:ζ)(d:Df)(ys:ri ρ)(c:Ct)(ka na wa:ζ)(dv:V)(wvs:ri V):Prop where
 at':H ka=δ (.tup [.ref na,dv,.ref wa])
 nms:H na=δ (.tup ((canon c.M).map qr))
 deed:aL H (Hl c.d) dv []
 wat:H wa=δ (.tup wvs)
 ways:aL H (aC$ c.ws.map hZ) .non wvs
 v:wQ d.b.calls H ys nA d.b.cuts d.b.size c
theorem ZF:∀{S:ri ρ} {v:ri V},aL H (aC$ S.map aJ) .non v->v=S.map qr
 | [],v,h=>h
 |s::S,v,h=>by obtain⟨_,_,y,Y,rfl,⟨rfl,_⟩,a⟩:=h;rw[ZF a];rfl
section
variable {H H':Hp}{nA:ζ}{d:Df}{ys:ri ρ}{v:V}
def mx.mono(k:ai H H')(h:mx H nA d ys v):mx H' nA d ys v:=#[h.tr.mono k,let #[b,a]:=h.bd;#[b,a.mono k],h.ok,h.y20,h.sz]
inductive mxp(H:Hp)(nA:ζ)(d:Df)(v:V):Prop|mk(a c W C:_)(_:v= .ref a)(_:H a=δ (.tup [.str d.f,.ref d.pa,W,.ref c]))(_:aL H (hZ (gZ nA d).1.w) W [])(_:H c=δ (.tup C))(_:aL H (aC ((bL nA d).map EG)) .non C)
def mx.parts(h:mx H nA d ys v):mxp H nA d v:=by obtain⟨_,a,x,rfl,i,_,_,n,Y,rfl,⟨rfl,_⟩,_,_,o,j,rfl,⟨rfl,_⟩,_,_,W,k,rfl,l,_,_,p,y,rfl,m,e⟩:=h.tr;let e:y=[]:=e;subst e;let⟨_,c,C,rfl,b,g⟩:=m;exact#[a,c,W,C,Z,i,l,b,g]
def mx.cut{C:ri V}(h:mx H nA d ys v)(a:aL H (aC ((bL nA d).map EG)) .non C){n:Nat}{c:Ct}(g:(bL nA d)[n]?=δ c):∃k N i D W,C[n]?=↑k/\Ep H nA d ys c k N i D W:=by
 let L:=zk a;rw[Mi]at L;let u:n < ο C:=by rw[L];exact(ξ.mp g).1
 let j:C[n]?=δ C[n]:=Mf u;let⟨T,b,t⟩:=qP a n _ j;rw[MH,g]at b;cases b;let⟨B,y⟩:=h.bd;let z:=(Bc (nA:=nA) y h.ok).2 c (MM g);generalize C[n]=x at j t;let⟨_,k,E,rfl,l,_,_,F,G,rfl,m,_,_,D,I,rfl,o,_,_,J,A,rfl,p,e⟩:=t;let e:A=[]:=e;subst e;let⟨_,N,M,rfl,f,q⟩:=m;let⟨_,i,W,rfl,r,s⟩:=p;rw[ZF q]at f;exact#[k,N,i,D,W,j,l,f,o,r,s,z]
def mx.way(h:mx H nA d ys v):my H ys nA d.b.cuts d.b.size (gZ nA d).1.w:=by let⟨B,a⟩:=h.bd;rwa[(Bc (nA:=nA) a h.ok).1.way]
def uf(h:(bL nA d)[n]?=δ c):dJ nA d n=canon c.M:=by unfold dJ;rw[h]
end
structure HU(H:Hp)(nA:ζ)(w:WD)(wa sa ga:ζ)(ss:ri V)(wd:ρ)(u:V):Prop where
 at':H wa=δ (.tup [.ref sa,.ref ga])
 sat:H sa=δ (.tup ss)
 sets:∀(i:Nat) (x:V),ss[i]?=δ x->∃(s:ρ×ζ×Tm) (p:ζ),w.sets[i]?=δ s/\x= .ref p/\H p=δ (.tup [.str s.1,.ref s.2.1])
 len:ο ss=ο w.sets
 gat:H ga=δ (.tup [.str wd,u])
 goal:match w.goal with
  | .give t _=>wd="give"/\u= .ref t
  | .nought=>wd="give"/\u= .ref nA
  | .go n=>wd="go"/\u= .int (n:Int)
def Aq{w:WD}(h:aL H (hZ$ w.wy N) v []):∃(l S G:ζ) (A:ri V) (W:ρ) (u:V),v= .ref l/\HU H N w l S G A W u:=by
 obtain⟨_,r,X,rfl,C,_,_,y0,D,rfl,⟨_,s,c,rfl,E,m⟩,_,_,Y,y,rfl,b,e⟩:=h;let e:y=[]:=e;subst e;let L:=zk m;let st:∀(i:Nat) (x:V),c[i]?=δ x->∃(s:ρ×ζ×Tm) (p:ζ),w.sets[i]?=δ s/\x= .ref p/\H p=δ (.tup [.str s.1,.ref s.2.1]):=λi x F=>by let⟨tr,o,I⟩:=qP m i x F;rw[MH]at o;let⟨q,J,rfl⟩:=dt.mp o;let a:(w.sets.map λs=>(s.1,s.2.1))[i]?=δ q:=J;rw[MH]at a;let⟨z,M,rfl⟩:=dt.mp a;obtain⟨_,p,X,rfl,O,_,_,Q,R,rfl,⟨rfl,_⟩,_,_,U,B,rfl,⟨rfl,_⟩,e⟩:=I;let e:B=[]:=e;subst e;exact#[z,p,M,Z,O]
 let ln:ο c=ο w.sets:=by rw[L,Mi];rwa[Mi ..]
 let f:∀g:Gl,w.goal=g->aL H (xN$ g.gol N) Y []->∃(G:ζ) (W:ρ) (u:V),Y= .ref G/\H G=δ (.tup [.str W,u])/\match g with
  | .give t _=>W="give"/\u= .ref t
  | .nought=>W="give"/\u= .ref N
  | .go n=>W="go"/\u= .int (n:Int):=λg _ b=>by
  cases g with
  |give t T |nought |go n=>obtain⟨_,gl,X,rfl,d,_,_,Q,R,rfl,⟨rfl,_⟩,_,_,U,B,rfl,⟨rfl,_⟩,e⟩:=b;let e:B=[]:=e;subst e;exact#[gl,_,_,Z,d,Z,Z]
 let⟨G,W,u,rfl,j,k⟩:=f w.goal Z b;exact#[r,s,G,c,W,u,Z,C,E,st,ln,j,k]
inductive iE(b:ζ)(e:ri V)(H:Hp)(Q:VK)(a:XK):Prop
 |mk(v:V)(n:Nat)(d:Df)(f:ri ρ)(c:Ct)(_:e=[v,.int (n:Int)])(_:mx H b d f v)(_:(bL b d)[n]?=δ c)(_:∀(ka na wa:ζ) (dv:V) (wvs:ri V),Ep H b d f c ka na wa dv wvs->Q (.ref ka) H)
inductive iH(f:ζ)(g:ri V)(H:Hp)(Q:VK)(a:XK):Prop
 |mk(v:V)(n:Nat)(b:ζ)(d:Df)(h:ri ρ)(c:Ct)(e:ri Int)(_:g=[v,.int (n:Int),.ref b])(_:mx H f d h v)(_:(bL f d)[n]?=δ c)(_:H b=δ (.tup (e.map qs)))(_:ο e=(canon c.M).length)(_:∀dd:ζ,H dd=θ->Q (.ref dd) (ah H dd (.dK (aM (canon c.M) e))))
def ZG:∀(s:ri ρ),(s.map (Sum.inr:ρ->bu)).map kV=s.map qr:=λs=>by rw[Od];rfl
def yY:ak ["part","n"] ["part","n"] (aa n9):=bG
def um{f:ζ}{g:bU}{N:ζ}(F:rc K "cut_at" n9 f g):⇑1 f g ["part","n"] (iE N):=by
 erw[F.ok yY λl A o s H V Q E B h=>?_]
 let⟨v,n,d,y,c,rfl,i,m,q⟩:=h;erw[#[_,(jg$ jo$ jr jP (jz$ pv 0) (pv 1) ∅),?_]];let⟨a,p,I,J,rfl,r,L,b,e⟩:=i.parts;let⟨t,u,x,D,W,z,C⟩:=i.cut e m;exact#[_,Z,a,_,_,_,Z,Z,aD.of r,jE (j:=3) Z,_,Z,p,_,_,_,Z,Z,aD.of b,jE z,q t u x D W C]
def vB:ak z8z z8z (aa lN):=bG
def rJ(F:rc K "held_at" lN f g)(i:‹1› J j ["part","n"] (iE N) "cut_at")(m:mg "dict"=θ)(a:mg "zip"=θ):⇑2 f g z8z (iH N):=by
 erw[F.ok vB λp A o s H V Q E r h=>?_]
 let⟨v,n,b,d,y,c,I,rfl,t,u,x,z,q⟩:=h;erw[#[_,(jg$ jo$ @Zr _ _ _ _ _ _ _ _ Z m Z a Z (ja (jr jP (i.e r$ ja (pv 0)$ ja (pv 1) jb) jf ∅)$ ja (pv 2) jb) Lx Lx Lx Lx),?_]];erw[#[_,Z,_,Z,v,n,d,y,c,Z,t,u,λB D O R W C=>#[B,_,_,_,Z,Z,aD.of C.at',gM,_,Z,D,b,(canon c.M).map Sum.inr,_,Z,by rw[ZG];rwa[aD.of C.nms],aD.of x,by rw[Mi,Mi,z],λl G=>q l G]]]
inductive Wh where
 |rd (a i:Int) |wr (a b:Int) |ask (b:Int) |cl (f:ρ) (is:ri Int) (i:Int)
def BE(H:Hp)(u:V):Wh->Prop
 | .rd a i=>∃p,u= .ref p/\H p=δ (.tup [.str "read",.int a,.int i])
 | .wr a b=>∃p,u= .ref p/\H p=δ (.tup [.str "write",.int a,.int b])
 | .ask b=>∃p,u= .ref p/\H p=δ (.tup [.str "ask",.int b])
 | .cl f I i=>∃p c g e,u= .ref p/\H p=δ (.tup [.str "call",.ref c])/\H c=δ (.tup [.str f,.ref g,e,.int i])/\H g=δ (.tup (I.map qs))
def BE.mono{H d:Hp}(k:ai H d){u:V}{w:Wh}(h:BE H u w):BE d u w:=by
 cases w with
 |rd a i |wr a b |ask b=>let⟨p,e,h⟩:=h;exact#[p,e,k _ _ h]
 |cl f I i=>let⟨p,c,g,e,E,j,l,m⟩:=h;exact#[p,c,g,e,E,k _ _ j,k _ _ l,k _ _ m]
inductive DD where
 |st (p:ζ) (l:Lf) |ask (t:ζ) (T:Tm)
def DD.dd:DD->Dd
 | .st p _=>.st p
 | .ask t _=>.ask t
def su(H:Hp)(y:ri ρ):DD->Prop
 | .st p l=>∃v,H p=δ (.tup v)/\wU H l v/\l.Ok y/\l.isCut=μ
 | .ask t T=>TV H y t T
def su.mono(k:ai H a)(h:su H y d):su a y d:=by
 cases d with
 |st p l=>let⟨v,b,c,e⟩:=h;exact#[v,k _ _ b,c.mono k,e]
 |ask t T=>rwa[TV.mono k h]
def DD.Cs(F:ip):DD->Prop
 | .st _ l=>l.Cs F
 | .ask _ _=>True
def EK{F:ip}(h:IK F H y d):∃e:DD,e.dd=d/\su H y e/\e.Cs F:=by
 cases d with
 |st p=>let⟨l,v,a,b,c,f,g⟩:=h;exact#[.st p l,Z,#[v,a,b,c,f],g]
 |ask t=>let⟨T,h⟩:=h;exact#[.ask t T,Z,h,trivial]
def Er:DD->Wh->Prop
 | .st _ (.rd _ _ _),.rd _ i=>eL i
 | .st _ (.wr _ _ _ _),.wr _ _=>True
 | .st _ (.cl _ _ _ _),.cl _ _ i=>eL i
 | .ask _ _,.ask b=>b=0∨b=1
 |_,_=>False
def nU(d:DD)(w:Wh)(k:aO):aO:=match d,w with
 | .st _ (.rd x _ _),.rd _ i | .st _ (.cl x _ _ _),.cl _ _ i=>bM k (.inr x) (.int i)
 |_,_=>k
def Wh.side:Wh->Nat
 | .ask b=>if b=0 then 1 else 0
 |_=>0
def tE(Q:VK)(H:Hp):Wh->Prop
 | .rd _ i | .cl _ _ i=>Q (.int i) H
 |_=>False
inductive eJ(b:ri V)(H:Hp)(Q:VK)(a:XK):Prop
 |mk(u:V)(w:Wh)(_:b=[u])(_:BE H u w)(_:tE Q H w)
inductive mP(c:ζ)(e:ri V)(H:Hp)(Q:VK)(a:XK):Prop
 |mk(v f:V)(b:ζ)(d:Df)(g:ri ρ)(w:WD)(k:aO)(_:e=[v,f,.ref b])(_:mx H c d g v)(_:aL H (hZ (w.wy c)) f [])(_:wL H g d.b.cuts d.b.size w)(_:H b=δ (.dK k))(_:GT k)(_:ο k<=200)(_:∀(u:V) (H':Hp),aL H' (nX (dJ c d) (bZ w.sets k) w.goal) u []->aB b H H'->Q u H')
inductive EI(c:ζ)(a:_L.St)(j:ri (ρ×ζ×Tm))(k:aO)(H:Hp)(i:Nat)(l:_L.St)(b:Hp):Prop
 |mk(g h:rm V)(d:l=a++[g,h,θ,θ])(e:b c=δ (.dK (bZ (j.take i) k)))(f:aB c H b)
theorem J6{H:Hp}:∀{is:ri Int},aL H (aC$ is.map aw) .non (is.map qs)
 | []=>rfl
 |i::is=>jm Z jY (J6 (is:=is))
def i9:ak ["what"] ["what"] (aa f8):=bG
def uq(F:rc K "found_in" f8 f n):⇑1 f n ["what"] eJ:=by
 erw[F.ok i9 λC A o s H v Q E t h=>?_]
 let⟨u,W,rfl,d,q⟩:=h;erw[#[_,(jg$ jo$ kM (kf$ jz$ pv 0) (jz$ jr jP (pv 0) jf ∅)$ jr jP (pv 0) (uH Yh jf) ∅),?_]];cases W with
 |rd a i=>let⟨p,rfl,l⟩:=d;exact(jv l gM #[Z,_,Z,aT Ly #[_,Z,_,Z,p,_,_,_,Z,Z,aD.of l,Z,q]])
 |cl f I i=>let⟨p,c,g,e,rfl,m,r,_⟩:=d;exact(jv m gM #[Z,_,Z,b8 Ly$ jv m mq #[c,_,_,_,Z,Z,aD.of r,jE (j:=3) Z,q]])
 |wr a b |ask b=>rwa[q.elim]
def gj:ak ["part","way","numbers","name","term","goal","held"] ["part","way","numbers"] (aa lM):=bG
def Y2:hJ:=#[.function,[(".0",.local),("name",.local),("numbers",.free)],ν,ν,[]]
def xY:(["name","numbers"]:ri ρ).Nodup:=Ly
def xu:bE ["part","way","numbers","name","term","goal","held"] (aa lM) Y2 ["name","numbers"] 1 [2]:=sI
def uo(F:rc K "end_of" lM f fd)(cC:‹1› fC f2 ["part","n"] (iE U) "cut_at")(cW:‹7› fW f3 z10z (cg K 6) "worth")(m0:mg "tuple"=θ)(no:nQ K U):⇑8 f fd ["part","way","numbers"] (mP U):=by
 erw[F.ok gj λc0 A o1 s H vs Q E Y h=>?_]
 let⟨v,w1,D,d,ys,O,k,rfl,hp,hw,wv,hd,gk,hk,q⟩:=h;erw[#[_,(jd (kh M3 Z (qi$ jz$ pv 1) (zQ (n:=2) Z$ jC (jy (i:=3) gj.nd Z$ ψ Z)$ jC (jy (i:=4) gj.nd Z$ ψ Z) kN)$ jg$ Jb (z9 Y) (pv 2) (pv 3) (cW.e Y.m$ ja (pv 4)$ ja (pv 2) jb) Z)$ jd (jx 5 gj.nd$ jz$ pv 1)$ jd (jw (kf$ jz$ pv 5) (jg$ jo$ jh$ ja jl$ ja (cW.e Y.m$ ja (jz$ pv 5)$ ja (pv 2) jb) jb) jp)$ jd (@Zk _ _ _ _ _ _ _ _ _ _ (6) (["name","numbers"]) (1) ([2]) _ _ _ _ gj.nd Z (ψ Z) Z (qi$ jr jP (cC.e Y.m$ ja (pv 0)$ ja (jz$ pv 5) jb) jf ∅) xu (λ_ _ _ _ _=>(jy (i:=0) xY Z$ ψ Z)) (λ_ _ _ _ _=>(@zI _)) (λ_ _ _ _ _=>(@Kw _ _ _ _ _ _ _ _ _ (z9 Y) (pv 1) (pv 0) jf #[Lx,Lx,Lx,Lx])) Lx (by first |exact .inl Z |exact .inr Z) (by intro _;rfl))$ jg$ jo$ jh$ ja jl$ ja (jz$ pv 5)$ ja (jF jL Z m0 N0$ ja (pv 6) jb) jb),?_]];let b0:=aH;let⟨wa,sa,ga,ss,wd,u,rfl,W⟩:=Aq hw;let R:∀g,aB D H g->ai H g:=λg k b xs e=>k b _ (jN e hd (by intro z;cases z)) e;let h2:=hp.sz;let h3:=wv.len;erw[aj λF1 C=>eM λJ j=>(jv W.at' gM #[sa,Z,#[_,aD.of W.sat],j _ _ ?_])];clear j;erw[Kx (K:=K) (xs:=ss) (EI D [δ v,↑wa,↑D] O.sets k H) #[_,_,Z,hd,aB.refl] (λi σ g _ h=>?_) ?_ (λσ g h=>C _ _ ?_)]
 .let⟨_,_,_,_,I⟩:=h;rwa[aD.of$ R _ I _ _ W.sat]
 .intro E _ i x σ H1 hx f0 Gq kq h;let⟨o3,o4,rfl,L,I⟩:=h;clear C;let⟨s,p,hs,rfl,h0⟩:=W.sets i x hx;let S:=R _ I;let tv:=(wv.sets s$ MM hs).mono S;let g1:GT (bZ (O.sets.take i) k):=zR (H:=H) (ys:=ys) (λs hs=>wv.sets s (M' hs)) gk;let l1:=XN (ss:=O.sets.take i) (k:=k);rw[MT]at l1;erw[kq ?_];clear kq;erw[#[p,_,Z,aD.of$ S _ _ h0,Z,_,_,Z,_,_,Z,Z,?_]];erw[#[_,Z,_,Z,s.2.1,D,s.2.2,ys,_,Z,.inl tv.1,tv.2.2,tv.2.1,L,g1,_,Z,_,Z,D,_,Z,.inl #[_,.inr s.1,L,Z,LA,Z],f0 _ _ #[_,_,Z,?_,λc o X e=>by rw[ji X];rwa[I c o X e]]]];rw[rW hs];rwa[jc]
 .let⟨o3,o4,rfl,L,I⟩:=h;rw[W.len,Np]at L;let S:=R _ I;let g1:GT (bZ O.sets k):=zR (H:=H) (ys:=ys) wv.sets gk;let B:=wv.goal;let a:=W.goal;generalize bZ O.sets k=N at L g1 q;erw[aj λF1 C=>(jv (S _ _ W.at') mq$ C _ _ ?_)];clear C;let G:=S _ _ W.gat;erw[aj λF1 C=>oE λG1 k3 k0=>(jv G gM #[Z,_,Z,?_])];let give:∀(t:ζ) (T:Tm),wd="give"->u= .ref t->IV K g T t->dy ys T->(∀(u':V) (H9:Hp),aL H9 (ax [aJ "give",aw$ T.ev N]) u' []->aB D H H9->Q u' H9)->G1 (decide$ qr wd=qr "give") g:=by intro t T e1 e2 x1 x2 x3;subst e1;subst e2;rw[MN Z];erw[k3 _$ jv G mq #[_,Z,t,D,T,ys,N,Z,x1,x2.2,x2.1,L,g1,bN,λr nr=>?_]];exact x3 _ _ (jD jc$ jm Z jR$ jm Z jY jB) λc o X e=>je nr _ _ (I c o X e)
  cases hg:O.goal with
  |give t T=>rw[hg]at B a q;rwa[give t T a.1 a.2 (.inl$ B.1.mono S) B.2 q]
  |nought=>rw[hg]at a q;rwa[give U (.num 0) a.1 a.2 (.inr #[Z,no _]) #[#[LB,LB],LB] q]
  |go n=>
   rw[hg]at B a q;clear give k3;let⟨e1,e2⟩:=a;subst e1;subst e2;let hn:n < (bL U d).length:=by rw[ZD];rwa[B]
   obtain⟨c,hc⟩:∃c,(bL U d)[n]?=δ c:=#[_,Mf hn];let e0:decide (qr "go"=qr "give")=ν:=Ly
   rw[e0];erw[k0 _$ C _ _ ?_];clear k0 C;erw[aj λF1 C=>#[_,Z,jv G mq #[v,n,d,ys,c,Z,hp.mono S,hc,λka na w2 dv w3 ca=>#[ka,_,_,_,Z,Z,aD.of ca.at',gM,na,Z,#[_,aD.of ca.nms],?_]]]];let cl:=Mw (QQ ca.v.mem) hp.y20;let q:∀(u:V) (g:Hp),aL g (ax [aJ "go",aw (n:Int),ax ((dJ U d n).map λx=>aw (look N (.inr x) 0))]) u []->aB D H g->Q u g:=q;rw[uf hc]at q;erw[qC (K:=K) (xs:=(canon c.M).map qr) (by rw[Mi];omega) (λi zs Hx=>zs=((canon c.M).take i).map (λx=>qs (look N (.inr x) 0))/\Hx=g) #[Z,Z] (λi zs Hx h=>?_) (λi x zs Hx hx h=>?_) (λzs Hx h l nl=>C _ _ ?_)]
   .let⟨rfl,rfl⟩:=h;exact#[aD.of ca.nms,by rw[Mi,MT];omega]
   .let⟨rfl,rfl⟩:=h;rw[MH]at hx;let⟨y,hy,rfl⟩:=dt.mp hx;erw[#[_,Z,D,Z,.inl #[N,.inl L],_,Z,_,fh.k (k:=Sum.inr y) L,?_,Z]];rw[Ky g1,NQ,hy,MS];rfl
   .let⟨rfl,rfl⟩:=h;rw[Mi,Np];erw[(jv (je nl _ _ G) mq #[_,Z,l,_,Z,.inl #[aI.of jc,λtl n0=>#[gE,λr nr=>?_]]])];erw[q _ _ (jD jc$ jm Z jR$ jm Z jY$ jm Z (jD (am jc nr) ?_) jB) λc' o X e=>je nr _ _ (je n0 _ _$ je nl _ _$ I c' o X e)];let:=J6 (H:=ah (ah (ah Hx l$ .lst ((canon c.M).map (λx=>qs (look N (.inr x) 0)))) tl$ .tup ((canon c.M).map (λx=>qs (look N (.inr x) 0)))) r (.tup [.str "go",.int (n:Int),.ref tl])) (is:=(canon c.M).map λx=>look N (.inr x) 0);rw[Od,Od]at this;rwa[this]
structure iZ(H:Hp)(nA:ζ)(d:Df)(ys:ri ρ)(v:V)(sa:ζ)(n:Nat)(hv:ζ)(uw:V)(c:Ct)(is:ri Int)(wh:Wh)(e:DD)(wd:WD):Prop where
 prt:mx H nA d ys v
 at':H sa=δ (.tup [.int (n:Int),.ref hv,uw])
 cut:(bL nA d)[n]?=δ c
 hat:H hv=δ (.tup$ is.map qs)
 hl:ο is=(canon c.M).length
 hin:∀i∈is,eL i
 whv:BE H uw wh
 ed:e.dd=c.d
 dv:su H ys e
 fit:Er e wh
 way:c.ws[wh.side]?=δ (wd.wy nA)
 wdv:wL H ys d.b.cuts d.b.size wd
def iZ.mono(k:ai H a)(h:iZ H N d y v s n b u c i f e g):iZ a N d y v s n b u c i f e g:=
 #[h.prt.mono k,k _ _ h.at',h.cut,k _ _ h.hat,h.hl,h.hin,h.whv.mono k,h.ed,h.dv.mono k,h.fit,h.way,h.wdv.mono k]
def Il(n:ζ)(d:Df)(c:Ct)(i:ri Int)(a:Wh)(e:DD)(W:WD):Tr:=nX (dJ n d) (bZ W.sets$ nU e a$ aM (canon c.M) i) W.goal
inductive gn(e:ζ)(g:ri V)(H:Hp)(Q:VK)(a:XK):Prop
 |mk(v:V)(b:ζ)(d:Df)(h f:ri ρ)(c:ri Int)(w:WD)(_:g=[v,.ref b])(_:mx H e d h v)(_:H d.pa=δ (.tup (f.map qr)))(_:ο f<=100)(_:H b=δ (.tup (c.map qs)))(_:ο c=ο f)(_:∀i∈c,eL i)(_:w.wy e=(gZ e d).1.w)(_:wL H h d.b.cuts d.b.size w)(_:∀(u:V) (H':Hp),aL H' (nX (dJ e d) (bZ w.sets (aM f c)) w.goal) u []->ae H H'->Q u H')
inductive ou(g:ζ)(j:ri V)(H:Hp)(Q:VK)(a:XK):Prop
 |mk(v i:V)(h b:ζ)(n:Nat)(d:Df)(m:ri ρ)(c:Ct)(f:ri Int)(l:Wh)(e:DD)(k:WD)(_:j=[v,.ref h])(_:iZ H g d m v h n b i c f l e k)(_:∀(u:V) (H':Hp),aL H' (Il g d c f l e k) u []->ae H H'->Q u H')
def Yn(h:Er e a)(g:GT k):GT (nU e a k):=by
 unfold nU;split
 .rwa[g.put _ h]
 .rwa[g.put _ h]
 .rwa[g]
def xo{e:DD}{wh:Wh}{k:aO}:(nU e wh k).length<=ο k+1:=by
 unfold nU;split
 .rwa[zN]
 .rwa[zN]
 .rwa[NG _]
def rX:ak ["part","args"] ["part","args"] (aa iy):=bG
def Y3(F:rc K "first_of" iy f I)(J:‹8› fE L ["part","way","numbers"] (mP T) "end_of")(M:mg "dict"=θ)(b:mg "zip"=θ):⇑9 f I ["part","args"] (gn T):=by
 erw[F.ok rX λR A O s H vs Q E U h=>?_]
 let⟨v,x,d,y,p,is,z,rfl,C,g,V,i,n,r,t,W,q⟩:=h;erw[#[_,(jg$ jo$ J.e U.m$ ja (pv 0)$ ja (jz$ pv 0)$ ja (@Zr _ _ _ _ _ _ _ _ Z M Z b Z (ja (jz$ pv 0)$ ja (pv 1) jb) Lx Lx Lx Lx) jb),?_]];let⟨a,ca,X,cs,rfl,D,G,Y,h0⟩:=C.parts;rw[<- t]at G;erw[#[_,Z,_,Z,a,_,_,_,Z,Z,aD.of D,jE (j:=2) Z,jv D mq #[_,Z,d.pa,x,p.map Sum.inr,_,Z,by rw[ZG];rwa[aD.of g],aD.of i,by rw[Mi,Mi,n],λl N=>?_]]];let S:ae H (ah H l$ .dK$ aM p is):=je N;let zl:=ZE (ns:=p) (is:=is);exact#[.ref a,X,l,d,y,z,aM p is,Z,C.mono$ ae.tm S,G.mono$ ae.tm S,W.mono$ ae.tm S,jc,qR r,LA,λu H' tu k=>q u H' tu λc o e=>k c o (jk e N) (S _ _ e)]
def eB:ak ["part","step","cut","numbers","what","way"] ["part","step"] (aa lR):=bG
def rO{f:ζ}{fd:bU}{nA fC fD fF fE:ζ}{f0 f3 f4 f5:bU}(F:rc K "onward" lR f fd)(cC:‹1› fC f0 ["part","n"] (iE nA) "cut_at")(cD:‹2› fD f3 z8z (iH nA) "held_at")(cF:‹1› fF f4 ["what"] eJ "found_in")(cE:‹8› fE f5 ["part","way","numbers"] (mP nA) "end_of"):⇑9 f fd ["part","step"] (ou nA):=by
 erw[F.ok eB λc0 A o2 s H vs Q E hr h=>?_]
 let⟨v,L,Y,hv,n,d,ys,c,is,wh,e,wd,rfl,C,q⟩:=h;erw[#[_,(jd (jx 2 eB.nd$ cC.e hr.m$ ja (pv 0)$ ja (jz$ pv 1) jb)$ jd (jx 3 eB.nd$ cD.e hr.m$ ja (pv 0)$ ja (jz$ pv 1)$ ja (jz$ pv 1) jb)$ jd (jx 4 eB.nd$ jz$ pv 1)$ jd (jw (jA zo (jz$ pv 4) (jh$ ja jl$ ja jl jb) Z) (jg$ Jb (z9 hr) (pv 3) (jz$ jr jP (pv 2) jf ∅) (cF.e hr.m$ ja (pv 4) jb) Z) jp)$ jd (jx 5 eB.nd$ kM (jA (Dg$ z9 hr) (pv 4) (jh$ ja jl$ ja jf jb)$ aG _) (jz$ jr jP (pv 2) jf ∅)$ jz$ jr jP (pv 2) jf ∅)$ jg$ jo$ cE.e hr.m$ ja (pv 0)$ ja (pv 5)$ ja (pv 3) jb),?_]];let b0:=aH;let⟨a,ca,wv,cs,rfl,ha,hw,a0,a1⟩:=C.prt.parts;let h0:=C.at';erw[aj λF1 J=>#[_,Z,jv h0 gM #[_,n,d,ys,c,Z,C.prt,C.cut,λka na wa dv w0 cu=>J _ _ ?_]]];clear J;erw[aj λF1 J=>#[_,Z,jv h0 gM$ jv h0 mq #[_,n,hv,d,ys,c,is,Z,C.prt,C.cut,C.hat,C.hl,λD n0=>J _ _ ?_]]];clear J;let s1:ae H (ah H D$ .dK$ aM (canon c.M) is):=je n0;let d1:ah H D (.dK$ aM (canon c.M) is) D=δ (.dK$ aM (canon c.M) is):=jc;generalize ah H D (.dK$ aM (canon c.M) is)=H1 at s1 d1;let O:=C.mono (ae.tm s1);let g0:GT (aM (canon c.M) is):=qR C.hin;let z0:=ZE (ns:=canon c.M) (is:=is);let z1:=QQ cu.v.mem;let z2:=C.prt.y20;generalize h7:aM (canon c.M) is=k0 at d1 g0 z0;erw[aj λF1 J=>#[_,Z,Y,_,_,_,Z,Z,aD.of O.at',jE (j:=2) Z,J _ _ ?_]];clear J;let o1:Il nA d c is wh e wd=nX (dJ nA d) (bZ wd.sets$ nU e wh k0) wd.goal:=by unfold Il;rw[h7]
 rw[o1]at q;let h1:=zk cu.ways;rw[Mi]at h1;let G:∃x,w0[wh.side]?=δ x/\aL H (hZ$ wd.wy nA) x []:=by
  let hj:wh.side < ο w0:=by rw[h1];exact(ξ.mp C.way).1
  let⟨tr,ht,tx⟩:=qP cu.ways wh.side _ (Mf hj);rw[MH,C.way]at ht;cases ht;exact#[_,Mf hj,tx]
 let⟨wx,G,t0⟩:=G;let h4:=cu.at';let h8:=cu.wat;erw[aj λF1 J=>?_];let r0:∀(H3:Hp),H3 D=δ (.dK$ nU e wh k0)->aB D H1 H3->F1 [↑a,↑Y,↑ka,↑D,δ L,θ] H3:=by
  intro H3 h3 k3;erw[J _ _ ?_];clear J;let s3:ae H H3:=λc o x=>k3 c o (jk x n0) (s1 _ _ x);let l3:=xo (e:=e) (wh:=wh) (k:=k0);erw[aj λF2 f2=>?_];let f6:∀H4,ae H3 H4->F2 [↑a,↑Y,↑ka,↑D,δ L,δ wx] H4:=λH4 s4=>f2 _ _ (by
   let S:=s3.trans s4;exact#[_,Z,_,Z,_,Z,.ref a,wx,D,d,ys,wd,_,Z,C.prt.mono$ ae.tm S,t0.mono$ ae.tm S,C.wdv.mono$ ae.tm S,s4 _ _ h3,Yn C.fit g0,LA,λu R tu k=>q u R tu λc o x=>k c o (jk x n0) (S _ _ x)])
  clear f2;let wk:=C.whv.mono (ae.tm s3);let fQ:∀(H4:Hp) (j:Nat),ae H3 H4->w0[j]?=δ wx->dU (fX K) (dU (fX K) (a8 2)$ tC$ .int 2) (tC$ .int (j:Int)) [↑a,↑Y,↑ka,↑D,δ L,θ] H4 λx H5=>F2 ([↑a,↑Y,↑ka,↑D,δ L,θ].set 5 (δ x)) H5:=λH4 j s4 hj=>
   #[_,Z,ka,_,_,_,Z,Z,aD.of ((s3.trans s4) _ _ h4),jE (j:=2) Z,wa,_,_,_,Z,Z,aD.of ((s3.trans s4) _ _ h8),jE hj,f6 H4 s4]
  cases wh with
  |rd a' i |wr a' b=>let⟨p,rfl,B⟩:=wk;exact#[_,Z,bN,λt N=>#[p,t,_,_,Z,Z,aD.of$ je N _ _ B,aD.of jc,.inl #[Z,Z,_,Z,aT (by unfold sX;rwa[Rl _])$ fQ _ 0 (je N) G]]]
  |ask b=>
   let⟨p,rfl,B⟩:=wk;let hb:b=0∨b=1:=by
    let:=C.fit;cases e with
    |st p l=>cases l<;>rwa[this.elim]
    |ask t T=>rwa[this]
   rcases hb with rfl |rfl
   .exact#[_,Z,bN,λt N=>#[p,t,_,_,Z,Z,aD.of$ je N _ _ B,aD.of jc,.inl #[Z,Z,_,Z,b8 Ly$ fQ _ 1 (je N) G]]]
   .exact#[_,Z,bN,λt N=>#[p,t,_,_,Z,Z,aD.of$ je N _ _ B,aD.of jc,.inl #[Z,Z,_,Z,aT Ly$ fQ _ 0 (je N) G]]]
  |cl f' i0 i=>let⟨p,c',g,e',rfl,B,h',_⟩:=wk;exact#[_,Z,bN,λt N=>#[p,t,_,_,Z,Z,aD.of$ je N _ _ B,aD.of jc,.inr #[_,c',_,_,_,Z,aD.of$ je N _ _ h',Z,_,Z,aT Z$ fQ _ 0 (je N) G]]]
 let wk:=O.whv;let dk:=O.dv;let fk:=O.fit;let h5:=s1 _ _ h4;let d0:=cu.deed;rw[<- C.ed]at d0;let skip:∀(p:ζ) (W:ρ) (r:ri V),L= .ref p->H1 p=δ (.tup (.str W::r))->oG (.str W) [.str "read",.str "call"]=ν->nU e wh k0=k0->iX (lv$ dU (FQ K ν) (dU (fX K) (a8 4)$ tC$ .int 0)$ bV$ al (tC$ .str "read")$ al (tC$ .str "call") aQ) (uW (a8 3) (dU (fX K) (dU (fX K) (a8 2)$ tC$ .int 1)$ tC$ .int 1)$ dS eJ [] E0$ al (a8 4) aQ) wf { nx:=F1,rt:=Q } [↑a,↑Y,↑ka,↑D,δ L,θ] H1:=by intro p W r I B e2 e3;subst I;erw[oE λG1 k1 k2=>(jv B gM #[bN,λt N=>#[t,_,Z,.inr$ aD.of jc,Z,Z,_,Z,?_]])];show G1 (oG (.str W) [.str "read",.str "call"]) _;rw[e2];rwa[k2 _$ r0 _ (by rw[e3];rwa[am d1 N]) λc o _ x=>je N _ _ x]
 let p0:∀(p p':ζ) (W:ρ) (r:ri V) (i:Int) (x:ρ) (y:V) (r':ri V),L= .ref p->H1 p=δ (.tup (.str W::r))->oG (.str W) [.str "read",.str "call"]=μ->dv= .ref p'->H1 p'=δ (.tup (y:: .str x::r'))->(∀R:Hp,ae H1 R->BE R L wh)->(∀(Q':VK) (R:Hp),Q' (.int i) R->tE Q' R wh)->nU e wh k0=bM k0 (.inr x) (.int i)->iX (lv$ dU (FQ K ν) (dU (fX K) (a8 4)$ tC$ .int 0)$ bV$ al (tC$ .str "read")$ al (tC$ .str "call") aQ) (uW (a8 3) (dU (fX K) (dU (fX K) (a8 2)$ tC$ .int 1)$ tC$ .int 1)$ dS eJ [] E0$ al (a8 4) aQ) wf { nx:=F1,rt:=Q } [↑a,↑Y,↑ka,↑D,δ L,θ] H1:=by intro p p' W r i x y r' I B e2 e4 X e5 e6 e3;subst I;subst e4;erw[oE λG1 k1 k2=>(jv B gM #[bN,λt N=>#[t,_,Z,.inr$ aD.of jc,Z,Z,_,Z,?_]])];show G1 (oG (.str W) [.str "read",.str "call"]) _;rw[e2];erw[k1 _ #[_,Z,.ref p,wh,Z,e5 _$ je N,e6 _ _ ?_]];exact#[_,Z,jv (je N _ _ h5) mq #[p',_,_,_,Z,Z,aD.of$ je N _ _ X,mq,D,_,Z,.inl #[k0,.inr x,am d1 N,Z,LA,Z],r0 _ (by rw[e3];rwa[jc]) λc o nc z=>by rw[ji nc];rwa[je N _ _ z]]]
 cases e with
 |ask t T=>
  cases wh with
  |ask b=>let⟨p,I,B⟩:=wk;rwa[skip p _ _ I B Ly Z]
  |_=>rwa[fk.elim]
 |st p' l=>
  let⟨vs,X,h6,_⟩:=dk;let ed:dv= .ref p':=d0.1;cases l with
  |rd x t T=>
   cases wh with
   |rd b i=>let⟨p,I,B⟩:=wk;let⟨rfl,_⟩:=h6;rwa[p0 p p' _ _ i x _ _ I B Ly ed X (λR s'=>#[p,I,s' _ _ B]) (λ_ _ h=>h) Z]
   |_=>rwa[fk.elim]
  |wr t u T U=>
   cases wh with
   |wr b i=>let⟨p,I,B⟩:=wk;rwa[skip p _ _ I B Ly Z]
   |_=>rwa[fk.elim]
  |cl x f' q' ts=>
   cases wh with
   |cl f2 i1 i=>let⟨p,c2,g2,e2,I,B,h2,h3⟩:=wk;let⟨rfl,_⟩:=h6;rwa[p0 p p' _ _ i x _ _ I B Ly ed X (λR s'=>#[p,c2,g2,e2,I,s' _ _ B,s' _ _ h2,s' _ _ h3]) (λ_ _ h=>h) Z]
   |_=>rwa[fk.elim]
  |st x t T |gv t T=>cases wh<;>rwa[fk.elim]
abbrev ig:cv:=bH 25
abbrev lJ:cv:=bH 26
def wM(k:aO):DD->Tr
 | .st _ (.rd _ _ T)=>ax [aJ "read",aw (T.ev k)]
 | .st _ (.wr _ _ T U)=>ax [aJ "write",aw (T.ev k),aw (U.ev k)]
 | .st _ (.cl _ f _ t)=>ax [aJ "call",aJ f,ax (t.map λc=>aw (c.2.ev k))]
 | .ask _ T=>ax [aJ "ask",aw (if T.ev k=0 then 0 else 1)]
 |_=>.nil
inductive dR(g:ζ)(h:ri V)(H:Hp)(Q:VK)(a:XK):Prop
 |mk(v:V)(n:Nat)(b:ζ)(d:Df)(j:ri ρ)(c:Ct)(f:ri Int)(e:DD)(_:h=[v,.int (n:Int),.ref b])(_:mx H g d j v)(_:(bL g d)[n]?=δ c)(_:H b=δ (.tup (f.map qs)))(_:ο f=(canon c.M).length)(_:∀i∈f,eL i)(_:e.dd=c.d)(_:su H j e)(_:∀(u:V) (H':Hp),aL H' (wM (aM (canon c.M) f) e) u []->ae H H'->Q u H')
inductive gB(f:ri V)(H:Hp)(Q:VK)(b:XK):Prop
 |mk(a d:ζ)(e:ri (ζ×Tm))(g:ri ρ)(k:aO)(_:f=[.ref a,.ref d])(_:H a=δ (.tup (e.map λc=>rb c.1)))(_:ο e<=6)(_:∀c∈e,bf H c.2 c.1/\dy g c.2)(_:H d=δ (.dK k))(_:GT k)(_:∀(r:ζ) (H':Hp),H' r=δ (.tup (e.map λc=>qs (c.2.ev k)))->ae H H'->Q (.ref r) H')
def vM:ak ["terms","numbers"] ["terms","numbers"] (aa ig):=bG
def Y4:hJ:=#[.function,[(".0",.local),("term",.local),("worth",.globalImplicit),("numbers",.free)],ν,ν,[]]
def xZ:(["term","numbers"]:ri ρ).Nodup:=Ly
def xw:bE ["terms","numbers"] (aa ig) Y4 ["term","numbers"] 1 [1]:=sI
def rQ(F:rc K "worths" ig f v)(C:‹7› U B z10z (cg K 6) "worth")(M:mg "tuple"=θ):⇑8 f v ["terms","numbers"] gB:=by
 erw[F.ok vM λG A o s H R Q E I h=>?_]
 let⟨a,D,t,g,k,rfl,p,W,b,J,L,q⟩:=h;erw[#[_,(jg$ jo$ jF jL Z M N0$ ja (@zi _ _ _ _ _ _ _ (["term","numbers"]) (1) ([1]) _ _ _ _ Z (qi$ pv 0) xw (λ_ _ _ _ _=>(jy (i:=0) xZ Z$ ψ Z)) (λ_ _ _ _ _=>(@zI _)) (λ_ _ _ _ _=>(C.e I.m$ ja (pv 0)$ ja (pv 1) jb)) (by intro _;rfl)) jb),?_]];let N:=aH;erw[#[_,Z,a,Z,#[_,aD.of p],?_]];erw[qC (K:=K) (xs:=t.map λc=>rb c.1) (by rw[Mi];omega) (λi z d=>z=(t.take i).map (λc=>qs (c.2.ev k))/\d=H) #[Z,Z] (λi z d h=>?_) (λi x z d r h=>?_) (λz d h l O=>?_)]
 .let⟨rfl,rfl⟩:=h;exact#[aD.of p,by rw[Mi,MT];omega]
 .let⟨rfl,rfl⟩:=h;rw[MH]at r;let⟨y,u,rfl⟩:=dt.mp r;let Y:=MM u;erw[#[_,Z,_,Z,y.1,D,y.2,g,k,Z,.inl (b y Y).1,(b y Y).2.2,(b y Y).2.1,J,L,?_,Z]];rw[NQ,u,MS];rfl
 .let⟨rfl,rfl⟩:=h;rw[Mi,Np];exact#[l,_,Z,.inl #[aI.of jc,λT n=>q T _ jc ((je O).trans$ je n)]]
def gi:ak ["part","n","held","numbers","deed","word"] z8z (aa lJ):=bG
def rF(F:rc K "deed_at" lJ f fd)(cH:‹2› fH f0 z8z (iH nA) "held_at")(cC:‹1› fC f2 ["part","n"] (iE nA) "cut_at")(cW:‹7› fW f3 z10z (cg K 6) "worth")(cS:‹8› fS f4 ["terms","numbers"] gB "worths"):⇑9 f fd z8z (dR nA):=by
 erw[F.ok gi λc0 A o1 s H vs Q E L h=>?_]
 let⟨v,n,hv,d,Y,c,is,e,rfl,hp,hc,hh,hl,h0,h1,h2,q⟩:=h;erw[#[_,(jd (jx 3 gi.nd$ cH.e L.m$ ja (pv 0)$ ja (pv 1)$ ja (pv 2) jb)$ jd (jx 4 gi.nd$ jr jP (cC.e L.m$ ja (pv 0)$ ja (pv 1) jb) jf ∅)$ jd (jx 5 gi.nd$ jz$ pv 4)$ jd (jw (kf$ pv 5) (jg$ jo$ jh$ ja (pv 5)$ ja (kM (jA qD (cW.e L.m$ ja (jz$ pv 4)$ ja (pv 3) jb) jf$ aG _) jf jf) jb) jp)$ jd (jw (kf$ pv 5) (jg$ jo$ jh$ ja (pv 5)$ ja (jz$ pv 4)$ ja (cS.e L.m$ ja (jz$ pv 4)$ ja (pv 3) jb) jb) jp)$ jd (jw (kf$ pv 5) (jg$ jo$ jh$ ja (pv 5)$ ja (cW.e L.m$ ja (jz$ pv 4)$ ja (pv 3) jb) jb) jp)$ jg$ jo$ ju j5 (jh$ ja (pv 5) jb)$ cS.e L.m$ ja (jJ kC (pv 4) (jH jf) jV)$ ja (pv 3) jb),?_]];let b0:=aH;let⟨a,ca,p0,cs,rfl,ha,_,h7,h8⟩:=hp.parts;erw[aj λi b=>#[_,Z,_,Z,_,Z,.ref a,n,hv,d,Y,c,is,Z,hp,hc,hh,hl,λC n0=>b _ _ ?_]];clear b;let S:ae H (ah H C$ .dK$ aM (canon c.M) is):=je n0;let O:ah H C (.dK$ aM (canon c.M) is) C=δ (.dK$ aM (canon c.M) is):=jc;show eO _ _ _ _ (ah H C$ .dK$ aM (canon c.M) is);generalize ah H C (.dK$ aM (canon c.M) is)=H1 at S O;let V:GT (aM (canon c.M) is):=qR h0;generalize aM (canon c.M) is=k at O V q;let dk:=h2.mono (ae.tm S);erw[aj λi b=>#[_,Z,_,Z,.ref a,n,d,Y,c,Z,hp.mono$ ae.tm S,hc,λka na wa dv w0 cu=>#[ka,_,_,_,Z,Z,aD.of cu.at',mq,b _ _ ?_]]];clear b;let D:=cu.deed;rw[<- h1]at D;cases e with
 |ask t T=>
  obtain⟨_,p,xs,rfl,g,_,_,y0,z0,rfl,⟨rfl,_⟩,_,_,y1,z1,rfl,⟨rfl,_⟩,e⟩:=D;let e:z1=[]:=e;subst e;erw[aj λi b=>(jv g gM$ b _ _ ?_)];clear b;erw[aj λi b=>#[_,Z,Z,_,Z,b8 Ly #[_,Z,jv g mq #[_,Z,t,C,T,Y,k,Z,.inl dk.1,dk.2.2,dk.2.1,O,V,Z,_,Z,?_]]]];by_cases z:T.ev k=0
  .erw[b8 (by rw[z];decide+kernel) #[bN,λr G=>q _ _ (jD jc$ jm Z jR$ jm Z #[?_,Z] jB) (S.trans$ je G)]];rw[Mv z]
  .erw[aT (by rw[My];intro e;injection e with e;rwa[z e]) #[bN,λr G=>q _ _ (jD jc$ jm Z jR$ jm Z #[?_,Z] jB) (S.trans$ je G)]];rw[Mx z]
 |st p l=>
  let ed:dv= .ref p:=D.1;subst ed;let⟨vs,g,I,B,h3⟩:=dk;cases l with
  |rd x t T=>let⟨rfl,ht⟩:=I;erw[aj λi b=>(jv g gM$ b _ _ ?_)];clear b;erw[aj λi b=>#[_,Z,Z,_,Z,aT Ly$ b _ _ ?_]];clear b;erw[aj λi b=>#[_,Z,Z,_,Z,aT Ly$ b _ _ ?_]];clear b;erw[aj λi b=>#[_,Z,Z,_,Z,b8 Ly #[_,Z,_,Z,p,_,_,_,Z,Z,aD.of g,jE (j:=2) Z,_,Z,t,C,T,Y,k,Z,.inl ht,B.2.2,B.2.1,O,V,bN,λr G=>?_]]];rwa[q _ _ (jD jc$ jm Z jR$ jm Z jY jB)$ S.trans$ je G]
  |wr t u T U=>
   let⟨rfl,ht,hu⟩:=I;erw[aj λi b=>(jv g gM$ b _ _ ?_)];clear b;erw[aj λi b=>#[_,Z,Z,_,Z,aT Ly$ b _ _ ?_]];clear b;erw[aj λi b=>#[_,Z,Z,_,Z,aT Ly$ b _ _ ?_]];clear b;erw[aj λi b=>#[_,Z,Z,_,Z,aT Ly$ b _ _ ?_]];clear b;erw[#[_,Z,io,λr1 N=>#[_,Z,1,Z,p,_,Z,je N _ _ g,λr2 H2 J R=>#[_,Z,r2,C,[(t,T),(u,U)],Y,k,Z,J,(by show 2<=6;decide),?_,R _ _$ je N _ _ O,V,λr3 H3 h4 s3=>#[r1,r3,_,_,Z,Z,s3 _ _$ R _ _ jc,h4,gE,λr4 H4 h5 s4=>?_]]]]]
   .intro y W;let X:=(je (o:=.tup [.str "write"]) N).trans R;simp only[Og,MU,P8]at W;rcases W with rfl |rfl
    .exact#[ht.same X,B.1]
    .exact#[hu.same X,B.2]
   .rwa[q _ _ (jD h5$ jm Z jR$ jm Z jY$ jm Z jY jB)$ S.trans ((je N).trans$ R.trans$ s3.trans s4)]
  |cl x f' qa ts=>let⟨rfl,hq,h6⟩:=I;erw[aj λi b=>(jv g gM$ b _ _ ?_)];clear b;erw[aj λi b=>#[_,Z,Z,_,Z,aT Ly$ b _ _ ?_]];clear b;let l6:ο ts<=6:=B.2.1;erw[aj λi b=>#[_,Z,Z,_,Z,b8 Ly #[_,Z,_,Z,p,_,_,_,Z,Z,aD.of g,jE (j:=2) Z,_,Z,p,_,_,_,Z,Z,aD.of g,jE (j:=3) Z,_,Z,qa,C,ts,Y,k,Z,hq,l6,λy W=>#[h6 y W,B.2.2 y W],O,V,λr2 H2 J R=>#[gE,λr G=>?_]]]];erw[q _ _ (jD jc$ jm Z jR$ jm Z jR$ jm Z (jD (am J G) ?_) jB)$ S.trans$ R.trans$ je G];let:=J6 (H:=ah H2 r (.tup [.str "call",.str f',.ref r2])) (is:=ts.map λc=>c.2.ev k);rw[Od,Od]at this;rwa[this]
  |st x t T |gv t T=>cases h3
abbrev lP:cv:=bH 17
abbrev nZ:cv:=bH 18
abbrev lK:cv:=bH 19
abbrev vj:cv:=bp (bH 20) 0
abbrev oh:cv:=bp (bH 20) 1
abbrev vm:cv:=bp (bH 20) 2
abbrev lS:cv:=bH 22
def Eh(H:Hp)(x:V)(g:ρ):Prop:=∃p r,x= .ref p/\H p=δ (.tup (.str g::r))
inductive iM(c:ri V)(H:Hp)(Q:VK)(b:XK):Prop
 |mk(a:ζ)(f:ρ)(d:ri V)(i:Nat)(v:V)(_:c=[.ref a,.str f])(_:H a=δ (.tup d))(_:d[i]?=δ v)(_:Eh H v f)(_:∀j x,j < i->d[j]?=δ x->∃g,Eh H x g/\g≠f)(_:Q v H)
inductive ij(e:ri V)(H:Hp)(Q:VK)(b:XK):Prop
 |mk(a g:ζ)(f:ρ)(h k:ri V)(i:Nat)(v:V)(p c:ζ)(r d:ri V)(_:e=[.ref a,.str f,.ref g])(_:H a=δ (.tup h))(_:h[i]?=δ v)(_:v= .ref p)(_:H p=δ (.tup (.str f:: .ref c::r)))(_:H c=δ (.tup d))(_:H g=δ (.tup k))(_:ο k=ο d)(_:∀j x,j < i->h[j]?=δ x->∃g,Eh H x g/\g≠f)(_:Q v H)
def cX(e:ri (ρ×V))(c l p:ζ)(m:Int)(t:Nat):ri (ρ×V):=pe (("cells":ρ),rb c) (pe (("most":ρ),qs m)$ pe (("left":ρ),rb l)$ pe (("turns":ρ),qs (t:Int))$ pe (("parts":ρ),rb p) e)
structure Tl(ex:ri (ρ×V)):Prop where
 l:ο ex<=10
 t:ex.lookup ("take_turn":ρ)=θ
 n:ex.lookup ("number_in":ρ)=θ
 c:ex.lookup ("chain_of":ρ)=θ
 w:ex.lookup ("what_of":ρ)=θ
def Tl.nil:Tl []:=#[Mu _,Z,Z,Z,Z]
structure Rn(H:Hp)(C r dx:ζ)(ex:ri (ρ×V))(cA lA pA:ζ)(m:Int)(t:Nat)(L Cs:aO):Prop where
 ins:H r=δ (.ins C dx$ cX ex cA lA pA m t)
 lf:H lA=δ (.dK L)
 ce:H cA=δ (.dK Cs)
 iL:GT L
 iC:GT Cs
 cl:cA≠lA
 tl:Tl ex
 hm:m<=1000
structure RK(K:Ψ)(C:ζ):Prop where
 cl:pJ K C
 n1:aW K C "cells"
 n2:aW K C "most"
 n3:aW K C "left"
 n4:aW K C "turns"
 n5:aW K C "parts"
inductive eK(C:ζ)(i:ri V)(H:Hp)(Q:VK)(a:XK):Prop
 |mk(r e:ζ)(f:ri (ρ×V))(d g h:ζ)(m c:Int)(t:Nat)(L b:aO)(_:i=[.ref r,.int c])(_:Rn H C r e f d g h m t L b)(_:Q (.int (look L (.inl c) (look b (.inl c) 0))) H)
inductive iP(C:ζ)(e:ri V)(H:Hp)(Q:VK)(a:XK):Prop
 |mk(r c:ζ)(d:ri (ρ×V))(b:ζ)(m:Int)(_:e=[.ref r,.ref b,.int m])(_:H r=δ (.ins C c []))(_:∀lA,H lA=θ->Q .non (ah (ah H lA (.dK [])) r (.ins C c [("cells",.ref b),("most",.int m),("left",.ref lA),("turns",.int 0)])))
structure XM(K:Ψ)(mg:ρ->rm η)(x:ρ)(L:ζ):Prop where
 ex:excIn K L pM "ValueError.__new__"=μ
 kp:fr K (.ref L)=μ
 xc:sE K L
 ty:typeIn K (.ref L)=δ (.type "type")
 m:mg x=↑L
def NX(o:HO):Prop:=∀a,o≠ .ext a
def Kp(H h:Hp):Prop:=∀b o,NX o->H b=δ o->h b=δ o
def Kp.of_same(s:ae H h):Kp H h:=λb o _ e=>s _ _ e
def i8(E:XK):XK:=λC d H=>∀x T t c,C= .ref c->H x=δ (gY c d T x)->H T=δ (fj T)->H t=θ->E (.ref c) d (ah (ah H t$ fj t) x$ gY c d t x)
def j8{P:ω}{w:bS}{K:Ψ}{mg:ρ->rm η}{base:db}:dD (cR P w) (eX (cR P w) P w K mg base N q s f g A o a H E) (i8 E):=
 yy λx C d T t i b c e h=>h x T t C Z b c e
def zS{H h:Hp}(e:h b=δ o)(n:NX o)(a:h x=δ (gY C d T x))(c:h t=θ):ah (ah h t$ fj t) x (gY C d t x) b=δ o:=by
 let N:b≠x:=λz=>by rw[z,a]at e;injection e with e;rwa[n _ e.symm]
 rw[ji N,ji$ jk e c];rwa[e]
def Fl(E:XK)(L:ζ)(R:Hp->Prop):Prop:=∀(_:Unit) H,R H->E (.ref L) θ H
inductive eE(C L:ζ)(f:ri V)(H:Hp)(Q:VK)(E:XK):Prop
 |mk(r b:ζ)(c:ri (ρ×V))(a d e:ζ)(m:Int)(t:Nat)(_:f=[.ref r])(_:H r=δ (.ins C b (cX c a d e m t)))(_:Tl c)(_:(t:Int) < m->Q .non (ah H r (.ins C b (cX c a d e m (t+1)))))(_:m<=(t:Int)->Fl E L (Kp H))
inductive dj(D:ζ)(a:ri V)(H:Hp)(Q:VK)(E:XK):Prop
 |mk(d:Int)(_:a=[.int d])(_:d < 15->Q (.int (d+1)) H)(_:15<=d->Fl E D (Kp H))
def XQ{H:Hp}(a:H x=θ)(N:ah H x (Ax L θ x) T=θ):ae H (ah (ah (ah H x$ Ax L θ x) T$ fj T) x$ gY L d T x):=by intro b o e;let n:b≠x:=jk e a;rw[ji n,ji (λz=>by rw[<- z,ji n,e]at N;cases N),ji n];rwa[e]
def mK:ak ["ones","f","one"] ["ones","f"] (aa lP):=bG
def rM(F:rc K "named" lP f D):⇑1 f D ["ones","f"] iM:=by
 erw[F.ok mK λG A o s H W Q E X h=>?_]
 let⟨a,f,xs,i,v,rfl,t,u,L,d,q⟩:=h;erw[#[_,(jd (kh M3 Z (qi$ pv 0) (jy (i:=2) mK.nd Z$ ψ Z)$ jg$ jw (jA qD (jz$ pv 2) (pv 1)$ aG _) (jg$ jo$ pv 2) jp)$ @uM _ _),?_]];let M:i < ο xs:=(ξ.mp u).1;erw[aj λY f1=>eM λJ j=>#[_,Z,a,Z,#[_,aD.of t],j _ _ ?_]];clear j;erw[Kx (K:=K) (xs:=xs) (λk c e=>(∃O,c=[↑a,δ$ .str f,O])/\e=H/\k<=i) #[#[_,Z],Z,Mu _] (λk c e _ h=>by rw[h.2.1];rwa[aD.of t]) ?_ (λc e h=>?_)]
 .intro l R k x c H2 m N I b h;obtain⟨⟨O,rfl⟩,rfl,y⟩:=h;erw[b ?_];clear b;by_cases S:k=i
  .subst S;rw[u]at m;cases m;let⟨p,r,rfl,n⟩:=id L;show iX _ _ _ l _ _;erw[oE λT B C=>(jv n gM #[_,Z,Z,_,Z,?_])];rw[MN (Z:qr f=qr f)];erw[B _ ?_];show gF _ l _ _;unfold gF;rw[R];exact#[_,Z,q]
  .obtain⟨g,⟨p,r,rfl,n⟩,U⟩:=d k x LA m;show iX _ _ _ l _ _;erw[oE λT B C=>(jv n gM #[_,Z,Z,_,Z,?_])];rw[My (λz=>U (by injection z))];rwa[C _$ N _ _ #[#[_,Z],Z,LA]]
 .let⟨_,_,y⟩:=h;rwa[absurd y LA]
def vI:ak ["parts","f"] ["parts","f"] (aa lS):=bG
def rP(F:rc K "part_of" lS f c)(C:‹1› r d ["ones","f"] iM "named"):⇑2 f c ["parts","f"] iM:=by
 erw[F.ok vI λg A o s H V Q E j h=>?_]
 let⟨a,f,x,i,v,rfl,l,n,p,b,q⟩:=h;erw[#[_,(jg$ jo$ C.e j.m$ ja (pv 0)$ ja (pv 1) jb),?_]];exact#[_,Z,_,Z,a,f,x,i,v,Z,l,n,p,b,q]
def oV:ak ["ones","f","args","one"] ["ones","f","args"] (aa nZ):=bG
def ui(F:rc K "begun" nZ f j)(C:‹1› N l ["ones","f"] iM "named")(M:mg "len"=θ):⇑2 f j ["ones","f","args"] ij:=by
 erw[F.ok oV λn A o s H V Q E t h=>?_]
 let⟨a,g,f,x,y,i,v,p,c,r,u,rfl,z,B,rfl,d,D,G,I,J,q⟩:=h;erw[#[_,(jd (jx 3 oV.nd$ C.e t.m$ ja (pv 0)$ ja (pv 1) jb)$ jd (jw (jA Qn (jG jI Z M M9$ ja (pv 2) jb) (jG jI Z M M9$ ja (jz$ pv 3) jb)$ aG _) (@uM _ _) jp)$ jg$ jo$ pv 3),?_]];erw[aj λL b=>#[_,Z,_,Z,a,f,x,i,.ref p,Z,z,B,#[p,_,Z,d],J,b _ _ ?_]];clear b;erw[aj λL b=>#[_,Z,g,_,Z,.inr$ aD.of G,jv d mq #[c,_,Z,.inr$ aD.of D,Z,_,Z,aT (by rw[I];simp)$ b _ _ #[_,Z,q]]]]
def vA:ak ["deep"] ["deep"] (aa lK):=bG
def rG(F:rc K "deeper" lK f a)(M:mg "DEEPEST"=δ (.int 15 t))(X:XM K mg "TooDeep" D):af P w K mg base (cR P w) 1 f a ["deep"] (dj D):=by
 erw[F.ok1 vA λC A o s H V Q E g h=>?_]
 let⟨d,rfl,q,e⟩:=h;erw[#[_,(jd (jw (jA uE (pv 0) (q8 (v:=.int 15) Z M #[t,Z])$ aG _) (jg$ @Xx _ _ _ _ _ Z QH$ @QE _ _ _ _ _ X.ex X.kp Z X.m LB) jp)$ jg$ jo$ ju jW (pv 0) jf),?_]];erw[aj λi b=>#[_,Z,_,_,Z,Z,_,Z,?_]];by_cases c:(15:Int)<=d
 .erw[b8 (MN c) λx n=>?_];exact#[x,D,θ,Z,jc,X.xc,X.ty,λT N=>e c () _ (Kp.of_same$ XQ n N)]
 .rwa[aT (My c)$ b _ _ #[_,Z,_,_,Z,Z,q LA]]
def DR:ak z22z z22z (aa vj):=bG
def ZH(F:aN K "__init__" "Turns.__init__" vj f v)(c:RK K C):⇑1 f v z22z (iP C):=by
 erw[F.ok DR λx A o s H V Q E G h=>?_]
 let⟨r,D,y,z,m,rfl,g,q⟩:=h;erw[#[_,(jd (@qj _ _ _ _ _ _ _ _ (pv 0) (pv 1) Z)$ jd (@qj _ _ _ _ _ _ _ _ (pv 0) (pv 2) Z)$ jd (@qj _ _ _ _ _ _ _ _ (pv 0) Xv Z)$ jg$ @qj _ _ _ _ _ _ _ _ (pv 0) jf Z),?_]];erw[aj λj a=>#[_,Z,_,Z,r,C,D,_,Z,g,c.cl,c.n1,LB,a _ _ ?_]];clear a;erw[aj λj a=>#[_,Z,_,Z,r,C,D,_,Z,jc,c.cl,c.n2,(by show 1 < 1000;decide),a _ _ ?_]];clear a;erw[aj λj a=>λl n=>#[_,Z,r,C,D,_,Z,am jc n,c.cl,c.n3,(by show 2 < 1000;decide),a _ _ ?_]];clear a;erw[#[_,Z,r,C,D,_,Z,jc,c.cl,c.n4,(by show 3 < 1000;decide),?_]];let N:l≠r:=λe=>by rw[e,jc]at n;cases n
 let B:H l=θ:=by rw[ji N,ji N]at n;rwa[n]
 let e:∀p t u O:HO,ah (ah (ah (ah (ah H r p) r t) l$ .dK []) r u) r O=ah (ah H l$ .dK []) r O:=λp t u O=>by
  funext b;by_cases d:b=r
  .rw[d,jc,jc]
  .rw[ji d,ji d,ji d];by_cases i:b=l
   .rw[i,jc,jc]
   .rw[ji i,ji d,ji d,ji i]
 rw[e];rwa[q l B]
def yZ:ak ["self"] ["self"] (aa oh):=bG
def XS(F:aN K "take_turn" "Turns.take_turn" oh f i)(b:RK K C)(X:XM K mg "TooLong" L):af P w K mg base (cR P w) 1 f i ["self"] (eE C L):=by
 erw[F.ok1 yZ λj A o s H V Q E B h=>?_]
 let⟨r,d,g,n,p,u,m,t,rfl,a,v,q,e⟩:=h;erw[#[_,(jd (jw (jA uE (kU (pv 0) Z) (kU (pv 0) Z)$ aG _) (jg$ @Xx _ _ _ _ _ Z QH$ @QE _ _ _ _ _ X.ex X.kp Z X.m LB) jp)$ jg$ @Z3 _ _ _ _ _ _ _ _ _ _ (pv 0) jf Ce),?_]];erw[aj λD y=>#[_,Z,r,C,d,_,_,Z,a,b.cl,b.n4,Z,_,Z,r,C,d,_,_,Z,a,b.cl,b.n2,Z,_,_,Z,Z,_,Z,?_]];by_cases c:m<=(t:Int)
 .erw[b8 (MN c) λx N=>?_];exact#[x,L,θ,Z,jc,X.xc,X.ty,λT z=>e c () _ (Kp.of_same$ XQ N z)]
 .rwa[aT (My c)$ y _ _ #[_,Z,r,C,d,_,_,Z,a,b.cl,b.n4,Z,_,_,Z,Z,d,_,a,(by let:=v.l;show ο g+1+1+1+1+1 < 1000;omega),q LA]]
def DS:ak ["self","cell"] ["self","cell"] (aa vm):=bG
def ZI(F:aN K "number_in" "Turns.number_in" vm f p)(b:RK K C):⇑1 f p ["self","cell"] (eK C):=by
 erw[F.ok DS λu A o s H V Q E g h=>?_]
 let⟨r,d,x,i,l,y,m,c,t,L,j,rfl,a,q⟩:=h;erw[#[_,(jg$ jo$ kM (Yf$ @Dm _ _ _ _ _ (z9 g) (pv 1)$ kU (pv 0) Z) (yz (z9 g) (kU (pv 0) Z) (pv 1) ∅)$ @Kw _ _ _ _ _ _ _ _ _ (z9 g) (kU (pv 0) Z) (pv 1) jf #[Lx,Lx,Lx,Lx]),?_]];erw[#[_,Z,_,Z,r,C,d,_,_,Z,a.ins,b.cl,b.n3,Z,l,_,Z,fh.k (k:=.inl c) a.lf,_,Z,?_]];cases e:dM L (.inl c) with
 |some v=>erw[b8 Z #[_,Z,r,C,d,_,_,Z,a.ins,b.cl,b.n3,Z,_,Z,l,v,Z,by rw[<- e];rwa[fh.k (k:=.inl c) a.lf],?_]];rw[rj a.iL e$ look j (.inl c) 0];rwa[q]
 |none=>erw[aT Z #[_,Z,r,C,d,_,_,Z,a.ins,b.cl,b.n1,Z,i,Z,.inl #[_,.inl a.ce],_,Z,_,fh.k (k:=.inl c) a.ce,?_]];rw[Ky a.iC];rw[rh e]at q;rwa[q]
abbrev uU:cv:=bp (bH 37) 0
abbrev yK:cv:=bp (bH 37) 1
abbrev yL:cv:=bp (bH 37) 2
abbrev DK:cv:=bH 38
inductive Sk where
 |nil |st (n:Int) (hs:ri Int) (w r:Sk) |ask (b:Int) |rd (c i:Int) |wr (c i:Int) |cl (f:ρ) (is:ri Int) (s:Sk) (a:Int)
def Sk.dep:Sk->Nat
 | .st _ _ w r=>max w.dep r.dep
 | .cl _ _ s _=>s.dep+1
 |_=>0
def Sk.size:Sk->Nat
 | .st _ _ w r=>w.size+r.size+1
 | .cl _ _ s _=>s.size
 |_=>0
def Sk.ok:Bool->Sk->Prop
 |true,.nil=>True
 |true,.st _ _ w r=>w.ok ν/\r.ok μ
 |false,.cl _ _ s _=>s.ok μ
 |false,.ask _ |false,.rd _ _ |false,.wr _ _=>True
 |_,_=>False
inductive eIs(H:Hp)(n:Int)(d:ri Int)(W R:V->ri V->Prop)(x:ri V):Prop|mk(p h u y:_)(_:x= .ref p::y)(_:H p=δ (.tup [.int n,.ref h,u]))(_:H h=δ (.tup (d.map qs)))(_:W u [])(_:R .non y)
inductive eIc(H:Hp)(f:ρ)(I:ri Int)(a:Int)(W:V->ri V->Prop)(u:V):Prop|mk(p c g e S:_)(_:u= .ref p)(_:H p=δ (.tup [.str "call",.ref c]))(_:H c=δ (.tup [.str f,.ref g,.ref e,.int a]))(_:H g=δ (.tup (I.map qs)))(_:H e=δ (.tup S))(_:W .non S)
def eI(H:Hp):Sk->V->ri V->Prop
 | .nil,_,x=>x=[]
 | .st n d w r,_,x=>eIs H n d (eI H w) (eI H r) x
 | .ask b,u,_=>∃p,u= .ref p/\H p=δ (.tup [.str "ask",.int b])
 | .rd c i,u,_=>∃p,u= .ref p/\H p=δ (.tup [.str "read",.int c,.int i])
 | .wr c i,u,_=>∃p,u= .ref p/\H p=δ (.tup [.str "write",.int c,.int i])
 | .cl f I s a,u,_=>eIc H f I a (eI H s) u
theorem eI.mono(k:ai H i):∀{s:Sk} {u:V} {x:ri V},eI H s u x->eI i s u x
 | .nil,_,_,h=>h
 | .st _ _ _ _,_,_,z=>by let⟨p,h,u,y,e,a,b,d,f⟩:=z;rwa[#[p,h,u,y,e,k _ _ a,k _ _ b,eI.mono k d,eI.mono k f]]
 | .ask _,_,_,z | .rd _ _,_,_,z | .wr _ _,_,_,z=>by let⟨p,e,h⟩:=z;rwa[#[p,e,k _ _ h]]
 | .cl _ _ _ _,_,_,z=>by let⟨p,c,g,e,S,E,a,b,d,f,j⟩:=z;rwa[#[p,c,g,e,S,E,k _ _ a,k _ _ b,k _ _ d,k _ _ f,eI.mono k j]]
def Sk.put(n:Int)(h:ri Int)(W:Sk):Sk->Sk
 | .st a b c r=>.st a b c (Sk.put n h W r)
 |_=>.st n h W .nil
theorem uP{H:Hp}{n:Int}{a:ri Int}{w:Sk}{p h:ζ}{u:V}(b:H p=δ (.tup [.int n,.ref h,u]))(c:H h=δ (.tup$ a.map qs))(d:eI H w u []):∀{s:Sk} {x:ri V},s.ok μ->eI H s .non x->eI H (Sk.put n a w s) .non (x++[.ref p])
 | .nil,_,_,e=>by let e:_=[]:=e;rw[e];exact#[p,h,u,[],Z,b,c,d,Z]
 | .st _ _ _ r,_,o,z=>by let⟨f,g,U,y,e,i,j,k,l⟩:=z;rw[e];exact#[f,g,U,y++[.ref p],Z,i,j,k,uP b c d o.2 l]
theorem Q6{w:Sk}(h:w.ok ν):∀{s:Sk},s.ok μ->(Sk.put n H w s).ok μ
 | .nil,_=>#[h,trivial]
 | .st _ _ _ _,o=>#[o.1,Q6 h o.2]
theorem Kz{n:Int}{hs:ri Int}{w:Sk}:∀{s:Sk},s.ok μ->(Sk.put n hs w s).size=s.size+(w.size+1)
 | .nil,_=>by show w.size+0+1=0+(w.size+1);omega
 | .st _ _ c r,o=>by let:=Kz (n:=n) (hs:=hs) (w:=w) (s:=r) o.2;show c.size+(Sk.put n hs w r).size+1=c.size+r.size+1+(w.size+1);omega
theorem Q7{n:Int}{hs:ri Int}{w:Sk}{j:Nat}(H:w.dep<=j):∀{s:Sk},s.ok μ->s.dep<=j->(Sk.put n hs w s).dep<=j
 | .nil,_,_=>by show max w.dep 0<=j;omega
 | .st _ _ c r,o,h=>by let h:max c.dep r.dep<=j:=h;let:=Q7 (n:=n) (hs:=hs) H (s:=r) o.2 LA;show max c.dep (Sk.put n hs w r).dep<=j;omega
theorem Jx:∀{s:Sk} {x:ri V},s.ok μ->eI H s .non x->ο x<=s.size
 | .nil,_,_,e=>by let e:_=[]:=e;rw[e];rwa[Mj 0]
 | .st _ _ w r,_,o,z=>by let⟨_,_,_,y,e,_,_,_,h⟩:=z;let:=Jx o.2 h;rw[e];show ο y+1<=w.size+r.size+1;omega
inductive iS(H:Hp)(f:ρ)(i:ri Int)(s:Sk)(a:Int)(u:V):Prop|mk(c g e S:_)(_:u= .ref c)(_:H c=δ (.tup [.str f,.ref g,.ref e,.int a]))(_:H g=δ (.tup$ i.map qs))(_:H e=δ (.tup S))(_:eI H s .non S)
def Sk.wh:Sk->Wh
 | .ask b=>.ask b
 | .rd c i=>.rd c i
 | .wr c i=>.wr c i
 | .cl f I _ a=>.cl f I a
 |_=>.ask 0
def G7{s:Sk}(o:s.ok ν)(h:eI H s u []):BE H u s.wh:=by
 cases s with
 |nil |st=>rwa[o.elim]
 |ask b |rd c i |wr c i=>rwa[h]
 |cl f I s a=>let⟨p,c,g,e,S,E,d,j,k,_⟩:=h;exact#[p,c,g,.ref e,E,d,j,k]
inductive Gd where
 |give (a:Int) |go (n:Nat) (hs:ri Int)
def eN(N:Nat->ri ρ)(k:aO):Gl->Gd
 | .give _ T=>.give (T.ev k)
 | .nought=>.give 0
 | .go n=>.go n ((N n).map λx=>look k (.inr x) 0)
def Hm:Gd->Tr
 | .give a=>ax [aJ "give",aw a]
 | .go n h=>ax [aJ "go",aw (n:Int),ax (h.map aw)]
def Yo(N:Nat->ri ρ)(k:aO)(g:Gl):nX N k g=Hm (eN N k g):=by
 cases g with
 |give t T |nought=>rfl
 |go n=>show _=ax [_,_,ax (((N n).map λx=>look k (.inr x) 0).map aw)];rw[Od];rfl
structure By where
 nm:ri ρ
 e:DD
 ws:ri WD
structure cq where
 f:ρ
 ps:ri ρ
 way:WD
 cs:ri By
structure Eo(H:Hp)(ys:ri ρ)(nA:ζ)(d:Df)(c:Ct)(cd:By):Prop where
 nm:cd.nm=canon c.M
 ed:cd.e.dd=c.d
 dv:su H ys cd.e
 cs:cd.e.Cs d.b.calls
 len:ο cd.ws=ο c.ws
 ws:∀(j:Nat) (w:Wy) (wd:WD),c.ws[j]?=δ w->cd.ws[j]?=δ wd->wd.wy nA=w/\wL H ys d.b.cuts d.b.size wd
structure xf(H:Hp)(nA:ζ)(d:Df)(ys:ri ρ)(pd:cq):Prop where
 f:pd.f=d.f
 ps:H d.pa=δ (.tup$ pd.ps.map qr)
 wy:pd.way.wy nA=(gZ nA d).1.w
 wv:wL H ys d.b.cuts d.b.size pd.way
 len:ο pd.cs=(bL nA d).length
 cs:∀(n:Nat) (c:Ct) (cd:By),(bL nA d)[n]?=δ c->pd.cs[n]?=δ cd->Eo H ys nA d c cd
def Eo.mono(k:ai H f)(h:Eo H y n d c C):Eo f y n d c C:=#[h.nm,h.ed,h.dv.mono k,h.cs,h.len,λj w W a b=>let #[e,v]:=h.ws j w W a b;#[e,v.mono k]]
def xf.mono(k:ai H e)(h:xf H N d y p):xf e N d y p:=#[h.f,k _ _ h.ps,h.wy,h.wv.mono k,h.len,λn c C a b=>(h.cs n c C a b).mono k]
theorem xp{c d:Type}{R:c->d->Prop}:∀(l:ri c),(∀a∈l,∃b,R a b)->∃m:ri d,ο m=ο l/\∀(i:Nat) (a:c) (b:d),l[i]?=δ a->m[i]?=δ b->R a b
 | [],_=>#[[],Z,λi a b h=>by simp at h]
 |a::l,h=>by
  let⟨b,g⟩:=h a Mz;let⟨m,e,j⟩:=xp l λx k=>h x (ML _ k);erw[#[b::m,by rw[MV,MV,e],λi x y H f=>?_]];cases i with
  |zero=>cases H;cases f;rwa[g]
  |succ i=>rwa[j i x y (H:) (f:)]
def nH(p:cq)(n:Nat):ri ρ:=match p.cs[n]? with
 |some c=>c.nm
 |none=>[]
def xf.nms(h:xf H N d y p):dJ N d=nH p:=by
 funext n;unfold dJ nH;by_cases a:n < ο p.cs
 .let b:n < (bL N d).length:=by rw[<- h.len];exact a
  rw[Mf a,Mf b];exact(h.cs n _ _ (Mf b)$ Mf a).nm.symm
 .rw[Nv$ Px a,Nv (by rw[<- h.len];rwa[Px a])]
inductive OW where
 |ok (w:Sk) (L:aO) (t:Nat) |long |deep
inductive OC where
 |ok (s:Sk) (a:Int) (L:aO) (t:Nat) |long |deep
def OC.cons(n:Int)(h:ri Int)(w:Sk):OC->OC
 | .ok s a L t=>.ok (.st n h w s) a L t
 | .long=>.long
 | .deep=>.deep
def Sk.app:Sk->Sk->Sk
 | .st n h w r,s=>.st n h w (r.app s)
 |_,s=>s
def OC.pre(S:Sk):OC->OC
 | .ok s a L t=>.ok (S.app s) a L t
 | .long=>.long
 | .deep=>.deep
theorem KA:∀{s:Sk},s.ok μ->s.app .nil=s
 | .nil,_=>rfl
 | .st n h w r,o=>by show Sk.st n h w (r.app .nil)=_;rw[KA o.2]
theorem ZJ{w:Sk}:∀{s:Sk},s.ok μ->(Sk.put n h w s).app q=s.app (.st n h w q)
 | .nil,_=>rfl
 | .st a b c r,o=>by show Sk.st a b c ((Sk.put n h w r).app q)=Sk.st a b c (r.app (.st n h w q));rw[ZJ o.2]
def XT{w s:Sk}(o:OC)(h:s.ok μ):(o.cons n H w).pre s=o.pre (Sk.put n H w s):=by
 cases o with
 |ok q a L t=>show OC.ok (s.app (.st n H w q)) a L t= .ok ((Sk.put n H w s).app q) a L t;rw[ZJ h]
 |long |deep=>rfl
abbrev lB:=ρ->ri Int->aO->Nat->OC
def OC.cl(f:ρ)(i:ri Int):OC->OW
 | .ok s a L t=>.ok (.cl f i s a) L t
 | .long=>.long
 | .deep=>.deep
def fg(M:Nat)(call:lB)(C:aO)(k L:aO)(t:Nat)(e:DD):OW:=if t < M then match e with
 | .ask _ T=>.ok (.ask (if T.ev k=0 then 0 else 1)) L (t+1)
 | .st _ (.rd _ _ T)=>.ok (.rd (T.ev k) (look L (.inl (T.ev k)) (look C (.inl (T.ev k)) 0))) L (t+1)
 | .st _ (.wr _ _ T U)=>.ok (.wr (T.ev k) (U.ev k)) (bM L (.inl (T.ev k)) (.int (U.ev k))) (t+1)
 | .st _ (.cl _ f _ a)=>(call f (a.map λc=>c.2.ev k) L (t+1)).cl f (a.map λc=>c.2.ev k)
 |_=>.long
 else .long
def J7{call:lB}(h:¬t < M):fg M call C k L t e= .long:=by unfold fg;rw[Mx h]
def Yp{call:lB}(h:t < M):fg M call C k L t (.ask p T)= .ok (.ask (if T.ev k=0 then 0 else 1)) L (t+1):=by unfold fg;rw[Mv h]
def sT{call:lB}(h:t < M):fg M call C k L t (.st p$ .rd x a T)= .ok (.rd (T.ev k)$ look L (.inl$ T.ev k)$ look C (.inl$ T.ev k) 0) L (t+1):=by unfold fg;rw[Mv h]
def sU{call:lB}(h:t < M):fg M call C k L t (.st p$ .wr a b T U)= .ok (.wr (T.ev k)$ U.ev k) (bM L (.inl$ T.ev k)$ .int$ U.ev k) (t+1):=by unfold fg;rw[Mv h]
def qE{call:lB}(h:t < M):fg M call C k L t (.st p$ .cl x f q T)=(call f (T.map λc=>c.2.ev k) L$ t+1).cl f (T.map λc=>c.2.ev k):=by unfold fg;rw[Mv h]
def nY(p:cq)(c:By)(h:ri Int)(w:Wh):Gd:=match c.ws[w.side]? with
 |some W=>eN (nH p) (bZ W.sets (nU c.e w (aM c.nm h))) W.goal
 |none=>.give 0
def fo(M:Nat)(call:lB)(C:aO)(p:cq):Nat->Gd->aO->Nat->OC
 |0,_,_,_=>.long
 |_+1,.give a,L,t=>.ok .nil a L t
 |m+1,.go n h,L,t=>match p.cs[n]? with
  |none=>.long
  |some c=>match fg M call C (aM c.nm h) L t c.e with
   | .ok w l T=>(fo M call C p m (nY p c h w.wh) l T).cons (n:Int) h w
   | .long=>.long
   | .deep=>.deep
def fQ:ri cq->ρ->rm cq
 | [],_=>θ
 |p::r,f=>if p.f=f then δ p else fQ r f
theorem ZK:∀{b:ri cq} {i:Nat} {a:cq},b[i]?=δ a->(∀(j:Nat) (p:cq),j < i->b[j]?=δ p->p.f≠a.f)->fQ b a.f=δ a
 | [],i,a,h,_=>by simp at h
 |p::r,0,a,h,_=>by cases h;show(if p.f=p.f then δ p else _)=_;rw[Mv Z]
 |p::r,i+1,a,h,k=>by show(if p.f=a.f then δ p else fQ r a.f)=_;rw[Mx$ k 0 p (Nat.succ_pos _) Z];rwa[ZK (i:=i) (h:) λj q H c=>k (j+1) q (Nat.succ_lt_succ H) (c:)]
def aR(M:Nat)(p:ri cq)(C:aO):Nat->lB
 |0=>λ_ _ _ _=>.deep
 |j+1=>λf i L t=>match fQ p f with
  |none=>.long
  |some a=>fo M (aR M p C j) C a (M+2) (eN (nH a) (bZ a.way.sets (aM a.ps i)) a.way.goal) L t
structure Ps(H:Hp)(nA pA:ζ)(ds:ri Df)(ns:ri Nat)(xs:ri V)(pds:ri cq):Prop where
 at':H pA=δ (.tup xs)
 tr:aL H (aC$ ds.map$ eU nA) .non xs
 dv:∃zs,ci H ds zs
 ok:sw ds ns
 pa:mw H ds ns
 dl:ο pds=ο ds
 pr:∀(i:Nat) (d:Df) (pd:cq),ds[i]?=δ d->pds[i]?=δ pd->∃ys,(d.b.Ok ys/\ys.length<=20)/\xf H nA d ys pd
def Ps.mono(h:Ps H n c D N x p)(k:ai H e):Ps e n c D N x p:=#[k _ _ h.at',h.tr.mono k,let #[f,z]:=h.dv;#[f,z.mono k],h.ok,h.pa.mono k,h.dl,λi d g a b=>let #[Y,y,r]:=h.pr i d g a b;#[Y,y,r.mono k]]
def ZL(h:aL H (eU n d) v []):Eh H v d.f:=by obtain⟨_,a,x,rfl,b,_,_,Y,y,rfl,⟨rfl,_⟩,_⟩:=h;exact#[a,_,Z,b]
theorem sV:∀{D:ri Df} {z:ri V},ci H D z->∀{i:Nat} {d:Df},D[i]?=δ d->∃B,dG H d.b B
 |_::_,_,q,0,d,a=>by obtain⟨u,r,e,⟨B,_,_,_,h⟩,c⟩:=q;cases a;exact#[B,h]
 |_::_,_,#[u,r,e,_,c],i+1,d,a=>sV c (a:)
section
variable {H:Hp}{nA pA:ζ}{ds:ri Df}{ns:ri Nat}{xs:ri V}{pds:ri cq}
def Ps.part(h:Ps H nA pA ds ns xs pds){i:Nat}{d:Df}{v:V}(b:ds[i]?=δ d)(q:xs[i]?=δ v):∃y c,mx H nA d y v/\pds[i]?=δ c/\xf H nA d y c/\fQ pds d.f=δ c:=by
 let⟨T,n,t⟩:=qP h.tr i v q;rw[MH,b]at n;cases n;let⟨z,r⟩:=h.dv;let⟨_,_,s⟩:=(h.ok.1 d$ MM b).1;let u:i < ο ds:=(ξ.mp b).1;let g:pds[i]?=δ (pds[i]'(by rw[h.dl];rwa[u])):=Mf _;obtain⟨y,⟨O,Y⟩,k⟩:=h.pr i d _ b g;erw[#[y,_,#[t,sV r b,O,Y,s],g,k,?_]];rw[<- k.f];erw[ZK g λj p A l e=>?_];let a:j < ο ds:=LA
 let⟨_,_,m⟩:=h.pr j _ p (Mf a) l;rw[m.f,k.f]at e;let x:(ds.map Df.f)[j]?=δ (ds[j]).f:=by rw[MH,Mf a];rfl
 let o:(ds.map Df.f)[i]?=δ d.f:=by rw[MH,b];rfl
 rw[<- e]at o;let:=(TR (by rw[Mi];rwa[a]) h.ok.2.1).mp (x.trans o.symm);omega
def Ps.cs(h:Ps H nA pA ds ns xs pds){i:Nat}{d:Df}(a:ds[i]?=δ d):∀f∈d.b.calls,f∈(ds.map Df.f).zip ns:=zD (h.ok.1 d$ MM a).2
def Ps.at(h:Ps H nA pA ds ns xs pds){i:Nat}{d:Df}(b:ds[i]?=δ d):∃v,xs[i]?=δ v/\aL H (eU nA d) v []/\Eh H v d.f/\∀j x,j < i->xs[j]?=δ x->∃g,Eh H x g/\g≠d.f:=by
 let L:=zk h.tr;rw[Mi]at L;let r:i < ο ds:=(ξ.mp b).1;let t:∀(j:Nat) (x:V),xs[j]?=δ x->∃c,ds[j]?=δ c/\aL H (eU nA c) x []:=λj x k=>by let⟨s,m,t⟩:=qP h.tr j x k;rw[MH]at m;let⟨c,a,rfl⟩:=dt.mp m;exact#[c,a,t]
 let n:xs[i]?=δ (xs[i]'LA):=Mf LA;let⟨c,a,T⟩:=t _ _ n;rw[b]at a;cases a;erw[#[_,n,T,ZL T,λj x u k=>?_]];let⟨c,a,q⟩:=t j x k;erw[#[c.f,ZL q,λe=>?_]];let o:(ds.map Df.f)[j]?=δ c.f:=by rw[MH,a];rfl
 let p:(ds.map Df.f)[i]?=δ d.f:=by rw[MH,b];rfl
 rw[<- e]at p;let l:j < (ds.map Df.f).length:=(ξ.mp o).1;let:=(TR l h.ok.2.1).mp (o.trans p.symm);omega
def Ps.find(h:Ps H nA pA ds ns xs pds)(a:(f,n)∈(ds.map Df.f).zip ns):∃(i:Nat) (d:Df),ds[i]?=δ d/\ns[i]?=δ n/\d.f=f:=by
 let⟨i,b,e⟩:=gr.mp a;let E:((ds.map Df.f).zip ns)[i]?=δ (f,n):=by rw[<- e];rwa[Mf b]
 rw[Pa]at E;rw[MH]at E;let⟨d,c,g⟩:=dt.mp E.1;exact#[i,d,c,E.2,g]
end
def Rn.tm(h:Rn H C r d E c l p m t L f)(k:a5 r l H a):ai H a:=λb x e=>k b _ (jN e h.ins (by intro z;cases z)) (jN e h.lf (by intro z;cases z)) e
def Rn.same(h:Rn H C r d e c l p m t L a)(s:ae H b):Rn b C r d e c l p m t L a:=#[s _ _ h.ins,s _ _ h.lf,s _ _ h.ce,h.iL,h.iC,h.cl,h.tl,h.hm]
def Rn.rl(h:Rn H C r d e c l p m t L a):r≠l/\r≠c:=#[jN h.ins h.lf (by intro z;cases z),jN h.ins h.ce (by intro z;cases z)]
def Ef(r l:ζ)(H h:Hp):Prop:=∀b o,b≠r->b≠l->NX o->H b=δ o->h b=δ o
def Fl.next(h:Fl E L (Ef r l H)):Fl (i8 E) L (Ef r l H):=λd i k x T t c e a j f=>by cases e;rwa[h d _ λb o N g n e=>zS (H:=H) (k b o N g n e) n a f]
def Fl.nextK(h:Fl E L (Kp H)):Fl (i8 E) L (Kp H):=λd g k x T t c e a i f=>by cases e;rwa[h d _ λb o n e=>zS (H:=H) (k b o n e) n a f]
def Fl.mono{R S:Hp->Prop}(h:Fl E L R)(k:∀H,S H->R H):Fl E L S:=λd H s=>h d H (k H s)
inductive gR(C:ζ)(e:ri V)(H:Hp)(Q:VK)(a:XK):Prop
 |mk(r c d b:ζ)(m:Int)(_:e=[.ref r,.ref d,.ref b,.int m])(_:H r=δ (.ins C c []))(_:∀lA,H lA=θ->Q .non (ah (ah H lA (.dK [])) r (.ins C c (cX [] b lA d m 0))))
def hV(A B:Prop)(E:XK)(T t:ζ)(R:Hp->Prop):Prop:=(A->Fl E T R)/\(B->Fl E t R)
def hV.mono{R S:Hp->Prop}(h:hV A B E T t R)(k:∀H,S H->R H):hV A B E T t S:=#[λa=>(h.1 a).mono k,λb=>(h.2 b).mono k]
def hV.next(h:hV A B E T t (Ef r l H)):hV A B (i8 E) T t (Ef r l H):=#[λa=>(h.1 a).next,λb=>(h.2 b).next]
def hV.imp{R:Hp->Prop}(h:hV A B E T t R)(a:c->A)(b:d->B):hV c d E T t R:=#[λx=>h.1 (a x),λx=>h.2 (b x)]
inductive dQ(C g f q:ζ)(j:Nat)(x:ri V)(H:Hp)(Q:VK)(E:XK):Prop
 |mk(M:Nat)(r m:ζ)(n:ri (ρ×V))(k p w h:ζ)(b t i:Nat)(L e:aO)(v:V)(d:Df)(l:ri Df)(s:ri Nat)(y:ri V)(c:ri cq)(o:ri Int)(_:x=[.ref r,v,.ref h,.int (b:Int)])(_:b+j=16)(_:1<=j)(_:Rn H C r m n k p w M t L e)(_:ο L<=t)(_:t<=M)(_:Ps H q w l s y c)(_:l[i]?=δ d)(_:s[i]?=δ o.length)(_:y[i]?=δ v)(_:H h=δ (.tup (o.map qs)))(_:∀z∈o,eL z)(_:∀(u:V) (sk:Sk) (a:Int) (L':aO) (H':Hp),aR M c e j d.f o L t= .ok sk a L' (t+sk.size)->iS H' d.f o sk a u->sk.ok μ->sk.dep+1<=j->eL a->Rn H' C r m n k p w M (t+sk.size) L' e->ο L'<=t+sk.size->t+sk.size<=M->a5 r p H H'->Q u H')(_:hV (aR M c e j d.f o L t= .long) (aR M c e j d.f o L t= .deep) E g f (Ef r p H))
inductive gU(C f d n:ζ)(j:Nat)(q:ri V)(H:Hp)(Q:VK)(E:XK):Prop
 |mk(M:Nat)(r i:ζ)(l:ri (ρ×V))(g m p:ζ)(a t:Nat)(L c k:aO)(u:V)(e:DD)(x:ri ρ)(h:ri Df)(o:ri Nat)(s:ri V)(b:ri cq)(_:q=[.ref r,u,.int (a:Int)])(_:a+j=15)(_:Rn H C r i l g m p M t L c)(_:ο L<=t)(_:t<=M)(_:Ps H n p h o s b)(_:aL H (wM k e) u [])(_:su H x e)(_:GT k)(_:e.Cs ((h.map Df.f).zip o))(_:∀(w:Sk) (v:V) (L':aO) (H':Hp),fg M (aR M b c j) c k L t e= .ok w L' (t+1+w.size)->eI H' w v []->w.ok ν->Er e w.wh->w.dep<=j->Rn H' C r i l g m p M (t+1+w.size) L' c->ο L'<=t+1+w.size->t+1+w.size<=M->a5 r m H H'->Q v H')(_:hV (fg M (aR M b c j) c k L t e= .long) (fg M (aR M b c j) c k L t e= .deep) E f d (Ef r m H))
def DQ:ak z6z z6z (aa uU):=bG
def ZM(F:aN K "__init__" "BookRun.__init__" uU f t)(j:RK K C)(GT:⇑1 u c z22z (iP C))(B:au K c z22z [])(M:mg "Turns"=↑T)(v:sr K T "__init__" u):⇑2 f t z6z (gR C):=by
 erw[F.ok DQ λx A o s H V Q E y h=>?_]
 let⟨r,d,z,k,m,rfl,g,q⟩:=h;erw[#[_,(jd (jQ$ @Zp _ _ _ _ _ _ _ _ _ _ _ _ _ _ _ _ _ _ _ _ Z M v GT y.m B .nil bq (ja (pv 0)$ ja (pv 2)$ ja (pv 3) jb) LB Lx Lx Lx)$ jg$ @qj _ _ _ _ _ _ _ _ (pv 0) (pv 1) Z),?_]];erw[aj λD n=>#[_,Z,_,Z,_,Z,r,d,[],k,m,Z,g,λL N=>n _ _ ?_]];clear n;erw[#[_,Z,_,Z,r,C,d,_,Z,jc,j.cl,j.n5,(by show 4 < 1000;decide),?_]];let e:∀(i:Hp) (p O:HO),ah (ah i r p) r O=ah i r O:=λi p O=>by
  funext b;by_cases a:b=r
  .rw[a,jc,jc]
  .rw[ji a,ji a,ji a]
 rw[e];rwa[q L N]
def J8(h:aL H (ax t) u []):∃a x,u= .ref a/\H a=δ (.tup x)/\aL H (aC t) .non x:=by let⟨_,a,x,e,b,c⟩:=h;rwa[#[a,x,e,b,c]]
def zT(h:aL H (aC (t::T)) .non x):∃y Y,x=y::Y/\aL H t y []/\aL H (aC T) .non Y:=by let⟨_,_,y,Y,e,a,b⟩:=h;rwa[#[y,Y,e,a,b]]
def ZN(h:aL H (aJ x) y []):y= .str x:=h.1
def J9(h:aL H (aw n) y []):y= .int n:=h.1
theorem KB:∀{I:ri Int} {v:ri V},aL H (aC$ I.map aw) .non v->v=I.map qs
 | [],v,h=>h
 |i::I,v,h=>by let⟨y,Y,rfl,a,b⟩:=zT h;rw[J9 a,KB b];rfl
def Q8{H:Hp}{w:ρ}{t:ri Tr}{u:V}(h:aL H (ax (aJ w::t)) u []):∃a x,u= .ref a/\H a=δ (.tup (.str w::x))/\aL H (aC t) .non x:=by let⟨a,x,rfl,b,h⟩:=J8 h;let⟨y,Y,rfl,c,d⟩:=zT h;rw[ZN c]at b;exact#[a,Y,Z,b,d]
def QW{H:Hp}{w:ρ}{i:Int}{u:V}(h:aL H (ax [aJ w,aw i]) u []):∃a,u= .ref a/\H a=δ (.tup [.str w,.int i]):=by let⟨a,x,rfl,b,h⟩:=Q8 h;let⟨y,Y,rfl,c,d⟩:=zT h;let e:Y=[]:=d;rw[J9 c,e]at b;exact#[a,Z,b]
def wC{H:Hp}{w:ρ}{i:Int}{t:Tr}{u:V}(h:aL H (ax [aJ w,aw i,t]) u []):∃a y,u= .ref a/\H a=δ (.tup [.str w,.int i,y])/\aL H t y []:=by let⟨a,x,rfl,b,h⟩:=Q8 h;let⟨y,Y,rfl,c,d⟩:=zT h;let⟨z,f,rfl,g,j⟩:=zT d;let e:f=[]:=j;rw[J9 c,e]at b;exact#[a,z,Z,b,g]
def FX:ak z11z z11z (aa yL):=bG
def uj(F:aN K "what_of" "BookRun.what_of" yL f fd)(ck:RK K C)(GT:af P w K mg base (cR P w) 1 fT f0 ["self"] (eE C TL))(bT:au K f0 ["self"] [])(m0:a7 K C "take_turn" fT)(GI:⇑1 fI f2 ["self","cell"] (eK C))(bI:au K f2 ["self","cell"] [])(m1:a7 K C "number_in" fI)(GD:af P w K mg base (cR P w) 1 fD f3 ["deep"] (dj TD))(bD:au K f3 ["deep"] [])(kD:fr K (.ref fD)=μ)(mD:mg "deeper"=↑fD)(cP:‹2› fP f6 ["parts","f"] iM "part_of")(GC:af P w K mg base (cR P w) (2*j+12) fC f4 z14z (dQ C TL TD nA j))(bC:au K f4 z14z [])(m2:a7 K C "chain_of" fC):af P w K mg base (cR P w) (2*j+13) f fd z11z (gU C TL TD nA j):=by
 erw[F.ok1 FX λc5 A o2 s H vs Q E hr h=>?_]
 let⟨M,r,I,Y,cA,N,W,O,t,L,Cs,k,u,e,ys,ds,ns,xs,p1,rfl,h4,D,h5,ht,hP,J,h0,hk,h1,q,t0⟩:=h;erw[#[_,(jd (jQ$ Xr (pv 0) ck.cl m0 GT hr.m bT .nil j8)$ jd (jw (kf$ jz$ pv 1) (jg$ jo$ jh$ ja jl$ ja (jz$ pv 1)$ ja (j9 (pv 0) ck.cl m1 GI hr.m bI .nil bq$ ja (jz$ pv 1) jb) jb) jp)$ jd (jw (kf$ jz$ pv 1) (jg$ jo$ jh$ ja jl$ ja (j9 (pv 0) ck.cl m2 GC hr.m bC .nil j8$ ja (cP.e hr.m$ ja (kU (pv 0) Z)$ ja (jz$ pv 1) jb)$ ja (jz$ pv 1)$ ja (ky GD hr.m Z mD kD bD .nil j8$ ja (pv 2) jb) jb) jb) jp)$ jd (jw (kf$ jz$ pv 1) (jg$ Jb (z9 hr) (kU (pv 0) Z) (jz$ pv 1) (jz$ pv 1) Z) jp)$ jg$ jo$ pv 1),?_]];let b0:=aH;let hM:=D.hm;erw[aj λF1 B=>#[_,Z,r,I,_,Z,D.ins,D.tl.t,r,I,Y,cA,N,W,M,t,Z,D.ins,D.tl,λlt=>B _ _ ?_,λge=>((t0.1$ J7 LA).mono λH' kk=>λb o _ _ nx e=>kk b o nx e).nextK]];clear B;let t1:ai H (ah H r$ .ins C I$ cX Y cA N W M$ t+1):=λb xs e=>by rw[ji$ jN e D.ins (by intro z;cases z)];rwa[e]
 let R:Rn (ah H r$ .ins C I$ cX Y cA N W M$ t+1) C r I Y cA N W M (t+1) L Cs:=#[jc,by rw[ji D.rl.1.symm];rwa[D.lf],by rw[ji D.rl.2.symm];rwa[D.ce],D.iL,D.iC,D.cl,D.tl,D.hm];let k1:a5 r N H (ah H r$ .ins C I$ cX Y cA N W M$ t+1):=λb o n1 n2 e=>by rw[ji n1];rwa[e]
 generalize ah H r (.ins C I$ cX Y cA N W M$ t+1)=H1 at t1 R k1;let J:=J.mono t1;let lt':t+1<=M:=LA
 let f5:∀(w:Sk) (xs:ri V) (X:Hp) (v:ζ),X v=θ->eI (ah X v$ .tup xs) w (.ref v) []->w.ok ν->fg M (aR M p1 Cs j) Cs k L t e= .ok w L (t+1)->Er e w.wh->w.size=0->w.dep<=j->H1=X->Q (.ref v) (ah X v$ .tup xs):=λw xs X v nv hw ok eq ft sz dp e2=>by subst e2;rwa[q w _ L _ (by rw[sz];rwa[eq]) hw ok ft dp (by rw[sz];rwa[R.same$ je nv]) LA LA$ k1.trans$ a5.of_same$ je nv]
 cases e with
 |ask ta T=>
  let⟨p,rfl,G⟩:=QW J;erw[aj λF1 B=>(jv G Z #[Z,_,Z,aT Ly$ B _ _ ?_])];clear B;erw[aj λF1 B=>(jv G Z #[Z,_,Z,aT Ly$ B _ _ ?_])];clear B;erw[aj λF1 B=>(jv G Z #[Z,_,Z,aT Ly$ B _ _ ?_])];clear B;erw[#[_,Z,q (.ask (if T.ev k=0 then 0 else 1)) _ L _ (Yp LA) #[p,Z,G] trivial ?_ (Mu _) R (by show ο L<=t+1+0;omega) lt' k1]];show(if T.ev k=0 then (0:Int) else 1)=0∨(if T.ev k=0 then (0:Int) else 1)=1;split
  .rwa[.inl Z]
  .rwa[.inr Z]
 |st p0 l=>
  let⟨vs,_,h6,o1,c0⟩:=h0;cases l with
  |gv ta T |st x ta T=>cases c0
  |rd x ta T=>let⟨p,rfl,G⟩:=QW J;erw[aj λF1 B=>(jv G Z #[Z,_,Z,b8 Ly$ jv G Z #[_,Z,r,I,_,Z,R.ins,R.tl.n,jv G Z #[r,I,Y,cA,N,W,M,_,_,_,_,Z,R,gE,λv nv=>?_]]])];rwa[f5 (.rd (T.ev k)$ look L (.inl$ T.ev k)$ look Cs (.inl$ T.ev k) 0) _ _ v nv #[v,Z,jc] trivial (sT LA) (J4 R.iL$ J4 R.iC J5) Z (Mu _) Z]
  |wr ta ub T U=>
   let⟨p,y,rfl,G,hy⟩:=wC J;rw[J9 hy]at G;erw[aj λF1 B=>(jv G Z #[Z,_,Z,aT Ly$ B _ _ ?_])];clear B;erw[aj λF1 B=>(jv G Z #[Z,_,Z,aT Ly$ B _ _ ?_])];clear B;erw[aj λF1 B=>(jv G Z #[Z,_,Z,b8 Ly$ jv G Z #[_,Z,r,C,I,_,_,Z,R.ins,ck.cl,ck.n3,Z,jv G Z #[N,_,Z,nK.k (k:=.inl (T.ev k)) R.lf LA,B _ _ ?_]]])];clear B;let pl:=zN (kvs:=L) (k:=.inl (T.ev k)) (v:=.int (U.ev k));let t3:ai H1 (ah H1 N$ .dK$ bM L (.inl$ T.ev k)$ .int$ U.ev k):=λb xs e=>by rw[ji$ jN e R.lf (by intro z;cases z)];rwa[e]
   erw[#[_,Z,q (.wr (T.ev k)$ U.ev k) _ (bM L (.inl$ T.ev k)$ .int$ U.ev k) _ (sU LA) #[p,Z,t3 _ _ G] trivial trivial (Mu _) #[by rw[ji D.rl.1];rwa[R.ins],jc,by rw[ji D.cl];rwa[R.ce],R.iL.put _$ qZ hk o1.2.1,R.iC,R.cl,R.tl,R.hm] (by show _<=t+1+0;omega) lt' λb o n1 n2 e=>?_]];rw[ji n2];rwa[k1 b o n1 n2 e]
  |cl x f q' ts=>
   let⟨p,y3,rfl,G,hy⟩:=Q8 J;let⟨y1,y5,rfl,e1,hy⟩:=zT hy;let⟨y2,y0,rfl,e2,hy⟩:=zT hy;let e3:y0=[]:=hy;subst e3;rw[ZN e1]at G;let⟨ag,a0,rfl,ha,S⟩:=J8 e2;let S:aL H1 (aC ((ts.map λc=>c.2.ev k).map aw)) .non a0:=by rw[Od];rwa[S]
   rw[KB S]at ha;let⟨i,d,hd,hn,rfl⟩:=hP.find h1;let P1:=hP.mono t1;let⟨v,hv,_,h2,h3⟩:=P1.at hd;erw[aj λF1 B=>(jv G Z #[Z,_,Z,aT Ly$ B _ _ ?_])];clear B;erw[aj λF1 B=>(jv G Z #[Z,_,Z,b8 Ly ?_])];clear B;erw[#[_,Z,r,I,_,Z,R.ins,R.tl.c,_,Z,r,C,I,_,_,Z,R.ins,ck.cl,ck.n5,Z,jv G Z #[W,d.f,xs,i,v,Z,P1.at',hv,h2,h3,jv G Z #[_,Z,(O:Int),Z,λdl=>?_,λdg=>((t0.2 (by let z:j=0:=LA;rw[qE LA,z];rfl)).mono λX kk=>λb o n1 n2 nx e=>kk b o nx (k1 b o n1 n2 e)).nextK]]]];erw[#[M,r,I,Y,cA,N,W,ag,O+1,t+1,i,L,Cs,v,d,ds,ns,xs,p1,ts.map λc=>c.2.ev k,Z,LA,LA,R,LA,lt',P1,hd,by rw[Mi];rwa[hn],hv,ha,λz hz=>?_,λu sk a L' X eq hc ok dp ia R2 l2 t2 k2=>?_,hV.next ((t0.imp (λz=>by rw[qE LA,z];rfl) (λz=>by rw[qE LA,z];rfl)).mono λX kk=>λb o n1 n2 nx e=>kk b o n1 n2 nx (k1 b o n1 n2 e))]]
   .let⟨c,hc,rfl⟩:=dg.mp hz;rwa[qZ hk (o1.2.2 c hc).1]
   .let⟨c,g,ee,ss,rfl,c1,c2,c3,c4⟩:=hc;erw[#[bN,λv2 nv=>?_]];let s2:ae X (ah X v2$ .tup [.str "call",.ref c]):=je nv;erw[q (.cl d.f (ts.map λc=>c.2.ev k) sk a) _ L' _ (by rw[qE LA,eq];rfl) #[v2,c,g,ee,ss,Z,jc,s2 _ _ c1,s2 _ _ c2,s2 _ _ c3,c4.mono$ ae.tm s2] ok ia (by show sk.dep+1<=j;rwa[N09]) (R2.same s2) l2 t2 ((k1.trans k2).trans$ a5.of_same s2)]
def BK:dN (s++[x]) (-1)=δ x:=by
 let l:(s++[x]).length=ο s+1:=by rw[Ml];rfl
 unfold dN nW;rw[l,Mx LA,Mv LA];let e:(-1+((ο s+1:Nat):Int)).toNat=ο s:=LA
 show(s++[x])[(-1+((ο s+1:Nat):Int)).toNat]?=_;rw[e];simp
inductive Et(H:Hp)(nA:ζ)(d:Df)(u:V):Gd->Prop
 |give (p:ζ) (a:Int) (e:u= .ref p) (h:H p=δ (.tup [.str "give",.int a])) (i:eL a):Et H nA d u (.give a)
 |go (p hv:ζ) (n:Nat) (c:Ct) (is:ri Int) (e:u= .ref p) (h:H p=δ (.tup [.str "go",.int (n:Int),.ref hv])) (h2:H hv=δ (.tup (is.map qs))) (hc:(bL nA d)[n]?=δ c) (hl:ο is=(canon c.M).length) (hi:∀i∈is,eL i):Et H nA d u (.go n is)
def QX{H:Hp}{nA:ζ}{d:Df}(h:aL f (nX (dJ nA d) k g) u [])(j:GT k)(l:Es H Y d.b.cuts g):Et f nA d u (eN (dJ nA d) k g):=by
 cases g with
 |give t T=>let⟨p,e,h⟩:=QW h;rwa[.give p _ e h (qZ j l.2.1)]
 |nought=>let⟨p,e,h⟩:=QW h;rwa[.give p 0 e h J5]
 |go n=>
  let⟨p,y,e,h,q⟩:=wC h;let⟨a,X,rfl,m,c⟩:=J8 q;let r:n < (bL nA d).length:=by rw[ZD];rwa[l]
  let o:(bL nA d)[n]?=δ (bL nA d)[n]:=Mf r;let c:aL f (aC (((dJ nA d n).map λx=>look k (.inr x) 0).map aw)) .non X:=by rw[Od];rwa[c]
  rw[KB c]at m;erw[.go p a n _ _ e h m o (by rw[Mi,uf o]) λi s=>?_];let⟨x,_,rfl⟩:=dg.mp s;rwa[J4 j J5]
inductive CI(M:Nat)(a:lB)(N:cq)(h:OC)(C r o:ζ)(E:ri (ρ×V))(n G K l P I:ζ)(b t j:Nat)(i:aO)(v:V)(d:Df)(H:Hp)(F:Nat)(R:_L.St)(k:Hp):Prop
 |mk(J:rm V)(u:V)(g:Gd)(m:Nat)(O:Sk)(Q:ri V)(L:aO)(p:R=[↑r,δ v,↑l,δ (.int (b:Int)),↑P,δ u,J])(q:k P=δ (.lst Q))(s:eI k O .non Q)(w:O.ok μ)(x:O.dep+1<=j)(y:Et k I d u g)(z:Rn k C r o E n G K M (t+O.size) L i)(A:ο L<=t+O.size)(B:t+O.size<=M)(D:a5 r G H k)(c:F+t+O.size=M+1)(e:(fo M a i N m g L (t+O.size)).pre O=h)(f:M+2<=m+(t+O.size))
def mE:ak ["self","part","args","deep","steps","goal","what"] z14z (aa yK):=bG
def CQ(F:aN K "chain_of" "BookRun.chain_of" yK f fd)(ck:RK K C)(cF:‹9› fF f2 ["part","args"] (gn nA) "first_of")(cD:‹9› fD f3 z8z (dR nA) "deed_at")(cO:‹9› fO f4 ["part","step"] (ou nA) "onward")(GW:af P w K mg base (cR P w) (2*j+13) fW f0 z11z (gU C TL TD nA j))(bW:au K f0 z11z [])(m0:a7 K C "what_of" fW)(m1:mg "tuple"=θ):af P w K mg base (cR P w) (2*j+14) f fd z14z (dQ C TL TD nA$ j+1):=by
 erw[F.ok1 mE λc3 A o2 s H vs Q E hr h=>?_]
 let⟨M,r,dx,ex,cA,lA,pA,ag,U,t,i,L,y,v,d,ds,ns,xs,x,is,rfl,b4,_,hR,a0,ht,hP,hd,hn,hv,ha,h3,q,t4⟩:=h;erw[#[_,(jd (jx 4 mE.nd$ jK jb)$ jd (jx 5 mE.nd$ cF.e hr.m$ ja (pv 1)$ ja (pv 2) jb)$ jd (Ks PassesOwn.leaving (kf$ jz$ pv 5)$ jd (jx 6 mE.nd$ j9 (pv 0) ck.cl m0 GW hr.m bW .nil j8$ ja (cD.e hr.m$ ja (pv 1)$ ja (jz$ pv 5)$ ja (jz$ pv 5) jb)$ ja (pv 3) jb)$ jd (jQ$ kJ PySem.F.plainAttrs_list PySem.F.slot_list_append PySem.F.type_list_append jT (pv 4)$ ja (jh$ ja (jz$ pv 5)$ ja (jz$ pv 5)$ ja (pv 6) jb) jb)$ jg$ jx 5 mE.nd$ cO.e hr.m$ ja (pv 1)$ ja (jr jq (pv 4) (uH Yh jf) ∅) jb)$ jg$ jo$ jh$ ja (jz$ pv 1)$ ja (pv 2)$ ja (jF jL Z m1 boot_tuple$ ja (pv 4) jb)$ ja (jz$ pv 5) jb),?_]];let b5:=aH;let hM:=hR.hm;let⟨ys,g,h1,b9,pr,a1⟩:=hP.part hd hv;let⟨ps,h4,a2,a3⟩:=hP.pa.2 i d _ hd hn;let e3:ps=g.ps:=by let z:=h4.symm.trans pr.ps;injection z with z;injection z with z;exact(List.map_inj_right λa b e=>by injection e).mp z
 subst e3;let e0:aR M x y (j+1) d.f is L t=fo M (aR M x y j) y g (M+2) (eN (nH g) (bZ g.way.sets$ aM g.ps is) g.way.goal) L t:=by show(match fQ x d.f with |none=>OC.long |some g=>fo M (aR M x y j) y g (M+2) (eN (nH g) (bZ g.way.sets$ aM g.ps is) g.way.goal) L t)=_;rw[a1]
 generalize aR M x y (j+1) d.f is L t=X at q t4 e0;erw[aj λF1 J=>#[ms,λS Y=>J _ _ ?_]];clear J;let s1:ae H (ah H S$ .lst []):=je Y;let l1:ah H S (.lst []) S=δ (.lst []):=jc;generalize ah H S (.lst [])=H1 at s1 l1 ⊢;let e4:=pr.wy;let h2:=pr.wv;erw[aj λF1 J=>#[_,Z,_,Z,v,ag,d,ys,g.ps,is,g.way,Z,h1.mono$ ae.tm s1,s1 _ _ h4,LA,s1 _ _ ha,a2.symm,h3,e4,h2.mono$ ae.tm s1,λu H2 hu s2=>J _ _ ?_]];clear J;let S2:=s1.trans s2;let gz:GT (aM g.ps is):=qR h3;let g0:=QX (H:=H) hu (zR h2.sets gz) h2.goal;rw[pr.nms]at g0;let s0:S≠r:=Ne.symm (jk hR.ins Y);let s3:S≠lA:=Ne.symm (jk hR.lf Y);let s9:cA≠S:=jk hR.ce Y;erw[aj λF1 J=>?_];erw[oy (CI M (aR M x y j) g X C r dx ex cA lA pA ag S nA U t (j+1) y v d H) (M+1 - t) #[θ,u,_,M+2,.nil,[],L,Z,s2 _ _ l1,Z,trivial,by show 0+1<=j+1;rwa[N09],g0,hR.same S2,a0,ht,a5.of_same S2,by show M+1 - t+t+0=M+1;omega,by rw[e0];show OC.pre .nil (fo M (aR M x y j) y g (M+2) _ L t)=_;cases fo M (aR M x y j) y g (M+2) (eN (nH g) (bZ g.way.sets$ aM g.ps is) g.way.goal) L t<;>rfl,by show M+2<=M+2+(t+0);omega] ?_];intro kk σ H3 E' rt fE F kT cF.k Gq kq hW;let⟨o6,u,gd,m,N,R,L1,rfl,w1,w2,w3,w4,w5,w6,w7,w8,w9,b',W,c4⟩:=hW;obtain⟨m,rfl⟩:∃m',m=m'+1:=#[m - 1,LA];let t0:=hR.tm w9;let P3:=hP.mono t0;cases w5 with
 |give p a e h5 ia=>subst e;erw[kq$ jv h5 Z #[Z,_,Z,?_]];rw[show decide (qr (Str.ofString "give")=qr (Str.ofString "go"))=ν by decide+kernel];erw[cF.k _$ J _ _ ?_];let⟨pa,ca,wv,cs,e,h7,_⟩:=(h1.mono t0).parts;subst e;erw[(jv h7 Z #[_,Z,_,Z,S,R,Z,.inl #[aI.of w1,λl2 n0=>?_]])];let s4:ae H3 (ah H3 l2$ .tup R):=je n0;erw[(jv (s4 _ _ h5) Z #[sd,λv2 nv=>?_])];let s5:=s4.trans (je (o:=.tup [.str d.f,.ref ag,.ref l2,.int a]) nv);let S5:a5 r lA H (ah (ah H3 l2$ .tup R) v2$ .tup [.str d.f,.ref ag,.ref l2,.int a]):=w9.trans (a5.of_same s5);let W:OC.ok (N.app .nil) a L1 (t+N.size)=X:=W;rw[KA w3]at W;rwa[q _ N a L1 _ W.symm #[v2,ag,l2,R,Z,jc,hR.tm S5 _ _ ha,am jc nv,w2.mono$ ae.tm s5] w3 w4 ia (w6.same s5) w7 w8 S5]
 |go p D n c hs e h5 h6 hc hl hi=>
  subst e;erw[kq$ jv h5 Z #[Z,_,Z,?_]];rw[show decide (qr (Str.ofString "go")=qr (Str.ofString "go"))=μ by decide+kernel];erw[kT _ ?_];clear kT cF.k J;let P1:=h1.mono t0;let⟨pa,ca,wv,cs,e9,h7,_,_,a4⟩:=P1.parts;let⟨ka,na,wa,dv,c5,_,c1⟩:=P1.cut a4 hc;let a':n < ο g.cs:=by rw[pr.len];exact(ξ.mp hc).1
  obtain⟨cd,h8⟩:∃cd,g.cs[n]?=δ cd:=#[_,hY a'];let cr:=(pr.cs n c cd hc h8).mono t0;let⟨c2,e,c0⟩:=cd;let⟨e1,ed,d0,e5,l0,b0⟩:=cr;let e1:c2=canon c.M:=e1;subst e1;let W:OC.pre N (match g.cs[n]? with
   |none=>OC.long
   |some c=>match fg M (aR M x y j) y (aM c.nm hs) L1 (t+N.size) c.e with
    | .ok w L1 t1=>(fo M (aR M x y j) y g m (nY g c hs w.wh) L1 t1).cons (n:Int) hs w
    | .long=>.long
    | .deep=>.deep)=X:=W
  rw[h8]at W;let W:OC.pre N (match fg M (aR M x y j) y (aM (canon c.M) hs) L1 (t+N.size) e with
    | .ok w L1 t1=>(fo M (aR M x y j) y g m (nY g #[canon c.M,e,c0] hs w.wh) L1 t1).cons (n:Int) hs w
    | .long=>.long
    | .deep=>.deep)=X:=W
  let gk:GT (aM (canon c.M) hs):=qR hi;erw[aj λF1 J=>#[_,Z,r,dx,_,Z,w6.ins,w6.tl.w,_,Z,jv h5 Z$ jv h5 Z #[v,n,D,d,ys,c,hs,e,Z,P1,hc,h6,hl,hi,ed,d0,λud H4 b1 s4=>?_]]];let t9:=t0.trans (ae.tm s4);erw[#[_,Z,M,r,dx,ex,cA,lA,pA,U,t+N.size,L1,y,aM (canon c.M) hs,ud,e,ys,ds,ns,xs,x,Z,LA,w6.same s4,w7,w8,hP.mono t9,b1,d0.mono$ ae.tm s4,gk,?_,λw uw L' H5 e7 hw o1 ft d1 R5 l5 t5 k5=>J _ _ ?_,?_]]
  .cases e with
   |ask=>trivial
   |st p0 l=>cases l<;>first |trivial |exact hP.cs hd _ e5
  .clear J;let K5:a5 r lA H3 H5:=(a5.of_same s4).trans k5;let t7:ai H3 H5:=w6.tm K5;let g5:=t7 _ _ h5;let w0:H5 S=δ (.lst R):=K5 _ _ s0 s3 w1;let l3:=Jx w3 w2;erw[aj λF1 J=>#[_,Z,.inl #[Z,_,aI.of w0],jv g5 Z$ jv g5 Z #[_,Z,gE,λO n3=>?_]]];let s6:ae H5 (ah H5 O$ .tup [.int (n:Int),.ref D,uw]):=je n3;let e6:ah H5 O (.tup [.int (n:Int),.ref D,uw]) O=δ (.tup [.int (n:Int),.ref D,uw]):=jc;erw[#[S,_,_,Z,Z,s6 _ _ w0,LA,J _ _ ?_]];clear J;generalize ah H5 O (.tup [.int (n:Int),.ref D,uw])=H6 at s6 e6;let b7:aB S H6 (ah H6 S$ .lst$ R++[.ref O]):=λb o nb e=>by rw[ji nb];exact e
   let t3:ai H6 (ah H6 S$ .lst$ R++[.ref O]):=λb xs e=>b7 _ _ (jN e (s6 _ _ w0) (by intro z;cases z)) e;let w':ah H6 S (.lst$ R++[.ref O]) S=δ (.lst$ R++[.ref O]):=jc;generalize ah H6 S (.lst$ R++[.ref O])=H7 at b7 t3 w';let t2:ai H5 H7:=λb xs e=>t3 _ _ (s6 _ _ e);let B:ai H3 H7:=t7.trans t2;let G:w.wh.side < ο c.ws:=by
    rw[c1.v.len,<- ed];cases e with
    |ask ta T=>show _ < 2;unfold Wh.side;split<;>(try split)<;>omega
    |st p0 l=>show _ < 1;cases w<;>first |exact Nat.one_pos |exact o1.elim | (cases l<;>rwa[ft.elim])
   obtain⟨I,h0⟩:∃I,c0[w.wh.side]?=δ I:=#[_,hY (by rw[l0];rwa[G])];let⟨e2,h'⟩:=b0 _ _ I (hY G) h0;let sv:iZ H7 nA d ys v O n D uw c hs w.wh e I:=#[P1.mono B,t3 _ _ e6,hc,B _ _ h6,hl,hi,(G7 o1 hw).mono t2,ed,d0.mono B,ft,by rw[e2];rwa[hY G],h'.mono B];let b2:dN (R++[rb O]) (-1)=↑O:=BK;erw[#[_,Z,_,Z,_,Z,S,_,_,_,Z,Z,aI.of w',b2,v,uw,O,D,n,d,ys,c,hs,w.wh,e,I,Z,sv,λu2 H8 b3 s8=>?_]];let t8:=ae.tm s8;let t':=B.trans t8;let g1:=QX (H:=H7) b3 (zR sv.wdv.sets$ Yn ft gk) sv.wdv.goal;let e8:nY g #[canon c.M,e,c0] hs w.wh=eN (nH g) (bZ I.sets$ nU e w.wh$ aM (canon c.M) hs) I.goal:=by show(match c0[w.wh.side]? with |some wd=>eN (nH g) (bZ wd.sets$ nU e w.wh$ aM (canon c.M) hs) wd.goal |none=>Gd.give 0)=_;rw[h0]
   rw[pr.nms,<- e8]at g1;rw[e7]at W;let W:OC.pre N ((fo M (aR M x y j) y g m (nY g #[canon c.M,e,c0] hs w.wh) L'$ t+N.size+1+w.size).cons (n:Int) hs w)=X:=W;rw[XT _ w3]at W;let s7:=Kz (n:=(n:Int)) (hs:=hs) (w:=w) w3;let R7:Rn H7 C r dx ex cA lA pA M (t+N.size+1+w.size) L' y:=#[b7 _ _ (Ne.symm s0)$ s6 _ _ R5.ins,b7 _ _ (Ne.symm s3)$ s6 _ _ R5.lf,b7 _ _ s9$ s6 _ _ R5.ce,R5.iL,R5.iC,R5.cl,R5.tl,R5.hm];let ez:t+N.size+1+w.size=t+(Sk.put (n:Int) hs w N).size:=by rw[s7];omega
   rw[ez]at R7 l5 t5 W;erw[fE (kk - (w.size+1)) _ _ LA #[_,u2,_,m,Sk.put (n:Int) hs w N,R++[.ref O],L',Z,s8 _ _ w',(uP (t3 _ _ e6) (B _ _ h6) (hw.mono t2) w3$ w2.mono B).mono t8,Q6 o1 w3,?_,g1,R7.same s8,l5,t5,?_,by rw[s7];omega,W,LA]]
   .let:=Q7 (n:=(n:Int)) (hs:=hs) (w:=w) (j:=j) d1 w3 LA;omega
   .intro b o n1 n2 e;rwa[s8 _ _$ b7 _ _ (jk e Y)$ s6 _ _$ K5 _ _ n1 n2$ w9 _ _ n1 n2 e]
  .rwa[hV.next ((t4.imp (λz=>by rw[z]at W;rwa[W.symm]) (λz=>by rw[z]at W;rwa[W.symm])).mono λH5 kk=>λb o n1 n2 nx e=>kk b o n1 n2 nx (s4 _ _$ w9 _ _ n1 n2 e))]
inductive pE(f e l:ζ)(o:ri V)(H:Hp)(Q:VK)(E:XK):Prop
 |mk(M:Nat)(n g h:ζ)(i:Nat)(c:aO)(d:Df)(j:ri Df)(m:ri Nat)(p:ri V)(b:ri cq)(k:ri Int)(_:o=[.ref n,.str d.f,.ref g,.ref h,.int (M:Int)])(_:M<=1000)(_:Ps H l n j m p b)(_:j[i]?=δ d)(_:m[i]?=δ k.length)(_:H g=δ (.tup (k.map qs)))(_:∀z∈k,eL z)(_:H h=δ (.dK c))(_:GT c)(_:∀(u:V) (sk:Sk) (a:Int) (L':aO) (H':Hp),aR M b c 16 d.f k [] 0= .ok sk a L' sk.size->iS H' d.f k sk a u->sk.ok μ->sk.dep<=15->sk.size<=M->ae H H'->Q u H')(_:hV (aR M b c 16 d.f k [] 0= .long) (aR M b c 16 d.f k [] 0= .deep) E f e (Kp H))
def yx(h:aL H (eU n d) v []):∃p r,v= .ref p/\H p=δ (.tup (.str d.f:: .ref d.pa::r)):=by obtain⟨_,a,x,rfl,b,_,_,c,y,rfl,⟨rfl,_⟩,_,_,e,Y,rfl,⟨rfl,_⟩,_⟩:=h;exact#[a,_,Z,b]
def CG:af P w K mg base (cR P w) k f c z14z (dQ C T b N 0):=by
 let n:∀{V H Q E},¬dQ C T b N 0 V H Q E:=by rintro V H Q E ⟨M,r,e,g,j,l,m,q,D,t,i,L,u,v,d,x,y,X,p,I,_,_,z,_⟩;omega
 exact#[λV H Q E h=>(n h).elim,λA o s H a U V Q E B F G J h=>(n h).elim]
theorem BL(d:RK K C)(F:aN K "chain_of" "BookRun.chain_of" yK k f)(B:au K f z14z [])(m:a7 K C "chain_of" k)(l:aN K "what_of" "BookRun.what_of" yL D e)(o:au K e z11z [])(M:a7 K C "what_of" D)(p:‹9› Q E ["part","args"] (gn n) "first_of")(q:‹9› U H z8z (dR n) "deed_at")(r:‹9› Y I ["part","step"] (ou n) "onward")(GT:af P w K mg base (cR P w) 1 J g ["self"] (eE C T))(s:au K g ["self"] [])(a:a7 K C "take_turn" J)(G:⇑1 L h ["self","cell"] (eK C))(t:au K h ["self","cell"] [])(b:a7 K C "number_in" L)(u:af P w K mg base (cR P w) 1 v i ["deep"] (dj N))(x:au K i ["deep"] [])(y:fr K (.ref v)=μ)(z:mg "deeper"=↑v)(A:‹2› fP O ["parts","f"] iM "part_of")(c:mg "tuple"=θ):∀j,af P w K mg base (cR P w) (2*j+12) k f z14z (dQ C T N n j)
 |0=>CG
 |j+1=>CQ F d p q r (uj l d GT s a G t b u x y z A (BL d F B m l o M p q r GT s a G t b u x y z A c j) B m) o M c
def Bh:ak ["parts","f","args","cells","most","part"] z26z (aa DK):=bG
def C6(F:rc K "run" DK f fd)(ck:RK K C)(mk:Mk K C fI)(GI:⇑2 fI y z6z (gR C))(bI:au K y z6z [])(mC:mg "BookRun"=↑C)(cB:‹2› fB f0 ["ones","f","args"] ij "begun")(GA:af P w K mg base (cR P w) 44 fA B z14z (dQ C TL TD nA 16))(bA:au K B z14z [])(G:a7 K C "chain_of" fA):af P w K mg base (cR P w) 45 f fd z26z (pE TL TD nA):=by
 erw[F.ok1 Bh λc0 A O s H vs Q E I h=>?_]
 let⟨M,g,J,j,i,L,d,ds,ns,X,k,is,rfl,hM,x,R,hn,ha,T,t,rf,q,U⟩:=h;erw[#[_,(jd (jx 5 Bh.nd$ cB.e I.m$ ja (pv 0)$ ja (pv 1)$ ja (pv 2) jb)$ jg$ jo$ j9 (Q1 mk GI I.m Z mC bI .nil bq$ ja (pv 0)$ ja (pv 3)$ ja (pv 4) jb) ck.cl G GA I.m bA .nil j8$ ja (pv 5)$ ja (pv 2)$ ja jf jb),?_]];let⟨v,hv,tv,h0,V⟩:=x.at R;let⟨p,pr,rfl,hp⟩:=yx tv;let⟨ps,W,h1,_⟩:=x.pa.2 i d _ R hn;erw[aj λF1 f1=>#[_,Z,_,Z,_,Z,g,J,d.f,X,_,i,.ref p,p,d.pa,pr,_,Z,x.at',hv,Z,hp,W,ha,by rw[Mi,Mi];omega,V,f1 _ _ ?_]];clear f1;erw[#[_,Z,_,Z,_,Z,λr D N nd ne=>?_]];let s0:ae H (ah (ah H D$ .own r) r$ .ins C D []):=λc o e=>by rw[ji$ jk e N,ji$ jk e nd];rwa[e]
 erw[#[r,D,g,j,M,Z,jc,λl Y=>#[Z,?_]]];let n0:l≠r:=λe=>by rw[e,jc]at Y;cases Y
 let n:H l=θ:=by
  cases z:H l with
  |none=>rfl
  |some o=>have:=s0 _ _ z;rw[Y]at this;cases this
 let S:ae H (ah (ah (ah (ah H D$ .own r) r$ .ins C D []) l$ .dK []) r$ .ins C D$ cX [] j l g M 0):=λc o e=>by rw[ji$ jk e N,ji$ jk e n];rwa[s0 _ _ e]
 let R1:Rn (ah (ah (ah (ah H D$ .own r) r$ .ins C D []) l$ .dK []) r$ .ins C D$ cX [] j l g M 0) C r D [] j l g M 0 [] L:=#[jc,by rw[ji n0];rwa[jc],S _ _ t,GT.nil,rf,jk t n,Tl.nil,LA];generalize ah (ah (ah (ah H D$ .own r) r$ .ins C D []) l$ .dK []) r (.ins C D$ cX [] j l g M 0)=H1 at S R1;let t0:=ae.tm S;erw[#[r,D,_,Z,R1.ins,Z,_,Z,_,Z,M,r,D,[],j,l,g,J,0,0,i,[],L,.ref p,d,ds,ns,X,k,is,Z,Z,LB,R1,Mj _,Mu _,x.mono t0,R,hn,hv,S _ _ ha,T,λu sk a L' H2 eq hc ok dp ia R2 l2 t2 k2=>?_,hV.next$ U.mono λH' kk=>λb o nx e=>kk b o (jk e N) (jk e n) nx (S _ _ e)]];rwa[q u sk a L' H2 (by rw[PY]at eq;rwa[eq]) hc ok LA LA λc o e=>k2 c o (jk e N) (jk e n) (S _ _ e)]
def nJ:Sk->Tr
 | .nil=>.nil
 | .st n h w r=>.cons (ax [aw n,ax (h.map aw),nJ w]) (nJ r)
 | .ask b=>ax [aJ "ask",aw b]
 | .rd c i=>ax [aJ "read",aw c,aw i]
 | .wr c i=>ax [aJ "write",aw c,aw i]
 | .cl f I s a=>ax [aJ "call",ax [aJ f,ax (I.map aw),.tp (nJ s),aw a]]
def Zc:∀{b:Bool} {s:Sk},s.ok b->(nJ s).isL=b
 |true,.nil,_ |true,.st _ _ _ _,_ |false,.cl _ _ _ _,_ |false,.ask _,_ |false,.rd _ _,_ |false,.wr _ _,_=>rfl
def qS{H:Hp}{a:ri Int}(e:H h=δ (.tup$ a.map qs)):aL H (ax$ a.map aw) (.ref h) []:=jD e J6
theorem Zd{b:Bool}{s:Sk}{u:V}{X:ri V}(o:s.ok b)(q:eI H s u X)(z:b=ν->X=[])(y:b=μ->u= .non):aL H (nJ s) u X:=by
 induction s generalizing b u X with
 |nil=>cases b with
  |true=>rwa[q]
  |false=>rwa[o.elim]
 |st n t w r f g=>cases b with
  |true=>let⟨p,h,v,Y,e,d,j,k,l⟩:=q;rw[e,y Z];rwa[#[Z,Zc o.2,_,_,Z,jD d$ jm Z jY$ jm Z (qS j)$ jm (Zc o.1) (f o.1 k (λ_=>Z) (λx=>nomatch x)) jB,g o.2 l (λx=>nomatch x) (λ_=>Z)]]
  |false=>rwa[o.elim]
 |ask a=>cases b with
  |true=>rwa[o.elim]
  |false=>let⟨p,e,h⟩:=q;rw[e,z Z];rwa[jD h (jm Z jR (jm Z jY jB))]
 |rd c i |wr c i=>cases b with
  |true=>rwa[o.elim]
  |false=>let⟨p,e,h⟩:=q;rw[e,z Z];rwa[jD h (jm Z jR (jm Z jY (jm Z jY jB)))]
 |cl f I s a n=>cases b with
  |true=>rwa[o.elim]
  |false=>let⟨p,c,g,e,S,E,d,j,k,l,m⟩:=q;rw[E,z Z];rwa[jD d$ jm Z jR$ jm Z (jD j$ jm Z jR$ jm Z (qS k)$ jm Z #[Zc o,e,S,Z,l,n (b:=μ) o m (λx=>nomatch x) (λ_=>Z)] (jm Z jY jB)) jB]
theorem zO:∀i:ri Int,(aC$ i.map aw).dep=0
 | []=>rfl
 |_::i=>by show max 0 (aC (i.map aw)).dep=0;rw[zO i];rfl
theorem QY:∀{b:Bool} {s:Sk},s.ok b->(nJ s).dep<=4*s.dep+(if b=μ then 2 else 1)
 |true,.nil,_=>Mu _
 |true,.st n H w r,o=>by let h:=QY (b:=ν) (s:=w) o.1;let c:=QY (b:=μ) (s:=r) o.2;let d:=zO H;let h:(nJ w).dep<=4*w.dep+1:=h;let c:(nJ r).dep<=4*r.dep+2:=c;show max (max 0 (max ((aC$ H.map aw).dep+1)$ max (nJ w).dep 0)+1) (nJ r).dep<=4*max w.dep r.dep+2;omega
 |false,.ask _,_ |false,.rd _ _,_ |false,.wr _ _,_=>Mj 1
 |false,.cl f i s a,o=>by let h:=QY (b:=μ) (s:=s) o;let d:=zO i;let h:(nJ s).dep<=4*s.dep+2:=h;show max 0 (max (max 0 (max ((aC$ i.map aw).dep+1)$ max ((nJ s).dep+1)$ max 0 0)+1) 0)+1<=4*(s.dep+1)+1;omega
def BO(f:ρ)(i:ri Int)(s:Sk)(a:Int):Tr:=aC [aJ f,ax$ i.map aw,.tp$ nJ s,aw a]
def AD(h:iS H f i s a u)(o:s.ok μ):aL H (.tp$ BO f i s a) u []:=by let⟨c,g,e,S,rfl,d,j,k,l⟩:=h;rwa[jD d$ jm Z jR$ jm Z (qS j)$ jm Z #[Zc o,e,S,Z,k,Zd (b:=μ) o l (λx=>nomatch x) (λ_=>Z)] (jm Z jY jB)]
def BP{f:ρ}{is:ri Int}{s:Sk}{a:Int}(o:s.ok μ)(d:s.dep<=15):(BO f is s a).dep < 100:=by let h:=QY (b:=μ) (s:=s) o;let H:=zO is;let h:(nJ s).dep<=4*s.dep+2:=h;show max 0 (max ((aC$ is.map aw).dep+1)$ max ((nJ s).dep+1)$ max 0 0) < 100;omega
def Dn{p:ri ρ}{v:V}(h:mx H N d y v)(g:H d.pa=δ (.tup$ p.map qr)):∃q,xf H N d y q:=by
 let⟨W,E,i⟩:=h.way;let⟨a,J,L,O,rfl,Q,m,r,j⟩:=h.parts;let⟨C,s,t⟩:=xp (R:=λc u=>Eo H y N d c u) (bL N d) λc k=>by let⟨n,x,z⟩:=gr.mp k;let⟨S,T,U,X,A,_,o⟩:=h.cut j (n:=n) (c:=c) (by rw[<- z];rwa[Mf x]);let⟨e,B,D,F⟩:=EK o.v.deed;let⟨G,I,l⟩:=xp (R:=λ(w:Wy) (W:WD)=>W.wy N=w/\wL H y d.b.cuts d.b.size W) c.ws λw m=>o.v.ways w m;exact#[#[canon c.M,e,G],Z,B,D,F,I,l]
 exact#[#[d.f,p,W,C],Z,g,E,i,s,t]
def FK{H:Hp}{D:ri Df}(a:H l=δ (.tup x))(T:aL H (aC$ D.map$ eU n) .non x)(g:∃z,ci H D z)(o:sw D N)(j:mw H D N):∃p,Ps H n l D N x p:=by
 let L:=zk T;rw[Mi]at L;let⟨p,m,q⟩:=xp (R:=λd c=>∃y,(d.b.Ok y/\y.length<=20)/\xf H n d y c) D λd e=>by
  let⟨i,r,E⟩:=gr.mp e;let h:D[i]?=δ d:=by rw[<- E];rwa[Mf r]
  let s:x[i]?=δ (x[i]'LA):=Mf _;let⟨t,k,u⟩:=qP T i _ s;rw[MH,h]at k;cases k;let⟨z,A⟩:=g;obtain⟨⟨y,Y,o⟩,_,S⟩:=(o.1 d e).1;let⟨C,f,_⟩:=j.v d e;let⟨c,B⟩:=Dn (v:=x[i]'LA) #[u,sV A h,o,Y,S] f;exact#[c,y,#[o,Y],B]
 exact#[p,a,T,g,o,j,m,q]
def XU{call:lB}(h:fo M call C p m (.give b) L t= .ok r a l T):r= .nil/\a=b/\l=L:=by
 cases m with
 |zero=>cases h
 |succ m=>cases h;exact#[Z,Z,Z]
def tM{call:lB}(h:fo M call C p m (.go n H) L t= .ok d a g i):∃c w l T r j,p.cs[n]?=δ c/\fg M call C (aM c.nm H) L t c.e= .ok w l T/\d= .st (n:Int) H w r/\fo M call C p j (nY p c H w.wh) l T= .ok r a g i:=by
 cases m with
 |zero=>cases h
 |succ m=>
  unfold fo at h;cases e:p.cs[n]? with
  |none=>rw[e]at h;cases h
  |some c=>
   rw[e]at h;dsimp only at h;cases E:fg M call C (aM c.nm H) L t c.e with
   |long |deep=>rw[E]at h;cases h
   |ok w l T=>
    rw[E]at h;dsimp only at h;cases f:fo M call C p m (nY p c H w.wh) l T with
    |long |deep=>rw[f]at h;cases h
    |ok r b _L k=>rw[f]at h;cases h;exact#[c,w,l,T,r,m,Z,E,Z,f]
def EM{call:lB}{w:Sk}(h:fg M call C k L t e= .ok w l T):t < M:=by
 by_cases z:t < M
 .rwa[z]
 .rw[J7 z]at h;cases h
def Cw:V->Bool
 | .int _ | .str _=>μ
 |_=>ν
def _root_._L.Tr.In:Tr->Prop
 | .lf v=>Cw v=μ
 | .tp l=>l.In
 | .nil=>True
 | .cons h t=>h.In/\t.In
def _root_._L.Tr.items:Tr->ri Tr
 | .cons h t=>h::t.items
 |_=>[]
theorem QZ{H:Hp}:∀{t u:Tr} {x:V} {xs:ri V},aL H t x xs->aL H u x xs->t.isL=u.isL->t.In->u.In->t=u
 | .lf v,.lf w,_,_,h,k,_,_,_=>by rw[<- h.1,<- k.1]
 | .lf v,.tp m,_,_,h,k,_,i,_ | .tp l,.lf v,_,_,k,h,_,_,i=>by let⟨_,a,_,e,_⟩:=k;let E:=h.1;rw[e]at E;rw[<- E]at i;cases i
 | .tp l,.tp m,_,_,h,k,_,i,j=>by let⟨o,a,xs,e,p,q⟩:=h;let⟨r,b,Y,c,d,f⟩:=k;rw[e]at c;cases c;rw[p]at d;cases d;rw[QZ q f (o.trans r.symm) i j]
 | .nil,.nil,_,_,_,_,_,_,_=>rfl
 | .nil,.cons _ _,_,_,h,k,_,_,_ | .cons _ _,.nil,_,_,k,h,_,_,_=>by let⟨_,_,_,_,e,_⟩:=k;let h:_=[]:=h;rw[e]at h;cases h
 | .cons h t,.cons G T,_,_,k,s,_,i,j=>by let⟨A,B,y,Y,e,d,f⟩:=k;let⟨C,D,I,F,c,g,n⟩:=s;rw[e]at c;cases c;rw[QZ d g (A.trans C.symm) i.1 j.1,QZ f n (B.trans D.symm) i.2 j.2]
 | .lf _,.nil,_,_,_,_,z,_,_ | .lf _,.cons _ _,_,_,_,_,z,_,_ | .tp _,.nil,_,_,_,_,z,_,_ | .tp _,.cons _ _,_,_,_,_,z,_,_ | .nil,.lf _,_,_,_,_,z,_,_ | .nil,.tp _,_,_,_,_,z,_,_ | .cons _ _,.lf _,_,_,_,_,z,_,_ | .cons _ _,.tp _,_,_,_,_,z,_,_=>nomatch z
theorem qu:∀{l:Tr} {X:ri V},l.isL=μ->l.In->aL H l .non X->ο X=ο l.items/\∀(j:Nat) (x:V),X[j]?=δ x->∃t,l.items[j]?=δ t/\t.isL=ν/\t.In/\t.dep<=l.dep/\aL H t x []
 | .nil,X,_,_,h=>by let h:X=[]:=h;rw[h];exact#[Z,λj x z=>by simp at z]
 | .cons a t,X,_,i,h=>by
  let⟨A,c,y,Y,e,k,d⟩:=h;subst e;let⟨L,f⟩:=qu c i.2 d;erw[#[MZ (·+1) L,λj x b=>?_]];cases j with
  |zero=>cases b;exact#[a,Z,A,i.1,P' _ _,k]
  |succ j=>let⟨u,g,m,n,o,p⟩:=f j x (b:);exact#[u,by simpa [_L.Tr.items] using g,m,n,Mw o$ Py _ _,p]
 | .lf _,_,z,_,_ | .tp _,_,z,_,_=>nomatch z
theorem XV:∀{l m:Tr} {x y:ri V},l.isL=μ->m.isL=μ->aL H l .non x->aL H m .non y->(l=m↔l.items=m.items)
 | .nil,.nil,_,_,_,_,_,_=>#[λ_=>Z,λ_=>Z]
 | .nil,.cons _ _,_,_,_,_,_,_ | .cons _ _,.nil,_,_,_,_,_,_=>#[λz=>(nomatch z),λz=>(nomatch z)]
 | .cons a t,.cons b u,_,_,_,_,h,k=>by let⟨_,A,_,_,_,_,d⟩:=h;let⟨_,B,_,_,_,_,c⟩:=k;let i:=XV A B d c;erw[#[λz=>by cases z;rfl,λz=>?_]];let z:a::t.items=b::u.items:=z;injection z with e f;rw[e,i.mpr f]
 | .lf _,_,_,_,z,_,_,_ | .tp _,_,_,_,z,_,_,_ | .nil,.lf _,_,_,_,z,_,_ | .nil,.tp _,_,_,_,z,_,_ | .cons _ _,.lf _,_,_,_,z,_,_ | .cons _ _,.tp _,_,_,_,z,_,_=>nomatch z
open Classical in
def hG(t u:Tr):Bool:=decide (t=u)
open Classical in
def qe(h:t=u):hG t u=μ:=by unfold hG;rwa[MN h]
open Classical in
def zp(h:t≠u):hG t u=ν:=by unfold hG;rwa[My h]
def iY(l m:Tr)(j:Nat):Bool:=match l.items[j]?,m.items[j]? with
 |some t,δ u=>hG t u
 |_,_=>μ
def XX{l m:Tr}(a:l.isL=μ)(b:m.isL=μ)(h:aL H l .non x)(k:aL H m .non y)(d:n=ο l.items)(E:N=ο m.items):((eC$ min n N).all (iY l m)&&n==N)=hG l m:=by
 by_cases e:l=m
 .subst e;rw[qe Z,d,E,Ov,Bool.and_true,Pq];intro j _;unfold iY;cases l.items[j]? with
  |none=>rfl
  |some t=>rwa[qe Z]
 .rw[zp e];let f:l.items≠m.items:=λz=>e ((XV a b h k).mpr z);by_cases g:n=N
  .let z:(eC$ min n N).all (iY l m)=ν:=by rw[TZ];intro z;rw[Pq]at z;erw[f$ RO LA λj i o=>?_];let:=z j (pk.mpr LA);unfold iY at this;rw[Mf i,Mf o]at this;exact Classical.byContradiction λc=>by let C:=zp c;dsimp only at this;rw[C]at this;cases this
   rw[z];rfl
  .rw[show(n==N)=ν from beq_eq_false_iff_ne.mpr g,Rl]
section
open PySem.SeqAt
variable {X:Cx}
def Fg{w:V}(H:Cw v=μ)(h:Cw w=μ)(R:aE v a)(r:aE w b):EqAt A s a b (hG (.lf v)$ .lf w):=by
 cases v with
 |int i=>
  let⟨T,rfl⟩:=R;cases w with
  |int j=>
   let⟨t,rfl⟩:=r;let z:=UJ (A:=A) (s:=s) i T j t;by_cases e:i=j
   .subst e;rw[Ov]at z;rw[qe Z];rwa[z]
   .rw[beq_eq_false_iff_ne.mpr e]at z;rw[zp (λc=>e (by injection c with c;injection c))];rwa[z]
  |str y=>let⟨t,rfl⟩:=r;rw[zp (λc=>by injection c with c;cases c)];rwa[EqAt.int_str _ _ _ _]
  |_=>cases h
 |str i=>
  let⟨T,rfl⟩:=R;cases w with
  |str j=>
   let⟨t,rfl⟩:=r;let z:=UH (A:=A) (s:=s) i T j t;by_cases e:i=j
   .subst e;rw[Ov]at z;rw[qe Z];rwa[z]
   .rw[beq_eq_false_iff_ne.mpr e]at z;rw[zp (λc=>e (by injection c with c;injection c))];rwa[z]
  |int y=>let⟨t,rfl⟩:=r;rw[zp (λc=>by injection c with c;cases c)];rwa[EqAt.str_int _ _ _ _]
  |_=>cases h
 |_=>cases H
def FV(I:ap X p σ H s)(n:Nat)(G:∀(t:Tr) {A:bx},t.dep<=n->A.units+n < cLine->t.In->t.isL=ν->∀{u:Tr} {x y:V},u.In->u.isL=ν->aL H t x []->aL H u y []->∀a b,aE x a->aE y b->EqAt A s a b (hG t u)){l m:Tr}(hn:l.dep<=n)(hu:A.units+n+1 < cLine)(J:l.In)(L:m.In)(d:l.isL=μ)(f:m.isL=μ)(M:H g=δ (.tup i))(N:H B=δ (.tup o))(T:aL H l .non i)(q:aL H m .non o):RcAt A s (.ref g) (.ref B) (hG (.tp l)$ .tp m):=by
 let⟨v,r,O,_⟩:=I.tuple (aD.of (K:=X.K) M);let⟨C,R,Q,_⟩:=I.tuple (aD.of (K:=X.K) N);let⟨S,U⟩:=qu d J T;let⟨W,Y⟩:=qu f L q;let z:=RcAt.tuples (A:=A) (e:=iY l m) (show s.heap.IsTuple g v.toArray from O) (show s.heap.IsTuple B C.toArray from Q) LA (λj h1 h2=>?_)
 .rw[XX d f T q (by rw[Mm,<- r.length,S]) (by rw[Mm,<- R.length,W])]at z;let E:hG (.tp l) (.tp m)=hG l m:=by
   by_cases c:l=m
   .rw[qe c,qe (by rw[c])]
   .rw[zp c,zp (λk=>c (by injection k))]
  rw[E];rwa[z]
 .let la:=r.length;let lb:=R.length;let D:j < ο i:=by simp at h1;omega
  let h:j < ο o:=by simp at h2;omega
  let⟨u1,q1,r1⟩:=r.get (Mf D);let⟨u2,q2,r2⟩:=R.get (Mf h);let e1:v.toArray[j]=u1:=by let⟨_,e⟩:=ξ.mp q1;simpa using e
  let E:C.toArray[j]=u2:=by let⟨_,e⟩:=ξ.mp q2;simpa using e
  rw[e1,E];let⟨F,g1,g2,g3,g4,g5⟩:=U j _ (Mf D);let⟨u',k1,k2,k3,k4,k5⟩:=Y j _ (Mf h);let et:iY l m j=hG F u':=by unfold iY;rw[g1,k1]
  rw[et];rwa[G F (A:=A.in1) LA (by show A.units+1+n < cLine;omega) g3 g2 k3 k2 g5 k5 _ _ r1 r2]
def wt(I:ap X z Y H s):∀(n:Nat) (t:Tr) {A:bx},t.dep<=n->A.units+n < cLine->t.In->t.isL=ν->∀{u:Tr} {x y:V},u.In->u.isL=ν->aL H t x []->aL H u y []->∀a b,aE x a->aE y b->EqAt A s a b (hG t u):=by
 intro n;induction n with
 |zero=>
  intro t A k J i L u x y d g j h a b R r;cases t with
  |tp l=>rwa[absurd k (by show ¬l.dep+1<=0;omega)]
  |nil |cons _ _=>cases L
  |lf v=>
   let⟨rfl,_⟩:=j;cases u with
   |nil |cons _ _=>cases g
   |lf w=>let⟨rfl,_⟩:=h;rwa[Fg i d R r]
   |tp m=>
    let⟨_,B,M,rfl,o,_⟩:=h;cases r;let⟨W,N,C,_⟩:=I.tuple (aD.of (K:=X.K) o);rw[zp (λc=>by cases c)];cases x<;>first |cases i |skip
    .let⟨T,rfl⟩:=R;rwa[EqAt.int_tuple _ _ C N09]
    .let⟨T,rfl⟩:=R;rwa[EqAt.str_tuple _ _ C LA]
 |succ n D=>
  intro t A k J i L u x y d g j h a b R r;cases t with
  |nil |cons _ _=>cases L
  |lf v=>rwa[D (.lf v) (Mu _) LA i L d g j h a b R r]
  |tp l=>
   let⟨E,p,O,rfl,q,F⟩:=j;cases R;let⟨ia,Q,G,_⟩:=I.tuple (aD.of (K:=X.K) q);cases u with
   |nil |cons _ _=>cases g
   |lf w=>
    let⟨rfl,_⟩:=h;rw[zp (λc=>by cases c)];cases y<;>first |cases d |skip
    .let⟨T,rfl⟩:=r;rwa[Us _ _ G LA]
    .let⟨T,rfl⟩:=r;rwa[EqAt.tuple_str _ _ G LA]
   |tp m=>
    let f:=id h;let⟨S,B,M,rfl,o,U⟩:=h;cases r;by_cases e:p=B
    .subst e;rw[qe$ QZ (H:=H) (t:=.tp l) (u:=.tp m) (x:=.ref p) (xs:=[]) #[E,p,O,Z,q,F] f Z i d];rwa[EqAt.same _]
    .rwa[EqAt.of_refs e$ FV I n D (by let:l.dep+1<=n+1:=k;omega) N09 i d E S q o F U]
inductive FN(d:Nat)(x y:V)(H:Hp)(Q:VK):Prop
 |mk(l m:Tr)(_:l.dep < d)(_:l.In)(_:m.In)(_:aL H (.tp l) x [])(_:aL H (.tp m) y [])(_:Q (.bl (hG (.tp l) (.tp m))) H)
def uD{d:Nat}(c:X.A.units+d+1 < cLine):eW X (compareOp .Eq) (FN d):=by intro p s n H x y v u Q I r R h;obtain⟨l,m,o,i,e,⟨f,a,z,rfl,g,t⟩,⟨j,b,B,rfl,k,T⟩,q⟩:=h;cases r;cases R;rwa[FV I d (wt I d) LA c i e f j g k t T X.prog X.w _ _ #[.bl _,H,I,Z,q]]
end
abbrev DE:cv:=bH 27
abbrev DF:cv:=bH 32
def oB{w:V}:dN (v::u::w::y) 2=δ w:=jE (j:=2) Z
def Lb{w:V}:dN (v::u::w::z::y) 3=δ z:=jE (j:=3) Z
def gN:Sk->Tr
 | .rd c _=>ax [aJ "read",aw c]
 | .cl f I _ _=>ax [aJ "call",aJ f,ax (I.map aw)]
 | .wr c i=>ax [aJ "write",aw c,aw i]
 | .ask b=>ax [aJ "ask",aw b]
 |_=>.nil
def sQ{call:lB}{w:Sk}(h:fg M call C k L t e= .ok w i j):gN w=wM k e:=by
 let b:=EM h;cases e with
 |ask d T=>rw[Yp b]at h;cases h;rfl
 |st p l=>
  cases l with
  |gv d T |st x d T=>unfold fg at h;rw[Mv b]at h;cases h
  |rd x d T=>rw[sT b]at h;cases h;rfl
  |wr d u T U=>rw[sU b]at h;cases h;rfl
  |cl x f q g=>
   rw[qE b]at h;cases e:call f (g.map λc=>c.2.ev k) L (t+1) with
   |long |deep=>rw[e]at h;cases h
   |ok s a _L m=>rw[e]at h;cases h;show ax [_,_,ax ((g.map λc=>c.2.ev k).map aw)]=_;rw[Od];rfl
inductive lh(b:ri V)(H:Hp)(Q:VK)(a:XK):Prop
 |mk(u:V)(w:Sk)(_:b=[u])(_:eI H w u [])(_:w.ok ν)(_:∀(v:V) (H':Hp),aL H' (gN w) v []->ae H H'->Q v H')
inductive mQ(j:ri V)(H:Hp)(Q:VK)(b:XK):Prop
 |mk(f:ρ)(d:ri Int)(s:Sk)(a:Int)(c g e:ζ)(i:ri V)(k:Nat)(_:j=[.ref c,.int (k:Int)])(_:H c=δ (.tup [.str f,.ref g,.ref e,.int a]))(_:H e=δ (.tup i))(_:(∃(p h:ζ) (n:Int) (hs:ri Int) (u:V),i[k]?=↑p/\H p=δ (.tup [.int n,.ref h,u])/\H h=δ (.tup (hs.map qs))/\∀(v:V) (H':Hp),aL H' (ax [aJ "go",aw n,ax (hs.map aw)]) v []->ae H H'->Q v H')∨(k=ο i/\∀(v:V) (H':Hp),aL H' (ax [aJ "give",aw a]) v []->ae H H'->Q v H'))
def F8:ak ["what"] ["what"] (aa DE):=bG
def CW(F:rc K "deed_in" DE f B):⇑1 f B ["what"] lh:=by
 erw[F.ok F8 λC A o s H V Q E l h=>?_]
 let⟨u,w,rfl,m,t,q⟩:=h;erw[#[_,(jd (jw (kf$ jz$ pv 0) (jg$ jo$ jJ kC (pv 0) jV$ jH jf) jp)$ jd (jw (kf$ jz$ pv 0) (jg$ jo$ ju j5 (jh$ ja jl jb)$ jJ kC (jz$ pv 0) jV$ jH jf) jp)$ jg$ jo$ pv 0),?_]];cases w with
 |nil |st=>rwa[t.elim]
 |ask b=>let⟨p,rfl,d⟩:=m;erw[aj λk i=>(jv d Z #[Z,_,Z,aT Ly$ i _ _ ?_])];clear i;erw[aj λk i=>(jv d Z #[Z,_,Z,aT Ly$ i _ _ ?_])];exact#[_,Z,q _ _ (jD d$ jm Z jR$ jm Z jY jB)$ ae.refl _]
 |wr b D=>let⟨p,rfl,d⟩:=m;erw[aj λk i=>(jv d Z #[Z,_,Z,aT Ly$ i _ _ ?_])];clear i;erw[aj λk i=>(jv d Z #[Z,_,Z,aT Ly$ i _ _ ?_])];exact#[_,Z,q _ _ (jD d$ jm Z jR$ jm Z jY$ jm Z jY jB)$ ae.refl _]
 |rd b D=>let⟨p,rfl,d⟩:=m;erw[aj λk i=>(jv d Z #[Z,_,Z,b8 Ly #[_,Z,_,Z,p,_,Z,d,λr y l S=>q _ _ ?_ S]])];let l:y r=δ (.tup [.str "read",.int b]):=l;rwa[jD l$ jm Z jR$ jm Z jY jB]
 |cl f R s a=>let⟨p,c,g,e,T,rfl,d,G,I,U,W⟩:=m;erw[aj λk i=>(jv d Z #[Z,_,Z,aT Ly$ i _ _ ?_])];clear i;erw[aj λk i=>(jv d Z #[Z,_,Z,b8 Ly #[io,λJ n=>(jv (am d n) mq #[_,Z,c,_,Z,am G n,λL y v S=>#[J,L,_,_,Z,Z,S _ _ jc,v,gE,λM N j z=>q _ _ ?_ (((je n).trans S).trans z)]])]])];let j:N M=δ (.tup [.str "call",.str f,.ref g]):=j;rwa[jD j$ jm Z jR$ jm Z jR$ jm Z (qS$ z _ _$ S _ _$ am I n) jB]
def F':ak ["chain","number"] ["chain","number"] (aa DF):=bG
def CY(F:rc K "goal_at" DF f x)(M:mg "len"=θ):⇑1 f x ["chain","number"] mQ:=by
 erw[F.ok F' λC A o s H V Q E U h=>?_]
 let⟨f,I,s,a,c,g,e,y,k,rfl,d,l,q⟩:=h;erw[#[_,(jd (jw (jA qD (pv 1) (jG jI Z M M9$ ja (jz$ pv 0) jb)$ aG _) (jg$ jo$ jh$ ja jl$ ja (jz$ pv 0) jb) jp)$ jg$ jo$ ju j5 (jh$ ja jl jb)$ jJ kC (jr jP (jz$ pv 0) (pv 1) ∅) jV$ jH jf),?_]];let B:=aH;erw[aj λX m=>#[_,Z,jv d oB #[e,_,Z,.inr$ aD.of l,Z,_,Z,?_]]];rcases q with ⟨p,h,n,Y,u,r,D,G,q⟩ | ⟨J,q⟩
 .let L:=(ξ.mp r).1;refine aT (My λz=>?_)$ m _ _ ?_
  .injection z with z;omega
  clear m;erw[#[io,λt N=>(jv (am d N) oB #[_,Z,e,_,_,_,Z,Z,aD.of$ am l N,jE r,_,Z,p,_,Z,am D N,λO H1 i S=>#[t,O,_,_,Z,Z,S _ _ jc,i,gE,λR T b v=>q _ _ ?_ (((je N).trans S).trans v)]])]];let b:T R=δ (.tup [.str "go",.int n,.ref h]):=b;rwa[jD b$ jm Z jR$ jm Z jY$ jm Z (qS$ v _ _$ S _ _$ am G N) jB]
 .subst J;erw[b8 (MN Z)$ jv d Lb #[bN,λt N=>q _ _ (jD jc$ jm Z jR$ jm Z jY jB) (je N)]]
abbrev yV:cv:=bH 7
abbrev yW:cv:=bH 8
abbrev yP:cv:=bH 9
abbrev gJ:=ri Int
abbrev eS:=Int×ri Int×Sk
abbrev RA(a:Type):=Hp->V->a->Prop
def gI{a:Type}(R:RA a)(H:Hp):ri a->ri V->Prop
 | [],v=>v=[]
 |w::W,v=>∃x r,v=x::r/\R H x w/\gI R H W r
def HM{a:Type}(R:RA a):Prop:=∀(H h:Hp) (x:V) (w:a),ai H h->R H x w->R h x w
section
variable {α:Type}{R:RA α}
theorem gI.mono(a:HM R)(k:ai H b):∀{W:ri α} {v:ri V},gI R H W v->gI R b W v
 | [],_,h=>h
 |_::_,_,z=>by let⟨x,r,e,c,d⟩:=z;rwa[#[x,r,e,a _ _ _ _ k c,gI.mono a k d]]
theorem gI.app(a:gI R H b y):∀{W:ri α} {v:ri V},gI R H W v->gI R H (W++b) (v++y)
 | [],_,h=>by let e:_=[]:=h;rw[e];rwa[a]
 |_::_,_,z=>by let⟨x,r,e,c,d⟩:=z;rwa[#[x,r++y,by rw[e];rfl,c,gI.app a d]]
theorem gI.len:∀{W:ri α} {v:ri V},gI R H W v->ο v=ο W
 | [],_,h=>by let e:_=[]:=h;rw[e];rfl
 |_::_,_,z=>by let⟨x,r,e,b,a⟩:=z;rw[e];rwa[MZ (·+1) (gI.len a)]
theorem gI.at:∀{W:ri α} {v:ri V},gI R H W v->∀{i:Nat} {x:V},v[i]?=δ x->∃w,W[i]?=δ w/\R H x w
 | [],_,h,i,x,a=>by let e:_=[]:=h;rw[e]at a;simp at a
 |w::_,_,q,0,x,a=>by let⟨y,r,e,b,c⟩:=q;rw[e]at a;cases a;exact#[w,Z,b]
 |w::W,_,q,i+1,x,a=>by let⟨y,r,e,b,c⟩:=q;rw[e]at a;rwa[gI.at c (i:=i) (a:)]
theorem gI.map{a:Type}{S:RA a}{g:α->a}{f:V->V}(h:∀x w,R H x w->S H (f x) (g w)):∀{W:ri α} {v:ri V},gI R H W v->gI S H (W.map g) (v.map f)
 | [],_,e=>by let e:_=[]:=e;rw[e];rfl
 |_::_,_,z=>by let⟨x,r,e,b,c⟩:=z;rwa[#[f x,r.map f,by rw[e];rfl,h _ _ b,gI.map h c]]
end
def AA:RA gJ:=λH x p=>∃a,x= .ref a/\H a=δ (.tup$ p.map qs)
def i7:HM AA:=λ_ _ _ _ k #[a,e,h]=>#[a,e,k _ _ h]
def EB:RA (gJ×Sk):=λH x w=>∃q p u,x= .ref q/\H q=δ (.tup [.ref p,u])/\H p=δ (.tup$ w.1.map qs)/\eI H w.2 u []
def oI:HM EB:=λ_ _ _ _ k #[q,p,u,e,h,H,a]=>#[q,p,u,e,k _ _ h,k _ _ H,a.mono k]
def Sk.steps:Sk->ri eS
 | .st n h w r=>(n,h,w)::r.steps
 |_=>[]
def Sk.ws:Sk->gJ->Nat->ri (gJ×Sk)
 | .st _ _ w r,p,k=>((p++[(k:Int)],w)::w.ws (p++[(k:Int)]) 0)++r.ws p (k+1)
 | .cl _ _ s _,p,_=>s.ws p 0
 |_,_,_=>[]
def sh:ri eS->gJ->Nat->ri (gJ×Sk)
 | [],_,_=>[]
 |s::r,p,k=>((p++[(k:Int)],s.2.2)::s.2.2.ws (p++[(k:Int)]) 0)++sh r p (k+1)
theorem Yq:∀{s:Sk},s.ok μ->∀p k,s.ws p k=sh s.steps p k
 | .nil,_,_,_=>rfl
 | .st _ _ w r,o,p,k=>by show _++r.ws p (k+1)=_++sh r.steps p (k+1);rw[Yq o.2]
theorem Ka:∀(a b:ri eS) (p:gJ) (k:Nat),sh (a++b) p k=sh a p k++sh b p (k+ο a)
 | [],_,_,_=>rfl
 |s::a,b,p,k=>by show _++sh (a++b) p (k+1)=(_++sh a p (k+1))++sh b p (k+(ο a+1));rw[Ka a b,RF,show k+1+ο a=k+(ο a+1) by omega]
theorem qT:∀{b:Bool} {s:Sk},s.ok b->∀(p:gJ) (k:Nat),(s.ws p k).length=s.size
 |true,.nil,_,_,_=>rfl
 |true,.st _ _ w r,o,p,k=>by let h:=qT (b:=ν) (s:=w) o.1 (p++[(k:Int)]) 0;let H:=qT (b:=μ) (s:=r) o.2 p (k+1);show(((p++[(k:Int)],w)::w.ws (p++[(k:Int)]) 0)++r.ws p (k+1)).length=w.size+r.size+1;rw[Ml,MV,h,H];omega
 |false,.cl _ _ s _,o,p,_=>qT (b:=μ) (s:=s) o p 0
 |false,.ask _,_,_,_ |false,.rd _ _,_,_,_ |false,.wr _ _,_,_,_=>rfl
def Ea(a:ri eS)(i:Nat)(p:gJ)(k:Nat):(sh (a.take i) p k).length<=(sh a p k).length:=by let:=MZ List.length (Ka (a.take i) (a.drop i) p k);rw[Ra,Ml]at this;omega
inductive qor(H:Hp)(s:Sk)(i:Nat)(x:V):Prop|mk(n b w p h u:_)(_:s.steps[i]?=δ (n,b,w))(_:w.ok ν)(_:w.dep<=s.dep)(_:w.size+1<=s.size)(_:x= .ref p)(_:H p=δ (.tup [.int n,.ref h,u]))(_:H h=δ (.tup$ b.map qs))(_:eI H w u [])
theorem qo:∀{s:Sk} {S:ri V},s.ok μ->eI H s .non S->∀{i:Nat} {x:V},S[i]?=δ x->qor H s i x
 | .nil,_,_,e,i,x,a=>by let e:_=[]:=e;rw[e]at a;simp at a
 | .st n b w r,_,o,q,0,x,a=>by let⟨p,h,u,y,e,d,f,g,j⟩:=q;rw[e]at a;cases a;exact#[n,b,w,p,h,u,Z,o.1,P' _ _,by show w.size+1<=w.size+r.size+1;omega,Z,d,f,g]
 | .st n b w r,_,o,q,i+1,x,a=>by let⟨p,h,u,y,e,d,f,g,j⟩:=q;rw[e]at a;let⟨N,c,W,k,l,U,t,T,m,z,v,A,B,C⟩:=qo o.2 j (i:=i) (x:=x) (a:);exact#[N,c,W,k,l,U,t,T,Mw m$ Py _ _,by show W.size+1<=w.size+r.size+1;omega,v,A,B,C]
theorem zU:∀{s:Sk} {S:ri V},s.ok μ->eI H s .non S->ο S=ο s.steps
 | .nil,_,_,e=>by let e:_=[]:=e;rw[e];rfl
 | .st n b w r,_,o,z=>by let⟨p,h,u,y,e,c,d,f,a⟩:=z;rw[e];rwa[MZ (·+1) (zU o.2 a)]
def HW(p:gJ)(k:Nat):p.map qs++[qs (k:Int)]=(p++[(k:Int)]).map qs:=by rw[MS];rfl
inductive ni(n:Nat)(d:ri V)(H:Hp)(Q:VK)(a:XK):Prop
 |mk(b:ζ)(c:gJ)(w:Sk)(u:V)(_:d=[.ref b,u])(_:H b=δ (.tup (c.map qs)))(_:ο c+n<=100)(_:eI H w u [])(_:w.ok ν)(_:w.dep < n)(_:w.size<=1000)(_:∀(r:ζ) (xs:ri V) (H':Hp),H r=θ->H' r=δ (.lst xs)->gI EB H' ((c,w)::w.ws c 0) xs->ae H H'->Q (.ref r) H')
inductive iR(n:Nat)(g:ri V)(H:Hp)(Q:VK)(b:XK):Prop
 |mk(d:ζ)(e:gJ)(f:ρ)(c:ri Int)(s:Sk)(a:Int)(u:V)(_:g=[.ref d,u])(_:H d=δ (.tup (e.map qs)))(_:ο e+n+1<=100)(_:iS H f c s a u)(_:s.ok μ)(_:s.dep < n)(_:s.size<=1000)(_:∀(r:ζ) (xs:ri V) (H':Hp),H r=θ->H' r=δ (.lst xs)->gI EB H' (s.ws e 0) xs->ae H H'->Q (.ref r) H')
inductive IW(h k:ζ)(j:gJ)(u:V)(s:Sk)(H:Hp)(i:Nat)(m:_L.St)(a:Hp):Prop
 |mk(f g:rm V)(l:ri V)(b:m=[↑h,δ u,↑k,f,g])(c:a k=δ (.lst l))(d:gI EB a (sh (s.steps.take i) j 0) l)(e:ae H a)
def Dt(p:gJ)(w:Sk):ri gJ:=p::(w.ws p 0).map (·.1)
inductive mZ(n:Nat)(d:ri V)(H:Hp)(Q:VK)(a:XK):Prop
 |mk(b:ζ)(c:gJ)(w:Sk)(u:V)(_:d=[.ref b,u])(_:H b=δ (.tup (c.map qs)))(_:ο c+n<=100)(_:eI H w u [])(_:w.ok ν)(_:w.dep < n)(_:w.size<=1000)(_:∀(r:ζ) (xs:ri V) (H':Hp),H r=θ->H' r=δ (.lst xs)->gI AA H' (Dt c w) xs->ae H H'->Q (.ref r) H')
def pZ(H:Hp):V->V
 | .ref q=>match H q with
  |some (.tup (x::_))=>x
  |_=>.non
 |_=>.non
def Jg(l:ri V):(eC l.length).map (λi=>(l[i]?).getD .non)=l:=by erw[RO Lz λi H h=>?_];simp [Mf h]
def AS{H:Hp}(h:H q=δ (.tup [.ref p,u])):pZ H (.ref q)= .ref p:=by show(match H q with |some (.tup (x::_))=>x |_=>V.non)=_;rw[h]
def Bj:ak ["path","what","within"] z9z (aa yV):=bG
def uB{n:Nat}(F:rc K "whats_at" yV f fd)(cI:‹2*n+2› fI f0 ["path","chain"] (iR n) "whats_in"):⇑(2*n+3) f fd z9z (ni$ n+1):=by
 erw[F.ok Bj λc0 A O s H vs Q E hr h=>?_]
 let⟨j,v,w,u,rfl,U,h0,D,k,W,hz,q⟩:=h;erw[#[_,(jd (jx 2 Bj.nd$ kM (kf$ jz$ pv 1) (cI.e hr.m$ ja (pv 0)$ ja (jz$ pv 1) jb)$ jK jb)$ jg$ jo$ ju qk (jK$ ja (jh$ ja (pv 0)$ ja (pv 1) jb) jb)$ pv 2),?_]];let b0:=aH;let fl:=qT k v 0;erw[aj λF1 G=>?_];suffices X:∀(l:ζ) (x:ri V) (d:Hp),d l=δ (.lst x)->gI EB d (w.ws v 0) x->ae H d->F1 [↑j,δ u,↑l] d by
  clear G;cases w with
  |nil |st=>rwa[k.elim]
  |ask b |rd c i |wr c i=>let⟨p,rfl,y⟩:=D;exact(jv y Z #[Z,_,Z,aT Ly #[ms,λl Y=>X l [] _ jc Z (je Y)]])
  |cl f is s a=>let⟨p,c,g,e,ss,rfl,y,h2,h3,h4,h5⟩:=D;let W:s.dep+1 < n+1:=W;exact(jv y Z #[Z,_,Z,b8 Ly #[_,Z,jv y Z #[j,v,f,is,s,a,.ref c,Z,U,N09,#[c,g,e,ss,Z,h2,h3,h4,h5],k,LA,hz,λl x d Y I B S=>X l x d I B S]]])
 intro l x d I B S;erw[G _ _ ?_];clear G;let lx:=B.len;erw[#[_,Z,_,Z,bN,λt J=>#[io,λL N=>#[_,Z,L,l,_,_,Z,Z,jc,am (am I J) N,by show 1+ο x<=_;omega,λr M=>?_]]]];let C:ae d (ah (ah (ah d t$ .tup [.ref j,u]) L$ .lst [.ref t]) r$ .lst ([.ref t]++x)):=((je J).trans$ je N).trans (je M);let ht:ah (ah (ah d t$ .tup [.ref j,u]) L$ .lst [.ref t]) r (.lst ([.ref t]++x)) t=δ (.tup [.ref j,u]):=am (am jc N) M;let R:H r=θ:=by
  cases z:H r with
  |none=>rfl
  |some o=>have:=((je (o:=.lst [.ref t]) N) _ _ ((je (o:=.tup [.ref j,u]) J) _ _ (S _ _ z)));rw[M]at this;cases this
 rwa[q r _ _ R jc #[.ref t,x,Z,#[t,j,u,Z,ht,C _ _$ S _ _ U,D.mono$ ae.tm$ S.trans C],B.mono oI$ ae.tm C] (S.trans C)]
def oY:ak ["path","chain","told","number","step"] ["path","chain"] (aa yW):=bG
def Db(F:rc K "whats_in" yW f fd)(cA:‹2*n+1› fA f2 z9z (ni n) "whats_at")(U:mg "enumerate"=θ):⇑(2*n+2) f fd ["path","chain"] (iR n):=by
 erw[F.ok oY λc0 A V s H vs Q E Y h=>?_]
 let⟨pa,k,f,is,s,a,u,rfl,hp,h6,hc,d,hd,hz,q⟩:=h;erw[#[_,(jd (jx 2 oY.nd$ jK jb)$ jd (kh M3 Z (uJ Z U$ ja (jz$ pv 1) jb) (zQ (n:=2) Z$ jC (jy (i:=3) oY.nd Z$ ψ Z)$ jC (jy (i:=4) oY.nd Z$ ψ Z) kN)$ jg$ jQ$ kJ MF OH OG JA (pv 2)$ ja (cA.e Y.m$ ja (ju j5 (pv 0)$ jh$ ja (pv 3) jb)$ ja (jz$ pv 4) jb) jb)$ jg$ jo$ pv 2),?_]];let b0:=aH;let⟨c,g,e,ss,rfl,h1,h2,h3,h4⟩:=hc;let fl:=qT d k 0;rw[Yq d]at fl;let lt:=zU d h4;erw[aj λF1 v=>#[ms,λT N=>v _ _ ?_]];clear v;let s1:ae H (ah H T$ .lst []):=je N;erw[aj λF1 v=>eM λJ j=>(jv (s1 _ _ h1) Z #[e,Z,#[_,aD.of$ s1 _ _ h3],j _ _ ?_])];clear j;erw[YS (K:=K) (xs:=ss) (IW pa T k (.ref c) s H) #[θ,θ,[],Z,jc,Z,s1] (λi σ Hx _ h=>?_) ?_ (λσ Hx h=>v _ _ ?_)]
 .let⟨_,_,_,_,_,_,y⟩:=h;rwa[aD.of$ y _ _ h3]
 .intro E hE i x B σ O hx np f0 Gq l h;clear v;let⟨o3,o4,xs,rfl,R,W,y⟩:=h;let C:ae O (ah O B$ .tup [.int i,x]):=je np;let e8:ah O B (.tup [.int i,x]) B=δ (.tup [.int i,x]):=jc;erw[l ?_];clear l;generalize ah O B (.tup [.int i,x])=H8 at C e8 ⊢;let S8:=y.trans C;let⟨n1,D,w,p,hh,u,ht,o1,d0,s2,rfl,h0,h7,hw⟩:=qo d (h4.mono$ ae.tm S8) hx;erw[#[B,_,Z,aD.of e8,Z,_,_,Z,_,_,Z,Z,?_]];erw[#[_,Z,.inl #[Z,_,aI.of$ C _ _ R],_,Z,_,Z,io,λt nt=>#[pa,t,_,_,Z,Z,am (S8 _ _ hp) nt,jc,by rw[Mi];show _+1<=_;omega,λr9 H9 e9 s9=>?_]]];let S9:=(je (o:=.tup [.int i]) nt).trans s9;rw[HW]at e9;erw[(jv (S9 _ _ h0) Z #[r9,_,w,u,Z,e9,by rw[Ml];show _+1+_<=_;omega,hw.mono$ ae.tm S9,o1,LA,LA,λr X G nr Y I s0=>?_])];let S:=S9.trans s0;let L:=S _ _ (C _ _ R);let lx:=W.len;let l0:=I.len;let bl:=Ea s.steps (i+1) k 0;let h5:i < ο s.steps:=(ξ.mp ht).1;let et:s.steps.take (i+1)=s.steps.take i++[(n1,D,w)]:=by rw[NQ,ht];rfl
  let eb:sh [(n1,D,w)] k (0+(s.steps.take i).length)=(k++[(i:Int)],w)::w.ws (k++[(i:Int)]) 0:=by rw[MT,Oo$ Ol h5,PY];show(_::_)++[]=_;rw[RY]
  rw[fl,et,Ka,eb]at bl;rw[Ml]at bl;let M:ai G (ah G T$ .lst$ xs++X):=λb ys e=>by rw[ji$ jN e L (by intro z;cases z)];rwa[e]
  erw[#[T,r,_,_,Z,Z,L,Y,LA,f0 _ _ #[_,_,xs++X,Z,jc,?_,λb o e=>?_]]]
  .rw[et,Ka,eb];exact(I.mono oI M).app ((W.mono oI$ ae.tm$ C.trans S).mono oI M)
  .rw[ji$ jk e N];rwa[S _ _$ S8 _ _ e]
 .let⟨o3,o4,xs,rfl,R,W,y⟩:=h;rw[lt,Np,<- Yq d]at W;exact#[_,Z,q T xs Hx N R W y]
def CJ:⇑k f c ["path","chain"] (iR 0):=by
 let n:∀v H Q E,¬iR 0 v H Q E:=λv H Q E h=>by let⟨p,d,f,i,s,a,u,_,_,_,_,_,z,_⟩:=h;omega
 exact#[λv H Q E h=>absurd h (n v H Q E),λA o s H b U v Q E _ _ _ _ h=>absurd h (n v H Q E)]
theorem G8(F:rc K "whats_at" yV g a)(B:au K a z9z [])(M:mg "whats_at"=↑g)(b:rc K "whats_in" yW c f)(d:au K f ["path","chain"] [])(e:mg "whats_in"=↑c)(m:mg "enumerate"=θ):∀n,⇑(2*n+2) c f ["path","chain"] (iR n)
 |0=>CJ
 |n+1=>by let h:=G8 F B M b d e m n;let H:=uB F #[h,d,b.kp,e];rwa[Db b #[H,B,F.kp,M] m]
def Gb:ak z9z z9z (aa yP):=bG
def rY:hJ:=#[.function,[(".0",.local),("one",.local),("done",.local)],ν,ν,[]]
def ue:(["one","done"]:ri ρ).Nodup:=Ly
def BQ:bE z9z (aa yP) rY ["one","done"] 2 []:=sI
def C3{n:Nat}(F:rc K "paths_at" yP f I)(J:‹2*n+3› fA L z9z (ni$ n+1) "whats_at"):⇑(2*n+4) f I z9z (mZ$ n+1):=by
 erw[F.ok Gb λM A O s H vs Q E R h=>?_]
 let⟨y,p,w,u,rfl,T,j,V,b,W,Y,q⟩:=h;erw[#[_,(jg$ jo$ @zi _ _ _ _ _ _ _ (["one","done"]) (2) ([]) _ _ _ _ Z (qA$ J.e R.m$ ja (pv 0)$ ja (pv 1) jb) BQ (λ_ _ _ _ _=>Zy (K:=K) (n:=2) Z Z (jC (jy (i:=0) ue Z$ ψ Z)$ jC (jy (i:=1) ue Z$ ψ Z) kN) Z Z) (λ_ _ _ _ _=>(@zI _)) (λ_ _ _ _ _=>(pv 0)) (by intro _;rfl)),?_]];let b0:=aH;let fl:=qT b p 0;erw[#[_,Z,_,Z,y,p,w,u,Z,T,j,V,b,W,Y,λr X a nr c k C=>?_]];let lx:=k.len;rw[MV,fl]at lx;let lm:(X.map$ pZ a).length=ο X:=Mi _;erw[#[r,Z,#[_,aI.of c],Ya (λi=>((X.map$ pZ a)[i]?).getD .non) LA (aI.of c) (λi x D=>?_) λl N=>q l (X.map$ pZ a) _ ?_ ?_ ?_ (C.trans$ je N)]]
 .obtain⟨⟨p',w'⟩,_,t,v,U,rfl,g,G,g3⟩:=k.at D;erw[#[t,.ref v,U,Z,aD.of g,λQ d=>#[_,Z,?_]]];rw[MH,D]at d;let d:Q (pZ a$ .ref t) a:=d;rw[AS g]at d;rwa[d]
 .cases z:H l with
  |none=>rfl
  |some o=>rw[C _ _ z]at N;cases N
 .rw[jc,<- lm,Jg]
 .let e:Dt p w=((p,w)::w.ws p 0).map (·.1):=rfl;rw[e];exact(gI.map (S:=AA) (f:=pZ a) (λx w #[t,v,U,e0,g,G,g3]=>by subst e0;rw[AS g];exact#[v,Z,G]) k).mono i7 (ae.tm$ je N)
abbrev u6:cv:=bH 34
abbrev u5:cv:=bH 35
def AU(h:bJ k A):A.units+10+1 < cLine:=by let:=h.un;omega
theorem KC:∀{I J:ri Int},aC (I.map aw)=aC (J.map aw)->I=J
 | [],[],_=>rfl
 | [],_::_,e |_::_,[],e=>by cases e
 |i::I,j::J,e=>by let e:Tr.cons (aw i) (aC$ I.map aw)= .cons (aw j) (aC$ J.map aw):=e;injection e with E a;injection E with E;injection E with E;rw[E,KC a]
theorem qB:∀i:ri Int,(aC$ i.map aw).In
 | []=>trivial
 |_::i=>#[Z,qB i]
def sM(n:Int)(h:ri Int):(aC [aw n,ax$ h.map aw]).In:=#[Z,qB h,trivial]
def xA(n:Int)(H:ri Int):(aC [aw n,ax$ H.map aw]).dep < 10:=by let h:=zO H;show max 0 (max ((aC$ H.map aw).dep+1) 0) < 10;omega
def xK(P:eS->Bool):Nat->ri eS->rm Nat
 |_,[]=>θ
 |k,s::r=>if P s=μ then δ k else xK P (k+1) r
def nG(P:eS->Bool)(os:ri eS)(m:Nat):rm Nat:=xK P m (os.drop m)
def tF{P:eS->Bool}{os:ri eS}(h:os[m]?=δ s):nG P os m=if P s=μ then δ m else nG P os (m+1):=by let⟨H,e⟩:=ξ.mp h;unfold nG;rw[<- PV (h:=H),e];rfl
def ZO{P:eS->Bool}{os:ri eS}(h:ο os<=m):nG P os m=θ:=by unfold nG;rw[List.drop_eq_nil_of_le h];rfl
theorem ZP{P:eS->Bool}:∀{os:ri eS} {k j:Nat},xK P k os=δ j->∃i s,j=k+i/\os[i]?=δ s/\P s=μ
 | [],_,_,h=>nomatch h
 |s::r,k,j,h=>by
  let h:(if P s=μ then δ k else xK P (k+1) r)=δ j:=h;by_cases H:P s=μ
  .rw[Mv H]at h;cases h;exact#[0,s,Z,Z,H]
  .rw[Mx H]at h;let⟨i,S,e,a,b⟩:=ZP h;exact#[i+1,S,LA,by simpa using a,b]
def ZQ{P:eS->Bool}{os:ri eS}(h:nG P os m=δ j):m<=j/\∃s,os[j]?=δ s/\P s=μ:=by let⟨i,s,e,H,a⟩:=ZP h;rw[Tv]at H;exact#[LA,s,by rw[e];rwa[H],a]
def iq:rm Nat->V
 |some j=>.int (j:Int)
 |none=>.non
def lF(n:Int)(h:ri Int)(s:eS):Bool:=decide (s.1=n/\s.2.1=h)
def iU(f:ρ)(i:ri Int)(s:eS):Bool:=match s.2.2 with
 | .cl g j _ _=>decide (g=f/\j=i)
 |_=>ν
def oH(os:ri eS)(m:Nat):Sk->rm Nat
 | .cl f i _ _=>nG (iU f i) os m
 |_=>θ
def xC{H h:ri Int}(e:ax [aw n,ax$ H.map aw]=ax [aw N,ax$ h.map aw]):n=N/\H=h:=by let e:Tr.tp (.cons (aw n)$ .cons (ax$ H.map aw) .nil)= .tp (.cons (aw N)$ .cons (ax$ h.map aw) .nil):=e;injection e with e;injection e with a A;injection A with b _;injection a with a;injection a with a;let b:Tr.tp (aC$ H.map aw)= .tp (aC$ h.map aw):=b;injection b with b;exact#[a,KC b]
def Cy{a H:ri Int}{w:Sk}:hG (ax [aw N,ax$ H.map aw]) (ax [aw n,ax$ a.map aw])=lF n a (N,H,w):=by
 by_cases h:N=n/\H=a
 .rw[h.1,h.2,qe Z];exact(MN #[Z,Z]).symm
 .rw[zp λe=>h (xC e)];exact(My h).symm
def KD{i j:ri Int}(e:ax [aJ "call",aJ g,ax$ j.map aw]=ax [aJ "call",aJ f,ax$ i.map aw]):g=f/\j=i:=by let e:Tr.tp (.cons (aJ "call")$ .cons (aJ g)$ .cons (ax$ j.map aw) .nil)= .tp (.cons (aJ "call")$ .cons (aJ f)$ .cons (ax$ i.map aw) .nil):=e;injection e with e;injection e with _ e;injection e with a A;injection A with b _;injection a with a;injection a with a;let b:Tr.tp (aC$ j.map aw)= .tp (aC$ i.map aw):=b;injection b with b;exact#[a,KC b]
def Q9(e:ax (aJ a::x)=ax (aJ b::y)):a=b:=by let e:Tr.tp (.cons (aJ a)$ aC x)= .tp (.cons (aJ b)$ aC y):=e;injection e with e;injection e with e _;injection e with e;injection e
def Cr{n':Int}{hs':ri Int}{w:Sk}(o:w.ok ν):hG (gN w) (gN$ .cl f i s a)=iU f i (n',hs',w):=by
 cases w with
 |nil |st _ _ _ _=>rwa[o.elim]
 |ask b |rd b c |wr b c=>show hG (ax _) (ax _)=_;rw[zp λe=>absurd (Q9 e) LB];rfl
 |cl g j S A=>
  by_cases h:g=f/\j=i
  .rw[h.1,h.2];show hG (ax _) (ax _)=_;rw[qe Z];exact(MN #[Z,Z]).symm
  .show hG (ax _) (ax _)=_;rw[zp λe=>h (KD e)];exact(My h).symm
def ZR{w:Sk}(o:w.ok ν):∃l,gN w= .tp l/\l.dep < 10/\l.In/\∃v t,l= .cons (aJ v) t/\(v="call"↔∃f i s a,w= .cl f i s a):=by
 cases w with
 |nil |st _ _ _ _=>rwa[o.elim]
 |ask b |rd b B=>exact#[_,Z,by show max 0 (max 0 0) < 10;decide,#[Z,Z,trivial],_,_,Z,λe=>absurd e LB,λ#[_,_,_,_,e]=>nomatch e]
 |wr b B=>exact#[_,Z,by show max 0 (max 0 (max 0 0)) < 10;decide,#[Z,Z,Z,trivial],_,_,Z,λe=>absurd e LB,λ#[_,_,_,_,e]=>nomatch e]
 |cl f i s a=>exact#[_,Z,by show max 0 (max 0 (max ((aC (i.map aw)).dep+1) 0)) < 10;rw[zO];decide,#[Z,Z,qB i,trivial],_,_,Z,λ_=>#[_,_,_,_,Z],λ_=>Z]
inductive iK(f:ri V)(H:Hp)(Q:VK)(a:XK):Prop
 |mk(e:ζ)(d:ri V)(s:Sk)(m:Nat)(n:Int)(c:ri Int)(b:V)(_:f=[.ref e,.int (m:Int),b])(_:H e=δ (.tup d))(_:eI H s .non d)(_:s.ok μ)(_:s.size<=1000)(_:m<=1000)(_:aL H (ax [aw n,ax (c.map aw)]) b [])(_:∀H',ae H H'->Q (iq (nG (lF n c) s.steps m)) H')
inductive iJ(d:ri V)(H:Hp)(Q:VK)(a:XK):Prop
 |mk(e:ζ)(c:ri V)(s w:Sk)(m:Nat)(b:V)(_:d=[.ref e,.int (m:Int),b])(_:H e=δ (.tup c))(_:eI H s .non c)(_:s.ok μ)(_:s.size<=1000)(_:m<=1000)(_:aL H (gN w) b [])(_:w.ok ν)(_:∀H',ae H H'->Q (iq (oH s.steps m w)) H')
def vF:ak ["steps","mark","cut","at"] ["steps","mark","cut"] (aa u6):=bG
def yj(F:rc K "like_from" u6 f T)(R:mg "len"=θ)(U:mg "range"=θ):⇑1 f T ["steps","mark","cut"] iK:=by
 erw[F.ok vF λV A O s H vs Q E W h=>?_]
 let⟨e,v,s,m,n,c,C,rfl,G,g,k,Y,hm,hc,q⟩:=h;erw[#[_,(jd (kh M3 Z (Qv Z U$ ja (pv 1)$ ja (jG jI Z R M9$ ja (pv 0) jb) jb) (jy (i:=3) vF.nd Z$ ψ Z)$ jg$ jw (jA (uD (d:=10)$ AU W) (jJ kC (jr jP (pv 0) (pv 3) ∅) jV$ jH jf) (pv 2)$ aG _) (jg$ jo$ pv 3) jp)$ jg$ jo$ @zH _ _ _),?_]];let b0:=aH;let l0:=zU k g;let l1:=Jx k g;erw[aj λF1 f1=>eM λJ j=>#[_,Z,_,Z,e,_,Z,.inr$ aD.of G,_,_,Z,#[LA,LA,LA,LA],j _ _ ?_]];clear j;erw[kn (λi x I=>(∃y,x=[↑e,δ$ .int (m:Int),δ C,y])/\ae H I/\nG (lF n c) s.steps m=nG (lF n c) s.steps (m+i)) #[#[_,Z],ae.refl _,Z] ?_ (λx I h=>f1 _ _ ?_)]
 .intro L rt i x H2 hi fE X l h;obtain⟨⟨y,rfl⟩,S,b⟩:=h;erw[l ?_];clear l;let e0:(m:Int)+(i:Int)=((m+i:Nat):Int):=by omega
  rw[e0];let o:m+i < ο v:=LA
  let⟨N,a,w,p,h,u,ht,o1,_,_,ex,hp,hh,_⟩:=qo k (g.mono$ ae.tm S) (Mf o);let B:v[m+i]?=↑p:=by rw[Mf o,ex]
  show iX _ _ _ L _ _;erw[oE λG1 kT kF=>#[_,Z,_,Z,e,_,_,_,Z,Z,aD.of$ S _ _ G,jE B,_,Z,p,_,Z,hp,λq2 H1 D r=>#[_,Z,_,_,xA N a,sM N a,sM n c,jD D$ jm Z jY$ jm Z (qS$ r _ _ hh) jB,hc.mono$ ae.tm$ S.trans r,_,Z,?_]]];rw[show hG (.tp$ aC [aw N,ax$ a.map aw]) (.tp$ aC [aw n,ax$ c.map aw])=lF n c (N,a,w) from Cy];let t:=tF (P:=lF n c) ht;cases M:lF n c (N,a,w) with
  |true=>erw[kT _ ?_];show gF _ L _ _;unfold gF;rw[rt];rw[Mv M]at t;let z:=q _ (S.trans r);rw[b,t]at z;exact#[_,Z,z]
  |false=>rw[Mx (by rw[M];intro z;cases z)]at t;rwa[kF _$ fE _ _ #[#[_,Z],S.trans r,by rw[b,t];rfl]]
 .obtain⟨⟨y,rfl⟩,S,b⟩:=h;let z:=q _ S;rw[b,ZO LA]at z;rwa[z]
def vE:ak ["steps","mark","deed","at"] ["steps","mark","deed"] (aa u5):=bG
def yi(F:rc K "lender_from" u5 f fd)(cI:‹1› fI f0 ["what"] lh "deed_in")(ml:mg "len"=θ)(mr:mg "range"=θ):⇑2 f fd ["steps","mark","deed"] iJ:=by
 erw[F.ok vE λc0 A O s H vs Q E hr h=>?_]
 let⟨e,D,s,w,m,dv,rfl,he,c,g,h0,hm,G,L,q⟩:=h;erw[#[_,(jd (jw (jA Qn (jz$ pv 2) jl$ aG _) (jg$ jo$ @zH _ _ _) jp)$ jd (kh M3 Z (Qv Z mr$ ja (pv 1)$ ja (jG jI Z ml M9$ ja (pv 0) jb) jb) (jy (i:=3) vE.nd Z$ ψ Z)$ jg$ jw (jA (uD (d:=10)$ AU hr) (cI.e hr.m$ ja (jz$ jr jP (pv 0) (pv 3) ∅) jb) (pv 2)$ aG _) (jg$ jo$ pv 3) jp)$ jg$ jo$ @zH _ _ _),?_]];let b0:=aH;let l0:=zU g c;let l1:=Jx g c;let⟨l,el,dl,il,v0,ts,ev,r⟩:=ZR L;rw[el]at G;let⟨_,da,ds,rfl,M,t⟩:=id G;rw[ev]at t;obtain⟨_,_,y0,y1,rfl,⟨rfl,_⟩,_⟩:=t;erw[aj λF1 y=>(jv M gM #[Z,_,Z,?_])];by_cases B:v0="call"
 .let⟨f,I,s1,a1,rfl⟩:=r.mp B;subst B;erw[aT Ly$ y _ _ ?_];clear y;erw[aj λF1 y=>eM λJ j=>#[_,Z,_,Z,e,_,Z,.inr$ aD.of he,_,_,Z,#[LA,LA,LA,LA],j _ _ ?_]];clear j;refine kn (λi N R=>(∃T,N=[↑e,δ$ .int (m:Int),↑da,T])/\ae H R/\nG (iU f I) s.steps m=nG (iU f I) s.steps (m+i)) #[#[_,Z],ae.refl _,Z] ?_ (λN R h=>y _ _ ?_)
  .intro E2 rt i N H2 hi fE Gq n h;obtain⟨⟨T,rfl⟩,S,b⟩:=h;erw[n ?_];clear n;let e0:(m:Int)+(i:Int)=((m+i:Nat):Int):=by omega
   rw[e0];let v:m+i < ο D:=by rwa[N09]
   let⟨n',hs',w,p,h,u,ht,o,_,_,ex,hp,hh,hw⟩:=qo g (c.mono$ ae.tm S) (Mf v);let U:D[m+i]?=↑p:=by rw[Mf v,ex]
   let⟨l',x,W,X,_⟩:=ZR o;show iX _ _ _ E2 _ _;erw[oE λG1 kT kF=>#[_,Z,_,Z,e,_,_,_,Z,Z,aD.of$ S _ _ he,jE U,p,_,_,_,Z,Z,aD.of hp,oB,u,w,Z,hw,o,λv1 H1 Y k=>#[_,Z,l',l,W,X,il,x▸Y,G.mono$ ae.tm$ S.trans k,_,Z,?_]]];rw[<- x,<- el,Cr (n':=n') (hs':=hs') o];let C:=tF (P:=iU f I) ht;cases hb:iU f I (n',hs',w) with
   |true=>erw[kT _ ?_];show gF _ E2 _ _;unfold gF;rw[rt];rw[Mv hb]at C;let z:Q (iq$ nG (iU f I) s.steps m) H1:=q _ (S.trans k);rw[b,C]at z;exact#[_,Z,z]
   |false=>rw[Mx (by rw[hb];intro z;cases z)]at C;rwa[kF _$ fE _ _ #[#[_,Z],S.trans k,by rw[b,C];rfl]]
  .obtain⟨⟨T,rfl⟩,S,b⟩:=h;let z:Q (iq$ nG (iU f I) s.steps m) R:=q _ S;rw[b,ZO N09]at z;rwa[z]
 .refine b8 ?_ ?_
  .show(!decide (qr v0=qr "call"))=μ;rw[My λz=>B (by injection z)];rfl
  let z:=q _ (ae.refl _);let en:oH s.steps m w=θ:=by
   cases w with
   |cl f I s a=>rwa[absurd (r.mpr #[f,I,s,a,Z]) B]
   |_=>rfl
  rw[en]at z;rwa[z]
abbrev uT:cv:=bp (bH 41) 0
abbrev yI:cv:=bp (bH 41) 1
abbrev yJ:cv:=bp (bH 41) 2
def df(a:ζ):ri (ρ×V):=[("anew",.ref a)]
def xq(a:ζ):Tl (df a):=#[Nat.le_of_ble_eq_true Z,Z,Z,Z,Z]
inductive lY(C:ζ)(e:ri V)(H:Hp)(Q:VK)(a:XK):Prop
 |mk(r c d b:ζ)(m:Int)(_:e=[.ref r,.ref d,.ref b,.int m])(_:H r=δ (.ins C c []))(_:∀lA aA,H lA=θ->H aA=θ->lA≠aA->Q .non (ah (ah (ah H lA (.dK [])) aA (.lst [])) r (.ins C c (cX (df aA) b lA d m 0))))
def DN:ak z6z z6z (aa uT):=bG
def ye{R:ζ}(F:aN K "__init__" "AgainRun.__init__" uT f y)(B:RK K C)(D:aW K C "anew")(G:⇑2 I k z6z (gR C))(J:au K k z6z [])(M:mg "BookRun"=↑R)(L:sr K R "__init__" I):⇑3 f y z6z (lY C):=by
 erw[F.ok DN λO A o s H V Q E S h=>?_]
 let⟨r,d,p,c,m,rfl,g,q⟩:=h;erw[#[_,(jd (jQ$ @Zp _ _ _ _ _ _ _ _ _ _ _ _ _ _ _ _ _ _ _ _ Z M L G S.m J .nil bq (ja (pv 0)$ ja (pv 1)$ ja (pv 2)$ ja (pv 3) jb) LB Lx Lx Lx)$ jg$ @qj _ _ _ _ _ _ _ _ (pv 0) (jK jb) Z),?_]];erw[aj λW x=>#[_,Z,_,Z,_,Z,_,Z,r,d,p,c,m,Z,g,λl N=>x _ _ ?_]];clear x;let T:l≠r:=(jk g N).symm;erw[#[ms,λa n=>#[_,Z,r,C,d,_,Z,am jc n,B.cl,D,(by show 5 < 1000;decide),?_]]];let t:a≠r:=λz=>by rw[z,jc]at n;cases n
 rw[ji t]at n;let i:l≠a:=λz=>by rw[<- z,jc]at n;cases n
 rw[ji i.symm]at n;let e:ah (ah (ah (ah H l$ .dK []) r$ .ins C d$ cX [] c l p m 0) a$ .lst []) r (.ins C d$ cX (df a) c l p m 0)=ah (ah (ah H l$ .dK []) a$ .lst []) r (.ins C d$ cX (df a) c l p m 0):=by
  funext b;by_cases j:b=r
  .rw[j,jc,jc]
  .rw[ji j,ji j];by_cases u:b=a
   .rw[u,jc,jc]
   .rw[ji u,ji j,ji u]
 rwa[e▸q l a N n i]
abbrev DM:cv:=bH 40
def AT{M:Nat}{call:lB}{C L f:aO}{p:cq}{m t i:Nat}{g:Gd}{n:Int}{H:ri Int}{a:Int}{w r:Sk}(h:fo M call C p m g L t= .ok (.st n H w r) a f i):∃(N:Nat) (c:By) (l:aO) (T d:Nat),n=(N:Int)/\g= .go N H/\p.cs[N]?=δ c/\fg M call C (aM c.nm H) L t c.e= .ok w l T/\fo M call C p d (nY p c H w.wh) l T= .ok r a f i:=by
 cases g with
 |give b=>let⟨e,_⟩:=XU h;cases e
 |go N j=>let⟨c,W,l,T,R,d,k,o,e,q⟩:=tM h;injection e with E s u v;subst E;subst s;subst u;subst v;exact#[N,c,l,T,d,Z,Z,k,o,q]
def Ca{M:Nat}{call:lB}{C L l:aO}{p:cq}{m t T:Nat}{g:Gd}{a:Int}(h:fo M call C p m g L t= .ok .nil a l T):g= .give a/\l=L:=by
 cases g with
 |give b=>let⟨_,e,E⟩:=XU h;exact#[by rw[e],E]
 |go n H=>let⟨_,_,_,_,_,_,_,_,e,_⟩:=tM h;cases e
def sj(p:ri cq)(f:ρ)(i:ri Int)(s:Sk)(a:Int):Prop:=∃(M:Nat) (C:aO) (j:Nat) (L:aO) (t:Nat) (l:aO) (T:Nat),aR M p C j f i L t= .ok s a l T
def Ej(a:Int):ri eS->Gd
 | []=>.give a
 |s::_=>.go s.1.toNat s.2.1
structure HL(pds:ri cq)(pd:cq)(a:Int)(s:eS)(r:ri eS):Prop where
 ex:∃(n:Nat) (cd:By),s.1=(n:Int)/\pd.cs[n]?=δ cd/\gN s.2.2=wM (aM cd.nm s.2.1) cd.e/\Ej a r=nY pd cd s.2.1 s.2.2.wh
 cl:∀f is s' b,s.2.2= .cl f is s' b->sj pds f is s' b
def tK{M:Nat}{call:lB}{C L l:aO}{p:cq}{m t T:Nat}{g:Gd}{a:Int}{s:Sk}(o:s.ok μ)(h:fo M call C p m g L t= .ok s a l T):g=Ej a s.steps:=by
 cases s with
 |nil=>exact(Ca h).1
 |st n H w r=>let⟨N,c,b,d,f,e,E,_⟩:=AT h;rw[E,e];rfl
 |ask _ |rd _ _ |wr _ _ |cl _ _ _ _=>rwa[o.elim]
def pU{M:Nat}{d:ri cq}{call:lB}(o:∀f i L t s a m n,call f i L t= .ok s a m n->sj d f i s a){C k L r:aO}{t u:Nat}{e:DD}{w:Sk}(h:fg M call C k L t e= .ok w r u):∀f i s b,w= .cl f i s b->sj d f i s b:=by
 intro f i s b E;subst E;by_cases H:t < M
 .cases e with
  |ask p T=>rw[Yp H]at h;cases h
  |st p l=>
   cases l with
   |rd x a T=>rw[sT H]at h;cases h
   |wr a b T U=>rw[sU H]at h;cases h
   |cl x g q v=>
    rw[qE H]at h;cases j:call g (v.map λc=>c.2.ev k) L (t+1) with
    |ok S A m n=>rw[j]at h;cases h;rwa[o _ _ _ _ _ _ _ _ j]
    |long |deep=>rw[j]at h;cases h
   |st x a T |gv a T=>unfold fg at h;rw[Mv H]at h;cases h
 .rw[J7 H]at h;cases h
theorem tN{M:Nat}{p:ri cq}{call:lB}(i:∀f I L t s a l T,call f I L t= .ok s a l T->sj p f I s a){C:aO}{j:cq}{a:Int}:∀{s:Sk} {L l:aO} {m t T:Nat} {g:Gd},s.ok μ->fo M call C j m g L t= .ok s a l T->∀{k:Nat} {st:eS},s.steps[k]?=δ st->HL p j a st (s.steps.drop$ k+1)
 | .nil,_,_,_,_,_,_,_,_,k,st,c=>by simp [Sk.steps]at c
 | .st n u w r,L,l,m,t,T,g,o,h,k,st,c=>by
  let⟨N,q,v,x,y,e,E,d,H,b⟩:=AT h;cases k with
  |zero=>cases c;exact#[#[N,q,e,d,sQ H,(tK o.2 b).symm],pU i H]
  |succ k=>rwa[tN i o.2 b (by simpa [Sk.steps] using c)]
 | .ask _,_,_,_,_,_,_,o,_,_,_,_ | .rd _ _,_,_,_,_,_,_,o,_,_,_,_ | .wr _ _,_,_,_,_,_,_,o,_,_,_,_ | .cl _ _ _ _,_,_,_,_,_,_,o,_,_,_,_=>o.elim
def sj.steps{b:ri cq}{f:ρ}{i:ri Int}{s:Sk}{a:Int}{p:cq}(h:sj b f i s a)(H:fQ b f=δ p)(o:s.ok μ):eN (nH p) (bZ p.way.sets$ aM p.ps i) p.way.goal=Ej a s.steps/\∀{k:Nat} {st:eS},s.steps[k]?=δ st->HL b p a st (s.steps.drop$ k+1):=by
 let⟨M,C,j,L,t,l,T,h⟩:=h;cases j with
 |zero=>cases h
 |succ j=>have h:(match fQ b f with |none=>OC.long |some p=>fo M (aR M b C j) C p (M+2) (eN (nH p) (bZ p.way.sets$ aM p.ps i) p.way.goal) L t)= .ok s a l T:=h;rw[H]at h;exact#[tK o h,tN (λf i L t s a l T z=>#[M,C,j,L,t,l,T,z]) o h]
def dq(a b c:ζ)(H h:Hp):Prop:=∀x o,x≠a->x≠b->x≠c->H x=δ o->h x=δ o
def dq.of2{a b c:ζ}{H d:Hp}(h:a5 a b H d):dq a b c H d:=λ_ _ n N _ e=>h _ _ n N e
def dq.of_same{a b c:ζ}{H d:Hp}(h:ae H d):dq a b c H d:=λ_ _ _ _ _ e=>h _ _ e
def dq.trans{a b c:ζ}{H d f:Hp}(h:dq a b c H d)(k:dq a b c d f):dq a b c H f:=λx o n N g e=>k x o n N g (h x o n N g e)
def Eg(a b c:ζ)(H h:Hp):Prop:=∀x o,x≠a->x≠b->x≠c->NX o->H x=δ o->h x=δ o
def Fl.next3{E:XK}{L a b c:ζ}{H:Hp}(h:Fl E L (Eg a b c H)):Fl (i8 E) L (Eg a b c H):=λd l k x T t c e f m g=>by cases e;rwa[h d _ λb o N i j n e=>zS (H:=H) (k b o N i j n e) n f g]
def hV.next3{A B:Prop}{E:XK}{T t a b c:ζ}{H:Hp}(h:hV A B E T t (Eg a b c H)):hV A B (i8 E) T t (Eg a b c H):=#[λa=>(h.1 a).next3,λb=>(h.2 b).next3]
structure An(H:Hp)(aA:ζ)(n:Nat):Prop where
 ex:∃as:ri V,H aA=δ (.lst as)/\ο as<=n/\∀x∈as,∃p:gJ,p≠[]/\AA H x p
def An.le{H:Hp}{a:ζ}{n m:Nat}(h:An H a n)(l:n<=m):An H a m:=by let⟨A,b,c,d⟩:=h.ex;rwa[#[A,b,Mw c l,d]]
def An.keep{H c:Hp}{A:ζ}{n:Nat}(h:An H A n)(k:ai H c)(e:∀o,H A=δ o->c A=δ o):An c A n:=by let⟨d,f,g,i⟩:=h.ex;rwa[#[d,e _ f,g,λx j=>let #[p,a,b]:=i x j;#[p,a,i7 _ _ _ _ k b]]]
def An.same{H a:Hp}{A:ζ}{n:Nat}(h:An H A n)(s:ae H a):An a A n:=h.keep (ae.tm s) λo e=>s _ _ e
def An.ne{H:Hp}{C r d:ζ}{e:ri (ρ×V)}{c l p a:ζ}{m:Int}{t n:Nat}{L f:aO}(h:An H a n)(R:Rn H C r d e c l p m t L f):a≠r/\a≠l/\a≠c:=by let⟨A,b,_⟩:=h.ex;rwa[#[jN b R.ins (by intro z;cases z),jN b R.lf (by intro z;cases z),jN b R.ce (by intro z;cases z)]]
def An.tm{H a:Hp}{C r d:ζ}{E:ri (ρ×V)}{c l p A:ζ}{m:Int}{t n:Nat}{L f:aO}(h:An H A n)(R:Rn H C r d E c l p m t L f)(k:dq r l A H a):ai H a:=λb x e=>by let⟨i,g,_⟩:=h.ex;rwa[k b _ (jN e R.ins (by intro z;cases z)) (jN e R.lf (by intro z;cases z)) (jN e g (by intro z;cases z)) e]
def An.add{H:Hp}{c:ζ}{n k:Nat}{A y:ri V}(h:H c=δ (.lst A))(l:ο A+ο y<=n)(d:∀x∈A,∃p:gJ,p≠[]/\AA H x p)(f:∀x∈y,∃p:gJ,p≠[]/\AA H x p):An (ah H c$ .lst$ A++y) c n:=by
 erw[#[A++y,jc,by rw[Ml];rwa[l],λx hx=>?_]];let t:ai H (ah H c$ .lst$ A++y):=λb X e=>by rw[ji$ jN e h (by intro z;cases z)];rwa[e]
 rcases γ.mp hx with hx |hx
 .let⟨p,a,b⟩:=d x hx;exact#[p,a,i7 _ _ _ _ t b]
 .let⟨p,a,b⟩:=f x hx;exact#[p,a,i7 _ _ _ _ t b]
inductive ls(g:ri V)(H:Hp)(Q:VK)(b:XK):Prop
 |mk(e:ζ)(d:ri V)(_:H e=δ (.tup d))(_:(g=[.ref e,.non]/\Q .non H)∨∃(p h:ζ) (k:Nat) (n:Int) (u:V) (w:Sk),g=[.ref e,.int (k:Int)]/\d[k]?=↑p/\H p=δ (.tup [.int n,.ref h,u])/\eI H w u []/\w.ok ν/\∀ov,(((∀f is s a,w≠ .cl f is s a)/\ov= .non)∨∃(f:ρ) (is:ri Int) (s:Sk) (a:Int) (c:ζ),w= .cl f is s a/\ov= .ref c/\iS H f is s a (.ref c))->Q ov H)
inductive DV(C l i y:ζ)(j:Nat)(I:ri V)(H:Hp)(Q:VK)(E:XK):Prop
 |mk(M:Nat)(r p m n u D g:ζ)(F:gJ)(b t z:Nat)(L h k:aO)(B G:V)(e:DD)(K:ri ρ)(o:ri Df)(A:ri Nat)(J:ri V)(d:ri cq)(_:I=[.ref r,.ref g,B,G,.int (b:Int)])(_:b+j=15)(_:Rn H C r p (df m) n u D M t L h)(_:An H m z)(_:z<=t)(_:ο L<=t)(_:t<=M)(_:Ps H y D o A J d)(_:H g=δ (.tup (F.map qs)))(_:ο F+j<=60)(_:F≠[])(_:aL H (wM k e) G [])(_:su H K e)(_:GT k)(_:e.Cs ((o.map Df.f).zip A))(_:B= .non∨∃(p0:ζ) (x f:ρ) (q:ζ) (ts:ri (ζ×Tm)) (s:Sk) (a:Int) (c:ζ),e= .st p0 (.cl x f q ts)/\B= .ref c/\iS H f (ts.map λc=>c.2.ev k) s a (.ref c)/\s.ok μ/\s.size<=1000/\sj d f (ts.map λc=>c.2.ev k) s a)(_:∀(w:Sk) (v:V) (L':aO) (H':Hp),fg M (aR M d h j) h k L t e= .ok w L' (t+1+w.size)->eI H' w v []->w.ok ν->Er e w.wh->w.dep<=j->Rn H' C r p (df m) n u D M (t+1+w.size) L' h->ο L'<=t+1+w.size->t+1+w.size<=M->An H' m (z+w.size)->dq r u m H H'->Q v H')(_:hV (fg M (aR M d h j) h k L t e= .long) (fg M (aR M d h j) h k L t e= .deep) E l i (Eg r u m H))
inductive mN(C k h u:ζ)(j:Nat)(D:ri V)(H:Hp)(Q:VK)(E:XK):Prop
 |mk(M:Nat)(r p l n s y f c:ζ)(A:gJ)(b t w i:Nat)(L g:aO)(B:Sk)(m:Int)(d:Df)(o:ri Df)(x:ri Nat)(F:ri V)(e:ri cq)(q:ri Int)(_:D=[.ref r,.ref f,.ref c,.int (b:Int)])(_:b+j=16)(_:1<=j)(_:Rn H C r p (df l) n s y M t L g)(_:An H l w)(_:w<=t)(_:ο L<=t)(_:t<=M)(_:Ps H u y o x F e)(_:H f=δ (.tup (A.map qs)))(_:ο A+j<=60)(_:o[i]?=δ d)(_:x[i]?=δ q.length)(_:∀z∈q,eL z)(_:iS H d.f q B m (.ref c))(_:B.ok μ)(_:B.size<=1000)(_:sj e d.f q B m)(_:∀(v:V) (sk:Sk) (a:Int) (L':aO) (H':Hp),aR M e g j d.f q L t= .ok sk a L' (t+sk.size)->iS H' d.f q sk a v->sk.ok μ->sk.dep+1<=j->eL a->Rn H' C r p (df l) n s y M (t+sk.size) L' g->ο L'<=t+sk.size->t+sk.size<=M->An H' l (w+sk.size)->dq r s l H H'->Q v H')(_:hV (aR M e g j d.f q L t= .long) (aR M e g j d.f q L t= .deep) E k h (Eg r s l H))
def iS.mono'{H b:Hp}{f:ρ}{i:ri Int}{s:Sk}{a:Int}{u:V}(h:iS H f i s a u)(k:ai H b):iS b f i s a u:=by let⟨c,g,e,S,E,d,j,l,m⟩:=h;rwa[#[c,g,e,S,E,k _ _ d,k _ _ j,k _ _ l,m.mono k]]
def sN(x:V)(X:ri V):aP (x::X) (δ 1) θ=X:=by unfold aP HT.sIx;simp
def Hc:∀{p:gJ} (_:p≠[]) (w:Sk) (q:gJ),q∈(w.ws p 0).map (·.1)->q≠[]:=by
 let b:∀(w:Sk) (p:gJ) (k:Nat) (q:gJ),p≠[]->q∈(w.ws p k).map (·.1)->q≠[]:=by
  intro w;induction w with
  |st n d w r i I=>
   intro p k q H h;let h:q∈(((p++[(k:Int)],w)::w.ws (p++[(k:Int)]) 0)++r.ws p (k+1)).map (·.1):=h;rw[MS,NH]at h;rcases γ.mp h with h |h
   .rcases Ξ.mp h with h |h
    .rw[h];simp
    .rwa[i _ _ _ Lz h]
   .rwa[I _ _ _ H h]
  |cl f e s a c=>intro p k q H h;rwa[c _ _ _ H h]
  |nil |ask _ |rd _ _ |wr _ _=>intro p k q H h;cases h
 exactλ{p} H w q h=>b w p 0 q H h
def uO{H:Hp}{a:gJ}{w:Sk}{X:ri V}(c:a≠[])(h:gI AA H (Dt a w) X):∃Y,aP X (δ 1) θ=Y/\ο Y=(w.ws a 0).length/\∀x∈Y,∃p:gJ,p≠[]/\AA H x p:=by let⟨x,r,rfl,_,b⟩:=h;erw[#[r,sN _ _,by rw[b.len,Mi],λy d=>?_]];let⟨i,f⟩:=mF.mp d;let⟨p,g,j⟩:=b.at f;erw[#[p,?_,j]];let k:=MM g;intro e;subst e;rwa[Hc c w [] k Z]
def Gc:ak ["steps","at"] ["steps","at"] (aa DM):=bG
def C8{f:ζ}{t:bU}(F:rc K "chain_taken" DM f t):⇑1 f t ["steps","at"] ls:=by
 erw[F.ok Gc (len:=by rintro _ _ _ _⟨e,S,_,⟨rfl,_⟩ | ⟨p,h,k,n,u,w,rfl,_⟩⟩<;>rfl) λC A o s H V Q E N h=>?_]
 let⟨e,S,j,h⟩:=h;rcases h with ⟨rfl,q⟩ | ⟨p,h,k,n,u,w,rfl,l,m,v,r,q⟩
 .erw[#[_,(jd (jw (PW.pt$ Qm (Yf$ @uF _ _ _ _ _$ pv 1)$ Jr$ jA Qn (jz$ jr jP (jr jP (pv 0) (pv 1) ∅) jf ∅) jl$ aG _) (jg$ jo$ @zH _ _ _) jp)$ jg$ jo$ jz$ jr jP (jr jP (pv 0) (pv 1) ∅) jf ∅),?_]];try dsimp only[eX,Cx.nox,Cx.wish]
  rwa[aj λx d=>#[_,Z,_,Z,b8 (by rw[MN Z]) q]]
 erw[#[_,(jd (jw (PW.pt$ Qm (Yf$ @uF _ _ _ _ _$ pv 1)$ Jr$ jA Qn (jz$ jr jP (jr jP (pv 0) (pv 1) ∅) jf ∅) jl$ aG _) (jg$ jo$ @zH _ _ _) jp)$ jg$ jo$ jz$ jr jP (jr jP (pv 0) (pv 1) ∅) jf ∅),?_]];let B:=aH;cases w with
 |nil |st _ _ _ _=>rwa[r.elim]
 |ask _ |rd _ _ |wr _ _=>let⟨i,rfl,G⟩:=v;erw[aj λx d=>#[_,Z,_,Z,aT (by rw[My (by intro z;cases z)]) #[_,Z,_,Z,e,_,_,_,Z,Z,aD.of j,jE l,p,_,_,_,Z,Z,aD.of m,oB,i,_,_,_,Z,Z,aD.of G,gM,Z,_,Z,b8 Ly$ q _$ .inl #[λf I s a z=>(by cases z),Z]]]]
 |cl f I s a=>let⟨i,c,g,D,Y,rfl,G,J,g3,L,M⟩:=v;erw[aj λx d=>#[_,Z,_,Z,aT (by rw[My (by intro z;cases z)]) #[_,Z,_,Z,e,_,_,_,Z,Z,aD.of j,jE l,p,_,_,_,Z,Z,aD.of m,oB,i,_,_,_,Z,Z,aD.of G,gM,Z,_,Z,aT Ly$ d _ _ ?_]]];clear d;exact#[_,Z,_,Z,e,_,_,_,Z,Z,aD.of j,jE l,p,_,_,_,Z,Z,aD.of m,oB,i,_,_,_,Z,Z,aD.of G,mq,q _$ .inr #[f,I,s,a,c,Z,Z,#[c,g,D,Y,Z,J,g3,L,M]]]
def Bf:ak ["self","path","old","deed","deep","what"] z23z (aa yJ):=bG
def Fs{f:ζ}{fd:bU}{j:Nat}{C TL TD nA fW fT fA fD fP:ζ}{f0 f2 f3 f4 f5:bU}(F:aN K "what_along" "AgainRun.what_along" yJ f fd)(ck:RK K C)(n6:aW K C "anew")(GW:af P w K mg base (cR P w) (2*j+13) fW f0 z11z (gU C TL TD nA j))(bW:au K f0 z11z [])(m0:a7 K C "what_of" fW)(GT:af P w K mg base (cR P w) 1 fT f2 ["self"] (eE C TL))(bT:au K f2 ["self"] [])(m1:a7 K C "take_turn" fT)(GA:af P w K mg base (cR P w) (2*j+38) fA f3 z15z (mN C TL TD nA j))(bA:au K f3 z15z [])(m2:a7 K C "chain_along" fA)(GD:af P w K mg base (cR P w) 1 fD f4 ["deep"] (dj TD))(bD:au K f4 ["deep"] [])(kD:fr K (.ref fD)=μ)(mD:mg "deeper"=↑fD)(cP:‹36› fP f5 z9z (mZ 17) "paths_at"):af P w K mg base (cR P w) (2*j+39) f fd z23z (DV C TL TD nA j):=by
 erw[F.ok1 Bf λc0 A o1 s H vs Q E hr h=>?_]
 let⟨M,r,D,l,I,B,J,U,ps,u,t,nn,L,Cs,k,ov,ud,e,ys,ds,ns,xs,V,rfl,h5,n,hA,b2,h6,ht,hP,O,h7,h8,h',h0,gk,h3,a0,q,N⟩:=h;erw[#[_,(jd (jw (jA Yi (pv 2) (@zH _ _ _)$ aG _) (jd (jx 5 Bf.nd$ j9 (pv 0) ck.cl m0 GW hr.m bW .nil j8$ ja (pv 3)$ ja (pv 4) jb)$ jd (jQ$ kJ MF OH OG JA (kU (pv 0) Z)$ ja (jJ kB (cP.e hr.m$ ja (pv 1)$ ja (pv 5) jb) (jH jf) jV) jb)$ jg$ jo$ pv 5) jp)$ jd (jQ$ Xr (pv 0) ck.cl m1 GT hr.m bT .nil j8)$ jg$ jo$ jh$ ja jl$ ja (j9 (pv 0) ck.cl m2 GA hr.m bA .nil j8$ ja (pv 1)$ ja (pv 2)$ ja (ky GD hr.m Z mD kD bD .nil j8$ ja (pv 4) jb) jb) jb),?_]];let b3:=aH;let hM:=n.hm;let⟨nr,nl,nc⟩:=hA.ne n;rcases a0 with rfl | ⟨p0,x,f',q',ts,so,ao,c,rfl,rfl,a',o2,s0,h4⟩
 .erw[aj λF1 G=>#[_,Z,Z,_,Z,b8 (MN Z) ?_]];clear G;erw[aj λF1 G=>#[_,Z,r,D,_,Z,n.ins,n.tl.w,_,Z,_,Z,M,r,D,df l,I,B,J,u,t,L,Cs,k,ud,e,ys,ds,ns,xs,V,Z,h5,n,h6,ht,hP,h',h0,gk,h3,λw v _L W e1 hw X ft d0 R2 l2 t2 k2=>G _ _ ?_,(hV.next$ N.mono λW Y=>λb o R n2 _ nx e=>Y b o R n2 nx e)]];clear G;let t0:=n.tm k2;let⟨as,a1,a2,a3⟩:=(hA.keep t0 λo e=>k2 _ _ nr nl e).ex;erw[aj λF1 G=>#[_,Z,r,C,D,_,_,Z,R2.ins,ck.cl,n6,Z,.inl #[Z,_,aI.of a1],_,Z,_,Z,U,ps,w,v,Z,t0 _ _ O,LA,hw,X,LA,LA,λrl x H3 n0 b0 b1 s3=>#[_,Z,rl,x,Z,aI.of b0,λp np=>?_]]];let⟨zs,ez,lz,hz⟩:=uO h8 b1;let e0:aP x (δ 1) θ=zs:=ez;rw[qT X]at lz;let S:ae W (ah H3 p$ .lst$ aP x (δ 1) θ):=s3.trans (je np);let e4:ah H3 p (.lst$ aP x (δ 1) θ) p=δ (.lst zs):=by rw[<- e0];exact jc
  let t1:ai H3 (ah H3 p$ .lst$ aP x (δ 1) θ):=ae.tm (je np);generalize ah H3 p (.lst$ aP x (δ 1) θ)=H4 at S e4 t1 ⊢;let a4:=S _ _ a1;erw[#[l,p,as,zs,Z,Z,a4,e4,LA,G _ _ ?_]];clear G;let A5:An (ah H4 l$ .lst$ as++zs) l (nn+w.size):=An.add (k:=0) a4 LA (λy hy=>let #[p,h1,h2]:=a3 y hy;#[p,h1,i7 _ _ _ _ (ae.tm S) h2]) (λy hy=>let #[p,h1,h2]:=hz y hy;#[p,h1,i7 _ _ _ _ t1 h2]);let b5:dq r B l H4 (ah H4 l$ .lst$ as++zs):=λb o _ _ n3 e=>by rw[ji n3];rwa[e]
  let t3:ai H4 (ah H4 l$ .lst$ as++zs):=λb xs e=>by rw[ji$ jN e a4 (by intro z;cases z)];rwa[e]
  let R5:Rn (ah H4 l$ .lst$ as++zs) C r D (df l) I B J M (t+1+w.size) _L Cs:=#[by rw[ji nr.symm];rwa[S _ _ R2.ins],by rw[ji nl.symm];rwa[S _ _ R2.lf],by rw[ji nc.symm];rwa[S _ _ R2.ce],R2.iL,R2.iC,R2.cl,R2.tl,R2.hm];exact#[_,Z,q w v _L _ e1 ((hw.mono$ ae.tm S).mono t3) X ft d0 R5 l2 t2 A5 (((dq.of2 k2).trans$ dq.of_same S).trans b5)]
 .let⟨i,d,hd,hn,rfl⟩:=hP.find h3;let⟨_,_,_,o3,_⟩:=h0;erw[aj λF1 G=>#[_,Z,Z,_,Z,aT (My (λz=>by cases z))$ G _ _ ?_]];clear G;erw[aj λF1 G=>#[_,Z,r,D,_,Z,n.ins,n.tl.t,r,D,df l,I,B,J,M,t,Z,n.ins,n.tl,λlt=>G _ _ ?_,λge=>((N.1$ J7 LA).mono λH' Y=>λb o _ _ _ nx e=>Y b o nx e).nextK]];clear G;let T:ai H (ah H r$ .ins C D$ cX (df l) I B J M$ t+1):=λb xs e=>by rw[ji$ jN e n.ins (by intro z;cases z)];exact e
  let R1:Rn (ah H r$ .ins C D$ cX (df l) I B J M$ t+1) C r D (df l) I B J M (t+1) L Cs:=#[jc,by rw[ji n.rl.1.symm];rwa[n.lf],by rw[ji n.rl.2.symm];rwa[n.ce],n.iL,n.iC,n.cl,n.tl,n.hm];let k1:dq r B l H (ah H r$ .ins C D$ cX (df l) I B J M$ t+1):=λb o R _ _ e=>by rw[ji R];rwa[e]
  let A1:An (ah H r$ .ins C D$ cX (df l) I B J M$ t+1) l nn:=hA.keep T λo e=>by rw[ji nr];rwa[e]
  generalize ah H r (.ins C D$ cX (df l) I B J M$ t+1)=H1 at T R1 k1 A1;let lt':t+1<=M:=LA
  erw[#[_,Z,r,D,_,Z,R1.ins,Z,_,Z,_,Z,_,Z,(u:Int),Z,λdl=>?_,λdg=>((N.2 (by let z:j=0:=LA;rw[qE LA,z];rfl)).mono λW Y=>λb o R n2 n3 nx e=>Y b o nx (k1 b o R n2 n3 e)).nextK]];erw[#[M,r,D,l,I,B,J,U,c,ps,u+1,t+1,nn,i,L,Cs,so,ao,d,ds,ns,xs,V,ts.map λc=>c.2.ev k,Z,LA,LA,R1,A1,LA,LA,lt',hP.mono T,T _ _ O,h7,hd,by rw[Mi];rwa[hn],λz hz=>?_,iS.mono' a' T,o2,s0,h4,λv sk a L' W eq hc ok dp ia R2 l2 t2 A2 k2=>?_,hV.next3 ((N.imp (λz=>by rw[qE LA,z];rfl) (λz=>by rw[qE LA,z];rfl)).mono λW Y=>λb o R n2 n3 nx e=>Y b o R n2 n3 nx (k1 b o R n2 n3 e))]]
  .let⟨c,hc,rfl⟩:=dg.mp hz;rwa[qZ gk (o3.2.2 c hc).1]
  .let⟨c2,g,ee,ss,rfl,c1,c3,c4,c5⟩:=hc;erw[#[bN,λv2 nv=>?_]];let s2:ae W (ah W v2$ .tup [.str "call",.ref c2]):=je nv;rwa[q (.cl d.f (ts.map λc=>c.2.ev k) sk a) _ L' _ (by rw[qE LA,eq];rfl) #[v2,c2,g,ee,ss,Z,jc,s2 _ _ c1,s2 _ _ c3,s2 _ _ c4,c5.mono$ ae.tm s2] ok ia (by show sk.dep+1<=j;rwa[N09]) (R2.same s2) l2 t2 (A2.same s2) ((k1.trans k2).trans$ dq.of_same s2)]
def Sk.fnd:Sk->Int
 | .ask b=>b
 | .rd _ i | .wr _ i=>i
 | .cl _ _ _ a=>a
 |_=>0
inductive iG(b:ri V)(H:Hp)(Q:VK)(a:XK):Prop
 |mk(u:V)(w:Sk)(_:b=[u])(_:eI H w u [])(_:w.ok ν)(_:Q (.int w.fnd) H)
def GZ{w W:Sk}(o:w.ok ν)(O:W.ok ν)(h:gN w=gN W)(f:w.fnd=W.fnd):w.wh=W.wh:=by
 let n:∀{a b:ρ} {x y:ri Tr},a≠b->ax (aJ a::x)=ax (aJ b::y)->False:=λH e=>H (Q9 e);cases w with
 |nil |st _ _ _ _=>rwa[o.elim]
 |ask b=>
  cases W with
  |nil |st _ _ _ _=>rwa[O.elim]
  |ask B=>rwa[MZ Wh.ask f]
  |rd _ _ |wr _ _ |cl _ _ _ _=>exact(n LB h).elim
 |rd c i=>
  cases W with
  |nil |st _ _ _ _=>rwa[O.elim]
  |ask B |wr _ _ |cl _ _ _ _=>exact(n LB h).elim
  |rd C I=>
   let f:i=I:=f;let e:c=C:=by injection h with h;injection h with _ h;injection h with h _;injection h with h;injection h
   show Wh.rd c i=Wh.rd C I;rw[e,f]
 |wr c i=>
  cases W with
  |nil |st _ _ _ _=>rwa[O.elim]
  |ask B |rd _ _ |cl _ _ _ _=>exact(n LB h).elim
  |wr C I=>
   let f:i=I:=f;let e:c=C:=by injection h with h;injection h with _ h;injection h with h _;injection h with h;injection h
   show Wh.wr c i=Wh.wr C I;rw[e,f]
 |cl g j s a=>
  cases W with
  |nil |st _ _ _ _=>rwa[O.elim]
  |ask B |rd _ _ |wr _ _=>exact(n LB h).elim
  |cl G d S A=>have f:a=A:=f;let⟨E,k⟩:=KD h;show Wh.cl g j a=Wh.cl G d A;rw[E,k,f]
def EL{H:Hp}{y:ri ρ}{k:aO}{e:DD}(h:su H y e):∃w:Sk,w.ok ν/\gN w=wM k e/\∀f i s a,w= .cl f i s a->∃g x q d,e= .st g (.cl x f q d)/\i=d.map λc=>c.2.ev k:=by
 cases e with
 |ask t T=>exact#[.ask (if T.ev k=0 then 0 else 1),trivial,Z,λf i s a z=>by cases z]
 |st p l=>
  let⟨v,_,_,_,C⟩:=h;cases l with
  |rd x a T=>exact#[.rd (T.ev k) 0,trivial,Z,λf i s a z=>by cases z]
  |wr a b T U=>exact#[.wr (T.ev k) (U.ev k),trivial,Z,λf i s a z=>by cases z]
  |cl x f q d=>
   erw[#[.cl f (d.map λc=>c.2.ev k) .nil 0,trivial,?_,λF i s a z=>?_]]
   .show ax [aJ "call",aJ f,ax ((d.map λc=>c.2.ev k).map aw)]=ax [aJ "call",aJ f,ax$ d.map λc=>aw (c.2.ev k)];rw[Od];rfl
   .cases z;exact#[p,x,q,d,Z,Z]
  |st x a T |gv a T=>cases C
def xE{H:Hp}{y:ri ρ}{k:aO}{e:DD}(h:su H y e){f:ρ}{i:ri Int}{s:Sk}{a:Int}(d:gN (.cl f i s a)=wM k e):∃p x q t,e= .st p (.cl x f q t)/\i=t.map λc=>c.2.ev k:=by
 let⟨w,o,D,j⟩:=EL (k:=k) h;rw[<- D]at d;cases w with
 |nil |st _ _ _ _=>rwa[o.elim]
 |ask b |rd b c |wr b c=>rwa[absurd (Q9 d) LB]
 |cl g J S A=>let⟨E,l⟩:=KD d;subst E;subst l;rwa[j _ _ _ _ Z]
def tI{H:Hp}{c:ri V}{k:Nat}{S:Sk}{A:Int}{Q:VK}(d:eI H S .non c)(o:S.ok μ)(x:k<=ο c)(g:∀st,S.steps[k]?=δ st->∃n:Nat,st.1=(n:Int))(q:∀v a,aL a (Hm$ Ej A$ S.steps.drop k) v []->ae H a->Q v a):(∃(p h:ζ) (n:Int) (d:ri Int) (u:V),c[k]?=↑p/\H p=δ (.tup [.int n,.ref h,u])/\H h=δ (.tup$ d.map qs)/\∀(v:V) (a:Hp),aL a (ax [aJ "go",aw n,ax$ d.map aw]) v []->ae H a->Q v a)∨(k=ο c/\∀(v:V) (a:Hp),aL a (ax [aJ "give",aw A]) v []->ae H a->Q v a):=by
 let L:=zU o d;by_cases h:k < ο c
 .let⟨n,b,w,p,i,u,f,_,_,_,j,l,m,_⟩:=qo o d (Mf h);erw[.inl #[p,i,n,b,u,by rw[<- j];rwa[Mf h],l,m,λv a t s=>q v a ?_ s]];let e:S.steps.drop k=(n,b,w)::S.steps.drop (k+1):=by let⟨r,e⟩:=ξ.mp f;rw[Sv r,e]
  let⟨N,E⟩:=g _ f;let E:n=(N:Int):=E;rw[e];show aL a (ax [aJ "go",aw ((n.toNat:Nat):Int),ax$ b.map aw]) v [];rw[E]at t ⊢;rwa[t]
 .erw[.inr #[LA,λv a t s=>q v a ?_ s]];rw[List.drop_eq_nil_iff.mpr LA];rwa[t]
def Fh{n:Int}{H:ri Int}{o:eS}(h:lF n H o=μ):o.1=n/\o.2.1=H:=Nn h
def Fe{f:ρ}{i:ri Int}{o:eS}(h:iU f i o=μ):∃s a,o.2.2= .cl f i s a:=by
 let⟨n,H,w⟩:=o;cases w with
 |cl g j s a=>have h:decide (g=f/\j=i)=μ:=h;let⟨rfl,rfl⟩:=Nn h;exact#[s,a,Z]
 |_=>cases h
def tX{os:ri eS}{m j:Nat}{w:Sk}(h:oH os m w=δ j):∃f i s a,w= .cl f i s a/\nG (iU f i) os m=δ j:=by
 cases w with
 |cl f i s a=>exact#[f,i,s,a,Z,h]
 |_=>cases h
def IU(e:DD)(k:aO)(os:ri eS)(m:Nat):rm Nat->Prop
 |none=>True
 |some j=>m<=j/\∃o,os[j]?=δ o/\∀f i s a,o.2.2= .cl f i s a->∃p x q t,e= .st p (.cl x f q t)/\i=t.map λc=>c.2.ev k
def Gy{H:Hp}{e:ζ}{r I:ri V}{Q:VK}{E:XK}{S:Sk}{M:Int}{d:DD}{k:aO}{m:Nat}{T:rm Nat}{b:ri cq}{N:cq}(y:I=[.ref e,iq T])(R:H e=δ (.tup r))(g:eI H S .non r)(O:S.ok μ)(U:S.size<=1000)(z:∀{k:Nat} {st:eS},S.steps[k]?=δ st->HL b N M st (S.steps.drop$ k+1))(A:IU d k S.steps m T)(q:∀v,(v= .non∨∃(B:ζ) (x f:ρ) (q:ζ) (t:ri (ζ×Tm)) (s:Sk) (a:Int) (c:ζ),d= .st B (.cl x f q t)/\v= .ref c/\iS H f (t.map λc=>c.2.ev k) s a (.ref c)/\s.ok μ/\s.size<=1000/\sj b f (t.map λc=>c.2.ev k) s a)->Q v H):
  ls I H Q E:=by
 subst y;erw[#[e,r,R,?_]];cases T with
 |none=>rwa[.inl #[Z,q _ (.inl Z)]]
 |some j=>
  let⟨_,o,C,D⟩:=A;let W:=zU O g;let J:j < ο r:=by rw[W];exact(ξ.mp C).1
  let⟨n,hs,w,p,h,u,L,i,_,l,X,Y,h3,h4⟩:=qo O g (Mf J);rw[C]at L;cases L;erw[.inr #[p,h,j,n,u,w,Z,by rw[<- X];rwa[Mf J],Y,h4,i,λv F=>?_]];rcases F with ⟨_,rfl⟩ | ⟨f,is,s,a,c,rfl,rfl,G⟩
  .rwa[q _$ .inl Z]
  .let⟨B,x,q',t,e1,e2⟩:=D f is s a Z;subst e2;let l:s.size+1<=S.size:=l;rwa[q _$ .inr #[B,x,f,q',t,s,a,c,e1,Z,G,i,LA,(z C).cl _ _ _ _ Z]]
def Hv(m:Nat):rm Nat->Nat
 |none=>m
 |some j=>j+1
inductive II(M:Nat)(a:lB)(Y:cq)(s:OC)(S C r z x y Q X q c sl:ζ)(d:Df)(b t T j:Nat)(u:aO)(v:V)(ss:ri V)(H:Hp)(P:Nat)(σ:_L.St)(w:Hp):Prop
 |mk(U W n o p:rm V)(O:V)(g:Gd)(m R:Nat)(Z:Sk)(l:ri V)(L:aO)(A:σ=[↑r,↑q,↑c,δ (.int (b:Int)),δ v,↑sl,δ (.int (m:Int)),δ O,U,W,n,o,p])(B:w sl=δ (.lst l))(D:eI w Z .non l)(E:Z.ok μ)(F:Z.dep+1<=j)(G:m<=ο ss)(I:Et w S d O g)(J:Rn w C r z (df x) y Q X M (t+Z.size) L u)(K:An w x (T+Z.size))(N:ο L<=t+Z.size)(e:t+Z.size<=M)(f:dq r Q x H w)(h:P+t+Z.size=M+1)(i:(fo M a u Y R g L (t+Z.size)).pre Z=s)(k:M+2<=R+(t+Z.size))
def rH{f:ζ}{k:bU}(F:rc K "found_in" f8 f k):⇑1 f k ["what"] iG:=by
 erw[F.ok i9 λC A o s H v Q E x h=>?_]
 let⟨u,w,rfl,m,d,q⟩:=h;erw[#[_,(jg$ jo$ kM (kf$ jz$ pv 0) (jz$ jr jP (pv 0) jf ∅)$ jr jP (pv 0) (uH Yh jf) ∅),?_]];cases w with
 |nil |st _ _ _ _=>rwa[d.elim]
 |ask b |rd a i |wr a i=>let⟨p,rfl,n⟩:=m;exact(jv n gM #[Z,_,Z,aT Ly #[_,Z,_,Z,p,_,_,_,Z,Z,aD.of n,Z,q]])
 |cl f I s i=>let⟨p,c,g,e,S,rfl,r,t,_⟩:=m;exact(jv r gM #[Z,_,Z,b8 Ly$ jv r mq #[c,_,_,_,Z,Z,aD.of t,jE (j:=3) Z,q]])
def eY:ak ["self","path","old","deep","part","steps","mark","goal","here","like","deed","taken","step"] z15z (aa yI):=bG
def Fq{f:ζ}{fd:bU}{j:Nat}{C TL TD nA fN fG fL fV fI fE fO fK fF fW:ζ}{g7 g8 g' i1 i2 i3 i4 i' j0 f0:bU}(F:aN K "chain_along" "AgainRun.chain_along" yI f fd)(ck:RK K C)(n6:aW K C "anew")(cN:‹2› fN g7 ["parts","f"] iM "part_of")(cG:‹1› fG g8 ["chain","number"] mQ "goal_at")(cL:‹1› fL g' ["steps","mark","cut"] iK "like_from")(cV:‹2› fV i1 ["steps","mark","deed"] iJ "lender_from")(cI:‹1› fI i2 ["what"] lh "deed_in")(cE:‹9› fE i3 z8z (dR nA) "deed_at")(cO:‹9› fO i4 ["part","step"] (ou nA) "onward")(cK:‹1› fK i' ["steps","at"] ls "chain_taken")(cF:‹1› fF j0 ["what"] iG "found_in")(GW:af P w K mg base (cR P w) (2*j+39) fW f0 z23z (DV C TL TD nA j))(bW:au K f0 z23z [])(m0:a7 K C "what_along" fW)(ml:mg "len"=θ)(m1:mg "tuple"=θ):af P w K mg base (cR P w) (2*j+40) f fd z15z (mN C TL TD nA$ j+1):=by
 erw[F.ok1 eY λp6 A o6 s H vs Q E hr h=>?_]
 let⟨M,r,dx,aA,cA,lA,pA,p1,c,ps,d0,t,nn,i,L,O,so,ao,d,ds,ns,xs,J,is,rfl,p7,p9,hR,hA,p',j1,ht,hP,c6,q0,hd,hn,j',k0,o1,s9,c7,q,t5⟩:=h;erw[#[_,(jd (jx 4 eY.nd$ cN.e hr.m$ ja (kU (pv 0) Z)$ ja (jz$ pv 2) jb)$ jd (jx 5 eY.nd$ jK jb)$ jd (jx 6 eY.nd jf)$ jd (jx 7 eY.nd$ cG.e hr.m$ ja (pv 2)$ ja (pv 6) jb)$ jd (Ks SQ (kf$ jz$ pv 7)$ jd (jx 8 eY.nd$ ju j5 (pv 1)$ jh$ ja (jG jI Z ml M9$ ja (pv 5) jb) jb)$ jd (jx 9 eY.nd$ cL.e hr.m$ ja (jz$ pv 2)$ ja (pv 6)$ ja (jJ kC (pv 7) (jH jf) jV) jb)$ jd (jw (jA Yi (pv 9) (@zH _ _ _)$ aG _) (jd (jx 10 eY.nd$ cE.e hr.m$ ja (pv 4)$ ja (jz$ pv 7)$ ja (jz$ pv 7) jb)$ jg$ jx 11 eY.nd$ cV.e hr.m$ ja (jz$ pv 2)$ ja (pv 6)$ ja (pv 10) jb)$ jd (jx 10 eY.nd$ cI.e hr.m$ ja (jz$ jr jP (jr jP (pv 2) jf ∅) (pv 9) ∅) jb)$ jg$ jx 11 eY.nd$ pv 9)$ jd (jx 6 eY.nd$ kM (jA Yi (pv 11) (@zH _ _ _)$ aG _) (pv 6)$ ju jW (pv 11) jf)$ jd (jx 12 eY.nd$ ju j5 (jJ kC (pv 7) (jH jf) jV)$ jh$ ja (j9 (pv 0) ck.cl m0 GW hr.m bW .nil j8$ ja (pv 8)$ ja (cK.e hr.m$ ja (jz$ pv 2)$ ja (pv 11) jb)$ ja (pv 10)$ ja (pv 3) jb) jb)$ jd (jQ$ kJ MF MQ MP jT (pv 5)$ ja (pv 12) jb)$ jg$ jw (PW.pt$ qh (jA yw (pv 9) (@zH _ _ _)$ aG _)$ zF$ jA qD (cF.e hr.m$ ja (jz$ pv 12) jb) (cF.e hr.m$ ja (jz$ jr jP (jr jP (pv 2) jf ∅) (pv 9) ∅) jb)$ aG _) (jg$ jx 7 eY.nd$ cG.e hr.m$ ja (pv 2)$ ja (pv 6) jb)$ jd (jQ$ kJ MF MQ MP jT (kU (pv 0) Z)$ ja (pv 8) jb)$ jg$ jx 7 eY.nd$ cO.e hr.m$ ja (pv 4)$ ja (pv 12) jb)$ jg$ jo$ jh$ ja (jz$ pv 2)$ ja (jz$ pv 2)$ ja (jF jL Z m1 N0$ ja (pv 5) jb)$ ja (jz$ pv 7) jb),?_]];let q7:=aH;let hM:=hR.hm;let⟨c',gA,eA,ss,ec,hc,hg,he,b4⟩:=k0;cases ec;let⟨v,hv,_,k1,k2⟩:=hP.at hd;let⟨ys,D,k3,r0,pr,c8⟩:=hP.part hd hv;let⟨k4,a4⟩:=c7.steps c8 o1;let l3:=zU o1 b4;let r1:=Jx o1 b4;let b7:∀(k:Nat) (st:eS),so.steps[k]?=δ st->∃n:Nat,st.1=(n:Int):=λ(k:Nat) (st:eS) h=>let #[#[n,_,e,_],_]:=a4 h;#[n,e]
 let e7:aR M J O (j+1) d.f is L t=fo M (aR M J O j) O D (M+2) (eN (nH D) (bZ D.way.sets$ aM D.ps is) D.way.goal) L t:=by show(match fQ J d.f with |none=>OC.long |some D=>fo M (aR M J O j) O D (M+2) (eN (nH D) (bZ D.way.sets$ aM D.ps is) D.way.goal) L t)=_;rw[c8]
 generalize aR M J O (j+1) d.f is L t=t3 at q t5 e7;erw[aj λF1 B=>#[_,Z,r,C,dx,_,_,Z,hR.ins,ck.cl,ck.n5,Z,jv hc gM #[pA,d.f,xs,i,v,Z,hP.at',hv,k1,k2,B _ _ ?_]]];clear B;erw[aj λF1 B=>#[ms,λX n0=>B _ _ ?_]];clear B;let s1:ae H (ah H X$ .lst []):=je n0;let l1:ah H X (.lst []) X=δ (.lst []):=jc;generalize ah H X (.lst [])=H1 at s1 l1 ⊢;erw[aj λF1 B=>B _ _ ?_];clear B;erw[aj λF1 B=>#[_,Z,_,Z,d.f,is,so,ao,c,gA,eA,ss,0,Z,s1 _ _ hc,s1 _ _ he,tI (b4.mono$ ae.tm s1) o1 (Mu _) (b7 0) λgl H2 h2 s2=>B _ _ ?_]];clear B;let S2:=s1.trans s2;let gz:GT (aM D.ps is):=qR j';let h2:aL H2 (Hm$ Ej ao so.steps) gl []:=h2;rw[<- k4]at h2;let g1:=QX (H:=H) (nA:=nA) (d:=d) (by rw[Yo,pr.nms];rwa[h2]) (zR pr.wv.sets gz) pr.wv.goal;rw[pr.nms]at g1;let c9:X≠r:=MX (jk hR.ins n0);let d2:X≠lA:=MX (jk hR.lf n0);let k5:cA≠X:=jk hR.ce n0;let c1:aA≠X:=by let⟨as,h1,_⟩:=hA.ex;rwa[jk h1 n0]
 erw[aj λF1 B=>?_];erw[oy (II M (aR M J O j) D t3 nA C r dx aA cA lA pA p1 c X d d0 t nn (j+1) O v ss H) (M+1 - t) #[θ,θ,θ,θ,θ,gl,_,0,M+2,.nil,[],L,Z,s2 _ _ l1,Z,trivial,by show 0+1<=j+1;rwa[N09],Mu _,g1,hR.same S2,hA.same S2,j1,ht,dq.of_same S2,by show M+1 - t+t+0=M+1;omega,by rw[e7];show OC.pre .nil (fo M (aR M J O j) O D (M+2) _ L t)=_;cases fo M (aR M J O j) O D (M+2) (eN (nH D) (bZ D.way.sets$ aM D.ps is) D.way.goal) L t<;>rfl,by show M+2<=M+2+(t+0);omega] ?_];intro kk σ H3 E' rt fE F kT cF.k Gq kq hW;let⟨o8,o9,r2,r3,o5,gl,gd,m,mm,sk,N,L1,rfl,w1,w2,w3,w4,w5,w6,w7,w8,w9,d3,w',r4,W,r5⟩:=hW;obtain⟨mm,rfl⟩:∃m',mm=m'+1:=#[mm - 1,LA];let t0:=hA.tm hR w';let p5:=Jx w3 w2;cases w6 with
 |give gp a e3 h5 ia=>subst e3;erw[kq$ jv h5 Z #[Z,_,Z,?_]];rw[show decide (qr (Str.ofString "give")=qr (Str.ofString "go"))=ν by decide+kernel];erw[cF.k _$ B _ _ ?_];erw[(jv (t0 _ _ hc) gM$ jv (t0 _ _ hc) mq #[_,Z,X,N,Z,.inl #[aI.of w1,λl2 k6=>?_]])];let s4:ae H3 (ah H3 l2$ .tup N):=je k6;erw[(jv (s4 _ _ h5) mq #[sd,λv2 nv=>?_])];let s5:=s4.trans (je (o:=.tup [.str d.f,.ref gA,.ref l2,.int a]) nv);let W:OC.ok (sk.app .nil) a L1 (t+sk.size)=t3:=W;rw[KA w3]at W;rwa[q _ sk a L1 _ W.symm #[v2,gA,l2,N,Z,jc,s5 _ _$ t0 _ _ hg,am jc nv,w2.mono$ ae.tm s5] w3 w4 ia (w7.same s5) w9 d3 (w8.same s5) (w'.trans$ dq.of_same s5)]
 |go gp h7 n Y hs e3 h5 h6 b2 hl hi=>
  subst e3;erw[kq$ jv h5 Z #[Z,_,Z,?_]];rw[show decide (qr (Str.ofString "go")=qr (Str.ofString "go"))=μ by decide+kernel];erw[kT _ ?_];clear kT cF.k B;let P1:=k3.mono t0;let⟨pa,ca,wv,cs,r6,r7,_,_,k7⟩:=P1.parts;let⟨ka,na,wa,dv,r8,_,d4⟩:=P1.cut k7 b2;let k8:n < ο D.cs:=by rw[pr.len];exact(ξ.mp b2).1
  obtain⟨cd,c2⟩:∃cd,D.cs[n]?=δ cd:=#[_,Mf k8];let cr:=(pr.cs n Y cd b2 c2).mono t0;let⟨k',e,c0⟩:=cd;let⟨e9,ed,d1,l5,l6,l8⟩:=cr;let e9:k'=canon Y.M:=e9;subst e9;let W:OC.pre sk (match D.cs[n]? with
   |none=>OC.long
   |some c=>match fg M (aR M J O j) O (aM c.nm hs) L1 (t+sk.size) c.e with
    | .ok w L1 t1=>(fo M (aR M J O j) O D mm (nY D c hs w.wh) L1 t1).cons (n:Int) hs w
    | .long=>.long
    | .deep=>.deep)=t3:=W
  rw[c2]at W;let W:OC.pre sk (match fg M (aR M J O j) O (aM (canon Y.M) hs) L1 (t+sk.size) e with
    | .ok w L1 t1=>(fo M (aR M J O j) O D mm (nY D #[canon Y.M,e,c0] hs w.wh) L1 t1).cons (n:Int) hs w
    | .long=>.long
    | .deep=>.deep)=t3:=W
  let gk:GT (aM (canon Y.M) hs):=qR hi;let d5:e.Cs ((ds.map Df.f).zip ns):=by
   cases e with
   |ask=>trivial
   |st p0 l=>cases l<;>first |trivial |exact hP.cs hd _ l5
  let h8:=t0 _ _ hc;let h':=t0 _ _ he;let h0:=b4.mono t0;let gE:ο N<=M:=LA
  erw[aj λF1 B=>#[_,Z,_,Z,X,_,Z,.inl$ aI.of w1,io,λq1 n7=>#[p1,q1,ps.map qs,_,Z,Z,am (t0 _ _ c6) n7,jc,(by rw[Mi];show ο ps+1<=υ;omega),λq2 H4 e4 s4=>B _ _ ?_]]];clear B;let S4:ae H3 H4:=(je n7).trans s4;let e4:H4 q2=δ (.tup ((ps++[(N.length:Int)]).map qs)):=by rw[MS];rwa[e4]
  erw[aj λF1 B=>(jv (S4 _ _ h8) oB #[_,Z,_,Z,_,Z,gp,_,Z,S4 _ _ h5,λq3 H5 e5 s5=>?_])];let S5:=S4.trans s5;let e5:H5 q3=δ (.tup [.int (n:Int),.ref h7]):=e5;erw[#[eA,ss,so,m,(n:Int),hs,.ref q3,Z,S5 _ _ h',h0.mono$ ae.tm S5,o1,s9,LA,jD e5$ jm Z jY$ jm Z (qS$ S5 _ _ h6) jB,λH6 s6=>B _ _ ?_]];clear B;let S6:=S5.trans s6;erw[aj λF1 B=>?_];let nx:∀(lk tk:rm Nat) (ud:V) (H7:Hp),ae H3 H7->H7 q2=δ (.tup ((ps++[(N.length:Int)]).map qs))->aL H7 (wM (aM (canon Y.M) hs) e) ud []->IU e (aM (canon Y.M) hs) so.steps m tk->(∀jj,lk=δ jj->tk=δ jj/\∃o,so.steps[jj]?=δ o/\o.2.2.ok ν/\gN o.2.2=wM (aM (canon Y.M) hs) e/\Ej ao (so.steps.drop$ jj+1)=nY D #[canon Y.M,e,c0] hs o.2.2.wh)->F1 [↑r,↑p1,↑c,δ$ .int (d0:Int),δ v,↑X,δ$ .int (m:Int),↑gp,↑q2,δ$ iq lk,δ ud,δ$ iq tk,o5] H7:=by
   intro lk tk ud H7 S7 l' h3 d6 c3;erw[B _ _ ?_];clear B;let m2:Hv m tk<=ο ss:=by
    cases tk with
    |none=>rwa[w5]
    |some jj=>let⟨_,o,ho,_⟩:=d6;let:=(ξ.mp ho).1;show jj+1<=ο ss;omega
   erw[aj λF1 B=>?_];let n':F1 [↑r,↑p1,↑c,δ$ .int (d0:Int),δ v,↑X,δ$ .int ((Hv m tk:Nat):Int),↑gp,↑q2,δ$ iq lk,δ ud,δ$ iq tk,o5] H7:=by
    erw[B _ _ ?_];clear B;erw[aj λF1 B=>#[_,Z,_,Z,gp,_,Z,S7 _ _ h5,λq4 H8 e8 s8=>?_]];let S8:=S7.trans s8;let e8:H8 q4=δ (.tup [.int (n:Int),.ref h7]):=e8;let R8:=w7.same S8;let A8:=w8.same S8;let t8:=t0.trans (ae.tm S8);let d7:=s8 _ _ l';erw[#[_,Z,r,dx,_,Z,R8.ins,Z,_,Z,jv (S8 _ _ h8) oB #[_,Z,Gy Z (S8 _ _ h') (h0.mono$ ae.tm S8) o1 s9 a4 d6 λov m3=>?_]]];erw[#[_,Z,_,Z,M,r,dx,aA,cA,lA,pA,q2,ps++[(N.length:Int)],d0,t+sk.size,nn+sk.size,L1,O,aM (canon Y.M) hs,ov,ud,e,ys,ds,ns,xs,J,Z,LA,R8,A8,LA,w9,d3,hP.mono t8,d7,by rw[Ml];show ο ps+1+j<=60;omega,Lz,h3.mono$ ae.tm s8,d1.mono$ ae.tm S8,gk,d5,m3,λw vv L' H9 d8 m4 o2 ft m5 R9 l9 t9 A9 k9=>?_,hV.next3 ((t5.imp (λz=>by rw[z]at W;rwa[W.symm]) (λz=>by rw[z]at W;rwa[W.symm])).mono λH9 kk=>λb o n1 n2 n3 nx e=>kk b o n1 n2 n3 nx (S8 _ _$ w' _ _ n1 n2 n3 e))]];let t4:=A8.tm R8 k9;erw[#[io,λq5 d'=>#[q4,q5,_,_,Z,Z,am (t4 _ _ e8) d',jc,(by show 2+1<=υ;omega),λq6 R e6 m6=>B _ _ ?_]]];clear B;let S0:ae H9 R:=(je d').trans m6;let K0:dq r lA aA H3 R:=((dq.of_same S8).trans k9).trans (dq.of_same S0);let t7:ai H3 R:=w8.tm w7 K0;let e6:R q6=δ (.tup [.int (n:Int),.ref h7,vv]):=e6;let l0:R X=δ (.lst N):=K0 _ _ c9 d2 c1.symm w1;let R1:=R9.same S0;let A3:=A9.same S0;let v0:=m4.mono (ae.tm S0);let f4:R q2=δ (.tup ((ps++[(N.length:Int)]).map qs)):=S0 _ _ (t4 _ _ d7);erw[aj λF1 B=>#[_,Z,.inl #[Z,_,aI.of l0],_,Z,X,_,_,Z,Z,l0,LA,B _ _ ?_]];clear B;let b1:aB X R (ah R X$ .lst$ N++[.ref q6]):=λb o nb e=>by rw[ji nb];rwa[e]
    let G:ai R (ah R X$ .lst$ N++[.ref q6]):=λb xs e=>b1 _ _ (jN e l0 (by intro z;cases z)) e;let l4:ah R X (.lst$ N++[.ref q6]) X=δ (.lst$ N++[.ref q6]):=jc;generalize ah R X (.lst$ N++[.ref q6])=S at b1 G l4;let g:=t7.trans G;let h4:w.wh.side < ο Y.ws:=by
     rw[d4.v.len,<- ed];cases e with
     |ask ta T=>show _ < 2;unfold Wh.side;split<;>(try split)<;>omega
     |st p0 l=>show _ < 1;cases w<;>first |exact Nat.one_pos |exact o2.elim | (cases l<;>rwa[ft.elim])
    obtain⟨w0,b9⟩:∃w0,c0[w.wh.side]?=δ w0:=#[_,Mf (by rw[l6];rwa[h4])];let⟨f5,b3⟩:=l8 _ _ w0 (Mf h4) b9;let e':nY D #[canon Y.M,e,c0] hs w.wh=eN (nH D) (bZ w0.sets$ nU e w.wh$ aM (canon Y.M) hs) w0.goal:=by show(match c0[w.wh.side]? with |some wd=>eN (nH D) (bZ wd.sets$ nU e w.wh$ aM (canon Y.M) hs) wd.goal |none=>Gd.give 0)=_;rw[b9]
    rw[d8]at W;let W:OC.pre sk ((fo M (aR M J O j) O D mm (nY D #[canon Y.M,e,c0] hs w.wh) L'$ t+sk.size+1+w.size).cons (n:Int) hs w)=t3:=W;rw[XT _ w3]at W;let s0:=Kz (n:=(n:Int)) (hs:=hs) (w:=w) w3;let ez:t+sk.size+1+w.size=t+(Sk.put (n:Int) hs w sk).size:=by rw[s0];omega
    let U:Rn S C r dx (df aA) cA lA pA M (t+sk.size+1+w.size) L' O:=#[b1 _ _ c9.symm R1.ins,b1 _ _ d2.symm R1.lf,b1 _ _ k5 R1.ce,R1.iL,R1.iC,R1.cl,R1.tl,R1.hm];let A2:An S aA (nn+sk.size+w.size):=A3.keep G λo e=>b1 _ _ c1 e;rw[ez]at U l9 t9 W;let f6:∀(g0:V) (H0:Hp),ai S H0->(∀b o,b≠aA->S b=δ o->H0 b=δ o)->An H0 aA (nn+(Sk.put (n:Int) hs w sk).size)->aL H0 (Hm$ nY D #[canon Y.M,e,c0] hs w.wh) g0 []->E'.nx [↑r,↑p1,↑c,δ$ .int (d0:Int),δ v,↑X,δ$ .int ((Hv m tk:Nat):Int),δ g0,↑q2,δ$ iq lk,δ ud,δ$ iq tk,↑q6] H0:=by
     intro g0 H0 I b0 A1 h2;let g2:=QX (H:=H3) (nA:=nA) (d:=d) (by rw[Yo,pr.nms,<- e'];rwa[h2]) (zR b3.sets$ Yn ft gk) b3.goal;rw[pr.nms,<- e']at g2;let n4:=A2.ne U;erw[fE (kk - (w.size+1)) _ _ LA #[_,_,_,_,_,g0,_,Hv m tk,mm,Sk.put (n:Int) hs w sk,N++[.ref q6],L',Z,b0 _ _ c1.symm l4,uP (I _ _$ G _ _ e6) (I _ _$ g _ _ h6) ((v0.mono G).mono I) w3 ((w2.mono g).mono I),Q6 o2 w3,?_,m2,g2,#[b0 _ _ n4.1.symm U.ins,b0 _ _ n4.2.1.symm U.lf,b0 _ _ n4.2.2.symm U.ce,U.iL,U.iC,U.cl,U.tl,U.hm],A1,l9,t9,?_,by rw[s0];omega,W,LA]]
     .let:=Q7 (n:=(n:Int)) (hs:=hs) (w:=w) (j:=j) m5 w3 LA;omega
     .intro b o n1 n2 n3 e;rwa[b0 _ _ n3$ b1 _ _ (jk e n0)$ K0 _ _ n1 n2 n3$ w' _ _ n1 n2 n3 e]
    erw[oE λG1 yT yF=>?_];let f7:G1 ν S:=by
     erw[yF _ ?_];let⟨as,a1,a2,a3⟩:=A2.ex;erw[aj λF1 B=>#[_,Z,r,C,dx,_,_,Z,U.ins,ck.cl,n6,Z,.inl #[Z,_,aI.of a1],_,Z,aA,as,_,Z,Z,a1,LA,B _ _ ?_]];clear B;let f9:=G _ _ f4;let A1:An (ah S aA$ .lst$ as++[.ref q2]) aA (nn+(Sk.put (n:Int) hs w sk).size):=An.add (k:=0) a1 (by rw[s0];show ο as+1<=_;omega) a3 (λy hy=>by cases τ.mp hy;exact#[ps++[(N.length:Int)],Lz,q2,Z,f9]);let I:ai S (ah S aA$ .lst$ as++[.ref q2]):=λb xs e=>by rw[ji$ jN e a1 (by intro z;cases z)];rwa[e]
     let b0:∀b o,b≠aA->S b=δ o->ah S aA (.lst$ as++[.ref q2]) b=δ o:=λb o nb e=>by rw[ji nb];rwa[e]
     generalize ah S aA (.lst$ as++[.ref q2])=H0 at A1 I b0;let t2:=g.trans I;let sv:iZ H0 nA d ys v q6 n h7 vv Y hs w.wh e w0:=#[P1.mono t2,I _ _$ G _ _ e6,b2,t2 _ _ h6,hl,hi,(G7 o2 v0).mono$ G.trans I,ed,d1.mono t2,ft,by rw[f5];rwa[Mf h4],b3.mono t2];erw[#[_,Z,_,Z,v,vv,q6,h7,n,d,ys,Y,hs,w.wh,e,w0,Z,sv,λu2 H' b5 c4=>f6 u2 H' (I.trans$ ae.tm c4) (λb o nb e=>c4 _ _ (b0 _ _ nb e)) (A1.same c4) ?_]];let b5:aL H' (nX (dJ nA d) (bZ w0.sets$ nU e w.wh$ aM (canon Y.M) hs) w0.goal) u2 []:=b5;rw[Yo,pr.nms,<- e']at b5;rwa[b5]
    cases lk with
    |none=>exact#[_,Z,Z,_,Z,aT (by show(!decide (V.non=V.non))=ν;rw[MN Z];rfl) f7]
    |some jj=>
     let⟨m7,o,ho,o3,m8,g4⟩:=c3 jj Z;subst m7;let a0:jj < ο ss:=by rw[l3];exact(ξ.mp ho).1
     let⟨n2,r9,wo,p,h,u,z1,_,_,_,ex,hp,hh,hw⟩:=qo o1 h0 (Mf a0);rw[ho]at z1;cases z1;let hk:ss[jj]?=↑p:=by rw[<- ex];rwa[Mf a0]
     erw[#[_,Z,Z,_,Z,b8 (by rw[My (by intro z;cases z)];rfl)$ jv (G _ _ e6) oB #[vv,w,Z,v0.mono G,o2,jv (g _ _ h8) oB #[_,Z,eA,_,_,_,Z,Z,aD.of$ g _ _ h',jE hk,p,_,_,_,Z,Z,aD.of$ g _ _ hp,oB,u,wo,Z,hw.mono g,o3,Z,_,Z,?_]]]];by_cases hf:w.fnd=wo.fnd
     .rw[MN (show qs w.fnd=qs wo.fnd by rw[hf])];erw[yT _ ?_];let ew:w.wh=wo.wh:=GZ o2 o3 ((sQ d8).trans m8.symm) hf;erw[#[_,Z,_,Z,d.f,is,so,ao,c,gA,eA,ss,jj+1,Z,g _ _ h8,g _ _ h',tI (h0.mono g) o1 a0 (b7$ jj+1) λg0 H0 h2 c5=>f6 g0 H0 (ae.tm c5) (λb o _ e=>c5 _ _ e) ((A2.le (by rw[s0];omega)).same c5) ?_]];rw[ew,<- g4];rwa[h2]
     .rw[My (show ¬qs w.fnd=qs wo.fnd from λz=>hf (by injection z))];rwa[f7]
   cases tk with
   |none=>exact#[_,Z,Z,_,Z,b8 (MN Z) #[_,Z,n']]
   |some jj=>exact#[_,Z,Z,_,Z,aT (My (λz=>by cases z)) #[_,Z,_,_,Z,Z,n']]
  clear B;let g5:=s6 _ _ (s5 _ _ e4);cases m9:nG (lF (n:Int) hs) so.steps m with
  |none=>
   erw[#[_,Z,Z,_,Z,b8 (MN Z) ?_]];erw[aj λF2 f2=>#[_,Z,jv (S6 _ _ h5) Z$ jv (S6 _ _ h5) Z #[v,n,h7,d,ys,Y,hs,e,Z,P1.mono$ ae.tm S6,b2,S6 _ _ h6,hl,hi,ed,d1.mono$ ae.tm S6,λud H7 h3 s7=>f2 _ _ ?_]]];clear f2;let S7:=S6.trans s7;let⟨wE,o7,dE,hE⟩:=EL (k:=aM (canon Y.M) hs) d1;erw[(jv (S7 _ _ h8) oB #[_,Z,_,Z,eA,ss,so,wE,m,ud,Z,S7 _ _ h',h0.mono$ ae.tm S7,o1,s9,LA,by rw[dE];rwa[h3],o7,λH8 s8=>nx θ _ ud H8 (S7.trans s8) (s8 _ _$ s7 _ _ g5) (h3.mono$ ae.tm s8) ?_ (λjj z=>by cases z)])];cases o':oH so.steps m wE with
   |none=>trivial
   |some jj=>let⟨f',i0,s',a',rfl,g6⟩:=tX o';let⟨hm,o,ho,p2⟩:=ZQ g6;let⟨p0,x,q',ts,e1,e2⟩:=hE _ _ _ _ Z;let⟨s2,a2,eo⟩:=Fe p2;erw[#[hm,o,ho,λf3 r' s3 a3 z=>?_]];rw[eo]at z;cases z;exact#[p0,x,q',ts,e1,e2]
  |some jj=>
   erw[#[_,Z,Z,_,Z,aT (My (λz=>by cases z)) ?_]];let⟨hm,o,ho,c3⟩:=ZQ m9;let⟨en,p3⟩:=Fh c3;obtain⟨⟨n2,t',p4,b',e0,e3⟩,_⟩:=a4 ho;let e2:n2=n:=by rw[en]at p4;omega
   subst e2;rw[c2]at b';cases b';rw[p3]at e0 e3;let a0:jj < ο ss:=by rw[l3];exact(ξ.mp ho).1
   let⟨n3,u0,wo,p,h,u,z1,o4,_,_,ex,hp,hh,hw⟩:=qo o1 h0 (Mf a0);rw[ho]at z1;cases z1;let hk:ss[jj]?=↑p:=by rw[<- ex];rwa[Mf a0]
   erw[aj λF2 f2=>(jv (S6 _ _ h8) oB #[_,Z,eA,_,_,_,Z,Z,aD.of$ S6 _ _ h',jE hk,p,_,_,_,Z,Z,aD.of$ S6 _ _ hp,oB,u,wo,Z,hw.mono$ ae.tm S6,o4,λud H7 h3 s7=>f2 _ _ ?_])];clear f2;let e0:gN wo=wM (aM (canon Y.M) hs) e:=e0;rw[e0]at h3;erw[#[_,Z,nx (δ jj) (δ jj) ud H7 (S6.trans s7) (s7 _ _ g5) h3 #[hm,_,ho,λf' i0 s' a' z=>?_] λj2 z=>?_]]
   .let z:wo= .cl f' i0 s' a':=z;subst z;rwa[xE d1 e0]
   .cases z;exact#[Z,_,ho,o4,e0,e3]
abbrev Dw:cv:=bH 42
inductive oZ(g f n:ζ)(s:ri V)(H:Hp)(Q:VK)(E:XK):Prop
 |mk(M:Nat)(q j c:ζ)(i:Nat)(e:aO)(r:Sk)(h:Int)(d:Df)(k:ri Df)(o:ri Nat)(t:ri V)(b:ri cq)(m:ri Int)(_:s=[.ref q,.ref c,.ref j,.int (M:Int)])(_:M<=300)(_:Ps H n q k o t b)(_:k[i]?=δ d)(_:o[i]?=δ m.length)(_:∀z∈m,eL z)(_:H j=δ (.dK e))(_:GT e)(_:iS H d.f m r h (.ref c))(_:r.ok μ)(_:r.size<=1000)(_:sj b d.f m r h)(_:∀(p l:ζ) (v:V) (sk:Sk) (a:Int) (L':aO) (H':Hp),aR M b e 16 d.f m [] 0= .ok sk a L' sk.size->H' p=δ (.tup [v,.ref l])->iS H' d.f m sk a v->sk.ok μ->sk.dep<=15->sk.size<=M->ae H H'->Q (.ref p) H')(_:hV (aR M b e 16 d.f m [] 0= .long) (aR M b e 16 d.f m [] 0= .deep) E g f (Kp H))
def ZS{H a:Hp}(s:ae H a){x:ζ}(h:a x=θ):H x=θ:=by
 cases z:H x with
 |none=>rfl
 |some o=>have:=s _ _ z;rw[h]at this;cases this
def vq:ak ["parts","old","cells","most","running","chain"] z27z (aa Dw):=bG
def CO{f:ζ}{fd:bU}{C TL TD nA fI fA:ζ}{t u:bU}(F:rc K "again" Dw f fd)(ck:RK K C)(n6:aW K C "anew")(mk:Mk K C fI)(GI:⇑3 fI t z6z (lY C))(bI:au K t z6z [])(mC:mg "AgainRun"=↑C)(GA:af P w K mg base (cR P w) 70 fA u z15z (mN C TL TD nA 16))(bA:au K u z15z [])(U:a7 K C "chain_along" fA)(V:mg "sorted"=θ):af P w K mg base (cR P w) 71 f fd z27z (oZ TL TD nA):=by
 erw[F.ok1 vq λc0 A W s H vs Q E hr h=>?_]
 let⟨M,j,k,c,i,X,so,ao,d,ds,ns,xs,B,is,rfl,hM,hP,hd,hn,Y,G,rf,h0,o1,s6,I,q,t0⟩:=h;erw[#[_,(jd (jx 4 vq.nd$ Q1 mk GI hr.m Z mC bI .nil bq$ ja (pv 0)$ ja (pv 2)$ ja (pv 3) jb)$ jd (jx 5 vq.nd$ j9 (pv 4) ck.cl U GA hr.m bA .nil j8$ ja (jh jb)$ ja (pv 1)$ ja jf jb)$ jg$ jo$ jh$ ja (pv 5)$ ja (jG Xj Z V RB$ ja (kU (pv 4) Z) jb) jb),?_]];let b0:=aH;erw[aj λF1 J=>#[_,Z,_,Z,_,Z,λr D R nd ne=>?_]];let s0:ae H (ah (ah H D$ .own r) r$ .ins C D []):=λc o e=>by rw[ji$ jk e R,ji$ jk e nd];rwa[e]
 erw[#[r,D,j,k,M,Z,jc,λL g nl na n0=>#[Z,J _ _ ?_]]];clear J;let n1:L≠r:=λe=>by rw[e,jc]at nl;cases nl
 let n2:g≠r:=λe=>by rw[e,jc]at na;cases na
 let n:=ZS s0 nl;let N:=ZS s0 na;let S:ae H (ah (ah (ah (ah (ah H D$ .own r) r$ .ins C D []) L$ .dK []) g$ .lst []) r$ .ins C D$ cX (df g) k L j M 0):=λc o e=>by rw[ji$ jk e R,ji$ jk e N,ji$ jk e n];rwa[s0 _ _ e]
 let R1:Rn (ah (ah (ah (ah (ah H D$ .own r) r$ .ins C D []) L$ .dK []) g$ .lst []) r$ .ins C D$ cX (df g) k L j M 0) C r D (df g) k L j M 0 [] X:=#[jc,by rw[ji n1,ji n0];rwa[jc],S _ _ G,GT.nil,rf,jk G n,xq g,LA];let A1:An (ah (ah (ah (ah (ah H D$ .own r) r$ .ins C D []) L$ .dK []) g$ .lst []) r$ .ins C D$ cX (df g) k L j M 0) g 0:=#[[],by rw[ji n2];rwa[jc],Mj _,λx z=>by cases z];generalize (ah (ah (ah (ah (ah H D$ .own r) r$ .ins C D []) L$ .dK []) g$ .lst []) r$ .ins C D$ cX (df g) k L j M 0)=H1 at S R1 A1;erw[aj λF1 J=>#[_,Z,r,D,_,Z,R1.ins,Z,ms,λpa n3=>#[_,Z,?_]]];let O:ae H1 (ah H1 pa$ .tup []):=je n3;let T:=ae.tm (S.trans O);erw[#[M,r,D,g,k,L,j,pa,c,[],0,0,0,i,[],X,so,ao,d,ds,ns,xs,B,is,Z,Z,LB,R1.same O,A1.same O,Mj _,Mj _,Mu _,hP.mono T,jc,LB,hd,hn,Y,iS.mono' h0 T,o1,s6,I,λv sk a L' H3 eq h1 o2 d0 ia R3 l3 t3 A3 k3=>J _ _ ?_,hV.next3$ t0.mono λH' kk=>λb o nx e=>kk b o (jk e R) (jk e n) (jk e N) nx (O _ _$ S _ _ e)]];clear J;rw[PY]at eq t3 A3;let s3:ae H H3:=λb o e=>k3 _ _ (jk e R) (jk e n) (jk e N) (O _ _$ S _ _ e);let⟨as,a1,a2,a3⟩:=A3.ex;erw[#[_,Z,_,Z,r,C,D,_,_,Z,R3.ins,ck.cl,n6,Z,g,as,Z,aI.of a1,LA,λx hx=>?_,λl ws n4=>?_]]
 .let⟨p,hp,y,e1,e2⟩:=a3 x hx;exact#[y,p,e1,e2,hp]
 let s4:ae H3 (ah H3 l$ .lst ws):=je n4;erw[#[bN,λp np=>?_]];let s5:=je (o:=.tup [v,.ref l]) np;rwa[q p l v sk a L' _ eq jc (iS.mono' h1$ ae.tm$ s4.trans s5) o2 LA t3 ((s3.trans s4).trans s5)]
abbrev n8:cv:=bH 75
abbrev DC:cv:=bH 76
abbrev og:cv:=bH 79
def yD(a:aO)(k:bu)(v:V):(bM a k v).length<=ο a+1:=zN
inductive ik(b:ri V)(H:Hp)(Q:VK)(a:XK):Prop
 |mk(p:ζ)(_:b=[.ref p])(_:aq H p)(_:∀(l:ζ) (C:aO) (H':Hp),H l=θ->H' l=δ (.dK C)->GT C->ο C<=13->aq H' p->aB p H H'->Q (.ref l) H')
inductive CL(p l:ζ)(H:Hp)(i:Nat)(k:_L.St)(a:Hp):Prop
 |mk(h j:rm V)(C:aO)(b:k=[↑p,↑l,h,j])(c:a l=δ (.dK C))(d:GT C)(e:ο C<=i)(f:aq a p)(g:aB p H a)
def CM{x:ri V}:NX (.lst x):=λa z=>by cases z
def CN{x:ri V}:NX (.tup x):=λa z=>by cases z
def Kp.tm{H h:Hp}(k:Kp H h):ai H h:=λb x e=>k b _ CN e
def Kp.seq{K:Ψ}{H b:Hp}{a:ζ}{x:ri V}(e:Kp H b)(h:aI K H a x):aI K b a x:=by
 rcases h with (h | ⟨o,h⟩) |h
 .rwa[.inl$ .inl$ e _ _ CM h]
 .rwa[.inl$ .inr #[o,e _ _ (by intro c z;cases z) h]]
 .rwa[.inr h]
def Dl{H:Hp}{D:ri Df}{n:ri Nat}(h:mw H D n){i:Nat}{d:Df}{p:ri ρ}(a:D[i]?=δ d)(c:H d.pa=δ (.tup$ p.map qr)):n[i]?=δ p.length:=by let f:i < ο D:=(ξ.mp a).1;let b:n[i]?=δ (n[i]'(by rw[<- h.1];rwa[f])):=Mf _;let⟨g,e,l,_⟩:=h.2 i d _ a b;rw[c]at e;injection e with e;injection e with e;let:=MZ List.length e;rw[Mi,Mi]at this;rw[b,<- l,this]
def Xo{x:aO}:NX (.dK x):=λa z=>by cases z
def sD(H:Hp)(X:ri V):Prop:=∀x∈X,∃(q:ζ) (c i:Int),x= .ref q/\H q=δ (.tup [.int c,.int i])/\eL i
def sD.mono{H a:Hp}(k:ai H a){X:ri V}(h:sD H X):sD a X:=λx b=>let #[q,c,i,e,d,f]:=h x b;#[q,c,i,e,k _ _ d,f]
inductive pi(b:ri V)(H:Hp)(Q:VK)(a:XK):Prop
 |mk(p:ζ)(m:Int)(_:b=[.ref p,.int m])(_:aq H p)(_:0 < m)(_:m<=100)(_:∀(l:ζ) (xs:ri V) (H':Hp),H l=θ->H' l=δ (.lst xs)->sD H' xs->ο xs<=100->aq H' p->aB p H H'->Q (.ref l) H')
inductive IJ(p l:ζ)(m:Int)(H:Hp)(i:Nat)(n:_L.St)(a:Hp):Prop
 |mk(h j:rm V)(k:ri V)(b:n=[↑p,δ (.int m),↑l,h,j])(c:a l=δ (.lst k))(d:sD a k)(e:ο k<=i)(f:aq a p)(g:aB p H a)
inductive mV(K:Ψ)(d:ri V)(H:Hp)(Q:VK)(b:XK):Prop
 |mk(a:ζ)(c:ri Int)(_:d=[.ref a])(_:aI K H a (c.map qs))(_:ο c<=63)(_:∀H',Q (.bl μ) H')
def gg:ak ["_law_box_here","_law_cells_here","_law_k","_law_cell"] z2z (aa n8):=bG
def uk{f:ζ}{R:bU}{fT fU:ζ}{x y:bU}(F:rc K "_law_cells" n8 f R)(r:‹1› fT x z0z aY "_law_take")(cU:‹2› fU y z2z g9 "_law_number")(mr:mg "range"=θ):⇑3 f R z2z ik:=by
 erw[F.ok gg λc0 A O s H vs Q E g h=>?_]
 let⟨p,rfl,B,q⟩:=h;erw[#[_,(jd (jx 1 gg.nd Xv)$ jd (kh M3 Z (kI Z mr$ ja (r.e g.m$ ja (pv 0)$ ja jf jb) jb) (jy (i:=2) gg.nd Z$ ψ Z)$ jd (jx 3 gg.nd$ r.e g.m$ ja (pv 0)$ ja jf jb)$ jd (jw (za$ r.e g.m$ ja (pv 0)$ ja jf jb) (jg$ jx 3 gg.nd$ ju ki (ju ki (ju Js jf jf) jf)$ r.e g.m$ ja (pv 0)$ ja jf jb) jp)$ jg$ Jb (z9 g) (pv 1) (pv 3) (cU.e g.m$ ja (pv 0) jb) Z)$ jg$ jo$ pv 1),?_]];let b0:=aH;let t0:=pH;erw[aj λt a=>λl N=>a _ _ ?_];clear a;let S:ae H (ah H l$ .dK []):=je N;let T:ah H l (.dK []) l=δ (.dK []):=jc;generalize ah H l (.dK [])=H1 at S T;let L:l≠p:=B.ne N;let B1:=B.same S;erw[aj λt a=>eM λJ j=>#[_,Z,p,14,Z,B1,LB,LB,λd H2 d0 d1 B2 U=>#[_,Z,LA,LA,j _ _ ?_]]];clear j;erw[kn (lo:=0) (CL p l H) #[θ,θ,[],Z,by rw[U l L];rwa[T],_K.GT.nil,Mj _,B2,(aB.of_same S).trans$ aB.of_eq U] ?_ (λσ H' h=>a _ _ ?_)]
 .clear a;intro E0 _ i σ H3 hi fE Gq o h;let⟨o2,o3,C,rfl,D,G,lC,I,M⟩:=h;erw[o ?_];clear o;show eO (dZ _ _) _ E0 _ _;erw[aj λt a=>#[_,Z,p,14,Z,I,LB,LB,λc4 H4 d2 d3 B4 W=>a _ _ ?_]];clear a;erw[aj λt a=>?_];let c:∀(u:Int) (v:Hp),aq v p->(∀b,b≠p->v b=H3 b)->t [↑p,↑l,δ$ .int (0+(i:Int)),δ$ .int u] v:=λu v BH X=>a _ _ (by
   erw[#[_,Z,p,Z,BH,λm H7 m0 m1 B7 Y=>?_]];let h7:H7 l=δ (.dK C):=by rw[Y l L,X l L];rwa[D]
   let pl:=yD C (.inl u) (.int m);exact#[_,Z,_,Z,l,_,Z,nK.k (k:=.inl u) h7 LA,fE _ _ #[_,_,_,Z,jc,G.put _ #[m0,m1],LA,B7.eq$ ji$ MX L,(M.trans ((aB.of_eq X).trans$ aB.of_eq Y)).upd_own N]])
  erw[oE λG1 yT yF=>#[_,Z,p,8,Z,B4,LB,LB,λd5 H5 d4 d7 B5 e5=>#[Z,_,Z,?_]]];by_cases h3:d5=0
  .rw[h3,MN (Z:qs 0=qs 0)];erw[yT _ #[_,_,Z,Z,#[LB,LB,LB],_,_,Z,Z,_,Z,p,4,Z,B5,LB,LB,λd6 H6 d8 d' B6 e6=>#[_,_,Z,Z,c _ H6 B6 λb n=>(e6 b n).trans ((e5 b n).trans$ W b n)]]]
  .rw[My (λz=>h3 (by injection z))];rwa[yF _$ c _ H5 B5 λb n=>(e5 b n).trans (W b n)]
 .let⟨o2,o3,C,rfl,D,G,lC,I,M⟩:=h;exact#[_,Z,q l C H' N D G LA I M]
def mJ:ak ["_law_box_here","_law_most","_law_found","_law_k","_law_cell"] ["_law_box_here","_law_most"] (aa DC):=bG
def CV{f:ζ}{fd:bU}{fT fN:ζ}{O R:bU}(F:rc K "_law_changes" DC f fd)(D:‹1› fT O z0z aY "_law_take")(cN:‹2› fN R z2z g9 "_law_number")(mr:mg "range"=θ):⇑3 f fd ["_law_box_here","_law_most"] pi:=by
 erw[F.ok mJ λc0 A U s H vs Q E g h=>?_]
 let⟨p,m,rfl,B,m0,m1,q⟩:=h;erw[#[_,(jd (jx 2 mJ.nd$ jK jb)$ jd (kh M3 Z (kI Z mr$ ja (ju jW jf$ D.e g.m$ ja (pv 0)$ ja (pv 1) jb) jb) (jy (i:=3) mJ.nd Z$ ψ Z)$ jd (jx 4 mJ.nd$ D.e g.m$ ja (pv 0)$ ja jf jb)$ jd (jw (za$ D.e g.m$ ja (pv 0)$ ja jf jb) (jg$ jx 4 mJ.nd$ ju ki (ju ki (ju Js jf jf) jf)$ D.e g.m$ ja (pv 0)$ ja jf jb) jp)$ jg$ jQ$ kJ MF MQ MP jT (pv 2)$ ja (jh$ ja (pv 4)$ ja (cN.e g.m$ ja (pv 0) jb) jb) jb)$ jg$ jo$ pv 2),?_]];let b0:=aH;let t0:=pH;erw[aj λG a=>#[ms,λl I=>a _ _ ?_]];clear a;let W:ae H (ah H l$ .lst []):=je I;let e1:ah H l (.lst []) l=δ (.lst []):=jc;generalize ah H l (.lst [])=H1 at W e1;let L:l≠p:=B.ne I;let B1:=B.same W;erw[aj λG a=>eM λJ j=>#[_,Z,_,Z,p,m,Z,B1,m0,LA,λd H2 d0 d1 B2 e2=>#[_,_,Z,Z,_,Z,LA,LA,j _ _ ?_]]];clear j;erw[kn (lo:=0) (IJ p l m H) #[θ,θ,[],Z,by rw[e2 l L];rwa[e1],(λ_ h=>nomatch h),Mj _,B2,(aB.of_same W).trans$ aB.of_eq e2] ?_ (λσ H' h=>a _ _ ?_)]
 .clear a;intro E0 _ i σ H3 hi fE Gq k h;let⟨o3,o4,X,rfl,Y,pV,lV,M,k3⟩:=h;erw[k ?_];clear k;show eO (dZ _ _) _ E0 _ _;erw[aj λG a=>#[_,Z,p,15,Z,M,LB,LB,λc4 H4 d2 d3 B4 e4=>a _ _ ?_]];clear a;erw[aj λG a=>?_];let c:∀(C:Int) (r:Hp),aq r p->(∀b,b≠p->r b=H3 b)->G [↑p,δ$ .int m,↑l,δ$ .int (0+(i:Int)),δ$ .int C] r:=λC r BH eH=>a _ _ (by
   let u:r l=δ (.lst X):=by rw[eH l L];rwa[Y]
   erw[#[_,Z,.inl #[Z,_,aI.of u],_,Z,_,Z,p,Z,BH,λn v n0 n1 B7 e7=>#[bN,λt nt=>?_]]];let h7:v l=δ (.lst X):=by rw[e7 l L];rwa[u]
   let S:ae v (ah v t$ .tup [.int C,.int n]):=je nt;let t8:ah v t (.tup [.int C,.int n]) t=δ (.tup [.int C,.int n]):=jc;erw[#[l,_,_,Z,Z,S _ _ h7,LA,fE _ _ ?_]];generalize ah v t (.tup [.int C,.int n])=y at S t8;let k8:aB p H3 y:=((aB.of_eq eH).trans$ aB.of_eq e7).trans (aB.of_same S);let l8:=S _ _ h7;let kl:aB l y (ah y l$ .lst$ X++[.ref t]):=λb o N e=>by rw[ji N];rwa[e]
   let T:ai y (ah y l$ .lst$ X++[.ref t]):=λb ys e=>kl _ _ (jN e l8 (by intro z;cases z)) e;erw[#[_,_,X++[.ref t],Z,jc,?_,by rw[Ml];show ο X+1<=_;omega,(B7.same S).eq$ ji$ MX L,(k3.trans k8).upd_own I]];intro x hx;rcases γ.mp hx with z |z
   .exact((pV.mono$ k8.tm M).mono T) x z
   .rw[τ.mp z];exact#[t,C,n,Z,T _ _ t8,n0,n1])
  erw[oE λG1 yT yF=>#[_,Z,p,8,Z,B4,LB,LB,λd5 H5 d4 d7 B5 e5=>#[Z,_,Z,?_]]];by_cases h3:d5=0
  .rw[h3,MN (Z:qs 0=qs 0)];erw[yT _ #[_,_,Z,Z,#[LB,LB,LB],_,_,Z,Z,_,Z,p,4,Z,B5,LB,LB,λd6 H6 d8 d' B6 e6=>#[_,_,Z,Z,c _ H6 B6 λb N=>(e6 b N).trans ((e5 b N).trans$ e4 b N)]]]
  .rw[My (λz=>h3 (by injection z))];rwa[yF _$ c _ H5 B5 λb N=>(e5 b N).trans (e4 b N)]
 .let⟨o3,o4,X,rfl,Y,pV,lV,M,k3⟩:=h;exact#[_,Z,q l X H' I Y pV LA M k3]
structure Xs(K:Ψ)(mg:ρ->rm η)(TL TD:ζ):Prop where
 gL:mg "TooLong"=↑TL
 hL:clsIn K TL≠θ
 tL:typeIn K (.ref TL)=δ (.type "type")
 mL:mroIn K TL (.type "BaseException")=δ μ
 gD:mg "TooDeep"=↑TD
 hD:clsIn K TD≠θ
 tD:typeIn K (.ref TD)=δ (.type "type")
 mD:mroIn K TD (.type "BaseException")=δ μ
 LL:mroIn K TL (.ref TL)=δ μ
 DL:mroIn K TD (.ref TL)=δ ν
 DD:mroIn K TD (.ref TD)=δ μ
abbrev Dy:cv:=bH 77
abbrev DJ:cv:=bH 78
def Kp.trn{A B C:Hp}(h:Kp A B)(k:Kp B C):Kp A C:=λb o n e=>k _ _ n (h _ _ n e)
def Ze:∀{b:Bool} {s:Sk},s.ok b->(nJ s).In
 |true,.nil,_=>trivial
 |true,.st n h w r,o=>#[#[Z,qB h,Ze o.1,trivial],Ze o.2]
 |false,.ask _,_=>#[Z,Z,trivial]
 |false,.rd _ _,_ |false,.wr _ _,_=>#[Z,Z,Z,trivial]
 |false,.cl f i s a,o=>#[Z,#[Z,qB i,Ze (b:=μ) o,Z,trivial],trivial]
def AC{f:ρ}{i:ri Int}{s:Sk}{a:Int}(o:s.ok μ):(BO f i s a).In:=#[Z,qB i,Ze (b:=μ) o,Z,trivial]
inductive RR(M:Nat)(H:Hp)(pds:ri cq)(Cs:aO)(f:ρ)(is:ri Int):V->Prop
 |ok (c:ζ) (sk:Sk) (b:Int) (L':aO) (eq:aR M pds Cs 16 f is [] 0= .ok sk b L' sk.size) (hc:iS H f is sk b (.ref c)) (ok:sk.ok μ) (dp:sk.dep<=15) (sz:sk.size<=M):RR M H pds Cs f is (.ref c)
 |long (eq:aR M pds Cs 16 f is [] 0= .long):RR M H pds Cs f is (.str "long")
 |deep (eq:aR M pds Cs 16 f is [] 0= .deep):RR M H pds Cs f is (.str "deep")
inductive RT(M:Nat)(H:Hp)(pds:ri cq)(Cs:aO)(f:ρ)(is:ri Int):V->Prop
 |ok (p l:ζ) (v:V) (sk:Sk) (b:Int) (L':aO) (eq:aR M pds Cs 16 f is [] 0= .ok sk b L' sk.size) (e:H p=δ (.tup [v,.ref l])) (hc:iS H f is sk b v) (ok:sk.ok μ) (dp:sk.dep<=15) (sz:sk.size<=M):RT M H pds Cs f is (.ref p)
 |long (eq:aR M pds Cs 16 f is [] 0= .long):RT M H pds Cs f is (.str "long")
 |deep (eq:aR M pds Cs 16 f is [] 0= .deep):RT M H pds Cs f is (.str "deep")
inductive pf(j:ζ)(m:ri V)(H:Hp)(Q:VK)(a:XK):Prop
 |mk(M:Nat)(l e f:ζ)(i:Nat)(c:aO)(d:Df)(g:ri Df)(k:ri Nat)(n:ri V)(b:ri cq)(h:ri Int)(_:m=[.ref l,.str d.f,.ref e,.ref f,.int (M:Int)])(_:M<=300)(_:Ps H j l g k n b)(_:g[i]?=δ d)(_:k[i]?=δ h.length)(_:H e=δ (.tup (h.map qs)))(_:∀z∈h,eL z)(_:H f=δ (.dK c))(_:GT c)(_:∀(v:V) (H':Hp),RR M H' b c d.f h v->Kp H H'->Q v H')
inductive pC(k:ζ)(o:ri V)(H:Hp)(Q:VK)(a:XK):Prop
 |mk(M:Nat)(m g c:ζ)(i:Nat)(e:aO)(n:Sk)(f:Int)(d:Df)(h:ri Df)(l:ri Nat)(p:ri V)(b:ri cq)(j:ri Int)(_:o=[.ref m,.ref c,.ref g,.int (M:Int)])(_:M<=300)(_:Ps H k m h l p b)(_:h[i]?=δ d)(_:l[i]?=δ j.length)(_:∀z∈j,eL z)(_:H g=δ (.dK e))(_:GT e)(_:iS H d.f j n f (.ref c))(_:n.ok μ)(_:n.size<=1000)(_:sj b d.f j n f)(_:∀(v:V) (H':Hp),RT M H' b e d.f j v->Kp H H'->Q v H')
def mG:ak ["_law_parts","_law_f","_law_args","_law_cells_here","_law_most","_law_told"] z35z (aa Dy):=bG
def CS{f:ζ}{U:bU}{V W Y r:ζ}{g:bU}(F:rc K "_law_begun" Dy f U)(GR:af P w K mg base (cR P w) 45 r g z26z (pE V W Y))(bR:au K g z26z [])(kR:fr K (.ref r)=μ)(mR:mg "run"=↑r)(X:Xs K mg V W)(t:mg "dict"=θ):⇑46 f U z35z (pf Y):=by
 erw[F.ok mG λc0 A O s H vs Q E hr h=>?_]
 let⟨M,v,y,B,i,l,d,ds,ns,xs,p,is,rfl,hM,hP,hd,hn,ha,D,G,rf,q⟩:=h;erw[#[_,(jd (jx 5 mG.nd jl)$ jd (@Zs _ _ _ _ _ _ _ _ _ _ _ _ _ _ _ _ _ _ Z Z (@Zm _ _ _ _ (5) _ _ mG.nd Z (ψ Z) (@Xy _ _ _ _ _ _ _ _ _ _ _ _ _ _ GR hr.m Z mR kR bR .nil (ja (pv 0)$ ja (pv 1)$ ja (pv 2)$ ja (jF JB Z t UM$ ja (pv 3) jb)$ ja (pv 4) jb) LB Lx Lx) Lx (by first |exact .inl Z |exact .inr Z)) Z X.gL X.hL X.tL X.mL Z X.gD X.hD X.tD X.mD (λ_=>(jg$ jx 5 mG.nd jl)) (λ_=>(jg$ jx 5 mG.nd jl)) LB LB)$ jg$ jo$ pv 5),?_]];erw[aj λF1 c=>c _ _ ?_];clear c;erw[aj λF1 c=>?_];show wm _ _ _ _ _ _ _ [↑v,δ$ .str d.f,↑y,↑B,δ$ .int (M:Int),δ$ .str "none"] H;erw[#[_,Z,_,Z,_,Z,_,Z,B,l,Z,G,λj nh=>?_]];let S:ae H (ah H j$ .dK l):=je nh;erw[#[_,Z,M,v,y,j,i,l,d,ds,ns,xs,p,is,Z,LA,hP.mono$ ae.tm S,hd,hn,S _ _ ha,D,jc,rf,λu sk a L' H2 k hc ok dp sz s2=>?_,λk=>?_,λk=>?_]]
 .let⟨c',_,_,_,rfl,_,_,_,_⟩:=id hc;rwa[c _ _ #[_,Z,q _ _ (.ok c' sk a L' k hc ok dp sz)$ Kp.of_same$ S.trans s2]]
 .intro _ H7 I x C T J L hT R;cases J;erw[.inl #[X.LL,λT' n=>c _ _ #[_,Z,q _ _ (.long k) ?_]]];exactλb o N e=>zS (H:=H) (I _ _ N$ S _ _ e) N L n
 .intro _ H7 I x C T J L hT R;cases J;erw[.inr #[X.DL,X.DD,λT' n=>c _ _ #[_,Z,q _ _ (.deep k) ?_]]];exactλb o N e=>zS (H:=H) (I _ _ N$ S _ _ e) N L n
def mM:ak ["_law_parts","_law_old","_law_cells_here","_law_most","_law_told"] z36z (aa DJ):=bG
def C5{f:ζ}{fd:bU}{TL TD nA z:ζ}{j:bU}(F:rc K "_law_renewed" DJ f fd)(GA:af P w K mg base (cR P w) 71 z j z27z (oZ TL TD nA))(bA:au K j z27z [])(kA:fr K (.ref z)=μ)(mA:mg "again"=↑z)(X:Xs K mg TL TD)(B:mg "dict"=θ):⇑72 f fd z36z (pC nA):=by
 erw[F.ok mM λc0 A O s H vs Q E hr h=>?_]
 let⟨M,D,G,c,i,y,so,ao,d,ds,ns,xs,k,is,rfl,hM,hP,hd,hn,I,J,rf,L,R,U,r,q⟩:=h;erw[#[_,(jd (jx 4 mM.nd$ @zH _ _ _)$ jd (@Zs _ _ _ _ _ _ _ _ _ _ _ _ _ _ _ _ _ _ Z Z (@Zm _ _ _ _ (4) _ _ mM.nd Z (ψ Z) (@Xy _ _ _ _ _ _ _ _ _ _ _ _ _ _ GA hr.m Z mA kA bA .nil (ja (pv 0)$ ja (pv 1)$ ja (jF JB Z B UM$ ja (pv 2) jb)$ ja (pv 3) jb) LB Lx Lx) Lx (by first |exact .inl Z |exact .inr Z)) Z X.gL X.hL X.tL X.mL Z X.gD X.hD X.tD X.mD (λ_=>(jg$ jx 4 mM.nd jl)) (λ_=>(jg$ jx 4 mM.nd jl)) LB LB)$ jg$ jo$ pv 4),?_]];erw[aj λF1 g=>g _ _ ?_];clear g;erw[aj λF1 g=>?_];show wm _ _ _ _ _ _ _ [↑D,↑c,↑G,δ$ .int (M:Int),δ .non] H;erw[#[_,Z,_,Z,_,Z,G,y,Z,J,λt nh=>?_]];let S:ae H (ah H t$ .dK y):=je nh;erw[#[_,Z,M,D,t,c,i,y,so,ao,d,ds,ns,xs,k,is,Z,hM,hP.mono$ ae.tm S,hd,hn,I,jc,rf,iS.mono' L$ ae.tm S,R,U,r,λp l v sk a L' H2 u ep hc ok dp sz s2=>?_,λu=>?_,λu=>?_]]
 .rwa[g _ _ #[_,Z,q _ _ (.ok p l v sk a L' u ep hc ok dp sz)$ Kp.of_same$ S.trans s2]]
 .intro _ H7 V x C T W Y hT h0;cases W;erw[.inl #[X.LL,λT' n=>g _ _ #[_,Z,q _ _ (.long u) ?_]]];exactλb o N e=>zS (H:=H) (V _ _ N$ S _ _ e) N Y n
 .intro _ H7 V x C T W Y hT h0;cases W;erw[.inr #[X.DL,X.DD,λT' n=>g _ _ #[_,Z,q _ _ (.deep u) ?_]]];exactλb o N e=>zS (H:=H) (V _ _ N$ S _ _ e) N Y n
section
open SeqAt
variable {X:Cx}
def Io{p:ri (ζ×fx)}{G:_L.St}{H:Hp}{s:ι}(I:ap X p G H s)(n:Nat)(J:∀(t:Tr) {A:bx},t.dep<=n->A.units+n < cLine->t.In->t.isL=ν->∀{u:Tr} {x y:V},u.In->u.isL=ν->aL H t x []->aL H u y []->∀a b,aE x a->aE y b->EqAt A s a b (hG t u)){A:bx}{l m:Tr}{d B:ζ}{f g:ri V}(hn:l.dep<=n)(hu:A.units+n+1 < cLine)(L:l.In)(M:m.In)(i:l.isL=μ)(o:m.isL=μ)(N:H d=δ (.tup f))(O:H B=δ (.tup g))(T:aL H l .non f)(q:aL H m .non g):RcNeAt A s (.ref d) (.ref B) (!hG (.tp l) (.tp m)):=by
 let⟨v,r,Q,_⟩:=I.tuple (aD.of (K:=X.K) N);let⟨C,R,S,_⟩:=I.tuple (aD.of (K:=X.K) O);let⟨U,W⟩:=qu i L T;let⟨Y,m2⟩:=qu o M q;let z:=RcNeAt.tuples (A:=A) (e:=iY l m) (show s.heap.IsTuple d v.toArray from Q) (show s.heap.IsTuple B C.toArray from S) LA (λj h1 h2=>?_)
 .rw[XX i o T q (by rw[Mm,<- r.length,U]) (by rw[Mm,<- R.length,Y])]at z;let E:hG (.tp l) (.tp m)=hG l m:=by
   by_cases c:l=m
   .rw[qe c,qe (by rw[c])]
   .rw[zp c,zp (λk=>c (by injection k))]
  rw[E];rwa[z]
 .let la:=r.length;let lb:=R.length;let D:j < ο f:=by simp at h1;omega
  let h:j < ο g:=by simp at h2;omega
  let⟨u1,q1,r1⟩:=r.get (Mf D);let⟨u2,q2,r2⟩:=R.get (Mf h);let e1:v.toArray[j]=u1:=by let⟨_,e⟩:=ξ.mp q1;simpa using e
  let E:C.toArray[j]=u2:=by let⟨_,e⟩:=ξ.mp q2;simpa using e
  rw[e1,E];let⟨F,g1,g2,g3,g4,g5⟩:=W j _ (Mf D);let⟨u',k1,k2,k3,k4,k5⟩:=m2 j _ (Mf h);let et:iY l m j=hG F u':=by unfold iY;rw[g1,k1]
  rw[et];rwa[J F (A:=A.in1) LA (by show A.units+1+n < cLine;omega) g3 g2 k3 k2 g5 k5 _ _ r1 r2]
inductive FR(d:Nat)(x y:V)(H:Hp)(Q:VK):Prop
 |mk(l m:Tr)(_:l.dep < d)(_:l.In)(_:m.In)(_:aL H (.tp l) x [])(_:aL H (.tp m) y [])(_:Q (.bl (!hG (.tp l) (.tp m))) H)
def Di{d:Nat}(c:X.A.units+d+1 < cLine):eW X (compareOp .NotEq) (FR d):=by intro p s n H x y v u Q I r R h;obtain⟨l,m,o,i,e,⟨f,a,z,rfl,g,t⟩,⟨j,b,B,rfl,k,T⟩,q⟩:=h;cases r;cases R;rwa[Io I d (wt I d) LA c i e f j g k t T X.prog X.w _ _ #[.bl _,H,I,Z,q]]
end
def RR.tm{M:Nat}{H a:Hp}{p:ri cq}{C:aO}{f:ρ}{i:ri Int}{v:V}(h:RR M H p C f i v)(k:ai H a):RR M a p C f i v:=by
 cases h with
 |ok c s b L e d ok D S=>rwa[.ok c s b L e (d.mono' k) ok D S]
 |long e=>rwa[.long e]
 |deep e=>rwa[.deep e]
inductive Bk(H:Hp)(pds:ri cq)(f:ρ)(is:ri Int):V->Prop
 |s (t:ρ):Bk H pds f is (.str t)
 |b (c:ζ) (so:Sk) (ao:Int) (hc:iS H f is so ao (.ref c)) (ok:so.ok μ) (sz:so.size<=1000) (old:sj pds f is so ao):Bk H pds f is (.ref c)
def Bk.tm{H a:Hp}{p:ri cq}{f:ρ}{i:ri Int}{v:V}(h:Bk H p f i v)(k:ai H a):Bk a p f i v:=by
 cases h with
 |s t=>rwa[.s t]
 |b c S A d O e o=>rwa[.b c S A (d.mono' k) O e o]
def RR.bk{M:Nat}(d:M<=300){H:Hp}{p:ri cq}{C:aO}{f:ρ}{i:ri Int}{v:V}(h:RR M H p C f i v):Bk H p f i v:=by
 cases h with
 |ok c S b L e a ok D g=>rwa[.b c S b a ok LA #[M,C,16,[],0,L,S.size,e]]
 |long e |deep e=>rwa[.s _]
structure xj(K:Ψ)(H:Hp)(a nA pA ta:ζ)(ds:ri Df)(nl:ri Nat)(xs:ri V)(pds:ri cq)(is ns:ri Int):Prop where
 ps:Ps H nA pA ds nl xs pds
 ag:H ta=δ (.tup$ is.map qs)
 sq:aI K H a (ns.map qs)
def xj.kp{K:Ψ}{H b:Hp}{a n c t:ζ}{d:ri Df}{N:ri Nat}{x:ri V}{p:ri cq}{i e:ri Int}(h:xj K H a n c t d N x p i e)(k:Kp H b):xj K b a n c t d N x p i e:=#[h.ps.mono$ Kp.tm k,Kp.tm k _ _ h.ag,Kp.seq k h.sq]
def xj.bc{K:Ψ}{H d:Hp}{a n g t c:ζ}{D:ri Df}{N:ri Nat}{x:ri V}{p:ri cq}{i j:ri Int}{C:aO}(h:xj K H a n g t D N x p i j)(f:H c=δ (.dK C))(k:aB c H d):xj K d a n g t D N x p i j:=by
 let T:ai H d:=λb x e=>k _ _ (λz=>by rw[z,f]at e;cases e) e;erw[#[h.ps.mono T,T _ _ h.ag,?_]];rcases h.sq with (z | ⟨o,z⟩) |z
 .rwa[.inl$ .inl$ k _ _ (λy=>by rw[y,f]at z;cases z) z]
 .rwa[.inl$ .inr #[o,k _ _ (λy=>by rw[y,f]at z;cases z) z]]
 .rwa[.inr z]
def xX{d:Int}(a:0<=d)(H:d < 4):∃M:Nat,dN [qs 60,.int 60,.int 60,.int 300] d=δ (.int (M:Int))/\(M=60∨M=300):=by
 obtain⟨n,rfl⟩:∃n:Nat,d=(n:Int):=#[d.toNat,LA]
 match n,H with
 |0,_ |1,_ |2,_=>exact#[60,jE Z,.inl Z]
 |3,_=>exact#[300,jE Z,.inr Z]
 |n+4,h=>exact(LA:False).elim
inductive IM(a p r u k t:ζ)(f:ρ)(M:Nat)(v w:V)(d e g:rm V)(j:Hp)(s i:Nat)(x:_L.St)(h:Hp):Prop
 |mk(b c:rm V)(D:aO)(l:x=[↑a,↑p,↑r,δ (.str f),↑u,↑t,↑k,δ (.int (M:Int)),δ v,δ w,b,c,d,e,g])(m:h k=δ (.dK D))(n:GT D)(o:ο D<=s+i)(q:aB k j h)
inductive IN(K:Ψ)(a p r z l y u:ζ)(M:Nat)(d:Df)(n:ri Df)(v:ri Nat)(D:ri V)(h:ri cq)(s w:ri Int)(k:Nat)(E:_L.St)(i:Hp):Prop
 |mk(A:V)(x b c e f g:rm V)(C:aO)(o:E=[↑a,↑p,↑r,δ (.str d.f),↑z,↑y,↑l,δ (.int (M:Int)),δ A,x,b,c,e,f,g])(B:xj K i a u y z n v D h s w)(m:i l=δ (.dK C))(q:GT C)(t:ο C<=13+100*k)(j:Bk i h d.f s A)
def EZ{A:bx}{k:Nat}(h:bJ k A):A.units+101+1 < cLine:=by let:=h.un;omega
def cf:ak ["_law_script","_law_box_here","_law_program","_law_f","_law_args","_law_parts","_law_cells_here","_law_most","_law_book","_law_k","_law_cell","_law_number_here","_law_due","_law_handed","_law_told"] ["_law_script"] (aa og):=bG
def C0{f:ζ}{fd:bU}{nA fB fK fM fC fG fT fU fL:ζ}{f0 f3 f4 f5 f6 f7 f9 f':bU}(F:rc K "law" og f fd)(cB:‹1› fB f0 ["_law_script","_law_k"] (ph K) "_law_box")(cK:‹23› fK f3 z2z ma "_law_case")(cM:‹65› fM f4 ["program"] (md K nA) "made")(cC:‹3› fC f5 z2z ik "_law_cells")(cG:‹3› fG f6 ["_law_box_here","_law_most"] pi "_law_changes")(cT:‹1› fT f7 z0z aY "_law_take")(cU:‹46› fU f9 z35z (pf nA) "_law_begun")(cL:‹72› fL f' z36z (pC nA) "_law_renewed")(m2:mg "dict"=θ)(m0:mg "isinstance"=θ)(m1:mg "str"=θ)(m3:mg "max"=θ)(m4:mg "min"=θ)(ml:mg "len"=θ)(mr:mg "range"=θ)(N:kitOne K (.type "str") (.type "str")=δ μ)(k0:kitOne K (.type "tuple") (.type "str")=δ ν):⇑73 f fd ["_law_script"] (mV K):=by
 erw[F.ok cf λg2 A o4 s H vs Q E O h=>?_]
 let⟨a,ns,rfl,hS,g4,q⟩:=h;erw[#[_,(jd (jx 1 cf.nd$ cB.e O.m$ ja (pv 0)$ ja jf jb)$ jd (zg (cK.e O.m$ ja (pv 1) jb)$ zQ (n:=3) Z$ jC (jy (i:=2) cf.nd Z$ ψ Z)$ jC (jy (i:=3) cf.nd Z$ ψ Z)$ jC (jy (i:=4) cf.nd Z$ ψ Z) kN)$ jd (jx 5 cf.nd$ cM.e O.m$ ja (pv 2) jb)$ jd (jx 6 cf.nd$ cC.e O.m$ ja (cB.e O.m$ ja (pv 0)$ ja jf jb) jb)$ jd (jx 7 cf.nd$ jr jq (jK$ ja jf$ ja jf$ ja jf$ ja jf jb) (cT.e O.m$ ja (pv 1)$ ja jf jb) ∅)$ jd (jw (PW.pt$ qh (za$ pv 7)$ zF$ za$ jG jI Z ml M9$ ja (pv 4) jb) (jg$ jx 4 cf.nd$ jh$ ja (cT.e O.m$ ja (pv 1)$ ja jf jb) jb) jp)$ jd (jx 8 cf.nd$ cU.e O.m$ ja (pv 5)$ ja (pv 3)$ ja (pv 4)$ ja (pv 6)$ ja (pv 7) jb)$ jd (kh M3 Z (kI Z mr$ ja (ju ki (jG (ZZ Z) Z m3 boot_max$ ja jf$ ja (jG (Z0 Z) Z m4 boot_min$ ja (ju ki jf$ ju yv (pv 7) jf)$ ja (jG jI Z ml M9$ ja (pv 0) jb) jb) jb) jf) jb) (jy (i:=9) cf.nd Z$ ψ Z)$ jd (kh M3 Z (qA$ cG.e O.m$ ja (cB.e O.m$ ja (pv 0)$ ja (ju jW jf$ pv 9) jb)$ ja jf jb) (zQ (n:=2) Z$ jC (jy (i:=10) cf.nd Z$ ψ Z)$ jC (jy (i:=11) cf.nd Z$ ψ Z) kN)$ jg$ Jb (z9 O) (pv 6) (pv 10) (pv 11) Z)$ jd (jx 12 cf.nd$ cU.e O.m$ ja (pv 5)$ ja (pv 3)$ ja (pv 4)$ ja (pv 6)$ ja (pv 7) jb)$ jd (jw (Ki$ jG zf Z m0 O8$ ja (pv 8)$ ja (q9 (v:=.ty "str") Z m1 Tb Z) jb) (jg$ jx 8 cf.nd$ pv 12) jp)$ jd (jx 13 cf.nd$ jF JB Z m2 UM$ ja (pv 6) jb)$ jd (jw (Yg$ Ki$ jG zf Z m0 O8$ ja (pv 8)$ ja (q9 (v:=.ty "str") Z m1 Tb Z) jb) (jd (jx 14 cf.nd$ cL.e O.m$ ja (pv 5)$ ja (pv 8)$ ja (pv 6)$ ja (pv 7) jb)$ jd (jw (PW.pt$ Qm (PW.pt$ qh (Ki$ jG zf Z m0 O8$ ja (pv 12)$ ja (q9 (v:=.ty "str") Z m1 Tb Z) jb)$ zF$ jA Qn (pv 14) (pv 12)$ aG _)$ Jr$ PW.pt$ qh (Yg$ Ki$ jG zf Z m0 O8$ ja (pv 12)$ ja (q9 (v:=.ty "str") Z m1 Tb Z) jb)$ zF$ jA (Di (d:=101)$ EZ O) (jJ kC (pv 14) jV$ jH jf) (jh$ ja (pv 12) jb)$ aG _) (jg$ jo$ @uG _ _ _ _) jp)$ jg$ jw (Yg$ Ki$ jG zf Z m0 O8$ ja (pv 12)$ ja (q9 (v:=.ty "str") Z m1 Tb Z) jb) (jg$ jx 8 cf.nd$ pv 12) jp) jp)$ jg$ jw (jA (Dh$ RJ$ z9 O) (pv 13) (pv 6)$ aG _) (jg$ jo$ @uG _ _ _ _) jp)$ jg$ jo$ @uG _ _ _ _),?_]];let g5:=aH;erw[aj λR u=>#[_,Z,a,ns,1,Z,hS,LB,LB,λp H1 np B1 e1=>u _ _ ?_]];clear u;let s1:ae H H1:=λb o e=>by rw[e1 b$ jk e np];rwa[e]
 erw[aj λR u=>#[_,Z,p,Z,B1,λt r v2 v3 ds x1 H3 ht a' hD h1 h8 nl hN a0 d4 B3 k3=>#[t,_,Z,aD.of ht,Z,_,_,Z,_,_,Z,_,_,Z,Z,u _ _ ?_]]];clear u;let s3:ae H H3:=λb o e=>k3 _ _ (jk e np) (s1 _ _ e);let⟨d,ps,t0,i1,hd,rfl,b4,rfl,h',d5,d6,h4⟩:=d4;let⟨i0,hi,ei⟩:=gr.mp hd;let h6:ds[i0]?=δ d:=by rw[<- ei];rwa[Mf hi]
 let L:=Dl a0 h6 b4;rw[<- d5]at L;erw[aj λR u=>#[_,Z,r,ds,x1,Z,a',hD,LA,λd hd=>(hN.1 d hd).1,λv H4 hv s4=>u _ _ ?_]];clear u;let⟨Y,xs,rfl,b5,b7⟩:=J8 hv;let⟨G,b9⟩:=FK b5 b7 #[x1,hD.mono$ ae.tm s4] hN (a0.mono$ ae.tm s4);let B4:=B3.same s4;let s5:=s3.trans s4;erw[aj λR u=>#[_,Z,a,ns,2,Z,s5.seq hS,LB,LB,λp5 H5 n3 B5 e5=>#[p5,Z,B5,λI Cs H6 n7 b' gC lC B6 k6=>u _ _ ?_]]];clear u;let s6:ae H4 H6:=λb o e=>k6 _ _ (jk e n3) (by rw[e5 b$ jk e n3];rwa[e]);let B2:=B4.same s6;let cp:I≠p:=λz=>by let⟨_,_,_,_,_,g⟩:=B2.ob;rw[<- z,b']at g;cases g
 erw[aj λR u=>#[sd,λl n0=>#[_,Z,p,4,Z,B2.upd_new n0,LB,LB,λdg H7 d0 d1 B7 e7=>?_]]];let⟨M,c1,hM⟩:=xX d0 d1;erw[#[l,_,_,_,Z,Z,aI.of (by rw[e7 l$ B2.ne n0];rwa[jc]),c1,u _ _ ?_]];clear u;let h2:M<=300:=LA
 let k7:aB p H6 H7:=(aB.refl.upd_new n0).trans (aB.of_eq e7);let t1:ai H6 H7:=k7.tm B2;let w7:∀(x0:ri V) (b:ζ),H4 b=δ (.tup x0)->H7 b=δ (.tup x0):=λx0 b e=>t1 _ _ (s6 _ _ e);let s':ae H H7:=λb o e=>k7 _ _ (jk e np) (s6 _ _$ s5 _ _ e);let c3:aI K H7 a (ns.map qs):=s'.seq hS;let w0:xj K H7 a nA Y t0 ds nl xs G i1 ns:=#[b9.mono λb o e=>w7 _ _ e,w7 _ _$ s4 _ _ h',c3];let c7:H7 I=δ (.dK Cs):=k7 _ _ cp b';clear w7 c3 t1 b9 c1 e7 n0 B2 B6 B5 B4 B3 B1 s6 s5 s4 s3 s1 h' b4 hD a0 a' ht hv b5 b7 k6 k3;show eO _ _ _ [↑a,↑p,↑r,δ$ .str d.f,↑t0,↑Y,↑I,δ$ .int (M:Int),θ,θ,θ,θ,θ,θ,θ] H7;erw[aj λR u=>?_];suffices go:∀(ta:ζ) (is:ri Int) (H8:Hp),xj K H8 a nA Y ta ds nl xs G is ns->nl[i0]?=δ (ο is)->(∀z∈is,eL z)->H8 I=δ (.dK Cs)->R [↑a,↑p,↑r,δ$ .str d.f,↑ta,↑Y,↑I,δ$ .int (M:Int),θ,θ,θ,θ,θ,θ,θ] H8 by
  clear u;erw[oE λG1 yT yF=>#[_,Z,Z,_,Z,?_]];by_cases h3:M=300
  .erw[b8 (by rw[h3];rwa[MN Z]) #[_,Z,t0,_,Z,.inr$ aD.of w0.ag,Z,_,Z,?_]];by_cases h1:ο i1=1
   .let eo:decide (qs ((1:Nat):Int)=qs (1:Int))=μ:=MN Z;rw[Mi,h1,eo];refine yT _ #[_,Z,p,40,Z,B7,LB,LB,λd8 H8 g6 g7 B8 e8=>#[io,λtp n4=>go tp [d8] _ ?_ (by rw[L,h1];rfl) (λz hz=>?_) ?_]]
    .let k8:aB p H7 H8:=aB.of_eq e8;let t4:=k8.tm B7;let s9:ae H8 (ah H8 tp$ .tup [.int d8]):=je n4;let d7:ae H H8:=λb o e=>k8 _ _ (jk e np) (s' _ _ e);exact#[(w0.ps.mono t4).mono$ ae.tm s9,jc,(d7.trans s9).seq hS]
    .rw[τ.mp hz];exact#[LA,LA]
    .rwa[am (by rw[e8 I cp];rwa[c7]) n4]
   .rw[Mi,My (λz=>h1 (by injection z with z;omega))];rwa[yF _$ go t0 i1 H7 w0 L h4 c7]
  .rwa[aT (My (λz=>h3 (by injection z with z;omega)))$ yF _$ go t0 i1 H7 w0 L h4 c7]
 intro ta is H8 w6 a1 a2 c8;erw[u _ _ ?_];clear u w0 c7 L h4 B7 k7;erw[aj λR u=>#[_,Z,_,Z,_,Z,_,Z,_,Z,M,Y,ta,I,i0,Cs,d,ds,nl,xs,G,is,Z,h2,w6.ps,h6,a1,w6.ag,a2,c8,gC,λvb H9 r2 k9=>u _ _ ?_]];clear u;let w5:=w6.kp k9;let c9:=k9 _ _ Xo c8;let b0:=r2.bk h2;clear r2 k9 c8 w6;erw[aj λR u=>eM λJ j=>#[_,Z,_,_,Z,Z,#[LB,LB],_,_,Z,Z,_,Z,a,_,Z,.inl w5.sq,_,_,Z,_,_,Z,_,_,Z,Z,_,Z,?_,?_,j _ _ ?_]]
 .omega
 .omega
 clear j;erw[kn (lo:=0) (IN K a p r ta I Y nA M d ds nl xs G is ns) #[vb,θ,θ,θ,θ,θ,θ,Cs,Z,w5,c9,gC,LA,b0] ?_ (λσ H' h=>u _ _ ?_)]
 .clear u;intro E rt k σ HC hk fE Gq kq h;let⟨vb,o9,S,T,o3,o1,U,C,rfl,wd,ce,gc,lc,bk⟩:=h;erw[kq ?_];clear kq;show eO (Ah _ _ _) _ _ [↑a,↑p,↑r,δ$ .str d.f,↑ta,↑Y,↑I,δ$ .int (M:Int),δ vb,δ$ .int ((0:Int)+k),S,T,o3,o1,U] HC;erw[aj λR u=>eM λJ j=>#[_,Z,_,Z,_,_,Z,Z,a,ns,3+((0:Int)+k),Z,wd.sq,LA,LA,λp7 H7 n1 B7 e7=>#[p7,3,Z,B7,LB,LB,λl zs H8 n6 h5 pV lV B8 k8=>#[l,Z,#[_,aI.of h5],j _ _ ?_]]]];clear j;let s8:ae HC H8:=λb o e=>k8 _ _ (jk e n1) (by rw[e7 b$ jk e n1];rwa[e]);refine QK (K:=K) (a:=l) (xs:=zs) (IM a p r ta I Y d.f M vb (.int ((0:Int)+k)) o3 o1 U H8 C.length) #[_,_,C,Z,s8 _ _ ce,gc,Mj _,λ_ _ _ e=>e] (λk σ H' _ h=>?_) ?_ (λσ H' h=>u _ _ ?_)
  .let⟨_,_,_,_,_,_,_,kk⟩:=h;rwa[aI.of$ kk _ _ (λz=>by rw[z,s8 _ _ ce]at h5;cases h5) h5]
  .clear u;intro E rt k' x σ HD c4 fE Gq kq h;let⟨S,T,D,rfl,w1,w2,w3,w4⟩:=h;erw[kq ?_];clear kq;let⟨qq,cc,ii,rfl,hq,d'⟩:=pV x (MM c4);let hq:=w4 _ _ (λz=>by rw[z,s8 _ _ ce]at hq;cases hq) hq;let g8:=(ξ.mp c4).1;let pl:=zN (kvs:=D) (k:=.inl cc) (v:=.int ii);erw[#[qq,_,Z,aD.of hq,Z,_,_,Z,_,_,Z,Z,#[_,Z,_,Z,_,Z,I,_,Z,nK.k (k:=.inl cc) w1 LA,fE _ _ #[_,_,_,Z,jc,w2.put _ d',LA,λb o nb e=>by rw[ji nb];rwa[w4 _ _ nb e]]]]]
  let⟨S,T,D,rfl,w1,w2,w3,w4⟩:=h;let w8:=(wd.kp$ Kp.of_same s8).bc (s8 _ _ ce) w4;let t2:ai HC H':=λb xs e=>w4 b _ (λz=>by let:=s8 _ _ e;rw[z,s8 _ _ ce]at this;cases this) (s8 _ _ e);let c5:=bk.tm t2;let lD:ο D<=13+100*(k+1):=LA
  clear bk w3 w4 t2 wd s8 k8 B8 pV h5 n6 e7 B7 n1 lc gc ce lV;erw[aj λR u=>#[_,Z,_,Z,_,Z,_,Z,_,Z,M,Y,ta,I,i0,D,d,ds,nl,xs,G,is,Z,h2,w8.ps,h6,a1,w8.ag,a2,w1,w2,λvd H9 rr k9=>u _ _ ?_]];clear u;let w5:=w8.kp k9;let c9:=k9 _ _ Xo w1;let b0:=c5.tm (Kp.tm k9);clear k9 w1 w8 c5;show eO _ _ _ [↑a,↑p,↑r,δ$ .str d.f,↑ta,↑Y,↑I,δ$ .int (M:Int),δ vb,δ$ .int ((0:Int)+k),S,T,δ vd,o1,U] H9;erw[aj λR u=>?_];suffices go:∀v1,Bk H9 G d.f is v1->R [↑a,↑p,↑r,δ$ .str d.f,↑ta,↑Y,↑I,δ$ .int (M:Int),δ v1,δ$ .int ((0:Int)+k),S,T,δ vd,o1,U] H9 by
   clear u;cases b0 with
   |s t=>exact#[_,Z,_,_,_,_,_,Z,Z,.str _,N,_,Z,b8 Z #[_,Z,go _ (rr.bk h2)]]
   |b c so ao hc ok sz o2=>let⟨c',g',e',s7,ec,a3,_⟩:=id hc;cases ec;exact#[_,Z,_,_,_,_,_,Z,Z,.tup a3,k0,_,Z,aT Z$ go _$ .b _ so ao hc ok sz o2]
  intro v1 c6;erw[u _ _ ?_];clear u b0;erw[aj λR u=>#[_,Z,I,D,Z,c9,λW n5=>u _ _ ?_]];clear u;let s0:ae H9 (ah H9 W$ .dK D):=je n5;let e0:ah H9 W (.dK D) W=δ (.dK D):=jc;generalize ah H9 W (.dK D)=H0 at s0 e0;let w9:=w5.kp (Kp.of_same s0);let c0:=s0 _ _ c9;let b3:=c6.tm (ae.tm s0);let r0:=rr.tm (ae.tm s0);clear c6 rr c9 w5 s0 n5;erw[aj λR u=>?_];suffices go:∀(v2:V) (U:rm V) (HH:Hp),Kp H0 HH->Bk HH G d.f is v2->R [↑a,↑p,↑r,δ$ .str d.f,↑ta,↑Y,↑I,δ$ .int (M:Int),δ v2,δ$ .int ((0:Int)+k),S,T,δ vd,↑W,U] HH by
   clear u;cases b3 with
   |s t=>exact#[_,Z,_,_,_,_,_,Z,Z,.str _,N,_,Z,aT Z (go _ _ _ (λ_ _ _ e=>e) (.s t))]
   |b c so ao hc ok sz o2=>
    let⟨c',g',e',s7,ec,a3,_⟩:=id hc;cases ec;erw[#[_,Z,_,_,_,_,_,Z,Z,.tup a3,k0,_,Z,b8 Z ?_]];erw[aj λF2 f2=>#[_,Z,_,Z,_,Z,_,Z,M,Y,I,c,i0,D,so,ao,d,ds,nl,xs,G,is,Z,h2,w9.ps,h6,a1,a2,c0,w2,hc,ok,sz,o2,λvt H2 rt k1=>f2 _ _ ?_]];clear f2;let r1:=r0.tm (Kp.tm k1);erw[aj λF2 f2=>?_];suffices g0:∀HH,Kp H2 HH->F2 [↑a,↑p,↑r,δ$ .str d.f,↑ta,↑Y,↑I,δ$ .int (M:Int),↑c,δ$ .int ((0:Int)+k),S,T,δ vd,↑W,δ vt] HH by
     clear f2 go;erw[oE λG1 yT yF=>?_];cases r1 with
     |ok c2 s2 b2 _L y h7 o5 e2 bN=>
      cases rt with
      |ok pp ll vv sk b1 L1 B ep a4 X d2 io=>
       rw[B]at y;cases y;let⟨c',g',e',s7,ec,h0,_⟩:=id h7;cases ec;erw[#[_,Z,_,_,_,_,_,Z,Z,.tup h0,k0,_,Z,aT Z$ aT Z #[_,Z,_,_,_,_,_,Z,Z,.tup h0,k0,_,Z,b8 Z #[_,Z,_,Z,pp,_,Z,ep,λq2 i2 e3 d3=>#[_,Z,_K.io,λq3 n2=>?_]]]]];let t3:=ae.tm (d3.trans$ je (o:=.tup [.ref c2]) n2);let dp:=BP (f:=d.f) (is:=is) (a:=b2) X d2;let e4:(aC [.tp$ BO d.f is s2 b2]).dep < 101:=by show max ((BO d.f is s2 b2).dep+1) 0 < 101;omega
       exact#[aC [.tp$ BO d.f is s2 b2],aC [.tp$ BO d.f is s2 b2],e4,#[AC X,trivial],#[AC X,trivial],jD (am e3 n2)$ jm Z (AD (a4.mono' t3) X) jB,jD jc$ jm Z (AD (h7.mono' t3) X) jB,by rw[qe Z];exact#[_,Z,yF _$ g0 _$ Kp.of_same$ d3.trans$ je n2]]
      |long B |deep B=>rw[B]at y;cases y
     |long y=>
      cases rt with
      |ok pp ll vv sk b1 L1 B ep a4 X d2 io |deep B=>rw[B]at y;cases y
      |long B=>exact#[_,Z,_,_,_,_,_,Z,Z,.str _,N,_,Z,b8 Z #[_,Z,_,Z,Z,_,Z,by rw[MN Z];rwa[aT Z #[_,Z,_,_,_,_,_,Z,Z,.str _,N,_,Z,aT Z (yF _ (g0 _ λ_ _ _ e=>e))]]]]
     |deep y=>
      cases rt with
      |ok pp ll vv sk b1 L1 B ep a4 X d2 io |long B=>rw[B]at y;cases y
      |deep B=>exact#[_,Z,_,_,_,_,_,Z,Z,.str _,N,_,Z,b8 Z #[_,Z,_,Z,Z,_,Z,by rw[MN Z];rwa[aT Z #[_,Z,_,_,_,_,_,Z,Z,.str _,N,_,Z,aT Z (yF _ (g0 _ λ_ _ _ e=>e))]]]]
    intro HH kk;erw[f2 _ _ ?_];clear f2 rt;let r3:=r1.tm (Kp.tm kk);let e6:=r3.bk h2;let e9:Bk HH G d.f is (.ref c):=.b c so ao (hc.mono'$ Kp.tm$ k1.trn kk) ok sz o2;clear r1 r0 hc;cases r3 with
    |ok c2 s2 b2 _L y h7 o5 e2 bN=>let⟨c',g',e',s7,ec,h0,_⟩:=id h7;cases ec;exact#[_,Z,_,_,_,_,_,Z,Z,.tup h0,k0,_,Z,b8 Z #[_,Z,go _ _ HH (k1.trn kk) e6]]
    |long y |deep y=>exact#[_,Z,_,_,_,_,_,Z,Z,.str _,N,_,Z,aT Z (go _ _ HH (k1.trn kk) e9)]
  intro v2 U HH kk g1;erw[u _ _ ?_];clear u b3 r0;exact#[_,Z,_,Z,W,I,D,Z,Z,kk _ _ Xo e0,kk _ _ Xo c0,(λq hq=>let #[i,e,_]:=w2 q hq;#[i,e]),_,Z,aT Z$ fE _ _ #[v2,_,_,_,_,_,_,D,Z,w9.kp kk,kk _ _ Xo c0,w2,lD,g1]]
 .let⟨_,_,_,_,_,_,_,_,rfl,_⟩:=h;rwa[q _]
def Fo{f:ζ}{F:bU}{k:Nat}{C T a n:ζ}:af P w K mg base (cR P w) k f F z15z (mN C T a n 0):=by
 let N:∀{v H Q E},¬mN C T a n 0 v H Q E:=by rintro v H Q E ⟨M,r,g,j,l,m,q,p,c,u,D,t,x,i,L,y,S,B,d,G,I,X,e,J,_,_,z,_⟩;omega
 exact#[λv H Q E h=>(N h).elim,λA o s H b U v Q E O R V W h=>(N h).elim]
def IX{C T t n h z A B i fP fN fG fL fV fI fE fO fK fF:ζ}{f F a b c k l o p q r s u v x:bU}(y:RK K C)(N:aW K C "anew")(D:aN K "chain_along" "AgainRun.chain_along" yI h f)(E:au K f z15z [])(m:a7 K C "chain_along" h)(G:aN K "what_along" "AgainRun.what_along" yJ z F)(H:au K F z23z [])(M:a7 K C "what_along" z)
  (I:∀j,af P w K mg base (cR P w) (2*j+13) A a z11z$ gU C T t n j) (J:au K a z11z []) (d:a7 K C "what_of" A) (GT:af P w K mg base (cR P w) 1 B b ["self"] (eE C T)) (L:au K b ["self"] []) (e:a7 K C "take_turn" B) (O:af P w K mg base (cR P w) 1 i c ["deep"] (dj t)) (Q:au K c ["deep"] []) (R:fr K (.ref i)=μ) (S:mg "deeper"=↑i) (U:‹36› fP k z9z (mZ 17) "paths_at")
  (V:‹2› fN l ["parts","f"] iM "part_of") (W:‹1› fG o ["chain","number"] mQ "goal_at") (X:‹1› fL p ["steps","mark","cut"] iK "like_from") (Y:‹2› fV q ["steps","mark","deed"] iJ "lender_from") (cI:‹1› fI r ["what"] lh "deed_in") (cE:‹9› fE s z8z (dR n) "deed_at") (cO:‹9› fO u ["part","step"] (ou n) "onward") (cK:‹1› fK v ["steps","at"] ls "chain_taken") (cF:‹1› fF x ["what"] iG "found_in") (ml:mg "len"=θ) (g:mg "tuple"=θ):∀j,af P w K mg base (cR P w) (2*j+38) h f z15z (mN C T t n j)
 |0=>Fo
 |j+1=>Fq D y N V W X Y cI cE cO cK cF (Fs G y N (I j) J d GT L e (IX y N D E m G H M I J d GT L e O Q R S U V W X Y cI cE cO cK cF ml g j) E m O Q R S U) H M ml g
@[elab_as_elim] theorem Lr{P:ri η->Prop}(u:ri η)(h:ο u=1)(q:∀a,P [a]):P u:=by
 cases u with
 |nil=>cases h
 |cons a r=>
  cases r with
  |nil=>rwa[q a]
  |cons _ _=>cases h
def _root_._L.aN.b1{K:Ψ}{st:cv}{p:ri ρ}(F:aN K x q st f g)(h:∀(kV d b:η) (A:rm ζ) (c C a:η),bindArgs (pz x q (bK st) (bh st) (aa st) .none kV d b A c C) #[[a],[]]=pure (p.zip [a]):=by intros;rfl)(e:↥(ο p=1)):au K g p []:=F.binds λkV d b A c C u H=>Lr u (H.trans e) λa=>h kV d b A c C a
@[elab_as_elim] theorem Ls{P:ri η->Prop}(u:ri η)(h:ο u=2)(q:∀a b,P [a,b]):P u:=by
 cases u with
 |nil=>cases h
 |cons a r=>
  cases r with
  |nil=>cases h
  |cons b R=>
   cases R with
   |nil=>rwa[q a b]
   |cons _ _=>cases h
def _root_._L.aN.b2{K:Ψ}{st:cv}{p:ri ρ}(F:aN K x q st f i)(h:∀(kV d g:η) (A:rm ζ) (c C a b:η),bindArgs (pz x q (bK st) (bh st) (aa st) .none kV d g A c C) #[[a,b],[]]=pure (p.zip [a,b]):=by intros;rfl)(e:↥(ο p=2)):au K i p []:=F.binds λkV d g A c C u H=>Ls u (H.trans e) λa b=>h kV d g A c C a b
@[elab_as_elim] theorem Lu{P:ri η->Prop}(u:ri η)(h:ο u=3)(q:∀a b c,P [a,b,c]):P u:=by
 cases u with
 |nil=>cases h
 |cons a r=>
  cases r with
  |nil=>cases h
  |cons b R=>
   cases R with
   |nil=>cases h
   |cons c d=>
    cases d with
    |nil=>rwa[q a b c]
    |cons _ _=>cases h
def _root_._L.aN.b3{K:Ψ}{st:cv}{p:ri ρ}(F:aN K x q st f j)(h:∀(kV d g:η) (A:rm ζ) (C i a b c:η),bindArgs (pz x q (bK st) (bh st) (aa st) .none kV d g A C i) #[[a,b,c],[]]=pure (p.zip [a,b,c]):=by intros;rfl)(e:↥(ο p=3)):au K j p []:=F.binds λkV d g A C i u H=>Lu u (H.trans e) λa b c=>h kV d g A C i a b c
@[elab_as_elim] theorem Lv{P:ri η->Prop}(u:ri η)(h:ο u=4)(q:∀a b c d,P [a,b,c,d]):P u:=by
 cases u with
 |nil=>cases h
 |cons a r=>
  cases r with
  |nil=>cases h
  |cons b R=>
   cases R with
   |nil=>cases h
   |cons c e=>
    cases e with
    |nil=>cases h
    |cons d f=>
     cases f with
     |nil=>rwa[q a b c d]
     |cons _ _=>cases h
def _root_._L.aN.b4{K:Ψ}{st:cv}{p:ri ρ}(F:aN K x q st f j)(h:∀(kV D g:η) (A:rm ζ) (C i a b c d:η),bindArgs (pz x q (bK st) (bh st) (aa st) .none kV D g A C i) #[[a,b,c,d],[]]=pure (p.zip [a,b,c,d]):=by intros;rfl)(e:↥(ο p=4)):au K j p []:=F.binds λkV D g A C i u H=>Lv u (H.trans e) λa b c d=>h kV D g A C i a b c d
@[elab_as_elim] theorem Lw{P:ri η->Prop}(u:ri η)(h:ο u=5)(q:∀a b c d e,P [a,b,c,d,e]):P u:=by
 cases u with
 |nil=>cases h
 |cons a r=>
  cases r with
  |nil=>cases h
  |cons b R=>
   cases R with
   |nil=>cases h
   |cons c f=>
    cases f with
    |nil=>cases h
    |cons d g=>
     cases g with
     |nil=>cases h
     |cons e i=>
      cases i with
      |nil=>rwa[q a b c d e]
      |cons _ _=>cases h
def _root_._L.aN.b5{K:Ψ}{st:cv}{p:ri ρ}(F:aN K x q st f j)(h:∀(kV D g:η) (A:rm ζ) (C i a b c d e:η),bindArgs (pz x q (bK st) (bh st) (aa st) .none kV D g A C i) #[[a,b,c,d,e],[]]=pure (p.zip [a,b,c,d,e]):=by intros;rfl)(e:↥(ο p=5)):au K j p []:=F.binds λkV D g A C i u H=>Lw u (H.trans e) λa b c d e=>h kV D g A C i a b c d e
def dW(K:Ψ)(p q:ρ)(st:cv)(f:ζ):Prop:=∃(o:η) (O:rm ζ) (kV d a:η) (A:rm ζ) (c C:η) (s:Array (rm η)),K.lookup f=δ #[o,O,.func$ pz p q (bK st) (bh st) (aa st) .none kV d a A c C,s]/\codeIn K c q=μ/\fr K (.ref f)=μ
def b6(K:Ψ)(p:ρ)(st:cv)(f:ζ):Prop:=nsIn K Φ p=δ (↑f)/\dW K p p st f
section
variable {K:Ψ}{py q:ρ}{st:cv}{f:ζ}{oc:η}{od:rm ζ}{kV dc pm:η}{an:rm ζ}{cd ct:η}{sl:Array (rm η)}
def IY(l:K.lookup f=δ #[oc,od,.func$ pz py q (bK st) (bh st) (aa st) .none kV dc pm an cd ct,sl])(c:codeIn K cd q=μ)(k:fr K (.ref f)=μ):dW K py q st f:=#[_,_,_,_,_,_,_,_,_,l,c,k]
def IF(a:nsIn K Φ py=δ (↑f))(l:K.lookup f=δ #[oc,od,.func$ pz py py (bK st) (bh st) (aa st) .none kV dc pm an cd ct,sl])(c:codeIn K cd py=μ)(k:fr K (.ref f)=μ):b6 K py st f:=#[a,IY l c k]
def dW.go(h:dW K py q st f):∃F,aN K py q st f F/\fr K (.ref f)=μ:=by let⟨oc,od,kV,dc,pm,an,cd,ct,sl,l,c,k⟩:=h;exact#[_,tG l c k,k]
def b6.go{mg:ρ->rm η}(t:b6 K py st f)(X:K.In h)(G:h.Ns Φ mg):∃a,aN K py py st f a/\fr K (.ref f)=μ/\mg py=↑f:=by let⟨a,F,k⟩:=t.2.go;exact#[a,F,k,Rv X G t.1]
end
def BG{l:oS}{w:bS}{K:Ψ}{mg:ρ->rm η}(X:K.In h)(G:h.Ns Φ mg)(q':mg "law"=↑fa)
             
  (t0:b6 K "names_in" eu f3)
  (t1:b6 K "own_terms" DH r0)
  (t2:b6 K "used_behind_terms" vp fUb)
  (t3:b6 K "used_ahead_of" yS f6)
  (t4:b6 K "used_ahead" yR fUa)
  (t5:b6 K "bodies_in" DA r1)
  (t7:b6 K "many_cuts" u7 r2)
  (t8:b6 K "deed_of" uY r3)
  (t9:b6 K "place_of_give" lT f7)
  (t':b6 K "place_of_set" vf r4)
  (r5:b6 K "part_made" ve r6)
  (r7:b6 K "made" oO r8)
  (r9:b6 K "_law_box" DB r')
  (wO:b6 K "_law_take" vo s0)
  (s1:b6 K "_law_number" lQ s2)
  (s3:b6 K "_law_names" iz s4)
  (s5:b6 K "_law_term" oU s6)
  (s7:b6 K "_law_spot" vg s8)
  (s9:b6 K "_law_statement" vh fSt)
  (s':b6 K "_law_body" oM u0)
  (u1:b6 K "_law_any" Dx u2)
  (dU:b6 K "_law_op" Iq u3)
  (u4:b6 K "_law_inner" oe u8)
  (u9:b6 K "_law_looped" ie u')
  (v1:b6 K "_law_ticking" gf v2)
  (v3:b6 K "_law_busy" uV v4)
  (v5:b6 K "_law_case" oN v7)
  (v8:b6 K "joined" lO v9)
  (v':b6 K "worth" lU w0)
  (w1:b6 K "named" lP w2)
  (w3:b6 K "begun" nZ w4)
  (w5:b6 K "deeper" lK w6)
  (w7:b6 K "part_of" lS w8)
  (w9:b6 K "cut_at" n9 w')
  (x1:b6 K "held_at" lN x2)
  (x3:b6 K "worths" ig x4)
  (x5:b6 K "deed_at" lJ x7)
  (x8:b6 K "found_in" f8 f9)
  (x9:b6 K "end_of" lM x')
  (y0:b6 K "first_of" iy y1)
  (y2:b6 K "onward" lR y3)
  (y5:b6 K "run" DK y')
  (A1:b6 K "whats_at" yV A2)
  (A3:b6 K "whats_in" yW A5)
  (A8:b6 K "paths_at" yP A9)
  (A':b6 K "deed_in" DE B1)
  (B2:b6 K "goal_at" DF B3)
  (B4:b6 K "like_from" u6 B5)
  (B6:b6 K "chain_taken" DM B7)
  (B8:b6 K "again" Dw B9)
  (B':b6 K "lender_from" u5 C')
  (D':b6 K "_law_cells" n8 E1)
  (E2:b6 K "_law_changes" DC E3)
  (E4:b6 K "_law_begun" Dy E5)
  (E6:b6 K "_law_renewed" DJ E7)
  (tZ:b6 K "law" og fZ)
  (E8:nsIn K Φ "NOUGHT"=δ (↑u)) (E9:K.lookup u=δ #[.type "tuple",odN,.seq (ε [.str "num" rN0,.int 0 rN1]) nN,slN]) (E':nsIn K Φ "Cutting"=δ (↑i)) (v0:nsIn K Φ "TOP"=δ (δ$ .int 1000000000000000000 tTop)) (vD:nsIn K Φ "DEEPEST"=δ (δ$ .int 15 tD)) (vR:nsIn K Φ "BookRun"=δ (↑C)) (vT:nsIn K Φ "Turns"=δ (↑d0)) (vL:nsIn K Φ "AgainRun"=δ (↑c))
  (H0:nsIn K Φ "TooLong"=δ (↑x))
  (H1:nsIn K Φ "TooDeep"=δ (↑y))
  (H2:K.lookup x=δ #[ocxL,odxL,.cls cdxL,slxL]) (T:typeIn K (.ref x)=δ (.type "type")) (m6:mroIn K x (.type "BaseException")=δ μ) (k9:fr K (.ref x)=μ)
  (H3:K.lookup y=δ #[ocxD,odxD,.cls cdxD,slxD]) (L:typeIn K (.ref y)=δ (.type "type")) (m7:mroIn K y (.type "BaseException")=δ μ) (k':fr K (.ref y)=μ)
  (d1:mroIn K x (.ref x)=δ μ) (d2:mroIn K y (.ref x)=δ ν) (d3:mroIn K y (.ref y)=δ μ)
  (e0:excIn K x pM "ValueError.__new__"=μ) (e1:excIn K y pM "ValueError.__new__"=μ)
  (X':sE K x) (d4:sE K y)
  (rk:RK K C) (H4:Mk K C f0) (tm:sr K d0 "__init__" f4) (d5:a7 K C "take_turn" f1) (d6:a7 K C "number_in" f2) (m8:a7 K C "chain_of" f') (d7:a7 K C "what_of" f5)
  (ra:RK K c) (n6:aW K c "anew") (H5:Mk K c d8) (H6:sr K C "__init__" f0) (M:a7 K c "take_turn" f1) (m9:a7 K c "number_in" f2) (m':a7 K c "chain_of" f') (a2:a7 K c "what_of" f5) (a3:a7 K c "chain_along" d') (e2:a7 K c "what_along" H7)
  (ck:CK K i) (mk:Mk K i e3) (e4:a7 K i "place_of_body" e5) (H8:a7 K i "place_of" H9) (H':a7 K i "place_of_cut" I1) (I2:a7 K i "ways_of" I3)
  (I4:dW K "__init__" "Cutting.__init__" uZ e3)
  (I5:dW K "place_of_body" "Cutting.place_of_body" yM e5)
  (I6:dW K "place_of" "Cutting.place_of" yQ H9)
  (I7:dW K "place_of_cut" "Cutting.place_of_cut" yN I1)
  (I':dW K "ways_of" "Cutting.ways_of" yU I3)
  (J0:dW K "__init__" "Turns.__init__" vj f4)
  (K0:dW K "take_turn" "Turns.take_turn" oh f1)
  (K1:dW K "number_in" "Turns.number_in" vm f2)
  (K2:dW K "__init__" "BookRun.__init__" uU f0)
  (K3:dW K "chain_of" "BookRun.chain_of" yK f')
  (K4:dW K "what_of" "BookRun.what_of" yL f5)
  (K5:dW K "__init__" "AgainRun.__init__" uT d8)
  (K':dW K "chain_along" "AgainRun.chain_along" yI d')
  (L0:dW K "what_along" "AgainRun.what_along" yJ H7)
  (z4:nsIn K Φ "len"=δ θ)
  (z5:nsIn K Φ "int"=δ θ)
  (z0:nsIn K Φ "range"=δ θ)
  (z2:nsIn K Φ "list"=δ θ)
  (A:nsIn K Φ "reversed"=δ θ)
  (z1:nsIn K Φ "tuple"=δ θ)
  (O:nsIn K Φ "sorted"=δ θ)
  (z6:nsIn K Φ "set"=δ θ)
  (z7:nsIn K Φ "zip"=δ θ)
  (z3:nsIn K Φ "dict"=δ θ)
  (r:nsIn K Φ "enumerate"=δ θ)
  (p:nsIn K Φ "isinstance"=δ θ)
  (z8:nsIn K Φ "max"=δ θ)
  (z':nsIn K Φ "min"=δ θ)
  (e6:nsIn K Φ "str"=δ θ)
  (L1:kitOne K (.type "str") (.type "str")=δ μ)
  (L3:kitOne K (.type "tuple") (.type "str")=δ ν)
  :∃fd:bU,(∀(s:ι) (v:η),BindsTo s fd #[[v],[]] [("_law_script",v)])/\∀base:db,K.In base->base.Ns Φ mg->af l.prog w K mg base aF 73 fa fd ["_law_script"] (mV K):=by
 let e:=q'.symm.trans (Rv X G tZ.1);cases e;let⟨L4,B,k0,Q⟩:=t0.go X G;let⟨dOw,e7,L5,L6⟩:=t1.go X G;let⟨dUb,e8,kUb,L7⟩:=t2.go X G;let⟨dUo,F2,e9,a4⟩:=t3.go X G;let⟨dUa,e',kUa,L8⟩:=t4.go X G;let⟨dBi,g0,L9,L'⟩:=t5.go X G;let⟨dMc,a',g1,g2⟩:=t7.go X G;let⟨dDe,g4,N1,N2⟩:=t8.go X G;let⟨dPg,F3,g5,g6⟩:=t9.go X G;let⟨dPs,g7,N3,N'⟩:=t'.go X G;let⟨dPm,g8,O',P1⟩:=r5.go X G;let⟨dMa,g',P4,Q'⟩:=r7.go X G;let⟨dBx,h0,R1,R3⟩:=r9.go X G;let⟨dTk,F,k,m⟩:=wO.go X G;let⟨dNu,R,k1,m0⟩:=s1.go X G;let⟨dNm,b0,h1,h2⟩:=s3.go X G;let⟨dTm,F4,h3,b7⟩:=s5.go X G;let⟨dPo,h4,R4,R5⟩:=s7.go X G;let⟨dSt,h5,kSt,R7⟩:=s9.go X G;let⟨dBo,b9,R8,h6⟩:=s'.go X G;let⟨dAn,h7,R9,R'⟩:=u1.go X G;let⟨dOp,S,k2,m1⟩:=dU.go X G;let⟨dIn,h8,S0,S1⟩:=u4.go X G;let⟨dLo,h',S2,S3⟩:=u9.go X G;let⟨dTi,i0,S4,S5⟩:=v1.go X G;let⟨dBu,i1,S6,S7⟩:=v3.go X G;let⟨dCa,i2,S8,S9⟩:=v5.go X G;let⟨dJo,i3,S',T0⟩:=v8.go X G;let⟨dWo,U,k6,m2⟩:=v'.go X G;let⟨dNd,b',i4,i'⟩:=w1.go X G;let⟨dBe,j0,T1,T2⟩:=w3.go X G;let⟨dDp,V,k3,m3⟩:=w5.go X G;let⟨dPf,Y,k4,m4⟩:=w7.go X G;let⟨dCu,F0,k5,m5⟩:=w9.go X G;let⟨dHe,c0,j1,j2⟩:=x1.go X G;let⟨dWs,j',T9,T'⟩:=x3.go X G;let⟨dDa,F5,k7,c1⟩:=x5.go X G;let⟨dFo,F6,l0,l1⟩:=x8.go X G;let⟨dEn,c2,l2,l3⟩:=x9.go X G;let⟨dFi,c3,l4,l5⟩:=y0.go X G;let⟨dOn,F7,k8,c4⟩:=y2.go X G;let⟨dRu,l6,V0,V1⟩:=y5.go X G;let⟨dWa,F9,V2,l8⟩:=A1.go X G;let⟨dWi,c5,V3,l9⟩:=A3.go X G;let⟨dPa,l',V4,V5⟩:=A8.go X G;let⟨dDi,c6,n3,n4⟩:=A'.go X G;let⟨dGa,n5,V6,V7⟩:=B2.go X G;let⟨dLk,n7,V8,V9⟩:=B4.go X G;let⟨dKt,n',V',W0⟩:=B6.go X G;let⟨dAg,o1,W1,W2⟩:=B8.go X G;let⟨dLe,o2,W3,W4⟩:=B'.go X G;let⟨dCe,o3,W5,W6⟩:=D'.go X G;let⟨dCg,o4,W7,W8⟩:=E2.go X G;let⟨dBg,o5,W9,W'⟩:=E4.go X G;let⟨dRn,o6,Y',Z'⟩:=E6.go X G;let⟨dmI,o7,kmI⟩:=I4.go;let⟨dmB,c7,kmB⟩:=I5.go;let⟨dmO,o8,kmO⟩:=I6.go;let⟨dmC,o9,kmC⟩:=I7.go;let⟨dmW,o',kmW⟩:=I'.go;let⟨dTI,a0,kTI⟩:=J0.go;let⟨dTT,E,kTT⟩:=K0.go;let⟨dTN,F1,kTN⟩:=K1.go;let⟨dRI,a1,kRI⟩:=K2.go;let⟨dRC,I,kRC⟩:=K3.go;let⟨dRW,J,kRW⟩:=K4.go;let⟨dAI,p0,kAI⟩:=K5.go;let⟨dAL,c8,kAL⟩:=K'.go;let⟨dAW,p1,kAW⟩:=L0.go;let⟨ocZ,odZ,kVZ,dcZ,pmZ,anZ,cdZ,ctZ,slZ,lZ,cZ,kZ⟩:=tZ.2;let FZ:=tG (st:=og) lZ cZ kZ;let b:=NP X G z4;let D:=NP X G z5;let a:=NP X G z0;let n0:=NP X G z2;let d:=NP X G A;let N:=NP X G z1;let f:=NP X G O;let n1:=NP X G z6;let n2:=NP X G z7;let o:=NP X G z3;let t:=NP X G r;let q:=NP X G p;let p2:=NP X G z8;let p3:=NP X G z';let p4:=NP X G e6;let p5:nQ K u:=λH=>.inr #[_,_,_,E9,Z,Z,bN,(.cons #[_,Z] (.cons #[_,Z] .nil))];erw[#[pz "law" "law" (bK og) (bh og) (aa og) .none kVZ dcZ pmZ anZ cdZ ctZ,λs v=>.of_eq Z,λbase _ _=>?_]];generalize l.prog=P;let g:⇑1 s0 _ _ aY:=yr F;let GBx:⇑1 r' _ _ (ph K):=CU h0 b D;let G0:⇑2 s2 _ _ g9:=rN R #[g,F.b2,k,m];let p6:⇑2 s4 _ _ gq:=ut b0 g F.b2 k m a;let p7:⇑6 s6 _ _ (cw 4):=Bo (P:=P) (w:=w) (base:=base) F4 F4.b3 b7 #[g,F.b2,k,m] #[G0,R.b1,k1,m0] b 4;let GPo:⇑7 s8 _ _ iO:=yq h4 #[g,F.b2,k,m] #[p7,F4.b3,h3,b7];let SS:=Gj (P:=P) (w:=w) (base:=base) h5 b9 #[g,F.b2,k,m] #[p7,F4.b3,h3,b7] #[GPo,h4.b2,R4,R5] h5.b5 R7 b9.b5 h6 b N a;let GBo:⇑21 u0 _ _ (gO 6):=(SS 6).2;let GAn:⇑22 u2 _ _ o0:=CP h7 #[g,F.b2,k,m] #[p6,b0.b2,h1,h2] #[GBo,b9.b5,R8,h6] b a N D;let G1:⇑2 u3 _ _ mW:=Fv S #[g,F.b2,k,m];let GIn:⇑3 u8 _ _ (dm 2):=ur h8 #[g,F.b2,k,m] #[G1,S.b3,k2,m1];let GLo:⇑3 u' _ _ (dm 1):=rL h' #[g,F.b2,k,m] #[G1,S.b3,k2,m1] D N;let GTi:⇑3 v2 _ _ (dm 1):=Y1 i0 #[g,F.b2,k,m] #[G1,S.b3,k2,m1] D N;let GBu:⇑4 v4 _ _ l7:=yf i1 #[g,F.b2,k,m] #[G1,S.b3,k2,m1] #[p6,b0.b2,h1,h2] #[GLo,h'.b4,S2,S3] #[GTi,i0.b4,S4,S5] #[GIn,h8.b4,S0,S1];let GCa:⇑23 v7 _ _ ma:=yg i2 #[g,F.b2,k,m] #[G0,R.b1,k1,m0] #[GBu,i1.b1,S6,S7] #[GAn,h7.b3,R9,R'] b N;let NS:=A4 (P:=P) (w:=w) (base:=base) B B.b1 Q n1 f;let p9:⇑7 f3 _ _ (dn 6):=NS 6;let GNc:⇑7 f3 _ _ (pq K):=C1 (fN:=f3) (fdN:=L4) B #[NS 5,B.b1,k0,Q] n1 f;let GOw:⇑1 r0 _ _ mX:=C2 e7;let US:=GF (P:=P) (w:=w) (base:=base) e' e8 F2 e'.b2 L8 e8.b2 L7 F2.b2 a4 #[GOw,e7.b1,L5,L6] #[p9,B.b1,k0,Q] n0 n1 f d;let GUo:⇑31 f6 _ _ (gw 7):=(US 7).2;let GUz:⇑10 f6 _ _ (gw 0):=(US 0).2;let GBi:⇑1 r1 _ _ mO:=CT g0;let p':⇑2 r2 _ _ gQ:=yl a' #[GBi,g0.b1,L9,L'] n0;let GDe:⇑1 r3 _ _ iF:=yh g4;let GPg:⇑8 f7 _ _ gu:=uu F3 #[p9,B.b1,k0,Q];let GPc:⇑8 f7 _ _ (px K):=C4 F3 #[GNc,B.b1,k0,Q];let GPs:⇑11 r4 _ _ iN:=yp g7 #[GUz,F2.b2,e9,a4];let GmB:⇑63 e5 _ _ (mY i 8):=I0 (P:=P) (w:=w) (base:=base) ck c7 o8 o9 o' c7.b3 e4 o8.b3 H8 o9.b3 H' o'.b4 I2 #[p',a'.b1,g1,g2] #[GUo,F2.b2,e9,a4] #[GDe,g4.b1,N1,N2] #[GPg,F3.b1,g5,g6] #[GPs,g7.b2,N3,N'] b N d 8 (Mj _);let GmI:⇑3 e3 _ _ (pj i):=CZ o7 ck #[p',a'.b1,g1,g2];let GPm:⇑64 r6 _ _ (me K u):=yo g8 ck mk GmI o7.b2 (Rv X G E') (Rv X G E8) p5 GmB c7.b3 e4 #[GPc,F3.b1,g5,g6] N d;let GMa:⇑65 r8 _ _ (md K u):=yk g' #[GPm,g8.b3,O',P1] N;let GJo:⇑1 v9 _ _ iI:=rK i3 (Rv X G v0);let G5:⇑7 w0 _ _ (cg K 6):=wG (P:=P) (w:=w) (base:=base) U U.b2 m2 #[GJo,i3.b3,S',T0] 6;let G2:⇑1 w' _ _ (iE u):=um F0;let q0:⇑2 x2 _ _ (iH u):=rJ c0 #[G2,F0.b2,k5,m5] o n2;let GWs:⇑8 x4 _ _ gB:=rQ j' #[G5,U.b2,k6,m2] N;let G6:⇑9 x7 _ _ (dR u):=rF F5 #[q0,c0.b3,j1,j2] #[G2,F0.b2,k5,m5] #[G5,U.b2,k6,m2] #[GWs,j'.b2,T9,T'];let GFo:⇑1 f9 _ _ eJ:=uq F6;let q1:⇑8 x' _ _ (mP u):=uo c2 #[G2,F0.b2,k5,m5] #[G5,U.b2,k6,m2] N p5;let q2:⇑9 y1 _ _ (gn u):=Y3 c3 #[q1,c2.b3,l2,l3] o n2;let G9:⇑9 y3 _ _ (ou u):=rO F7 #[G2,F0.b2,k5,m5] #[q0,c0.b3,j1,j2] #[GFo,F6.b1,l0,l1] #[q1,c2.b3,l2,l3];let q3:clsIn K x≠θ:=by
  unfold clsIn;rw[H2];intro z;cases z
 let q4:clsIn K y≠θ:=by unfold clsIn;rw[H3];intro z;cases z
 let c9:=Rv X G H0;let c':=Rv X G H1;let x0:XM K mg "TooLong" x:=#[e0,k9,X',T,c9];let xmD:XM K mg "TooDeep" y:=#[e1,k',d4,L,c'];let q5:⇑1 w2 _ _ iM:=rM b';let G3:⇑2 w8 _ _ iM:=rP Y #[q5,b'.b2,i4,i'];let GBe:⇑2 w4 _ _ ij:=ui j0 #[q5,b'.b2,i4,i'] b;let G4:af P w K mg base (cR P w) 1 w6 _ _ (dj y):=rG V (Rv X G vD) xmD;let GTI:⇑1 f4 _ _ (iP C):=ZH a0 rk;let GTT:af P w K mg base (cR P w) 1 f1 _ _ (eE C x):=XS E rk x0;let GTN:⇑1 f2 _ _ (eK C):=ZI F1 rk;let GRI:⇑2 f0 _ _ (gR C):=ZM a1 rk GTI a0.b3 (Rv X G vT) tm;let GRC:=BL (P:=P) (w:=w) (base:=base) rk I I.b4 m8 J J.b3 d7 #[q2,c3.b2,l4,l5] #[G6,F5.b3,k7,c1] #[G9,F7.b2,k8,c4] GTT E.b1 d5 GTN F1.b2 d6 (G4) V.b1 k3 m3 #[G3,Y.b2,k4,m4] N 16;let GRu:af P w K mg base (cR P w) 45 y' _ _ (pE x y u):=C6 l6 rk H4 GRI a1.b4 (Rv X G vR) #[GBe,j0.b3,T1,T2] GRC I.b4 m8;let GCe:⇑3 E1 _ _ ik:=uk o3 #[g,F.b2,k,m] #[G0,R.b1,k1,m0] a;let GWi:⇑34 A5 _ _ (iR 16):=G8 (P:=P) (w:=w) (base:=base) F9 F9.b2 l8 c5 c5.b2 l9 t 16;let GWa:⇑35 A2 _ _ (ni 17):=uB (n:=16) F9 #[GWi,c5.b2,V3,l9];let GPa:⇑36 A9 _ _ (mZ 17):=C3 (n:=16) l' #[GWa,F9.b2,V2,l8];let q6:⇑1 B1 _ _ lh:=CW c6;let GFz:⇑1 f9 _ _ iG:=rH F6;let GLk:⇑1 B5 _ _ iK:=yj n7 b a;let GLe:⇑2 C' _ _ iJ:=yi o2 #[q6,c6.b1,n3,n4] b a;let GGa:⇑1 B3 _ _ mQ:=CY n5 b;let GKt:⇑1 B7 _ _ ls:=C8 n';let GTJ:⇑1 f4 _ _ (iP c):=ZH a0 ra;let G':af P w K mg base (cR P w) 1 f1 _ _ (eE c x):=XS E ra x0;let q7:⇑1 f2 _ _ (eK c):=ZI F1 ra;let GRJ:⇑2 f0 _ _ (gR c):=ZM a1 ra GTJ a0.b3 (Rv X G vT) tm;let GAI:⇑3 d8 _ _ (lY c):=ye p0 ra n6 GRJ a1.b4 (Rv X G vR) H6;let GAC:=BL (P:=P) (w:=w) (base:=base) ra I I.b4 m' J J.b3 a2 #[q2,c3.b2,l4,l5] #[G6,F5.b3,k7,c1] #[G9,F7.b2,k8,c4] G' E.b1 M q7 F1.b2 m9 (G4) V.b1 k3 m3 #[G3,Y.b2,k4,m4] N;let GAW:∀j,af P w K mg base (cR P w) (2*j+13) f5 _ _ (gU c x y u j):=λj=>uj J ra G' E.b1 M q7 F1.b2 m9 (G4) V.b1 k3 m3 #[G3,Y.b2,k4,m4] (GAC j) I.b4 m';let GAL:af P w K mg base (cR P w) 70 d' _ _ (mN c x y u 16):=IX (P:=P) (w:=w) (base:=base) ra n6 c8 c8.b4 a3 p1 p1.b5 e2 GAW J.b3 a2 G' E.b1 M (G4) V.b1 k3 m3 #[GPa,l'.b2,V4,V5] #[G3,Y.b2,k4,m4] #[GGa,n5.b2,V6,V7] #[GLk,n7.b3,V8,V9] #[GLe,o2.b3,W3,W4] #[q6,c6.b1,n3,n4] #[G6,F5.b3,k7,c1] #[G9,F7.b2,k8,c4] #[GKt,n'.b2,V',W0] #[GFz,F6.b1,l0,l1] b N 16;let GAg:af P w K mg base (cR P w) 71 B9 _ _ (oZ x y u):=CO o1 ra n6 H5 GAI p0.b4 (Rv X G vL) GAL c8.b4 a3 f;let GBg:⇑46 E5 _ _ (pf u):=CS o5 (GRu) l6.b5 V0 V1 #[c9,q3,T,m6,c',q4,L,m7,d1,d2,d3] o;let GRn:⇑72 E7 _ _ (pC u):=C5 o6 (GAg) o1.b4 W1 W2 #[c9,q3,T,m6,c',q4,L,m7,d1,d2,d3] o;let GCg:⇑3 E3 _ _ pi:=CV o4 #[g,F.b2,k,m] #[G0,R.b1,k1,m0] a;rwa[C0 FZ #[GBx,h0.b2,R1,R3] #[GCa,i2.b1,S8,S9] #[GMa,g'.b1,P4,Q'] #[GCe,o3.b1,W5,W6] #[GCg,o4.b2,W7,W8] #[g,F.b2,k,m] #[GBg,o5.b5,W9,W'] #[GRn,o6.b4,Y',Z'] o q p4 p2 p3 b a L1 L3]
def IH{l:oS}{Y:bS->db->Prop}{d:DefRec}{K:Params->Ψ}(e:l.most=δ 63)(H:d.params.defaults=[])
  (g:∀(w:bS) (h:db),Y w h->(K w.params).In h)
  (F:∀(w:bS) (mg:ρ->rm η) (b:ζ) (h:db),(K w.params).In h->h.Ns Φ mg->mg d.name=↑b->
   ∃c:bU,(∀(s:ι) (u:η),BindsTo s c #[[u],[]] [("_law_script",u)])/\∀base:db,(K w.params).In base->base.Ns Φ mg->af l.prog w (K w.params) mg base aF 73 b c ["_law_script"] (mV$ K w.params)):
  PySem.W.WalkO q L m Y l.row.toRowW d [] (λf v=>PySem.call f v):=
 _L.Ap (n:=63) (k:=73) (x:="_law_script") (CX:=λ_=>aF) (sp:=λw=>mV (K w.params)) e LB H #[Z,LB,LB] g F (λ_ _ a N i _ j=>#[a,N,Z,j,i,λ_=>Z]) λ_ _ _ _ _ z=>z
end _K
structure PySem.W.Fast:Prop where(tw4576469399254580852 tw2692356954559850888 tw873755589172513811 tw9574243188000037234 tw8708742216710875964 tw13337689325211341647 tw6109050260984616388 tw15423756920590663039 tw8272007591783617445 tw9850196929753844747 tw8592926494865758231 tw16388382889701626379 tw11098983245516973560 tw11147615746911885449 tw10275515717634795316 tw13945181114140053336 tw3581462382657198135 tw85405623564235607 tw1538193071114189313 tw10125862295763667429 tw7948867419268218571 tw1161168245237415682 tw8532448203772088165 tw13380177051939015448 tw1707106286138669471 tw9284324592795377751 tw9670909357883343180 tw41187508605921649 tw6778783870882331958 tw663705359147848660 tw3581930193233695431 tw1530936779652117339 tw6794472863263724380 tw11349609400750262450 tw11762098075727315122 tw7398906902587553957 tw3897164085831574891 tw16330026803540116718 tw1728530464968821827 tw3454573831390672101 tw14900364500619934146 tw16093761395332227911 tw7269463028845358409 tw9052043387937781837 tw12968219378790378659 tw17659950762343677873 tw5430939083534804988 tw4560234533474928377 tw15358982478807805694 tw13322174968072505615 tw5246643516114349311 tw2666329211867034609 tw16095718341654090795 tw13716870380125944696 tw6383328254454569642 tw1278865827676888823 tw11583139816121767408 tw5733586820146617467 tw9729261812418383434 tw14342278310388347083 tw6269151635382850556 tw5919780665233564291 tw16756611062516170186 tw644856155263761619 tw1002679318447905865 tw17218268419156543254 tw1145400534129885511 tw1613093674397058211 tw2922059190507821058 tw17514127884402422882 tw5124117380320984415 tw9797876089721981810 tw11368414550826296518 tw7805154509050682380 tw2910034026529433948 tw2445643037834257653 tw18054393058971265000 tw9310985899496953347 tw18168035863014943661 tw7458879257665273736 tw11175701527749944617 tw12279580547585354571 tw15583339337044928825 tw896447774337322697 tw8832706656087174217 tw14446882962218325713 tw5847359293742319136 tw8393739463927952820 tw4826279488766081912 tw12957115989953985336 tw5532174579912839051 tw10645366255192236876 tw5194814409674108940 tw13932812895550164196 tw2723919620249614989 tw13765508191845860478 tw2231000998035568125 tw6321457670892172148 tw3769783853924185459 tw5767865446448372984 tw15532067681551575306 tw17816882712313126022 tw6910390793533669732 tw11490548898523853869 tw16786737853772909373 tw301382430353319762 tw5669815539107284345 tw4398647652048469645 tw17295502357213670170 tw9865562071973515424 tw4060813856992773377 tw14759380456024513674 tw14013549203471982361 tw7225558446929025510 tw2255785898188569881 tw15348830259043478048 tw12966478468664202668 tw3456839713164821374 tw13249969076343836220 tw17492993141042047987 tw2605928854840266488 tw3363963534426078538 tw18074417353317110761 tw18335219012436221142 tw7635471933267333585 tw3544440350465335745 tw2807641317648359170 tw13453107984577769143 tw12407433353011253385 tw15602742521113835842 tw14431399545763884279 tw11589466275780803256 tw16776389525715915076 tw9671042024381561126 tw11104439570306632305 tw10835849224476337011 tw12734679078251457532 tw2040096199459155678 tw5908368545642955963 tw13235616373385065753 tw15041210513758148476 tw13735122207162826206 tw10475885437742257426 tw17082867213358572269 tw13592879298411780479 tw17895875152381225862 tw11973642388888353667 tw8686002004324107445 tw14163320277116002846 tw7100295197319315603 tw11721070950174227575 tw12541624809987971371 tw15612608562961857586 tw9684760760658662050 tw9932246677789032926 tw17685307739560832241 tw4651643160733267760 tw4669624854780040298 tw2215757074868036295 tw5989433985218484053 tw704527223981758079 tw9488491959954683826 tw4964403481832785668 tw6581209819473633251 tw6650123282574473838 tw11229926485925852327 tw1539083667358162504 tw11453494382476529445 tw6824780628147123368 tw8265292901540401292 tw17561102513234664500 tw10238043227606342098 tw564602775878225621 tw11879037808976575973 tw9062263735941863157 tw8101071166400334076 tw17741808449888138854 tw16321916362949650376 tw4853570969885726785 tw5189947607890189169 tw3081207164055805681 tw5878254965018286047 tw17902861666876166639 tw327314646571504394 tw1198236053426435119 tw15935956592271864677 tw2147560702890624380 tw16996396223166376205 tw15196487876714280179 tw1063664545125629416 tw8556461085452247338 tw16838112947954184023 tw3784433693458109574 tw17581772373700895182 tw8292930654494458455 tw11494455165778386830 tw3179575432371909103 tw3747680332849298540 tw2943516539983394614 tw12706184211954138042 tw8330551274272517966 tw11843616553102990711 tw269669945238932890 tw16335583935820043946 tw4459634739992968286 tw300718894067566844 tw8166067504724566944 tw17222675737964983169 tw15714558065079167741 tw16249377127047900235 tw15431482884627863424 tw10229902184855959976 tw193536681970571857 tw11687290107369772259 tw7856253643343591153 tw3828904340229211732 tw8156565089120939659 tw3116821947138623064 tw15454509684303311695 tw6314457780119659589 tw4916914724169111753 tw1557190066624533479 tw13790077397427294167 tw5860162787979107363 tw14404664756245593939 tw8179549833856103557 tw4825164488425868904 tw14815988591982078818 tw14553344262876692171 tw8129453975907459601 tw6967607454734132685 tw1826461782207823444 tw14756294926136572267 tw3375405905684874181 tw9912077209734975811 tw2592788626471546971 tw10375039247056711361 tw993800067633746507 tw11436322574414015393 tw9739512950072400302 tw2587254379420157415 tw10115217326842746474 tw726812744340516177 tw11525926902817063000 tw7066979603886572238 tw4116387406317237192 tw1844449089362075976 tw14133516294176511312 tw1915769123317556309 tw139498942777853015 tw5485784119521694033 tw14778349339261268947 tw2982064936481469561 tw9106766313833416056 tw6495508671665485441 tw14807560971940450861 tw9527589574586793041 tw8514766362744745626 tw15262785579562392718 tw2329159687530285120 tw17464551346022734216 tw10846714953146137102 tw2484761821326567516 tw4809823924505614578 tw7271765856883893518 tw11354898978099792857 tw2530329768440804688 tw864837296504697156 tw9041516504487599411 tw14849939773219460781 tw10815252104995425730 tw8979506978164776979 tw15946830363492944425 tw11545721515396305542 tw16665711555178590211 tw17422161770951112882 tw10393050450278464195 tw8554527104400622606 tw1462099965607080471 tw8368302683755899509 tw5026364527311941576 tw13970541132481813777 tw6248834246892260061 tw17518803668842894083 tw2050093306153446363 tw6038007703734071422 tw3143890020419305747 tw925733076927223096 tw10905287006614764204 tw829353265192583483 tw16000212815011809977 tw12559619925765182936 tw1001492884693132764 tw351951888264479680 tw17154087249636827284 tw11496045754914674710 tw18262629535642305961 tw2435150786721010950 tw6507800861414305631 tw16892776962085542959 tw17973430824344715268 tw1579318349737868602 tw8979935506237733160 tw812937138192363956 tw5240850366065524359 tw7840564094547822788 tw1846338942523085799 tw2929272050850551613 tw17102152301715482511 tw893931964948676625 tw17006500459246543208 tw1973693941378715879 tw3607912480750920201 tw1610722252835131264 tw9328495675146777655 tw6707885181951987844 tw5808520772192089119 tw8186953378305433807 tw16680466301520213310 tw10317748877808903113 tw1829100174405139708 tw12042802988654800915 tw15206057415616232165 tw6898099712682310341 tw12029131002099154457 tw9222981297671996051 tw4675636153628717218 tw9820119002977567967 tw5411422104434387953 tw8696144420501337117 tw9214999402700214294 tw4611687661461028582 tw7490575453525391947 tw4172868103224778534 tw5840206689536003726 tw7842175846710491244 tw8634491612166711165 tw9030807222288378068 tw18375850347116163928 tw12278270061136207246 tw8175102399204787939 tw12374974595617933368 tw1950672178816275132 tw12682336457131310124 tw1610508436666789694 tw9610870458810397613 tw9477296235705751618 tw5267252842801154224 tw14289651701209590914 tw2616508569420298213 tw10935425757239514617 tw9154552565367135101 tw12623407274928712667 tw17777968865943360795 tw11224320542219663679 tw7809679295269517736 tw9982413906946760699 tw13832227366545300551 tw13215576093190120324 tw3415017651529063222 tw11819409518777281864 tw12771866514450708841 tw15811508073580525398 tw5880029092584106446 tw3573243388446747408 tw319623879372721021 tw6849267592236024826 tw17607497436391340813 tw8625990674287691536 tw17617163203196927113 tw7845580439725666890 tw16761230735180446587 tw11506028252174736981 tw3002300826530629540 tw4960391093675056926 tw9427445065091624166 tw10015039039009741191 tw843516453267993238 tw3141045910653131075 tw14587363612670236034 tw4981562875621839994 tw15679040693472907101 tw17233823382435260517 tw9300196443275110115 tw8504743100848861140 tw12900782284323797529 tw8526459240149705201 tw12787769351456876758 tw17528734372649558605 tw10568330749109324509 tw3614613653158371044 tw17376750103464080997 tw17079288088328655878 tw16935509388742824687 tw16573602794868774936 tw145059853483376512 tw17070376073991793482 tw348315306538318047 tw728738962937983621 tw6771795203670598256 tw17304626631345318087 tw12521400088022824208 tw3112305528401358764:True)
open PySem PySem.W PyProof.Rows PySem.W.X
def _K.GY {q : ω} {loose : ri PySem.Str} {XP : (PySem.Str → rm η) → db → Prop} {K : Params → Ψ} {as : ri ζ} {n t : Nat} {r : RowW} {d : DefRec} {kwd : ri (PySem.Str × PySem.Expr)} {run : η → ri η → Sem η}
    (e : ∀ P, as = (K P).map (·.1)) (h : WalkO q loose XP (InK K) r d kwd run) : WalkX q loose XP (obsZ as) (valZ K n t) r d kwd run :=
  fun w s₀ s₁ mg mb G Y a o pm cd doc dV kV h1 h2 h3 h4 h5 h6 args vals as' L => h w s₀ s₁ mg mb G (InK.keeps w _ _ (z_facts e Y).2.1 L.keeps) a o pm cd doc dV kV h1 h2 h3 h4 h5 h6 args vals as'
set_option maxRecDepth 100000 in
set_option maxHeartbeats 0 in
theorem PySem.Challenge.cw_againbook_k39_whole_again_is_the_run_holds : PySem.Challenge.rw_againbook_k39_whole_again_is_the_run.Holds := by
  w_on; o_law; z_head; (case hw => w_witness2)
  erw[_K.GY (fun _ => by rfl)$ _K.IH (l := PySem.Challenge.rw_againbook_k39_whole_again_is_the_run) rfl rfl (fun w h Y => Y) ?F]
  case F =>
    intro w mg fa h KX G hmg
    apply _K.BG KX G hmg
    iterate 56 (apply _K.IF;iterate 4 k_is)
    iterate 21 k_is
    iterate 2 k_exc
    iterate 2 (constructor<;>k_is)
    erw[⟨⟨?_,?_,?_,?_⟩,?_,?_,?_,?_,?_⟩];iterate 4 k_is
    iterate 5 (unfold _L.aW;k_is)
    iterate 2 (constructor;iterate 4 k_is)
    iterate 4 (constructor;iterate 3 k_is)
    erw[⟨⟨?_,?_,?_,?_⟩,?_,?_,?_,?_,?_⟩];iterate 4 k_is
    iterate 5 (unfold _L.aW;k_is)
    unfold _L.aW;k_is
    iterate 2 (constructor;iterate 4 k_is)
    iterate 6 (constructor;iterate 3 k_is)
    erw[⟨⟨?_,?_,?_,?_⟩,?_,?_⟩];iterate 4 k_is
    iterate 2 (unfold _L.aW;k_is)
    constructor;iterate 4 k_is
    iterate 4 (constructor;iterate 3 k_is)
    iterate 14 (apply _K.IY;iterate 3 k_is)
    iterate 15 k_is
    iterate 2 kit_is
