import PyProof.Rows.All
import Wide.All
import OpenK.AllK
import Wide.FinOn
import Lean
import PyProof.EqAt
import PyProof.EqKinds
import PyProof.TupleCall
import PySem.Challenge.RW_againbook_k38_one_cell_changed
set_option Elab.async false
set_option linter.all false
set_option maxRecDepth 100000
set_option genSizeOf false
set_option compiler.extract_closed false
set_option bootstrap.genMatcherCode false
open Option renaming some->δ,none->θ,map_eq_some_iff->cv,isSome_iff_exists->tf
open List renaming toArray->ε,getElem?_eq_some_iff->ξ,mem_singleton->χ,mem_cons->Ξ,mem_append->bm,range->dn,mem_map->dr,lookup->hG,mem_append_right->im,mem_iff_getElem->ir,getElem?_eq_getElem->iv,replicate->kz,mem_append_left->mB,nodup_cons->nk,pairwise_cons->rb,cons->ro,length->ry,mem_range->sn
open PySem renaming Addr->ζ,Value->η,Shared->ι,wpAny->π,Str->ρ,sizeLine->τ,model->υ,Program->ψ,starEach->Δ,mainGlobals->Ψ,World->bF,FuncData->bS,Around->bU,Stmt->cc,strKind->cJ,Heap->de,Expr->dg,Builtin->dw,backTo->fx,Obj->gs,Scope->hJ,codeAny->kw,holding->ly,sizeLine->mF
open Bool renaming true->μ,false->ν,eq_false_iff->mS
open Or renaming inl->ω,inr->fz
open PySem.Value renaming ref->Θ,none->Ω,type->eT,int->ks,str->mT,bool->rz
open PySem.Builtin.SmallTypes renaming nextOf->Φ,ownedTupleIsFree->bx,ownedTupleHandOut->mI
open PySem.W renaming Frag->β,keepIn->fJ,methodObj->ot,takerIn->ri,OpenLaw->rm,fnOf->ti
open PySem.Obj renaming mapSeq->γ,mapFields->gb,putSet->mL
open Array renaming getElem?_eq_some_iff->ab,toList->mU
open PySem.Builtin.Tuple renaming tupleExact->dO,tupleItemsOf->pq
open PySem.Builtin.List renaming listSameRef->ef,listTooLong->fy,listExtendWith->ge,listLengthHint->lq,listSubscript?->pz,listAllItems->rc
open PySem.Heap renaming SameBut->fr,ExtBut->nI
open PySem.Builtin.Slice renaming slicePlaces->ic,sliceAdjust->mu,sliceApplied->oS
open List.Pairwise renaming nil->iu
open PySem.F renaming slot_zip_getattribute->lu,called_tuple->nz
local macro_rules|`(tactic|erw[$t:term])=>if t.raw[0].getId.getPrefix== `F then `(tactic|(refine $t;intro)) else `(tactic|refine $t)
local macro_rules|`(tactic|rwa[$t:term])=>`(tactic|exact $t)
local macro_rules|`(tactic|let $d:letDecl)=>`(tactic|have $d:letDecl)
local macro_rules|`(↑$a)=>`(some (.ref $a))
local macro_rules|`(tactic|let #[$x,*]:=$t)=>do{let y←x.getElems.mapM fun|`($i:ident)=>(let i:=if i.getId==`Z then Lean.mkIdent `rfl else i;`(Lean.Parser.Tactic.rcasesPatLo|$i:ident))|_=>`(Lean.Parser.Tactic.rcasesPatLo|_);`(tactic|obtain ⟨$y,*⟩:=$t)}
def g9:0≤mF:=by decide
def iZ:1≤mF:=by decide
def cj:2≤mF:=by decide
def iF:3≤mF:=by decide
def sg:4≤mF:=by decide
set_option maxHeartbeats 4000000
open PySem.W (keepIn Frag nsIn kitOne fnOf mg_of codeIn findIn mroIn isFn mg_none_of kia_one typeIn emptyDict clsIn instObj hasDictIn kitAny specialIn callWith_K excIn lookIn plainGet notCls tailIn)
noncomputable section
abbrev xD:=@List
abbrev xL:=@Option
def Oa{p:Prop}(h:p:=by decide):p:=h
def N9{p:Prop}(h:p:=by omega):p:=h
def N09{p:Prop}(h:p:=by omega+splitDisjunctions):p:=h
def N8{p:Prop}(h:p:=by simp):p:=h
def N7{p:Prop}(h:p:=by decide +kernel):p:=h
def N6{p:Prop}(h:p:=by rfl):p:=h
def Z{α:Sort u}{a:α}:a=a:=rfl
def Wb{p:Prop}(h:p:=by first|decide|rfl):p:=h
def Wx{p:Prop}(h:p:=by first |exact .inl Z |exact .inr Z |assumption):p:=h
local macro_rules|`(↥$p)=>`(autoParam $p Wb._auto_1)
open PySem renaming wpAny_bind->OF,wpAny_pure->OK,wpAny_holding->Pb,wpAny_field->Pg,wpAny_call_entry->Pp,wpAny_callSpecial?_slot->Pr,wpAny_newObj_type->Pu,boot_len->Pz,builtinLookup_eq_fast->PL,wpAny_setField->PU,wpAny_seqItems->PZ,wpAny_mono->P5,wpAny_Call_Name_kw->P6,typeLookup_type->Rp,codeAny_builtin->Rq,mem_of_lookup->Rt,isSubtype_type->RC,wpAny_setState_of->RD,wpAny_specialOf->RG,wpAny_typeOf->RM,wpAny_rule->RQ,plainId_quiet->RZ,wpAny_isInstance->R4,sizeLine_eq->Sb,wpAny_setField_rec->Se,wpAny_passesOwn->Si,wpAny_standAt->Sj,wpAny_askSetting->Sv,codeAny_mono->Sw,wpAny_setEntries_of->SE,wpAny_newList->SH,wpAny_attempt->SI,wpAny_execs_nil->SJ,wpAny_pyIter_tuple->SN,wpAny_truthy_bool->SU,wpAny_newTuple->SV,tupleKind_room_in1->Tu,wpAny_pyIter_list->TN,wpAny_of_eq->TQ,fits_of_scanBound->TU,entryFor_of_tree->Ud,wpAny_updateSeq->Ui,wpAny_fieldsOf->Uq,isSubtype_stop->Us,entryFor_alias->Ut,call_meets->UC,wpAny_sequenceKey->UK,wpAny_pyIter_slot->UL,wpAny_execs_cons->UW,noFill_tuple_add->UX,codeAny_of_tree->Vc,wpAny_runValue->Vm,wpAny_loadPart->Vn,wpAny_listPart->Vo,wpAny_call->Vp,wpAny_bindName->Vq,wpAny_onRaise->Vy,wpAny_comprehension_free->Vz,seq_tuple_add->VA,wpAny_pyNext_list_item->VM,seqIndex_neg->VO,concat_meets->VQ,callType_new->VS,wpAny_pyNext_list_end->V0,wpAny_isTrue_Compare1->V1,wpAny_updateSeq_pair->V6,wpAny_loadName_local->V7,wpAny_letGo->V8,seqIndex_of->V9,codeAny_extend_loopS->Wa,wpAny_loadName_cell->Wk,wpAny_load->Wv,wpAny_Name->Ww,wpAny_storeSet_of->WB,wpAny_pyIter_enum->WC,wpAny_assign_Name->WE,wpAny_Assign_Name->WF,slot_list_setitem->WG,merged_length_le->WP
open List renaming getElem?_eq_getElem->OG,length_map->OJ,length_append->OL,size_toArray->ON,getElem?_map->O2,map_append->O4,mem_cons_self->O5,mem_append_right->O9,mem_of_getElem?->Pd,mem_cons_of_mem->Pe,length_take->Pf,length_cons->Ph,append_nil->Pj,getD_eq_getElem?_getD->Pl,not_mem_nil->Pm,append_assoc->Pt,take_length->Py,getElem?_eq_none->PJ,mem_of_mem_take->P0,lookup_cons->P8,take_add_one->Rb,map_cons->Rl,mem_append_left->Ro,length_drop->Ry,take_of_length_le->RE,getElem_cons_drop->RF,getElem?_append_right->RL,getElem?_append_left->RP,take_sublist->RT,map_map->RU,getElem?_set_ne->RV,mem_cons->RY,forIn_cons->Sa,length_singleton->Sc,take_succ->Sl,getElem_mem->Sm,mem_append->Sz,find?_cons->SA,length_range->SK,getElem?_set_self->SM,getElem?_reverse->SR,map_take->SX,any_cons->SY,forIn_nil->Tj,filter_append->Tk,reverse_cons->Tp,getElem?_inj->Tq,append_cancel_right->Tt,all_eq_true->Tz,of_mem_zip->T3,length_set->T4,take_append_drop->T8,perm_append_comm->Ua,length_replicate->Ub,length_filter_le->Uc,nodup_nil->Uf,drop_zero->Ug,filterMap_cons->Ul,mem_singleton->Uo,getElem?_drop->Up,eraseIdx_eq_take_drop_succ->Ux,ext_getElem->UA,nil_append->UF,length_zip->UG,length_nil->UH,length_eraseIdx_of_lt->UU,pairwise_iff_getElem->U0,getElem?_zip_eq_some->U1,drop_eq_getElem_cons->U2,all_cons->U9,getElem?_replicate->Vd,filter_cons_of_pos->Ve,filter_cons_of_neg->Vf,append_cancel_left->Vg,drop_eq_nil_of_le->Vj,mem_of_mem_drop->Vx,length_reverse->VD,map_inj_right->VH,forIn_toArray->VI,ext_getElem?->VU,any_eq_false->VV,zipIdx_cons->V2,append_inj'->V3,any_eq_true->V4,zipIdx_nil->We,nodup_cons->Wf,mem_filter->Wg,take_take->Wp,map_drop->WA,map_set->WJ,map_nil->WK
open PySem.Heap renaming get?_push_of_some->OH,lt_size->OP,get?_push_size->OQ,get?_update_other->O6,get?_update_self->Pq,size_push->PM,size_update->UB,get?_update_ne->VE
open Nat renaming le_refl->OM,zero_le->OS,ne_of_lt->OZ,le_trans->O1,lt_of_lt_of_le->O3,ne_of_gt->PV,lt_irrefl->PX,le_succ->Rk,lt_of_le_of_lt->Rm,lt_succ_self->Rs,succ_le_succ->Rz,min_eq_left->RS,lt_succ_of_lt->RW,le_of_lt->RX,lt_of_succ_lt->Sf,le_add_right->So,zero_add->SQ,le_max_right->SW,not_lt_zero->Td,le_max_left->Te,sub_zero->Ti,le_of_not_lt->TJ,sub_self->TX,lt_or_ge->TY,le_of_eq->TZ,min_le_left->T7,add_sub_cancel'->VF,add_le_add_left->VG,le_add_left->Wn,max_assoc->WH,add_zero->Y'
open PySem.F renaming plainAttrs_list->OV,type_list_append->O7,slot_list_append->O8,slot_tuple_iterator_next->P9,slot_zip_next->Rg,type_list_extend->Rh,slot_list_extend->Ri,args_tuple_iterator_next_1->Sr,plain_list_iadd->Ss,args_zip_next_1->Su,entry_tuple_iterator_next->Sx,entry_zip_next->SG,args_object_init_2->Tc,args_tuple_add_2->Tn,entry_tuple_add->To,slot_tuple_add->Tv,plainAttrs_str->Tw,type_str_join->TC,slot_str_join->TF,slot_dict_get->TH,plain_proto_collect->Uy,entry_proto_collect->Uz,plain_extend_loop->UE,plain_tuple_new->UQ,entry_list_iadd->UR,args_dict_get_3->UT,entry_dict_get->UZ,slot_set_iter->U7,plain_set_new->U8,args_list_extend_2->VX,entry_list_extend->V5,slot_list_extend->Wi
open Bool renaming false_ne_true->OX,false_eq_true->O0,and_eq_true->Rc,not_true->S0,eq_iff_iff->T5,and_false->Uh,or_false->U',not_eq_true'->VY,eq_false_iff->VZ,false_and->Wu,true_or->WO
open Array renaming length_toList->Pa,getElem?_toList->Ru,getElem?_eq_getElem->RO,getElem?_eq_none->TM,size_append->Uv,toList_push->VL,size_map->Wj
open PySem.Obj renaming data_mapFields->Pn,isFreed_of_fields->Ra,cls_mapFields->SO
open PySem.PassesOwn renaming never->Po,leaving->Vi
open PyProof.Rows renaming callWith_type1->Px,boot_tuple->RI,slot_tuple_getitem->RN,listUpdate_at->Tf,boot_sorted->Th,seqEpoch_at->TR,entry_list_sort->Uk,slot_list_sort->Ur,args_list_sort->Uu,plain_sorted->UM,entry_sorted->UN,args_sorted1->UO,kind_sorted->U4,list_sort_plain->Va,get?_update_seq->Vb,size_push'->Vr,boot_reversed->VB,subscriptTail_builtinR->VN,listItems_at->VP,collect_list->VR,boot_int->Wc,Subscript_->Wz,boot_dict->WQ
open Int renaming emod_lt_of_pos->PH,toNat_natCast->PQ,emod_nonneg->P7,eq_ofNat_of_zero_le->Vk,toNat_of_nonneg->VJ,ediv_nonneg->Wr
open Option.some renaming inj->PR
open PySem.Around renaming under_plainId->PY
open PySem.AutoSeq1 renaming wpAny_loadPart'->Rv
open List.Perm renaming refl->Rx,append_left->Tx,append->Vt
open PySem.Heap.SameBut renaming update->RB,refl->U3
open PySem.Calls renaming spliced_cons->RJ,spliced_nil->Sd,call_function_entry->Sn,callWith_builtin->TK,Name_function_global->UP,evalArgs_plain->Vu
open PySem.W renaming mg_none_of->R0,methodCall_KW->TB,plainGet_of->Ue,mg_of->Uj,callWith_K->UD,cellsFrom_some->UY,callWith_K0->Vh,looks_mroIn->V'
open PyProof.Rows.F renaming plain_set_update_loop->R6,entry_set_update_loop->Ts
open List.Sublist renaming refl->Sq
open PySem.Value renaming isStrOf_shape->Tb
open PySem.W.KFB renaming if_not->TW
open Option renaming getD_none->Uw,isNone_some->Vv,isNone_none->Vw,isSome_map->VC
open PySem.Heap.IsSliceOf renaming new->UJ
open PySem.SeqAt.EqAt renaming str_int->U5,int_str->U6,tuple_int->Wt,str_str->WL,of_refs->WM,int_int->WN
open PySem.Heap.DictOf renaming new->Vl
open PySem.IsL renaming isList->Vs
open StateT renaming run_pure->VT
open PyProof.Rows.IsTup renaming new->VW
open PySem.SeqAt.RcAt renaming lists_lengths->Wl,lists->Wm,tuples->WR
open PySem.W.Looks renaming of_pure->Wo,here->WS
open PySem.ItemsOf renaming nil->Wq
open PySem.Meets renaming of_wp->WI
open PySem.EqMixed renaming ne_str_int->WT,ne_str_bool->WU,ne_int_str->WV,ne_bool_str->WW,eq_str_int->WX,eq_str_bool->WY,eq_int_str->WZ,eq_bool_str->X'
open PySem.Within renaming cons->Z'
def OR:=@decide_eq_false
def OT:=@if_pos
def OU:=@if_neg
def OY:=@decide_eq_true
def Pk:=@Ne.symm
def Pw:=@of_decide_eq_true
def P':=@congrArg
def Rj:=@if_false
def Rr:=@bne_self_eq_false
def Ta:=@of_decide_eq_false
def Tg:=@if_true
def T6:=@or_false
def Um:=@beq_self_eq_true
def UV:=@Iff.rfl
def Ws:=@PySem.Heap.IsTupleIter.at
local macro_rules|`(#[$x,*])=>`(⟨$x,*⟩)
local macro_rules|`(tactic|omega)=>`(tactic|lia)
namespace _L
open PySem PySem.Spec PyProof.Rows
abbrev cg:=Sum Int ρ
def mn:cg->η->Bool
 | .inl k,v=>Value.isInt k v
 | .inr x,v=>Value.isStrOf x v
def MO(w:bF):cg->Int
 | .inl k=>hashInt k
 | .inr x=>hashStr w x
def j7:∀{k:cg} {v:η},mn k v=μ->(∃i t,k=Sum.inl i/\v=ks i t)\/(∃x t,k=Sum.inr x/\v=mT x t)
 | .inl i,v,h=>by let#[t,e]:=Value.isInt_shape (k:=i) (v:=v) h;rwa[.inl #[i,t,Z,e]]
 | .inr x,v,h=>by let#[t,e]:=Tb (x:=x) (v:=v) h;rwa[.inr #[x,t,Z,e]]
def tE(i:Int)(t:Tok):mn (.inl i) (.int i t)=μ:=by simp [mn,Value.isInt]
def tF(x:ρ)(t:Tok):mn (.inr x) (.str x t)=μ:=by simp [mn,Value.isStrOf]
def EC(a b:Int):decide ((Sum.inl a:cg)=Sum.inl b)=(a==b):=by
 by_cases e:a=b
 .subst e;simp
 .let h:¬(Sum.inl a:cg)=Sum.inl b:=λq=>e (Sum.inl.inj q);rw[OR h];rwa[(beq_eq_false_iff_ne.mpr e).symm]
def EF(a b:ρ):decide ((Sum.inr a:cg)=Sum.inr b)=decide (a=b):=by
 by_cases e:a=b
 .subst e;simp
 .let h:¬(Sum.inr a:cg)=Sum.inr b:=λq=>e (Sum.inr.inj q);rw[OR h,OR e]
def ED(a:Int)(b:ρ):decide ((Sum.inl a:cg)=Sum.inr b)=ν:=OR (λq=>nomatch q)
def EE(a:ρ)(b:Int):decide ((Sum.inr a:cg)=Sum.inl b)=ν:=OR (λq=>nomatch q)
def be(p:ψ)(w:bF):PySem.KeyKind p w cg where
 is:=mn
 hash:=MO w
 inj:=λv a b d c=>by
  rcases j7 d with ⟨i,t,rfl,rfl⟩ | ⟨x,t,rfl,rfl⟩
  .rcases j7 c with ⟨j,u,rfl,e⟩ | ⟨y,u,rfl,e⟩
   .injection e with E _;rw[E]
   .rwa[nomatch e]
  .rcases j7 c with ⟨j,u,rfl,e⟩ | ⟨y,u,rfl,e⟩
   .rwa[nomatch e]
   .injection e with E _;rw[E]
 byValue:=λk v h=>by rcases j7 h with ⟨i,t,rfl,rfl⟩ | ⟨x,t,rfl,rfl⟩<;>rfl
 pyHash:=λH h=>by
  rcases j7 H with ⟨i,t,rfl,rfl⟩ | ⟨x,t,rfl,rfl⟩
  .rwa[wpAny_pyHash_int h]
  .exact wpAny_pyHash_str h
 eqBool:=λf H h=>by
  rcases j7 f with ⟨i,t,rfl,rfl⟩ | ⟨x,t,rfl,rfl⟩
  .rcases j7 H with ⟨j,u,rfl,rfl⟩ | ⟨y,u,rfl,rfl⟩
   .rw[EC]at h;rwa[wpAny_eqBool_int h]
   .rw[ED]at h;rwa[U6 i t y u _ _ _ _ h]
  .rcases j7 H with ⟨j,u,rfl,rfl⟩ | ⟨y,u,rfl,rfl⟩
   .rw[EE]at h;rwa[U5 x t j u _ _ _ _ h]
   .rw[EF]at h;exact wpAny_eqBool_str h
 «strs»:=λk x t v h=>by
  rcases j7 h with ⟨i,u,rfl,e⟩ | ⟨y,u,rfl,e⟩
  .rwa[nomatch e]
  .injection e with E _;subst E;cases v<;>rfl
def Yr(p:ψ)(w:bF)(i:Int)(t:Tok):(be p w).is (.inl i) (.int i t)=μ:=tE i t
def Ys(p:ψ)(w:bF)(x:ρ)(t:Tok):(be p w).is (.inr x) (.str x t)=μ:=tF x t
end _L
namespace _L
open PySem PySem.Spec PyProof.Rows
inductive V where
 |non |bl (b:Bool) |int (i:Int) |str (x:ρ) |byt (b:Array UInt8) |flt (b:UInt64) |ref (a:ζ) |ty (n:String)
 deriving DecidableEq
set_option genInjectivity false
def aJ:V->η->Prop
 | .non,u=>u=Ω
 | .bl b,u=>u=rz b
 | .int i,u=>∃t,u=ks i t
 | .str x,u=>∃t,u=mT x t
 | .byt b,u=>∃t,u=Value.bytes b t
 | .flt b,u=>∃t,u=Value.float b t
 | .ref a,u=>u=Θ a
 | .ty n,u=>u=eT n
abbrev aG:xD V->xD η->Prop:=Paired aJ
def aG.length(r:aG x u):ry x=ry u:=Paired.length r
theorem aG.get:∀{X:xD V} {U:xD η} {i:Nat} {x:V},aG X U->X[i]?=δ x->∃u,U[i]?=δ u/\aJ x u
 |_,_,_,_,.nil,e=>by simp at e
 |_,_,0,_,.cons r _,e=>by simp at e;subst e;rwa[#[_,Z,r]]
 |_,_,i+1,x,.cons _ t,e=>by let#[u,h,H]:=aG.get (i:=i) (x:=x) t (by simpa using e);rwa[#[u,by simpa using h,H]]
theorem aG.set(r:aJ x u):∀{X:xD V} {U:xD η} (i:Nat),aG X U->aG (X.set i x) (U.set i u)
 |_,_,_,.nil=>.nil
 |_,_,0,.cons _ t=>.cons r t
 |_,_,i+1,.cons q t=>.cons q (aG.set r i t)
theorem aG.append:∀{x y:xD V} {u w:xD η},aG x u->aG y w->aG (x++y) (u++w)
 |_,_,_,_,.nil,s=>s
 |_,_,_,_,.cons r t,s=>.cons r (aG.append t s)
theorem aG.take:∀{x:xD V} {u:xD η} (n:Nat),aG x u->aG (x.take n) (u.take n)
 |_,_,0,_ |_,_,_+1,.nil=>.nil
 |_,_,n+1,.cons r t=>.cons r (aG.take n t)
theorem aG.drop:∀{x:xD V} {u:xD η} (n:Nat),aG x u->aG (x.drop n) (u.drop n)
 |_,_,0,r=>r
 |_,_,_+1,.nil=>.nil
 |_,_,n+1,.cons _ t=>aG.drop n t
def fi:xL V->xL η->Prop
 |some v,δ u=>aJ v u
 |none,θ=>True
 |_,_=>False
def KV{a:Type}:xD (a×V)->xD (a×η)->Prop:=Paired λ(p:a×V) (q:a×η)=>p.1=q.1/\aJ p.2 q.2
def kV:cg->V
 | .inl i=>.int i
 | .inr x=>.str x
inductive HO where
 |lst (xs:xD V)
 |tup (xs:xD V)
 |dK (kvs:xD (cg×V)) |dT (kvs:xD (xD cg×V))
 |set (S:Int->Bool) (n:Nat)
 |ins (C dx:ζ) (fs:xD (ρ×V))
 |own (x:ζ)
 |xd (fs:xD (ρ×V))
 |met (f x:ζ)
 |rng (lo hi:Int)
 |frz (o:gs) (u:HO)
 |tbl (ps:Array η)
 |ext (φ:de->Prop)
abbrev Hp:=ζ->xL HO
def af(H:Hp)(a:ζ)(o:HO):Hp:=λb=>if b=a then δ o else H b
def jc:af H a o a=δ o:=by unfold af;rw[OT Z]
def jh(h:b≠a):af H a o b=H b:=by unfold af;rw[OU h]
def jM{H:Hp}(h:H a=δ o)(c:H b=δ u)(d:o≠u):a≠b:=by intro e;subst e;rw[h]at c;rwa[d (PR c)]
def jk{H:Hp}(h:H a=δ o)(c:H b=θ):a≠b:=by intro e;subst e;rw[h]at c;cases c
section
variable (P:ψ)(w:bF)
def a6(H:Hp)(h:de)(a:ζ):HO->Prop
 | .lst X=>ry X<=τ/\∃(i:xD η) (n:Nat),aG X i/\h.get? a=δ { cls:=.type "list",data:=.seq i.toArray n }
 | .tup X=>ry X<=τ/\∃i:xD η,aG X i/\IsTup h a i.toArray
 | .dK k=>ry k<=τ/\(a==sysModules)=ν/\∃c,KV k c/\h.DictOf (be P w) a c
 | .dT k=>ry k<=τ/\(a==sysModules)=ν/\∃X:xD (xD cg×ζ×η),
   Paired (λ(p:xD cg×V) (q:xD cg×ζ×η)=>p.1=q.1/\H q.2.1=δ (.tup$ p.1.map kV)/\aJ p.2 q.2.2) k X/\
   ∃o e E,h.get? a=δ o/\o.ExactDict/\o.data= .dict e E/\e.toList=X.map (entryOfKey$ tupleKind$ be P w)/\(X.map (·.1)).Nodup
 | .set S n=>h.SetOf (intKind P w) a S n
 | .ins C d F=>H d=δ (.own a)/\ry F<=1000/\d≠a/\h.get? a=δ (instObj C d)/\
   ∃m,h.Ns1 d m/\(∀f,fi (F.lookup f)$ m f)/\PySem.Within m (F.map (·.1))
 | .own _=>∃o,h.get? a=δ o
 | .xd F=>∃m,h.Ns1 a m/\∀f,fi (F.lookup f) (m f)
 | .rng lo l=>∃t u v,h.get? a=δ { cls:=.type "range",data:=.fields (ε [.int lo t,.int l u,.int 1 v]) }
 | .frz o u=>h.get? a=δ o/\a6 H h a u
 | .tbl r=>h.get? a=δ { cls:=.none,data:=.fields r }
 | .met f x=>h.get? a=δ (ot (.ref f) (.ref x))
 | .ext b=>b h/\(∃o,h.get? a=δ o)/\∀g j:de,b g->(∀o,g.get? a=δ o->j.get? a=δ o)->b j
def gH(H:Hp)(h:de):Prop:=∀a o,H a=δ o->a6 P w H h a o
end
section
variable {P:ψ}{w:bF}{H H':Hp}{h h':de}{a:ζ}{o:HO}
def a6.lt(x:a6 P w H h a o):a < h.objs.size:=by
 cases o with
 |lst X=>let#[_,_,_,_,e]:=x;rwa[OP e]
 |tup X=>let#[_,_,_,p]:=x;rwa[p.lt]
 |dK k |dT k=>let#[_,_,_,_,o,_,_,e,_]:=x;rwa[OP e]
 |set S n=>let#[o,_,_,_,e,_]:=x;rwa[OP e]
 |ins C d F=>let#[_,_,_,e,_]:=x;rwa[OP e]
 |own y=>let#[_,e]:=x;rwa[OP e]
 |xd F=>obtain⟨_,⟨_,_,_,e,_⟩,_⟩:=x;rwa[OP e]
 |rng lo b=>let#[_,_,_,e]:=x;rwa[OP e]
 |frz O u=>let#[e,_]:=x;rwa[OP e]
 |tbl c |met f y=>rwa[OP (show h.get? a=δ _ from x)]
 |ext g=>obtain⟨_,⟨_,e⟩,_⟩:=x;rwa[OP e]
theorem Paired.mapP{c d:Type}{F G:c->d->Prop}:∀{l:xD c} {L:xD d},Paired F l L->(∀a b,F a b->G a b)->Paired G l L
 |_,_,.nil,_=>.nil
 |_,_,.cons r t,f=>.cons (f _ _ r) (Paired.mapP t f)
def a6.stay(x:a6 P w H h a o)(k:∀b u,(b=a\/H b=δ (.own a))->h.get? b=δ u->h'.get? b=δ u)
  (s:∀b,H b=δ (.own a)->H' b=δ (.own a)) (A:∀b X,H b=δ (.tup X)->H' b=δ (.tup X)):a6 P w H' h' a o:=by
 induction o with
 |lst X=>let#[z,i,n,r,e]:=x;rwa[#[z,i,n,r,k _ _ (.inl Z) e]]
 |tup X=>let#[z,i,r,O,e,c]:=x;rwa[#[z,i,r,O,k _ _ (.inl Z) e,c]]
 |dK K=>let#[z,y,V,r,O,E,g,e,c]:=x;rwa[#[z,y,V,r,O,E,g,k _ _ (.inl Z) e,c]]
 |dT K=>let#[z,y,X,r,O,E,g,e,c]:=x;rwa[#[z,y,X,Paired.mapP r λp q z=>#[z.1,A _ _ z.2.1,z.2.2],O,E,g,k _ _ (.inl Z) e,c]]
 |set S n=>let#[O,E,g,t,e,c]:=x;rwa[#[O,E,g,t,k _ _ (.inl Z) e,c]]
 |ins C D F=>obtain⟨d,z,N,e,m,⟨j,E,g,B,c⟩,r⟩:=x;rwa[#[s _ d,z,N,k _ _ (.inl Z) e,m,#[j,E,g,k _ _ (.inr d) B,c],r]]
 |own y=>let#[O,e]:=x;rwa[#[O,k _ _ (.inl Z) e]]
 |xd F=>obtain⟨m,⟨j,E,g,e,c⟩,r⟩:=x;rwa[#[m,#[j,E,g,k _ _ (.inl Z) e,c],r]]
 |rng lo G=>let#[t,u,v,e]:=x;rwa[#[t,u,v,k _ _ (.inl Z) e]]
 |frz O u I=>let#[e,q]:=x;rwa[#[k _ _ (.inl Z) e,I q]]
 |tbl l=>have e:h.get? a=δ { cls:=.none,data:=.fields l }:=x;show h'.get? a=δ { cls:=.none,data:=.fields l };rwa[k a _ (.inl Z) e]
 |met f y=>have e:h.get? a=δ (ot (.ref f)$ .ref y):=x;show h'.get? a=δ (ot (.ref f)$ .ref y);rwa[k a _ (.inl Z) e]
 |ext J=>obtain⟨p,⟨o,e⟩,st⟩:=x;rwa[#[st _ _ p λo q=>k _ _ (.inl Z) q,#[o,k _ _ (.inl Z) e],st]]
def gH.lt(x:gH P w H h)(e:H a=δ o):a < h.objs.size:=(x a o e).lt
def gH.fresh(x:gH P w H h)(e:h.objs.size<=a):H a=θ:=by
 cases q:H a with
 |none=>rfl
 |some u=>rwa[absurd (O3 (x.lt q) e) (PX _)]
def gH.kept(x:gH P w H h)(k:∀b u,h.get? b=δ u->h'.get? b=δ u):gH P w H h':=λa o e=>
 (x a o e).stay (λb u _ q=>k b u q) (λ_ q=>q) λ_ _ q=>q
def gH.laid(x:gH P w H h)(k:∀b u,h.get? b=δ u->h'.get? b=δ u)(g:h.objs.size<=a)(n:a6 P w (af H a o) h' a o):gH P w (af H a o) h':=λb u e=>by
 let d:=x.fresh g;by_cases f:b=a
 .subst f;rw[jc]at e;cases e;rwa[n]
 .rw[jh f]at e;rwa[(x b u e).stay (λc v _ q=>k c v q) (λc q=>by rw[jh$ jk q d];rwa[q]) λc X q=>by rw[jh$ jk q d];rwa[q]]
end
def Rd(H:Hp)(a:ζ)(u:HO):Prop:=H a=δ u\/∃o,H a=δ (.frz o u)
def Rd.ok{P:ψ}(r:Rd H a u)(x:gH P w H h):a6 P w H h a u:=by
 rcases r with r | ⟨o,r⟩
 .rwa[x a u r]
 .let#[_,q]:=x a _ r;rwa[q]
def HS:xL HO->Prop
 |some (.lst _) |some (.dK _) |some (.dT _) |some (.set _ _) |some (.ins _ _ _) |some (.ext _)=>True
 |_=>False
section
variable {P:ψ}{w:bF}{H:Hp}{h h':de}{x e:ζ}{o':HO}
def gH.write(o:gH P w H h)(m:HS (H x))(i:e=x\/H e=δ (.own x))(k:∀b u,b≠e->h.get? b=δ u->h'.get? b=δ u)(f:∃u,h'.get? e=δ u)
  (g:a6 P w (af H x o') h' x o'):gH P w (af H x o') h':=λb u q=>by
 let n:∀c y,H c=δ (.own y)->c≠x:=λc y r z=>by subst z;rw[r]at m;rwa[m]
 let N:∀c X,H c=δ (.tup X)->c≠x:=λc X r z=>by subst z;rw[r]at m;rwa[m]
 by_cases d:b=x
 .subst d;rw[jc]at q;cases q;rwa[g]
 .rw[jh d]at q;by_cases a:b=e
  .let Q:H b=δ (.own x):=by
    rcases i with z |z
    .rwa[absurd (a.trans z) d]
    .rw[a];rwa[z]
   rw[q]at Q;cases Q;let#[v,j]:=f;rwa[#[v,by rw[a];rwa[j]]]
  .erw[(o b u q).stay (λc v hc r=>k c v ?_ r) (λc r=>by rw[jh$ n c b r];rwa[r]) λc X r=>by rw[jh$ N c X r];rwa[r]]
   rcases hc with rfl |hc
   .rwa[a]
   .rintro rfl;rcases i with z |z
    .rwa[n c b hc z]
    .rw[hc]at z;cases z;rwa[d Z]
end
structure Un(fs ex:xD ζ)(H H':Hp)(h h':de):Prop where
 keep:∀b o,h.get? b=δ o->H b=θ->b∉fs->b∉ex->h'.get? b=δ o
 slot:∀b o,h.get? b=δ o->H b=θ->b∈fs->b∉ex->∃sl,h'.get? b=δ { o with slots:=sl }
 free:∀b o,h.get? b=δ o->H b=θ->b∉ex->H' b=θ
 there:∀b o,h.get? b=δ o->b∉ex->∃o',h'.get? b=δ o'
 tups:∀b xs,H b=δ (.tup xs)->H' b=δ (.tup xs)
 frzs:∀b o u,H b=δ (.frz o u)->H' b=δ (.frz o u)
 tbls:∀b ps,H b=δ (.tbl ps)->∃more,H' b=δ (.tbl$ ps++more)
section
variable {fs fs' ex ex':xD ζ}{H H1 H2:Hp}{h h1 h2 h':de}{a x e:ζ}{o:HO}
def Un.any(u:Un fs ex H H1 h h1)(q:h.get? b=δ O)(n:H b=θ)(c:b∉ex):∃s,h1.get? b=δ { O with slots:=s }:=by
 by_cases d:b∈fs
 .rwa[u.slot b O q n d c]
 .rwa[#[O.slots,u.keep b O q n d c]]
def Un.kept(k:∀b u,h.get? b=δ u->h'.get? b=δ u):Un fs ex H H h h':=
 #[λb O q _ _ _=>k b O q,λb O q _ _ _=>#[O.slots,k b O q],λ_ _ _ n _=>n,λb O q _=>#[O,k b O q],λ_ _ q=>q,λ_ _ _ q=>q,λ_ p q=>#[(ε []),by rw[q];simp]]
def Un.refl:Un fs ex H H h h:=Un.kept λ_ _ q=>q
def Un.laid(k:∀b u,h.get? b=δ u->h'.get? b=δ u)(d:h.objs.size<=a)(c:H a=θ):Un fs ex H (af H a o) h h' where
 keep:=λb u q _ _ _=>k b u q
 slot:=λb u q _ _ _=>#[u.slots,k b u q]
 free:=λb u q n _=>by rw[jh$ OZ$ O3 (OP q) d];exact n
 there:=λb u q _=>#[u,k b u q]
 tups:=λb X q=>by rw[jh$ jk q c];exact q
 frzs:=λb u X q=>by rw[jh$ jk q c];exact q
 tbls:=λb p q=>#[(ε []),by rw[jh$ jk q c,q];simp]
def Un.write(m:HS (H x))(j:e=x\/H e=δ (.own x))(k:∀b u,b≠e->h.get? b=δ u->h'.get? b=δ u)(d:∃u,h'.get? e=δ u):Un fs ex H (af H x o) h h':=by
 let g:∀b,H b=θ->b≠x:=λb n z=>by subst z;rw[n]at m;rwa[m]
 let i:∀b,H b=θ->b≠e:=λb n z=>by
  subst z;rcases j with r |r
  .rwa[g b n r]
  .rw[n]at r;cases r
 let f:∀b u,H b=δ u->¬HS (δ u)->b≠x:=λb u q N z=>by subst z;rw[q]at m;rwa[N m]
 refine#[λb u q n _ _=>k b u (i b n) q,λb u q n _ _=>#[u.slots,k b u (i b n) q],λb u q n _=>by rw[jh$ g b n];rwa[n],λb u q _=>?_,
  λb X q=>by rw[jh$ f b _ q λz=>z];rwa[q],λb u X q=>by rw[jh$ f b _ q λz=>z];rwa[q],λb p q=>#[(ε []),by rw[jh$ f b _ q λz=>z,q];simp]]
 by_cases c:b=e
 .subst c;rwa[d]
 .rwa[#[u,k b u c q]]
end
def Mm(h:de)(H:Hp):xD ζ:=(dn h.objs.size).filter λa=>(H a).isSome
def mE(h:de)(H:Hp):de:=PySem.W.hideAll h (Mm h H)
def tj(h:de)(H:Hp):(mE h H).objs.size=h.objs.size:=PySem.W.hideAll_size _ _
def we{h:de}{H:Hp}(e:h.get? b=δ o)(n:H b=θ):(mE h H).get? b=δ o:=
 PySem.W.hideAll_get _ e λa=>by let q:(H b).isSome=μ:=(List.mem_filter.mp a).2;rw[n]at q;simp at q
def Bl(e:(mE h H).get? b=δ o):h.get? b=δ o/\H b=θ:=by
 let E:h.get? b=δ o:=PySem.W.of_hideAll (Mm h H) e;erw[#[E,?_]];cases q:H b with
 |none=>rfl
 |some x=>have a:b∈Mm h H:=List.mem_filter.mpr #[sn.mpr$ OP E,by simp [q]];let z:(mE h H).get? b=θ:=PySem.W.hideAll_none (Mm h H) a;rw[z]at e;cases e
end _L
open _L.V renaming str->tz,int->tT,ref->vr
namespace _L
open PySem PySem.Spec PyProof.Rows
structure Mod(K:β)(mg:ρ->xL η)(base:de):Prop where
 kin:K.In base
 glob:base.Ns Ψ mg
 blt:∃mb,base.Ns builtinsNs mb/\∀x:ρ,x≠"__name__"->mb x=bootBuiltins x
 nolimit:base.NoLimit
structure Cx where
 prog:ψ
 w:bF
 K:β
 mg:ρ->xL η
 base:de
 A:bU
 N:xD ρ
 s₀:ι
 H₀:Hp
 env:Env
 outer:xD Env
 stack:xD Env
 ex:xD ζ
 fn:ρ->Bool
 calm:Bool
 pn:xD (ζ×gs)
 xe:η->ι->Prop
def mj(l:xD Env):xD ζ:=l.filterMap (·.frame)
abbrev Cx.fs(X:Cx):xD ζ:=mj X.outer
def Mc(s:hJ)(x:ρ):Prop:=s.names.lookup x=δ .local\/s.names.lookup x=δ .cell\/s.names.lookup x=δ .free
def uW(s:hJ)(x:ρ):Prop:=s.names.lookup x=δ .local\/s.names.lookup x=δ .cell
def Mr(e:Env)(h:de)(m:ρ->xL η)(x:ρ)(u:η):Prop:=
 (e.kindOf x=δ .local/\m x=δ u)\/((e.kindOf x=δ .cell\/e.kindOf x=δ .free)/\∃c,e.cells.lookup x=δ c/\h.IsCell c (δ u))
structure Cx.Ok(X:Cx):Prop where
 mod:Mod X.K X.mg X.base
 kind:X.env.scope.kind= .function
 glob:X.env.globals=Ψ
 blt:X.env.builtins=builtinsNs
 above:X.s₀.heap.objs.size<=X.env.locals
 inj:∀x y c,X.env.cells.lookup x=δ c->X.env.cells.lookup y=δ c->x=y
 has:∀x,(X.env.kindOf x=δ .cell\/X.env.kindOf x=δ .free)->∃c,X.env.cells.lookup x=δ c
 cab:∀x c,X.fn x=μ->X.env.cells.lookup x=δ c->X.s₀.heap.objs.size<=c
 hd:X.calm=μ->X.A.handled=θ
 frames:X.A.frames=δ X.stack
 stk:X.stack=X.outer\/(X.stack=X.env::X.outer/\X.env.frame=δ X.env.locals)
 exf:∀b∈X.ex,b≠X.env.locals/\∀x c,X.env.cells.lookup x=δ c->c≠b
 bs:∀b o,X.base.get? b=δ o->X.s₀.heap.get? b=δ o/\X.H₀ b=θ
 bsz:X.base.objs.size<=X.s₀.heap.objs.size
 noex:∀b o,X.base.get? b=δ o->b∉X.ex
 exfs:∀b∈X.ex,b∉X.fs
 funs:X.s₀.heap.FunFrames X.base X.outer
 frf:∀b∈X.fs,X.H₀ b=θ
structure au(X:Cx)(pins:xD (ζ×gs))(σ:xD (xL V))(H:Hp)(s:ι):Prop where
 ok:X.Ok
 os:s.os=X.s₀.os
 bare:AllBare s.gens
 base:Un X.fs X.ex X.H₀ H X.s₀.heap s.heap
 loc:∃m,s.heap.Ns X.env.locals m/\∀(i:Nat) (x:ρ) (v:V),X.N[i]?=δ x->σ[i]?=δ (δ v)->Mc X.env.scope x->∃u,aJ v u/\Mr X.env s.heap m x u
 cell:∀x c,X.env.cells.lookup x=δ c->∃v,s.heap.IsCell c v
 free:H X.env.locals=θ
 freeC:∀x c,X.env.cells.lookup x=δ c->H c=θ
 pin:∀p∈X.pn++pins,s.heap.get? p.1=δ p.2/\H p.1=θ/\p.1≠X.env.locals/\p.1∉X.fs/\∀v,p.2.data≠ .cell v
 hok:gH X.prog X.w H s.heap
 len:ry σ=ry X.N
section
variable {X:Cx}{pins:xD (ζ×gs)}{σ:xD (xL V)}{H H':Hp}{s:ι}{h':de}
def Cx.Ok.nofr(O:X.Ok)(e:X.base.get? b=δ o):b∉X.fs:=λh=>by let:=(O.funs.mem h).1;rw[e]at this;cases this
def au.bs(I:au X pins σ H s):∀b o,X.base.get? b=δ o->s.heap.get? b=δ o/\H b=θ:=λb o e=>
 #[I.base.keep b o (I.ok.bs b o e).1 (I.ok.bs b o e).2 (I.ok.nofr e)$ I.ok.noex b o e,I.base.free b o (I.ok.bs b o e).1 (I.ok.bs b o e).2$ I.ok.noex b o e]
def au.bk(I:au X pins σ H s):∀b o,X.base.get? b=δ o->s.heap.get? b=δ o:=λb o e=>(I.bs b o e).1
def au.mod(I:au X pins σ H s):Mod X.K X.mg X.base:=I.ok.mod
def au.kIn(I:au X pins σ H s):X.K.In s.heap:=I.ok.mod.kin.keeps I.bk
def au.lt(I:au X pins σ H s):X.env.locals < s.heap.objs.size:=let #[_,h,_]:=I.loc;h.lt
def au.sz(I:au X pins σ H s):X.s₀.heap.objs.size<=s.heap.objs.size:=O1 I.ok.above (RX I.lt)
def au.nofs(I:au X pins σ H s)(h:s.heap.objs.size<=a):a∉X.fs:=λb=>by let#[_,o,c,_]:=I.ok.funs.mem b;rwa[absurd (O3 (OP c)$ O1 I.sz h)$ PX _]
def au.cne(I:au X pins σ H s):∀x c,X.env.cells.lookup x=δ c->c≠X.env.locals:=λx c e z=>by let#[v,o,b,d]:=I.cell x c e;obtain⟨m,⟨O,E,f,h,a,_⟩,_⟩:=I.loc;rw[z,h]at b;cases b;rw[a]at d;cases d
def au.funs(I:au X pins σ H s):s.heap.FunFrames X.base X.outer:=by
 let all:∀(l:xD Env),(∀b∈mj l,b∈X.fs)->X.s₀.heap.FunFrames X.base l->s.heap.FunFrames X.base l:=by
  intro l;induction l with
  |nil=>intro _ _;trivial
  |cons E r i=>intro d f;obtain⟨g,⟨L,o,h,j,k,m⟩,n⟩:=f;let a:L∈X.fs:=d L (by unfold mj;rw[List.filterMap_cons,h];rwa[List.mem_cons_self]);let#[S,e]:=I.base.slot L o k (I.ok.frf L a) a λz=>I.ok.exfs L z a;rwa[#[g,#[L,_,h,j,e,m],i (λb c=>d b (by unfold mj;rw[List.filterMap_cons,h];rwa[List.mem_cons_of_mem _ c])) n]]
 rwa[all X.outer (λ_ c=>c) I.ok.funs]
def au.stack(I:au X pins σ H s):s.heap.FunFrames X.base X.stack:=by
 rcases I.ok.stk with e | ⟨e,h⟩
 .rw[e];rwa[I.funs]
 .rw[e];let#[m,a,_]:=I.loc;erw[.cons (by rw[I.ok.kind];decide) h a ?_ I.funs];rwa[Heap.get?_none_of_le$ O1 I.ok.bsz I.ok.above]
def au.stkSub(I:au X pins σ H s):∀b∈mj X.stack,b∈X.env.locals::X.fs:=λb h=>by
 rcases I.ok.stk with e | ⟨e,a⟩
 .rw[e]at h;rwa[Pe _ h]
 .rw[e]at h;unfold mj at h;rw[Ul,a]at h;rwa[h]
def au.stkFree(I:au X pins σ H s):∀b∈mj X.stack,H b=θ:=λb hb=>by
 rcases Ξ.mp (I.stkSub b hb) with e |hb
 .rw[e];rwa[I.free]
 .let#[_,o,h,_]:=I.ok.funs.mem hb;rwa[I.base.free b o h (I.ok.frf b hb) λz=>I.ok.exfs b z hb]
def au.step{g':Array GenState}{d':Drawn}{ch:xD ζ}(I:au X pins σ H s)
  (a:∀b∈ch,(b∈X.ex\/X.s₀.heap.objs.size<=b)/\b≠X.env.locals/\(∀x c,X.env.cells.lookup x=δ c->c≠b)/\∀p∈X.pn++pins,p.1≠b)
  (K:∀b o,b≠X.env.locals->b∉X.fs->b∉ch->s.heap.get? b=δ o->H b=θ->h'.get? b=δ o)
  (S:∀b o,b≠X.env.locals->b∈X.fs->b∉ch->s.heap.get? b=δ o->H b=θ->∃J,h'.get? b=δ { o with slots:=J }) (f:∀b o,b∉ch->s.heap.get? b=δ o->H b=θ->H' b=θ)
  (t:∀b o,b∉ch->s.heap.get? b=δ o->∃O,h'.get? b=δ O)
  (T:∀b j,H b=δ (.tup j)->H' b=δ (.tup j)) (F:∀b o u,H b=δ (.frz o u)->H' b=δ (.frz o u)) (B:∀b P,H b=δ (.tbl P)->∃M,H' b=δ (.tbl$ P++M))
  (ns:∀m,s.heap.Ns X.env.locals m->h'.Ns X.env.locals m) (L:gH X.prog X.w H' h') (hg:AllBare g'):
  au X pins σ H' { s with heap:=h',gens:=g',drawn:=d',toks:=t' }:=by
 let D:∀b o,X.s₀.heap.get? b=δ o->b≠X.env.locals:=λb o e=>OZ (O3 (OP e) I.ok.above);let g:∀b o,X.s₀.heap.get? b=δ o->b∉X.ex->b∉ch:=λb o e h y=>by
  rcases(a b y).1 with z |z
  .rwa[h z]
  .rwa[absurd (O3 (OP e) z)$ PX _]
 let C:∀x c,X.env.cells.lookup x=δ c->∀v,s.heap.IsCell c v->h'.IsCell c v:=λx c e v #[o,A,Q]=>by
  let N:c∉ch:=λz=>(a c z).2.2.1 x c e Z;by_cases U:c∈X.fs
  .let#[J,q]:=S c o (I.cne x c e) U N A (I.freeC x c e);rwa[#[_,q,Q]]
  .rwa[#[o,K c o (I.cne x c e) U N A$ I.freeC x c e,Q]]
 erw[#[I.ok,I.os,hg,#[λb o e n y h=>?_,λb o e n y h=>?_,λb o e n h=>?_,λb o e h=>?_,λb j e=>T b j (I.base.tups b j e),λb o j e=>F b o j (I.base.frzs b o j e),λb P e=>?_],?_,λx c e=>?_,?_,λx c e=>?_,λp W=>?_,L,I.len]]
 .rwa[K b o (D b o e) y (g b o e h) (I.base.keep b o e n y h)$ I.base.free b o e n h]
 .let#[J,E]:=I.base.slot b o e n y h;let#[R,G]:=S b _ (D b o e) y (g b o e h) E (I.base.free b o e n h);rwa[#[R,G]]
 .let#[O,E]:=I.base.there b o e h;rwa[f b O (g b o e h) E$ I.base.free b o e n h]
 .let#[O,E]:=I.base.there b o e h;rwa[t b O (g b o e h) E]
 .let#[m1,E]:=I.base.tbls b P e;let#[m2,G]:=B b _ E;rwa[#[m1++m2,by rw[G,Array.append_assoc]]]
 .let#[m,hn,hl]:=I.loc;erw[#[m,ns m hn,λi x v E G e3=>?_]];let#[u,r,l]:=hl i x v E G e3;erw[#[u,r,?_]];rcases l with l | ⟨k,c,e,z⟩
  .rwa[.inl l]
  .rwa[.inr #[k,c,e,C x c e _ z]]
 .let#[v,z]:=I.cell x c e;rwa[#[v,C x c e v z]]
 .obtain⟨m,⟨o,_,_,A,_⟩,_⟩:=I.loc;rwa[f _ o (λz=>(a _ z).2.1 Z) A I.free]
 .let#[v,o,A,Q]:=I.cell x c e;rwa[f c o (λz=>(a c z).2.2.1 x c e Z) A$ I.freeC x c e]
 .let#[e,n,Y,nf,d]:=I.pin p W;let N:p.1∉ch:=λz=>(a p.1 z).2.2.2 p W Z;rwa[#[K p.1 p.2 Y nf N e n,f p.1 p.2 N e n,Y,nf,d]]
def au.un{t':Nat}(I:au X pins σ H s)(u:Un X.fs [] H H' s.heap h')(a:gH X.prog X.w H' h'):au X pins σ H' { s with heap:=h',toks:=t' }:=by
 obtain⟨m,⟨o,j,k,f,r⟩,_⟩:=id I.loc;let#[S,g]:=u.any f I.free N8;exact I.step (g':=s.gens) (d':=s.drawn) (ch:=[]) (λ_ z=>nomatch z) (λb o _ c _ e n=>u.keep b o e n c N8) (λb o _ c _ e n=>u.slot b o e n c N8) (λb o _ e n=>u.free b o e n N8) (λb o _ e=>u.there b o e N8) u.tups u.frzs u.tbls (λM i=>by
  let#[O,E,d,h,R]:=i;rw[f]at h;cases h;rwa[#[_,E,d,g,R]]) a I.bare
def au.call{g':Array GenState}{t':Nat}{d':Drawn}{ch:xD ζ}(I:au X pins σ H s)(u:Un (mj X.stack) ch H H' s.heap h')(f:gH X.prog X.w H' h')(k:AllBare g')
  (a:∀b∈ch,(b∈X.ex\/X.s₀.heap.objs.size<=b)/\b≠X.env.locals/\(∀x c,X.env.cells.lookup x=δ c->c≠b)/\∀p∈X.pn++pins,p.1≠b):
  au X pins σ H' { s with heap:=h',gens:=g',drawn:=d',toks:=t' }:=by
 obtain⟨m,⟨o,t,v,j,r⟩,_⟩:=id I.loc;let#[S,g]:=u.any j I.free λz=>(a _ z).2.1 Z;exact I.step (ch:=ch) a (λb o g l h e n=>u.keep b o e n (λz=>(Ξ.mp$ I.stkSub b z).elim g l) h) (λb o _ _ h e n=>u.any e n h) (λb o h e n=>u.free b o e n h) (λb o h e=>u.there b o e h) u.tups u.frzs u.tbls (λM q=>by
  let#[O,E,i,d,R]:=q;rw[j]at d;cases d;rwa[#[_,E,i,g,R]]) f k
def au.turned{t':Nat}{it:ζ}(I:au X pins σ H s)(k:∀b o,b≠it->s.heap.get? b=δ o->h'.get? b=δ o)(d:H it=θ)(a:it≠X.env.locals)
  (f:it∈X.ex\/X.s₀.heap.objs.size<=it) (g:∀x c,X.env.cells.lookup x=δ c->c≠it) (i:∀p∈X.pn++pins,p.1≠it):au X pins σ H { s with heap:=h',toks:=t' }:=by
 let N:∀b u,H b=δ u->b≠it:=λb u e z=>by rw[z,d]at e;cases e
 refine I.step (g':=s.gens) (d':=s.drawn) (ch:=[it]) (λb j=>?_) (λb o _ _ h e _=>k b o (λz=>h (by simp [z])) e) (λb o _ _ h e _=>#[o.slots,k b o (λz=>h (by simp [z])) e]) (λ_ _ _ _ n=>n)
  (λb o h e=>#[o,k b o (λz=>h (by simp [z])) e]) (λ_ _ e=>e) (λ_ _ _ e=>e) (λb P e=>#[(ε []),by rw[e];simp]) (λm l=>?_) (λb u e=>?_) I.bare
 .let e:b=it:=by simpa using j
  subst e;rwa[#[f,a,g,i]]
 .let#[o,E,t,w,r]:=l;rwa[#[o,E,t,k _ o (Pk a) w,r]]
 .erw[(I.hok b u e).stay (λc v h q=>k c v ?_ q) (λ_ q=>q) λ_ _ q=>q];rcases h with z |z
  .rw[z];rwa[N b u e]
  .rwa[N c _ z]
def au.tok(I:au X pins σ H s)(t:Nat):au X pins σ H { s with toks:=t }:=I.un (h':=s.heap) (t':=t) Un.refl I.hok
def au.kept{t':Nat}(I:au X pins σ H s)(k:∀b u,s.heap.get? b=δ u->h'.get? b=δ u):au X pins σ H { s with heap:=h',toks:=t' }:=I.un (Un.kept k) (I.hok.kept k)
def au.laid{a:ζ}{o:HO}{t':Nat}(I:au X pins σ H s)(k:∀b u,s.heap.get? b=δ u->h'.get? b=δ u)(h:s.heap.objs.size<=a)(n:a6 X.prog X.w (af H a o) h' a o):
  au X pins σ (af H a o) { s with heap:=h',toks:=t' }:=I.un (Un.laid k h$ I.hok.fresh h) (I.hok.laid k h n)
def au.write{x e:ζ}{o:HO}{t':Nat}(I:au X pins σ H s)(m:HS (H x))(a:e=x\/H e=δ (.own x))(k:∀b u,b≠e->s.heap.get? b=δ u->h'.get? b=δ u)(h:∃u,h'.get? e=δ u)
  (n:a6 X.prog X.w (af H x o) h' x o):au X pins σ (af H x o) { s with heap:=h',toks:=t' }:=I.un (Un.write m a k h) (I.hok.write m a k h n)
def au.pins_of{pins':xD (ζ×gs)}(I:au X pins σ H s)(h:∀p∈pins',s.heap.get? p.1=δ p.2/\H p.1=θ/\p.1≠X.env.locals/\p.1∉X.fs/\∀v,p.2.data≠ .cell v):au X pins' σ H s:=
 #[I.ok,I.os,I.bare,I.base,I.loc,I.cell,I.free,I.freeC,λp a=>(bm.mp a).elim (λz=>I.pin p (Ro _ z)) (h p),I.hok,I.len]
def XQ{N:xD ρ}(h:N.Nodup){i j:Nat}{x:ρ}(a:N[i]?=δ x)(b:N[j]?=δ x):i=j:=by let#[c,e]:=ξ.mp a;let#[d,E]:=ξ.mp b;rwa[(List.getElem_inj h).mp (e.trans E.symm)]
def QN{v:V}{Q:Unit->ι->Prop}(I:au X pins σ H s)(hN:X.N.Nodup)(L:X.N[i]?=δ x)(l:uW X.env.scope x)(r:aJ v u)
  (h:∀s',au X pins (σ.set i$ δ v) H s'->(∃a,fr a s.heap s'.heap/\(a=X.env.locals\/X.env.cells.lookup x=δ a))->Q () s') (hf:autoParam (X.fn x=μ\/X.env.scope.names.lookup x=δ .local) Wx._auto_1):π M A (storeName X.env x u) Q E s:=by
 let#[m,hn,hl]:=id I.loc;let O:(X.env.scope.kind== .class||(X.env.scope.kind== .module&&X.env.locals != X.env.globals))=ν:=by rw[I.ok.kind];rfl
 let D:i < ry σ:=by rw[I.len];rwa[(ξ.mp L).1]
 let F:=I.cne;let t:∀{a:ζ} {h':de},(∃o,s.heap.get? a=δ o/\H a=θ)->fr a s.heap h'->gH X.prog X.w H h':=λ{a h'} ha f b ob e=>by
  let#[_,_,B]:=ha;erw[(I.hok b ob e).stay (λc W hc q=>(f.2 c ?_).trans q) (λ_ q=>q) λ_ _ q=>q];rintro rfl;rcases hc with rfl |hc
  .rw[B]at e;cases e
  .rw[B]at hc;cases hc
 rcases l with hk |hk
 .erw[wpAny_storeName_local hk hn (λh' h0 f=>?_) O];let#[oL,_,_,h1,_]:=id hn;erw[h _ #[I.ok,I.os,I.bare,#[λb o e n G l=>?_,λb o e n G l=>?_,I.base.free,λb o e l=>?_,I.base.tups,I.base.frzs,I.base.tbls],#[_,h0,λj y v' g C e3=>?_],λy c e=>?_,I.free,I.freeC,λp hp=>?_,t #[oL,h1,I.free] f,by simpa using I.len] #[_,f,.inl Z]]
  .rwa[(f.2 b$ OZ$ O3 (OP e) I.ok.above).trans (I.base.keep b o e n G l)]
  .let#[sl,g]:=I.base.slot b o e n G l;rwa[#[sl,(f.2 b$ OZ$ O3 (OP e) I.ok.above).trans g]]
  .let#[o',g]:=I.base.there b o e l;rwa[#[o',(f.2 b$ OZ$ O3 (OP e) I.ok.above).trans g]]
  .by_cases J:j=i
   .subst J;rw[L]at g;cases g;rw[SM D]at C;cases C;rwa[#[u,r,.inl #[hk,N8]]]
   .rw[RV$ Pk J]at C;let#[u',r',q]:=hl j y v' g C e3;erw[#[u',r',?_]];rcases q with ⟨k,e⟩ | ⟨k,c,e,z⟩
    .erw[.inl #[k,?_]];let:y≠x:=λe=>J (XQ hN g$ e▸L);simp [this,e]
    .rwa[.inr #[k,c,e,z.sameBut f$ F y c e]]
  .let#[W,z]:=I.cell y c e;rwa[#[W,z.sameBut f$ F y c e]]
  .let#[e,n,U,nf,d]:=I.pin p hp;rwa[#[(f.2 p.1 U).trans e,n,U,nf,d]]
 .let K:X.fn x=μ:=by
   rcases hf with z |z
   .rwa[z]
   .rw[z]at hk;cases hk
  let#[c,hc]:=I.ok.has x (.inl hk);let#[W,z]:=I.cell x c hc;erw[wpAny_storeName_cell I.ok.kind hk hc z (λh' P f=>?_)];let#[oc,R,S]:=id z;refine h { s with heap:=h' } #[I.ok,I.os,I.bare,#[λb o e n G l=>?_,λb o e n G l=>?_,I.base.free,λb o e l=>?_,I.base.tups,I.base.frzs,I.base.tbls],#[m,hn.sameBut f$ Pk$ F x c hc,λj y v' g C e3=>?_],λy Y e=>?_,I.free,I.freeC,λp hp=>?_,t #[oc,R,I.freeC x c hc] f,by simpa using I.len] #[c,f,.inr hc]
  .rwa[(f.2 b$ OZ$ O3 (OP e)$ I.ok.cab x c K hc).trans (I.base.keep b o e n G l)]
  .let#[sl,g]:=I.base.slot b o e n G l;rwa[#[sl,(f.2 b$ OZ$ O3 (OP e)$ I.ok.cab x c K hc).trans g]]
  .let#[o',g]:=I.base.there b o e l;rwa[#[o',(f.2 b$ OZ$ O3 (OP e)$ I.ok.cab x c K hc).trans g]]
  .by_cases J:j=i
   .subst J;rw[L]at g;cases g;rw[SM D]at C;cases C;rwa[#[u,r,.inr #[.inl hk,c,hc,P]]]
   .rw[RV$ Pk J]at C;let#[u',r',q]:=hl j y v' g C e3;erw[#[u',r',?_]];rcases q with q | ⟨k,Y,e,z'⟩
    .rwa[.inl q]
    .erw[.inr #[k,Y,e,z'.sameBut f ?_]];rintro rfl;rwa[J$ XQ hN g$ I.ok.inj _ _ _ e hc▸L]
  .by_cases T:Y=c
   .subst T;rwa[#[_,P]]
   .let#[w2,z2]:=I.cell y Y e;rwa[#[w2,z2.sameBut f T]]
  .let#[e,n,U,nf,d]:=I.pin p hp;erw[#[(f.2 p.1 ?_).trans e,n,U,nf,d]];intro q;rw[q,R]at e;let q':oc=p.2:=PR e;rwa[d W (by rw[<- q'];rwa[S])]
def zK{Q:Unit->ι->Prop}(I:au X pins σ H s)(a:X.N.Nodup)(b:X.N[i]?=δ x)(c:uW X.env.scope x)(r:aJ v u)
  (h:∀S,au X pins (σ.set i$ δ v) H S->Q () S) (d:autoParam (X.fn x=μ\/X.env.scope.names.lookup x=δ .local) Wx._auto_1):π M A (storeName X.env x u) Q E s:=
 QN I a b c r (λS e _=>h S e) d
def au.call'{S:ι}{ch:xD ζ}(I:au X pins σ H s)(d:S.os=s.os)(u:Un (mj X.stack) ch H H' s.heap S.heap)(h:gH X.prog X.w H' S.heap)(f:AllBare S.gens)
  (a:∀b∈ch,(b∈X.ex\/X.s₀.heap.objs.size<=b)/\b≠X.env.locals/\(∀x c,X.env.cells.lookup x=δ c->c≠b)/\∀p∈X.pn++pins,p.1≠b):au X pins σ H' S:=by
 let#[h',g',d',t',o]:=S;let e:o=s.os:=d;subst e;rwa[I.call (g':=g') (t':=t') (d':=d') u h f a]
end
abbrev XK:=η->xL ζ->Hp->Prop
abbrev St:=xD (xL V)
abbrev VK:=V->Hp->Prop
abbrev TE:=St->Hp->VK->Prop
abbrev TT:=St->Hp->(Bool->Hp->Prop)->Prop
abbrev TA:=St->Hp->(xD V->Hp->Prop)->Prop
structure bp where
 nx:St->Hp->Prop
 rt:VK
 bk:St->Hp->Prop:=λ_ _=>False
 ct:St->Hp->Prop:=λ_ _=>False
abbrev TS:=bp->St->Hp->Prop
inductive EP(X:Cx)(a:xD (ζ×gs))(d:St)(Q:VK)(u:η)(c:ι):Prop
 |mk(v b:_)(_:au X a d b c)(_:aJ v u)(_:Q v b)
inductive TP(X:Cx)(a:xD (ζ×gs))(e:St)(Q:Bool->Hp->Prop)(b:Bool)(d:ι):Prop
 |mk(c:_)(_:au X a e c d)(_:Q b c)
inductive AP(X:Cx)(a:xD (ζ×gs))(f:St)(Q:xD V->Hp->Prop)(d:xD η)(c:ι):Prop
 |mk(e b:_)(_:au X a f b c)(_:aG e d)(_:Q e b)
def SP(X:Cx)(p:xD (ζ×gs))(D:bp)(f:Flow)(s:ι):Prop:=
 match f with
 | .next=>∃a H,au X p a H s/\D.nx a H
 | .brk=>∃a H,au X p a H s/\D.bk a H
 | .cont=>∃a H,au X p a H s/\D.ct a H
 | .ret u=>∃v a H,au X p a H s/\aJ v u/\D.rt v H
def PE(X:Cx)(e:dg)(t:TE):Prop:=
 ∀(p:xD (ζ×gs)) (s:ι) (a:St) (H:Hp) (Q:VK),au X p a H s->t a H Q->π (υ X.prog X.w) X.A (eval e X.env) (EP X p a Q) X.xe s
def PT(X:Cx)(e:dg)(t:TT):Prop:=
 ∀(p:xD (ζ×gs)) (s:ι) (a:St) (H:Hp) (Q:Bool->Hp->Prop),au X p a H s->t a H Q->π (υ X.prog X.w) X.A (isTrue e X.env$ eval e X.env) (TP X p a Q) X.xe s
def PW(X:Cx)(e:dg)(t:TT):Prop:=
 ∀(W:Sem η) (p:xD (ζ×gs)) (s:ι) (a:St) (H:Hp) (Q:Bool->Hp->Prop),au X p a H s->t a H Q->π (υ X.prog X.w) X.A (isTrue e X.env W) (TP X p a Q) X.xe s
def PW.pt{X:Cx}{e:dg}{t:TT}(h:PW X e t):PT X e t:=h _
def PA(X:Cx)(e:xD dg)(t:TA):Prop:=
 ∀(P:Pos) (p:xD (ζ×gs)) (s:ι) (a:St) (H:Hp) (Q:xD V->Hp->Prop),au X p a H s->t a H Q->π (υ X.prog X.w) X.A (spliced$ fx P$ Δ e X.env) (AP X p a Q) X.xe s
def PS(X:Cx)(st:cc)(t:TS):Prop:=
 ∀(p:xD (ζ×gs)) (s:ι) (a:St) (H:Hp) (D:bp),au X p a H s->t D a H->π (υ X.prog X.w) X.A (exec st X.env) (SP X p D) X.xe s
def nJ(X:Cx)(st:xD cc)(t:TS):Prop:=
 ∀(p:xD (ζ×gs)) (s:ι) (a:St) (H:Hp) (D:bp),au X p a H s->t D a H->π (υ X.prog X.w) X.A (execs st X.env) (SP X p D) X.xe s
def a8{b:Type}{t:Sem b}{Q q:b->ι->Prop}{M:Model}{A:bU}{E:η->ι->Prop}{s:ι}(h:π M A t Q E s)(H:∀a s,Q a s->q a s):π M A t q E s:=P5 h H λ_ _ x=>x
section
variable {X:Cx}
inductive bn(i:Nat)(a:St)(H:Hp)(Q:VK):Prop
 |mk(v:_)(_:a[i]?=δ (δ v))(_:Q v H)
def tC(v:V):TE:=λ_ H Q=>Q v H
def Ga(j:X.N[i]?=δ x)(k:Mc X.env.scope x)(b:↥((x==("__debug__":ρ))=ν))(d:↥((x==("__classdict__":ρ))=ν)):PE X (.Name x n) (bn i):=by
 intro p s o H Q I h;let#[v,e,h]:=h;let#[m,q,t]:=I.loc;let#[u,r,l]:=t i x v j e k;let f:EP X p o Q u s:=#[v,H,I,r,h];rcases l with ⟨hk,w⟩ | ⟨hk,c,g,a⟩
 .rwa[Ww (V7 I.ok.kind hk q w f) b]
 .rcases hk with hk |hk
  .rwa[Ww (Wk I.ok.kind hk g a f) b]
  .rwa[Ww (wpAny_loadName_free I.ok.kind hk g a f d) b]
def jf{i j p}:PE X (.Constant (.int i) j p) (tC$ .int i):=λ_ _ _ H _ I h=>wpAny_Constant_int #[.int i,H,I.tok _,#[_,Z],h]
def DJ{b j p}:PE X (.Constant (.bool b) j p) (tC$ .bl b):=λ_ _ _ H _ I h=>Constant_bool #[.bl b,H,I,Z,h]
def kl{j p}:PE X (.Constant .none j p) (tC .non):=λ_ _ _ H _ I h=>Constant_none #[.non,H,I,Z,h]
def jm{x j p}:PE X (.Constant (.str x) j p) (tC$ .str x):=λ_ _ _ H _ I h=>Calls.Constant_str #[.str x,H,I.tok _,#[_,Z],h]
def Gl(X:Cx)(x:ρ):Prop:=X.env.kindOf x=δ .globalImplicit
def qc{Q:η->ι->Prop}(I:au X p e H s)(a:Gl X x)(b:X.mg x=δ u)(h:Q u s)
  (c:↥((x==("__debug__":ρ))=ν)):π (υ X.prog X.w) X.A (eval (.Name x d) X.env) Q E s:=
 UP I.ok.kind a (Calls.loadGlobal_global (by rw[I.ok.glob];rwa[I.mod.glob.keeps I.bk]) b h) c
def zU{Q:η->ι->Prop}(I:au X p j H s)(a:Gl X x)(b:X.mg x=θ)(c:bootBuiltins x=δ u)(h:Q u s)
  (d:↥(x≠"__name__")) (e:↥((x==("__debug__":ρ))=ν)):π (υ X.prog X.w) X.A (eval (.Name x f) X.env) Q E s:=by
 let#[m,g,i]:=I.mod.blt;rwa[UP I.ok.kind a (Calls.loadGlobal_builtin (by rw[I.ok.glob];rwa[I.mod.glob.keeps I.bk]) b (by rw[I.ok.blt];rwa[g.keeps I.bk]) ((i x d).trans c) h) e]
def Jd{v:V}(a:Gl X x)(b:X.mg x=δ u)(r:aJ v u)(c:↥((x==("__debug__":ρ))=ν)):PE X (.Name x p) (tC v):=
 λ_ _ _ H _ I h=>qc I a b #[v,H,I,r,h] c
variable {a b:dg}{ta tb:TE}{pos:Pos}
def PC(X:Cx)(o:CmpOp)(a b:dg)(t:TE):Prop:=
 ∀(p:xD (ζ×gs)) (s:ι) (d:St) (H:Hp) (Q:VK),au X p d H s->t d H Q->
  π (υ X.prog X.w) X.A (eval a X.env) (λv S=>π (υ X.prog X.w) X.A (eval b X.env) (λu c=>π (υ X.prog X.w) X.A (compareOp o v u) (EP X p d Q) X.xe c) X.xe S) X.xe s
def M8(ta:TE):TE:=λc H Q=>ta c H λx h=>Q (.bl$ decide$ x= .non) h
def aJ.none_iff(r:aJ x v):(v==Ω)=decide (x= .non):=by
 cases x with
 |non |bl _=>cases r;rfl
 |int _ |str _ |byt _ |flt _=>let#[t,Z]:=r;rfl
 |ref _ |ty _=>cases r;rfl
def xu{j p}(c:PE X a ta):PC X .Is a (.Constant .none j p) (M8 ta):=by intro P s d H Q I h;erw[a8 (c P s d H _ I h) λv S z=>?_];let#[x,e,i,r,q]:=z;rwa[Constant_none$ is_none_gen #[.bl _,e,i,by rw[r.none_iff];rfl,q]]
inductive ND(Q:Bool->Hp->Prop)(x:V)(a:Hp):Prop
 |mk(c:_)(_:x= .bl c)(_:Q c a)
def tB(t:TE):TT:=λc H Q=>t c H (ND Q)
def YI(h:PC X o a b t)(e:behindInMarks o b=ν:=by first |rwa[n _ Oa Oa] |rfl):PT X (.Compare a [o] [b] pos) (tB t):=by intro p s f H Q I g;erw[V1 (a8 (h p s f H _ I g) λv S e=>a8 e λu m i=>a8 i λc w z=>?_) e];let#[x,j,k,r,l]:=z;let#[d,Z,q]:=l;cases r;rwa[SU #[j,k,q]]
def xH(h:PE X e t)(c:∀w,isTrue e X.env w=(do let v <- w;standAt e.pos;ly [v] (truthy v)):=by intro _;rfl):PT X e (tB t):=by intro p s f H Q I g;erw[isTrue_plain (a8 (h p s f H _ I g) λv S z=>?_)$ c _];let#[x,i,j,r,k]:=z;let#[d,Z,q]:=k;cases r;rwa[SU #[i,j,q]]
variable {tA tB':TT}{rest:xD dg}
def M3(t u:TT):TT:=λd H Q=>t d H λc h=>if c=μ then u d h Q else Q ν h
def NR(t u:TT):TT:=λd H Q=>t d H λc h=>if c=μ then Q μ h else u d h Q
def M9(t:TT):TT:=λd H Q=>t d H λc h=>Q (!c) h
def qd(d:PT X a tA):PW X (.BoolOp .And [a] pos) tA:=by
 intro w p s f H Q I h;erw[isTrue_and$ a8 (d p s f H Q I h) λc S e=>?_];cases c with
 |true=>rwa[isTrue_and_nil e]
 |false=>rwa[e]
def qQ(d:PT X a tA):PW X (.BoolOp .Or [a] pos) tA:=by
 intro w p s f H Q I h;erw[isTrue_or$ a8 (d p s f H Q I h) λc S e=>?_];cases c with
 |false=>rwa[isTrue_or_nil e]
 |true=>rwa[e]
def qR(f:PT X a tA)(g:PW X (.BoolOp .And (b::rest) pos) tB'):PW X (.BoolOp .And (a::b::rest) pos) (M3 tA tB'):=by
 intro w p s d H Q I h;erw[isTrue_and$ a8 (f p s d H _ I h) λc S z=>?_];let#[e,i,q]:=z;cases c with
 |true=>rwa[g w p S d e Q i q]
 |false=>rwa[#[e,i,q]]
def Kl(f:PT X a tA)(g:PW X (.BoolOp .Or (b::rest) pos) tB'):PW X (.BoolOp .Or (a::b::rest) pos) (NR tA tB'):=by
 intro w p s d H Q I h;erw[isTrue_or$ a8 (f p s d H _ I h) λc S z=>?_];let#[e,i,q]:=z;cases c with
 |true=>rwa[#[e,i,q]]
 |false=>rwa[g w p S d e Q i q]
def xF(e:PT X a tA):PT X (.UnaryOp .Not a pos) (M9 tA):=by intro p s f H Q I h;rwa[isTrue_not$ a8 (e p s f H (λc d=>Q (!c) d) I h) λc S #[d,i,q]=>#[d,i,q]]
inductive yI(b:TE)(d:St)(Q:VK)(x:V)(a:Hp):Prop
 |mk(c:_)(_:x= .bl c)(_:if c=μ then b d a Q else Q (.bl ν) a)
def LH(ta tb:TE):TE:=λc H Q=>ta c H (yI tb c Q)
def F'(h:PE X a t):PE X (.BoolOp o [a] pos) t:=λp s c H Q I d=>BoolOp_one (h p s c H Q I d)
def FX(f:PE X a ta)(g:PE X (.BoolOp .And (b::rest) pos) tb):PE X (.BoolOp .And (a::b::rest) pos) (LH ta tb):=by
 intro p s d H Q I h;erw[BoolOp_and$ a8 (f p s d H _ I h) λv S z=>?_];let#[x,e,i,r,q]:=z;let#[c,Z,q]:=q;cases r;erw[SU ?_];cases c with
 |true=>rwa[g p S d e Q i q]
 |false=>rwa[#[.bl ν,e,i,Z,q]]
def NQ(t:TT)(ta tb:TE):TE:=λd H Q=>t d H λc h=>if c=μ then ta d h Q else tb d h Q
def kN(g:PT X c tA)(j:PE X a ta)(k:PE X b tb):PE X (.IfExp c a b pos) (NQ tA ta tb):=by
 intro p s e H Q I h;erw[wpAny_IfExp$ a8 (g p s e H _ I h) λd S z=>?_];let#[f,i,q]:=z;cases d with
 |true=>rwa[j p S e f Q i q]
 |false=>rwa[k p S e f Q i q]
end
def aK(K:β)(H:Hp)(a:ζ)(x:xD V):Prop:=
 Rd H a (.lst x)\/
  ∃(o:gs) (i:Array η) (n:Nat),K.lookup a=δ o/\o.cls= .type "list"/\o.dict=θ/\o.data= .seq i n/\i.size<=τ/\aG x i.toList
def aC(K:β)(H:Hp)(a:ζ)(x:xD V):Prop:=
 Rd H a (.tup x)\/
  ∃(o:gs) (i:Array η) (n:Nat),K.lookup a=δ o/\o.cls= .type "tuple"/\o.data= .seq i n/\i.size<=τ/\aG x i.toList
def MD:η->xL V
 | .none=>δ .non
 | .bool b=>δ (.bl b)
 | .int i _=>δ (.int i)
 | .str x _=>δ (.str x)
 | .bytes b _=>δ (.byt b)
 | .float b _=>δ (.flt b)
 | .ref a=>↑a
 | .type n=>δ (.ty n)
 |_=>θ
def aJ.abs(r:aJ x u):MD u=δ x:=by
 cases x with
 |non |bl _=>cases r;rfl
 |int _ |str _ |byt _ |flt _=>let#[t,Z]:=r;rfl
 |ref _ |ty _=>cases r;rfl
def aJ.inj{x:V}(r:aJ x u)(q:aJ y u):x=y:=PR (r.abs.symm.trans q.abs)
theorem aG.inj:∀{x y:xD V} {u:xD η},aG x u->aG y u->x=y
 |_,_,_,.nil,.nil=>rfl
 |_,_,_,.cons r t,.cons R T=>by rw[r.inj R,aG.inj t T]
section
variable {X:Cx}{pins:xD (ζ×gs)}{σ:St}{H:Hp}{s:ι}{a:ζ}{xs ys:xD V}
def aK.of{K:β}(h:H a=δ (.lst xs)):aK K H a xs:=.inl (.inl h)
def aC.of{K:β}(h:H a=δ (.tup xs)):aC K H a xs:=.inl (.inl h)
def au.list(I:au X pins σ H s)(h:aK X.K H a xs):∃i:xD η,aG xs i/\PlainL s.heap a i.toArray/\ry xs<=τ:=by
 rcases h with h | ⟨o,i,n,b,c,d,f,g,r⟩
 .let#[z,i,n,r,e]:=h.ok I.hok;rwa[#[i,r,#[_,n,e,Z,Z,Z],z]]
 .erw[#[i.toList,r,#[o,n,I.kIn a o b,c,d,by simpa using f],?_]];let e:=r.length;simp only[Pa]at e;omega
def au.tuple(I:au X pins σ H s)(h:aC X.K H a xs):∃i:xD η,aG xs i/\IsTup s.heap a i.toArray/\ry xs<=τ:=by
 rcases h with h | ⟨o,i,n,b,c,d,f,r⟩
 .let#[z,i,r,p]:=h.ok I.hok;rwa[#[i,r,p,z]]
 .erw[#[i.toList,r,#[o,I.kIn a o b,c,n,by simpa using d],?_]];let e:=r.length;simp only[Pa]at e;omega
def au.list_inj(I:au X pins σ H s)(h:aK X.K H a xs)(c:aK X.K H a ys):xs=ys:=by
 obtain⟨b,r,⟨o,n,e,_,_,d⟩,_⟩:=I.list h;obtain⟨i,R,⟨O,N,E,_,_,D⟩,_⟩:=I.list c;rw[e]at E;cases E;rw[d]at D;injection D with f _;let:b=i:=by simpa using P' mU f
 subst this;rwa[r.inj R]
def au.tuple_inj(I:au X pins σ H s)(h:aC X.K H a xs)(c:aC X.K H a ys):xs=ys:=by
 obtain⟨b,r,⟨o,e,_,n,d⟩,_⟩:=I.tuple h;obtain⟨i,R,⟨O,E,_,N,D⟩,_⟩:=I.tuple c;rw[e]at E;cases E;rw[d]at D;injection D with f _;let:b=i:=by simpa using P' mU f
 subst this;rwa[r.inj R]
end
abbrev Cx.wish(X:Cx)(E:η->ι->Prop):Cx:={ X with xe:=E }
abbrev Cx.nox(X:Cx):Cx:=X.wish λ_ _=>False
def Cx.Ok.wish{X:Cx}(o:X.Ok)(E:η->ι->Prop):(X.wish E).Ok:=
 #[o.mod,o.kind,o.glob,o.blt,o.above,o.inj,o.has,o.cab,o.hd,o.frames,o.stk,o.exf,o.bs,o.bsz,o.noex,o.exfs,o.funs,o.frf]
def Cx.Ok.unwish{X:Cx}(o:(X.wish E).Ok):X.Ok:=
 #[o.mod,o.kind,o.glob,o.blt,o.above,o.inj,o.has,o.cab,o.hd,o.frames,o.stk,o.exf,o.bs,o.bsz,o.noex,o.exfs,o.funs,o.frf]
section
variable {X:Cx}{pins:xD (ζ×gs)}{σ:St}{H:Hp}{s:ι}{E:η->ι->Prop}
def au.wish(I:au X pins σ H s)(E:η->ι->Prop):au (X.wish E) pins σ H s:=#[I.ok.wish E,I.os,I.bare,I.base,I.loc,I.cell,I.free,I.freeC,I.pin,I.hok,I.len]
def au.unwish(I:au (X.wish E) pins σ H s):au X pins σ H s:=#[I.ok.unwish,I.os,I.bare,I.base,I.loc,I.cell,I.free,I.freeC,I.pin,I.hok,I.len]
def SP.unwish(h:SP (X.wish E) pins D f c):SP X pins D f c:=by
 cases f with
 |next |brk |cont=>let#[a,b,I,q]:=h;rwa[#[a,b,I.unwish,q]]
 |ret u=>let#[v,a,b,I,r,q]:=h;rwa[#[v,a,b,I.unwish,r,q]]
def nJ.nox{st:xD cc}(h:nJ X.nox st t):nJ X st t:=λpins s σ H D I a=>
 P5 (h pins s σ H D (I.wish _) a) (λ_ _ q=>q.unwish) λ_ _ z=>False.elim z
end
section
variable {X:Cx}{st:cc}{rest:xD cc}{t u:TS}{e:dg}{te:TE}{pos:Pos}
def yO:TS:=λD a H=>D.nx a H
def eQ(t u:TS):TS:=λD a H=>t { D with nx:=u D } a H
def jp:nJ X [] yO:=λ_ _ a H _ I h=>SJ #[a,H,I,h]
def jd(b:PS X st t)(c:nJ X rest u):nJ X (st::rest) (eQ t u):=by
 intro p s d H D I h;refine UW$ a8 (b p s d H { D with nx:=u D } I h) λf S q=>?_;cases f with
 |next=>let#[a,g,i,q]:=q;rwa[c p S a g D i q]
 |ret v |brk |cont=>rwa[q]
def jg(a:PS X st t):nJ X [st] t:=by
 intro p s b H D I h;erw[UW$ a8 (a p s b H D I h) λf S q=>?_];cases f with
 |next=>rwa[SJ q]
 |ret v |brk |cont=>rwa[q]
def au.quiet(I:au X p a H s):interactive X.env=ν:=by simp [interactive,I.ok.kind]
def si(te:TE):TS:=λD a H=>te a H λ_ h=>D.nx a h
def jL(b:PE X e te)(c:↥(swapsWith e θ pos.line X.env=pure ν)):PS X (.Expr e pos) (si te):=by intro p s a H D I h;rwa[wpAny_Expr_any (a8 (b p s a H _ I h) λv S #[x,d,i,r,q]=>#[a,d,i,q]) I.quiet c]
def iG(te:TE):TS:=λD a H=>te a H D.rt
def jo(b:PE X e te):PS X (.Return (δ e) pos) (iG te):=by intro p s a H D I h;rwa[wpAny_Return_some$ a8 (b p s a H _ I h) λv S #[x,c,i,r,q]=>#[x,a,c,i,r,q]]
def iR(c:TT)(t u:TS):TS:=λD a H=>c a H λb h=>if b=μ then t D a h else u D a h
def jy{c:dg}{a b:xD cc}{T:TT}(j:PT X c T)(k:nJ X a t)(l:nJ X b u):PS X (.If c a b pos) (iR T t u):=by
 intro p s f H D I h;erw[wpAny_If$ a8 (j p s f H _ I h) λd S z=>?_];let#[g,i,q]:=z;cases d with
 |true=>rwa[k p S f g D i q]
 |false=>rwa[l p S f g D i q]
end
abbrev TG:=V->St->Hp->(St->Hp->Prop)->Prop
abbrev Av:=xD V->St->Hp->(St->Hp->Prop)->Prop
def PG(X:Cx)(T:dg)(t:TG):Prop:=
 ∀(p:xD (ζ×gs)) (s:ι) (b:St) (H:Hp) (v:V) (u:η) (Q:St->Hp->Prop),au X p b H s->aJ v u->t v b H Q->
  π (υ X.prog X.w) X.A (assign T X.env u) (λ_ S=>∃a h,au X p a h S/\Q a h) X.xe s
def Ho(X:Cx)(T:xD dg)(t:Av):Prop:=
 ∀(p:xD (ζ×gs)) (s:ι) (b:St) (H:Hp) (v:xD V) (u:xD η) (Q:St->Hp->Prop),au X p b H s->aG v u->t v b H Q->
  π (υ X.prog X.w) X.A (assignInOrder ((assignEach T X.env).map (·.2)) u) (λ_ S=>∃a h,au X p a h S/\Q a h) X.xe s
abbrev D5:=V->V->V->Hp->(Hp->Prop)->Prop
def HW(X:Cx)(t:D5):Prop:=
 ∀(p:xD (ζ×gs)) (s:ι) (a:St) (H:Hp) (o i v:V) (O I u:η) (Q:Hp->Prop),au X p a H s->aJ o O->aJ i I->aJ v u->t o i v H Q->
  π (υ X.prog X.w) X.A (setItem O I u) (λ_ S=>∃h,au X p a h S/\Q h) X.xe s
abbrev Mv:=V->V->Hp->VK->Prop
def No(X:Cx)(o:Operator)(t:Mv):Prop:=
 ∀(p:xD (ζ×gs)) (s:ι) (a:St) (H:Hp) (x y:V) (v u:η) (Q:VK),au X p a H s->aJ x v->aJ y u->t x y H Q->
  π (υ X.prog X.w) X.A (inplaceOp o v u) (EP X p a Q) X.xe s
section
variable {X:Cx}{pos:Pos}
def bH(i:Nat):TG:=λv a H Q=>Q (a.set i$ δ v) H
def jx{i:Nat}{x:ρ}(a:X.N.Nodup)(b:X.N[i]?=δ x)(c:uW X.env.scope x)(d:autoParam (X.fn x=μ\/X.env.scope.names.lookup x=δ .local) Wx._auto_1):PG X (.Name x pos) (bH i):=by intro p s f H v u Q I r h;rwa[WE$ zK I a b c r (λS e=>#[_,H,e,h]) d]
def vW:Av:=λv a H Q=>v=[]/\Q a H
inductive dZ(t:TG)(u:Av)(a:xD V)(b:St)(H:Hp)(Q:St->Hp->Prop):Prop
 |mk(v r:_)(_:a=v::r)(_:t v b H λσ' H'=>u r σ' H' Q)
def kB:Ho X [] vW:=by intro p s a H v u Q I r h;let#[e,h]:=h;subst e;cases r;rwa[assignInOrder_nil #[a,H,I,h]]
def jD(b:PG X e t)(c:Ho X E u)
  (d:↥((assignEach (e::E) X.env).map (·.2)=assign e X.env::(assignEach E X.env).map (·.2))):Ho X (e::E) (dZ t u):=by
 intro p s f H V U Q I r h;let#[v,k,g,h]:=h;subst g;cases r with
 |cons r R=>rw[d];erw[assignInOrder_cons$ a8 (b p s f H _ _ _ I r h) λ_ S z=>?_];let#[a,i,j,q]:=z;rwa[c p S a i _ _ Q j R q]
inductive sY(K:β)(n:Nat)(t:Av)(v:V)(c:St)(H:Hp)(Q:St->Hp->Prop):Prop
 |mk(a b:_)(_:v= .ref a)(_:aC K H a b)(_:ry b=n)(_:t b c H Q)
def zV{n:Nat}(g:X.calm=μ)(h:Ho X E t)
  (i:↥((assignEach E X.env).length=n)) (c:↥((assignEach E X.env).findIdx? (·.1)=θ)):PG X (.Tuple E k pos) (sY X.K n t):=by
 intro p s f H v u Q I r d;let#[a,x,j,l,m,d]:=d;subst j;cases r;let#[q,R,w,B]:=I.tuple l;erw[assign_Tuple_tuple (I.ok.hd g) w (by simp [i,<- m,R.length]) c λy z=>?_];let A:au X p f H { s with heap:=y }:=I.kept (t':=s.toks) λb o e=>z b o (OZ$ OP e) e;rwa[h p _ f H x _ Q A (by simpa using R) d]
def Et(T b:TE)(t:D5):TG:=λv a H Q=>T a H λo h=>b a h λi c=>t o i v c λd=>Q a d
def qS{o i:dg}{T c:TE}{t:D5}(d:PE X o T)(e:PE X i c)(f:HW X t)
  (g:∀v,assign (.Subscript o i pos) X.env v=(do
   let O <- ly [v] (eval o X.env)
   let a <- ly [v,O] (eval i X.env)
   standAt pos
   ly [v,O,a] (setItem O a v)
   release [v,O,a] []):=by intro _;rfl):PG X (.Subscript o i pos) (Et T c t):=by
 intro p s b H v u Q I r h;rw[g];erw[OF$ Pb$ a8 (d p s b H _ I h) λO S z=>?_];let#[x,j,k,R,q]:=z;erw[OF$ Pb$ a8 (e p S b j _ k q) λa l z=>?_];let#[y,m,n,w,A]:=z;erw[OF$ Sj$ OF$ Pb$ a8 (f p l b m x y v O a u _ n R w r A) λ_ E z=>?_];let#[B,C,D]:=z;rwa[wpAny_release #[b,B,C,D]]
def eK(t:TE)(g:TG):TS:=λD a H=>t a H λx h=>g x a h D.nx
def zu{t e:dg}{T:TE}{g:TG}(b:PE X e T)(c:PG X t g)(d:↥(swapsWithSole [t] e pos.line X.env=pure ν))(f:↥(swappedStores [t] e X.env=pure θ))
  (i:↥((assignEach [t] X.env).map (·.2)=[assign t X.env])):PS X (.Assign [t] e pos) (eK T g):=by
 intro p s a H D I h;erw[wpAny_Assign_stores (a8 (b p s a H _ I h) λv S z=>?_) d f];let#[x,j,k,r,Q]:=z;rw[i];rwa[a8 (c p S a j x v _ k r Q) λ_ l q=>q]
def kX{i:Nat}{x:ρ}{e:dg}{t:TE}{p:Pos}(a:X.N.Nodup)(b:X.N[i]?=δ x)(c:uW X.env.scope x)(d:PE X e t)(f:↥(swapsWith e (δ$ .Name x p) pos.line X.env=pure ν))(g:autoParam (X.fn x=μ\/X.env.scope.names.lookup x=δ .local) Wx._auto_1):
  PS X (.Assign [.Name x p] e pos) (eK t$ bH i):=by
 intro P s j H D I h;erw[WF (a8 (d P s j H _ I h) λv S z=>?_) f];let#[y,k,l,r,q]:=z;rwa[zK l a b c r (λn m=>#[_,k,m,q]) g]
inductive LI(i:Nat)(a:TE)(b:Mv)(D:bp)(c:St)(H:Hp):Prop
 |mk(x:_)(_:c[i]?=δ (δ x))(_:a c H λy H1=>b x y H1 λz H2=>D.nx (c.set i (δ z)) H2)
def Gb{i:Nat}(q:X.N.Nodup)(g:X.N[i]?=δ x)(f:uW X.env.scope x)(t:PE X e T)(B:No X o C)(E:autoParam (X.fn x=μ\/X.env.scope.names.lookup x=δ .local) Wx._auto_1):
  PS X (.AugAssign (.Name x j) o e pos) (LI i T C):=by
 intro p s n H D I h;let#[v,F,h]:=h;let#[m,J,K]:=I.loc;let V:Mc X.env.scope x:=by rcases f with k |k;rwa[.inl k];rwa[.inr$ .inl k]
 let#[u,r,l]:=K i x v g F V;erw[wpAny_AugAssign_Name ?_];let G:π (υ X.prog X.w) X.A (eval e X.env) (λw S=>π (υ X.prog X.w) X.A (inplaceOp o u w) (λr d=>π (υ X.prog X.w) X.A (storeName X.env x r) (λ_=>SP X p D .next) X.xe d) X.xe S) X.xe s:=by erw[a8 (t p s n H _ I h) λw L a=>?_];let#[y,M,O,R,Q]:=a;erw[a8 (B p L n M v y u w _ O r R Q) λz s2 a=>?_];let#[zv,P,U,W,Y]:=a;rwa[zK U q g f W (λs3 I3=>#[_,P,I3,Y]) E]
 rcases l with ⟨hk,hm⟩ | ⟨hk,c,hc,b⟩
 .rwa[V7 I.ok.kind hk J hm G]
 .rcases hk with hk |hk
  .rwa[Wk I.ok.kind hk hc b G]
  .rcases f with k |k
   .let:X.env.scope.names.lookup x=δ .free:=hk;rw[k]at this;cases this
   .let:X.env.scope.names.lookup x=δ .free:=hk;rw[k]at this;cases this
inductive Nx(f:Int->Int->Int)(x y:V)(H:Hp)(Q:VK):Prop
 |mk(i j:_)(_:x= .int i)(_:y= .int j)(_:Q (.int (f i j)) H)
def EA:No X .Add (Nx λi j=>i+j):=by intro p s a H x y v u Q I r R h;let#[i,j,e,E,q]:=h;subst e;subst E;let#[t,Z]:=r;let#[T,Z]:=R;rwa[iadd_int #[.int _,H,I.tok _,#[_,Z],q]]
end
section
variable {X:Cx}{pos:Pos}
def yS(c:TT)(t:TS):TS:=λD a H=>∃W:Nat->St->Hp->Prop,(∃m,W m a H)/\∀m a H,W m a H->
 c a H λb h=>if b=μ then ∃N:St->Hp->Prop,(∀d e,N d e->∃M,M < m/\W M d e)/\t { D with nx:=N,ct:=N,bk:=D.nx } a h else D.nx a h
def KI(o:PassesOwn (υ X.prog X.w) X.A X.env X.xe)(E:PT X c T)(F:nJ X B G):PS X (.While c B [] pos) (yS T G):=by
 intro p s J H D I h;obtain⟨W,⟨M,K⟩,t⟩:=h;erw[wpAny_While$ codeAny_whileLoop (λn S=>∃e r,au X p e r S/\W n e r) ?_ M #[J,H,I,K]];rintro n L ⟨d,u,O,P⟩;erw[Si o$ a8 (E p L d u _ O$ t n d u P) λb R z=>?_];let#[x,y,q]:=z;cases b with
 |true=>
  let#[N,C,q]:=q;rw[OT Z];erw[Si o$ a8 (F p R d x _ y q) λf U Q=>?_];cases f with
  |next |cont=>let#[a,g,i,j]:=Q;let#[m,k,l]:=C a g j;rwa[#[m,k,a,g,i,l]]
  |brk |ret v=>rwa[Q]
 |false=>rw[OU OX];rwa[SJ #[d,x,y,q]]
end
structure It where
 go:Nat->Hp->Prop
 yld:Nat->Hp->V->Hp->Prop
 stop:Nat->Hp->Prop
def h9(X:Cx)(P:xD (ζ×gs))(H:Hp)(b:ζ):Prop:=
 H b=θ/\b≠X.env.locals/\b∉X.fs/\(b∈X.ex\/X.s₀.heap.objs.size<=b)/\(∀x c,X.env.cells.lookup x=δ c->c≠b)/\∀p∈X.pn++P,p.1≠b
def au.fpOk{X:Cx}{d:Hp}(I:au X a i H s)(h:s.heap.objs.size<=b)(f:d b=θ):h9 X a d b:=by
 erw[#[f,PV$ O3 I.lt h,I.nofs h,.inr$ O1 I.sz h,λx c e z=>?_,λp g z=>?_]]
 .let#[v,q]:=I.cell x c e;rwa[absurd (O3 q.lt (by rw[z];rwa[h]))$ PX _]
 .rwa[absurd (O3 (OP (I.pin p g).1) (by rw[z];rwa[h]))$ PX _]
structure oQ(P:ψ)(w:bF)(K:β)(tg:dg)(J:It)(fp:xD ζ)(it:ζ)(tn:Nat->de->Prop):Prop where
 mem:it∈fp
 obj:∀i h,tn i h->∀b∈fp,∃o,h.get? b=δ o/\∀v,o.data≠ .cell v
 keep:∀i h h',tn i h->(∀b∈fp,∀o,h.get? b=δ o->h'.get? b=δ o)->tn i h'
 item:∀(X:Cx),X.prog=P->X.w=w->X.K=K->X.calm=μ->∀(i:Nat) (pins:xD (ζ×gs)) (s:ι) (σ:St) (H:Hp) (E:η->ι->Prop),au X pins σ H s->(∀b∈fp,h9 X pins H b)->tn i s.heap->J.go i H->
  π (υ P w) X.A (pyNext$ .ref it) (λr s1=>∃u,r=δ u/\
   π (υ P w) X.A (letOwnedTupleGo tg (.ref it) u) (λ_ s2=>∃x H',au X pins σ H' s2/\aJ x u/\J.yld i H x H'/\tn (i+1) s2.heap/\∀b∈fp,H' b=θ) E s1) E s
 done:∀(X:Cx),X.prog=P->X.w=w->X.K=K->X.calm=μ->∀(i:Nat) (pins:xD (ζ×gs)) (s:ι) (σ:St) (H:Hp) (E:η->ι->Prop),au X pins σ H s->(∀b∈fp,h9 X pins H b)->tn i s.heap->J.stop i H->
  π (υ P w) X.A (pyNext$ .ref it) (λr s1=>r=θ/\au X pins σ H s1) E s
 self:∀(A:bU) (i:Nat) (s:ι) (Q:η->ι->Prop) (E:η->ι->Prop),tn i s.heap->Q (.ref it) s->π (υ P w) A (pyIter$ .ref it) Q E s
abbrev TI:=St->Hp->(It->Hp->Prop)->Prop
def Nn(X:Cx)(p:xD (ζ×gs))(a:St)(T:dg)(R:It->Hp->Prop)(i:η)(s:ι):Prop:=
 ∃(I:ζ) (f:xD ζ) (t:Nat->de->Prop) (J:It) (H:Hp),i= .ref I/\au X p a H s/\oQ X.prog X.w X.K T J f I t/\t 0 s.heap/\(∀b∈f,h9 X p H b)/\R J H
def PI(X:Cx)(t iter:dg)(W:TI):Prop:=
 ∀(p:xD (ζ×gs)) (s:ι) (a:St) (H:Hp) (R:It->Hp->Prop),au X p a H s->W a H R->
  π (υ X.prog X.w) X.A (eval iter X.env) (λv S=>π (υ X.prog X.w) X.A (pyIter v) (Nn X p a t R) X.xe S) X.xe s
def Zx{s : ι}{n : String}{Q : Unit -> ι -> Prop}(a : s.heap.get? i = δ o)(b : o.cls = .type n)(c : o.data = .fields v)
    (d : ["enumerate", "zip", "dict_itemiterator", "dict_reverseitemiterator", "odict_iterator", "itertools.zip_longest", "itertools.pairwise"].contains n = ν) (H : Q () s) : π M A (letOwnedTupleGo t (.ref i) u) Q E s := by
  unfold letOwnedTupleGo;cases t <;> first
    | rwa[OK H]
    | (cases u <;> first
        | rwa[OK H]
        | (erw[OF (Wv a ?_)]
           rw [b, c];show π M A (if (["enumerate", "zip", "dict_itemiterator", "dict_reverseitemiterator", "odict_iterator", "itertools.zip_longest", "itertools.pairwise"].contains n && v[0]? == δ (rawInt _)) = μ then _ else _) Q E s;rw [OU (by intro h; rw [d, Wu] at h; cases h)];rwa[OK H]))
def Ae(K:β)(a:ζ):It:=
 #[λi H=>∃X x,aK K H a X/\X[i]?=δ x,λi H x h=>h=H/\∀X,aK K H a X->X[i]?=δ x,λi H=>∃X,aK K H a X/\ry X<=i]
def Ap(K:β)(a:ζ):It:=
 #[λi H=>∃X x,aC K H a X/\X[i]?=δ x,λi H x h=>h=H/\∀X,aC K H a X->X[i]?=δ x,λi H=>∃X,aC K H a X/\ry X<=i]
def uV(lo:Int)(n:Nat):It:=#[λi _=>i < n,λi H x h=>h=H/\x= .int (lo+i),λi _=>n<=i]
def uK{P:ψ}{K:β}(a g:ζ):oQ P w K tg (Ae K a) [g] g (λi h=>h.IsListIter g a i) where
 mem:=by simp
 obj:=λi h st b j=>by
  let e:b=g:=by simpa using j
  subst e;let#[o,e,c,d]:=st;exact#[o,e,λv z=>by rw[d]at z;cases z]
 keep:=λi h l st k=>st.at λo e=>k g N8 o e
 item:=by intro X q r t L i f s M H E I m st y;subst q r t;let#[N,x,n,A]:=y;let#[B,R,p,O]:=I.list n;let#[u,Q,T]:=R.get A;let#[F,C,U,D,G,J]:=m g N8;erw[VM st p.isList (x:=u) (by simpa using Q) λl S V=>?_];let W:au X f M H { s with heap:=l }:=I.turned (t':=s.toks) (λb o j e=>(V.2 b j).trans e) F C D G J;let#[o,e,c,d]:=id S;exact#[u,Z,Zx (s:={ s with heap:=l }) e c d Oa #[x,H,W,T,#[Z,λys Y=>by rw[I.list_inj Y n];rwa[A]],S,λb j=>(m b j).1]]
 done:=by intro X q r t L i f s M H E I m st y;subst q r t;let#[N,n,A]:=y;let#[B,R,p,O]:=I.list n;let#[F,C,U,D,G,J]:=m g N8;let hl:=R.length;exact V0 (I.ok.hd L) st p.isList (by simp;omega) λl eb=>#[Z,I.turned (t':=s.toks) (λb o j e=>eb b o j e) F C D G J]
 self:=λ_ _ _ _ _ st h=>wpAny_pyIter_listiter st h
def YV{P:ψ}{K:β}(a g:ζ):oQ P w K tg (Ap K a) [g] g (λi h=>h.IsTupleIter g a i) where
 mem:=by simp
 obj:=λi h st b j=>by
  let e:b=g:=by simpa using j
  subst e;let#[o,e,c,d]:=st;exact#[o,e,λv z=>by rw[d]at z;cases z]
 keep:=λi h m st k=>st.at λo e=>k g N8 o e
 item:=by intro X r t y L i f s M H E I n st A;subst r t y;let#[N,x,q,B]:=A;let#[l,R,p,O]:=I.tuple q;let#[u,Q,T]:=R.get B;let#[F,C,U,D,G,J]:=n g N8;erw[wpAny_pyNext_tuple_item st (show s.heap.IsTuple a l.toArray from p) (x:=u) (by simpa using Q) λm S V=>?_];let W:au X f M H { s with heap:=m }:=I.turned (t':=s.toks) (λb o j e=>(V.2 b j).trans e) F C D G J;let#[o,e,c,d]:=id S;exact#[u,Z,Zx (s:={ s with heap:=m }) e c d Oa #[x,H,W,T,#[Z,λys Y=>by rw[I.tuple_inj Y q];rwa[B]],S,λb j=>(n b j).1]]
 done:=by intro X r t y L i f s M H E I n st A;subst r t y;let#[N,q,B]:=A;let#[l,R,p,O]:=I.tuple q;let#[F,C,U,D,G,J]:=n g N8;let hl:=R.length;exact wpAny_pyNext_tuple_end (I.ok.hd L) st (show s.heap.IsTuple a l.toArray from p) (by simp;omega) λm eb=>#[Z,I.turned (t':=s.toks) (λb o j e=>eb b o j e) F C D G J]
 self:=λ_ _ _ _ _ st h=>wpAny_pyIter_tupleiter st h
def YW{P:ψ}{K:β}(a:ζ)(lo:Int)(n:Nat):oQ P w K M (uV lo n) [a] a (λi h=>IsRangeIter h a (lo+(i:Nat)*1) ((n:Int) - (i:Nat)) 1) where
 mem:=by simp
 obj:=λi h st b c=>by
  let e:b=a:=by simpa using c
  subst e;exact#[_,st,λv z=>by
   let B:Data.fields _=Data.cell v:=z;cases B]
 keep:=λi h d st k=>k a N8 _ st
 item:=by intro X g j l m i p s A H E I f st q;subst g j l;let#[F,r,C,u,x,y]:=f a N8;let W:=Walks.range (prog:=X.prog) (w:=X.w) (I.ok.hd m) a lo 1 n;erw[W.item i s _ _ q st λv d T D S G=>?_];let#[t,Z]:=D;let J:au X p A H { s with heap:=d,toks:=T }:=I.turned (λb o c e=>G b o (by simpa using c) e) F r u x y;refine#[_,Z,Zx (s:={ s with heap:=d,toks:=T }) (n:="range_iterator") S Z Z Oa #[.int$ lo+i,H,J,#[t,?_],#[Z,Z],S,λb c=>(f b c).1]];rw[Int.mul_one]
 done:=by intro X g j l m i p s A H E I f st q;subst g j l;let#[F,r,C,u,x,y]:=f a N8;exact wpAny_pyNext_range_end (I.ok.hd m) st (by let:n<=i:=q;omega) λd L=>#[Z,I.turned (t':=s.toks) (λb o c e=>L b o c e) F r u x y]
 self:=λ_ _ _ _ _ st h=>wpAny_pyIter_rangeiter st h
section
variable {X:Cx}{tg:dg}
inductive wf(K:β)(R:It->Hp->Prop)(x:V)(b:Hp):Prop
 |mk(a:_)(_:x= .ref a)(_:∃xs,aK K b a xs)(_:R (Ae K a) b)
def Dv(K:β)(t:TE):TI:=λa H R=>t a H (wf K R)
inductive Dx(K:β)(R:It->Hp->Prop)(x:V)(b:Hp):Prop
 |mk(a:_)(_:x= .ref a)(_:∃xs,aC K b a xs)(_:R (Ap K a) b)
def MN(K:β)(t:TE):TI:=λa H R=>t a H (Dx K R)
def zw(c:PE X l t):PI X tg l (Dv X.K t):=by
 intro P s d H R I h;erw[a8 (c P s d H _ I h) λv S z=>?_];let#[x,f,i,r,Q]:=z;obtain⟨a,e,⟨m,g⟩,q⟩:=Q;subst e;cases r;let#[j,n,p,u]:=i.list g;erw[TN p.isList ?_];erw[#[S.heap.objs.size,[S.heap.objs.size],_,_,f,Z,i.kept (t':=S.toks) λb o e=>OH _ e,uK a _,#[_,OQ _ Z,Z,Z],λb k=>?_,q]];let e:b=S.heap.objs.size:=by simpa using k
 subst e;rwa[i.fpOk (OM _)$ i.hok.fresh$ OM _]
def z9(d:PE X l t):PI X tg l (MN X.K t):=by
 intro P s f H R I h;erw[a8 (d P s f H _ I h) λv S z=>?_];let#[x,g,i,r,Q]:=z;obtain⟨a,e,⟨m,j⟩,q⟩:=Q;subst e;cases r;let#[c,n,p,u]:=i.tuple j;erw[SN (show S.heap.IsTuple a c.toArray from p) ?_];erw[#[S.heap.objs.size,[S.heap.objs.size],_,_,g,Z,i.kept (t':=S.toks) λb o e=>OH _ e,YV a _,#[_,OQ _ Z,Z,Z],λb k=>?_,q]];let e:b=S.heap.objs.size:=by simpa using k
 subst e;rwa[i.fpOk (OM _)$ i.hok.fresh$ OM _]
def XS{R:It->Hp->Prop}{lo:Int}(I:au X p a H s)(c: -(2 ^ 62)<=lo)(d:lo < 2 ^ 62)(f: -(2 ^ 62)<=h)(g:h < 2 ^ 62)
  (q:R (uV lo (h - lo).toNat) H):π (υ X.prog X.w) X.A (pyIter$ .ref s.heap.objs.size) (Nn X p a tg R) E { s with heap:=s.heap.push { cls:=.type "range",data:=.fields (ε [.int lo t,.int h u,.int 1 v]) },toks:=T }:=by
 erw[wpAny_pyIter_range (IsRange.new ..) (small_one c d f g) ?_];let i:au X p a H { s with heap:=s.heap.push { cls:=.type "range",data:=.fields (ε [.int lo t,.int h u,.int 1 v]) },toks:=T }:=I.kept λb o e=>OH _ e;refine#[(s.heap.push { cls:=.type "range",data:=.fields (ε [.int lo t,.int h u,.int 1 v]) }).objs.size,[(s.heap.push { cls:=.type "range",data:=.fields (ε [.int lo t,.int h u,.int 1 v]) }).objs.size],_,_,H,Z,
  i.kept (t':=T) λb o e=>OH _ e,YW _ lo (h - lo).toNat,?_,λb j=>?_,q]
 .let k:lo+((0:Nat):Int)*1=lo:=by simp
  let l:(((h - lo).toNat:Nat):Int) - ((0:Nat):Int)=Builtin.Range.rangeSize lo h 1:=by rw[rangeSize_one];split<;>omega
  show IsRangeIter _ _ (lo+((0:Nat):Int)*1) ((((h - lo).toNat:Nat):Int) - ((0:Nat):Int)) 1;rw[k,l];rwa[OQ _ Z]
 .let e:b=(s.heap.push { cls:=.type "range",data:=.fields (ε [.int lo t,.int h u,.int 1 v]) }).objs.size:=by simpa using j
  subst e;rwa[i.fpOk (OM _)$ i.hok.fresh$ OM _]
inductive wg(R:It->Hp->Prop)(b:xD V)(a:Hp):Prop
 |mk(j:Int)(_:b=[.int j])(_:-(2 ^ 62)<=j)(_:j < 2 ^ 62)(_:R (uV 0 j.toNat) a)
def ID(t:TA):TI:=λa H R=>t a H (wg R)
inductive wj(R:It->Hp->Prop)(b:xD V)(a:Hp):Prop
 |mk(i j:Int)(_:b=[.int i,.int j])(_:-(2 ^ 62)<=i/\i < 2 ^ 62/\ -(2 ^ 62)<=j/\j < 2 ^ 62)(_:R (uV i (j - i).toNat) a)
def IE(t:TA):TI:=λa H R=>t a H (wj R)
def zd{a:dg}{T:TA}{p P:Pos}(c:Gl X "range")(d:X.mg "range"=θ)(f:PA X [a] T)(g:↥(Δ [a] X.env=[(ν,eval a X.env)])):PI X tg (.Call (.Name "range" p) [a] [] P) (ID T):=by
 intro b s i H R I h;erw[Call_$ zU I c d boot_range$ Px (a8 (f P b s i H _ I h) λu S z=>?_) g Z];let#[v,o,k,l,Q]:=z;let#[j,e,Q,m,q]:=Q;subst e;cases l with
 |cons r n=>cases n;let#[t,Z]:=r;rwa[call_range_1$ XS k N9 N9 Q m (by simpa using q)]
def qH(g:Gl X "range")(k:X.mg "range"=θ)(l:PA X [a,b] T)(m:↥(Δ [a,b] X.env=[(ν,eval a X.env),(ν,eval b X.env)]))(c:↥(Δ [b] X.env=[(ν,eval b X.env)])):
  PI X tg (.Call (.Name "range" p) [a,b] [] d) (IE T):=by
 intro P s n H R I h;erw[Call_$ zU I g k boot_range$ Px (a8 (l d P s n H _ I h) λU S #[V,z,o,u,Q]=>?_) (by rw[m,c]) (by rw[c];rfl)];obtain⟨i,j,e,⟨Q,v,w,x⟩,q⟩:=Q;subst e;cases u with
 |cons r f=>
  cases f with
  |cons y f=>cases f;let#[t,Z]:=r;let#[A,Z]:=y;rwa[call_range_2$ XS o Q v w x q]
def GZ(w:TI)(g:TG)(t:TS):TS:=λD a H=>w a H λJ d=>∃W:Nat->Nat->St->Hp->Prop,(∃m,W 0 m a d)/\∀i m a H,W i m a H->
 (J.stop i H/\D.nx a H)\/(J.go i H/\∃N:St->Hp->Prop,(∀b h,N b h->∃M,M < m/\W (i+1) M b h)/\∀x h,J.yld i H x h->g x a h λc e=>t { D with nx:=N,ct:=N,bk:=D.nx } c e)
def mJ(f:xD ζ)(h:de):xD (ζ×gs):=f.filterMap λb=>(h.get? b).map λo=>(b,o)
def zk{h:de}(H:b∈f)(e:h.get? b=δ o):(b,o)∈mJ f h:=List.mem_filterMap.mpr #[b,H,by rw[e];rfl]
def tR(H:p∈mJ f h):p.1∈f/\h.get? p.1=δ p.2:=by
 let#[b,a,e]:=List.mem_filterMap.mp H;cases q:h.get? b with
 |none=>rw[q]at e;cases e
 |some o=>rw[q]at e;let E:(b,o)=p:=PR e;subst E;rwa[#[a,q]]
def au.pinned(I:au X a c H s)(g:∀b∈f,h9 X a H b)(i:∀b∈f,∃o,s.heap.get? b=δ o/\∀v,o.data≠ .cell v):au X (a++mJ f s.heap) c H s:=
 I.pins_of λp j=>(bm.mp j).elim (λz=>I.pin p (O9 _ z)) λz=>by let#[h,e]:=tR z;let#[F,k,l,_]:=g p.1 h;let#[o,E,d]:=i p.1 h;rw[e]at E;cases E;rwa[#[e,F,k,l,d]]
def au.unpinned(I:au X (a++c) b H s):au X a b H s:=I.pins_of λp h=>I.pin p (O9 _$ Ro _ h)
def kf{iter:dg}{B:xD cc}{wi:TI}{g:TG}{tb:TS}{P:Pos}(C:PassesOwn (υ X.prog X.w) X.A X.env X.xe)(hc:X.calm=μ)(hi:PI X tg iter wi)(hg:PG X tg g)(c:nJ X B tb)
  (hs:∀x,foldedSetIterable iter X.env x=pure x:=by intro _;rfl):PS X (.For tg iter B [] P) (GZ wi g tb):=by
 intro p s σ H D I h;erw[wpAny_For (a8 (hi p s σ H _ I h) λv s1 h1=>a8 h1 λi0 s2 h2=>?_) hs];obtain⟨it,F,tn,J,H2,e,I2,T,O,f2,W,⟨m0,w0⟩,E⟩:=h2;subst e;let S:∀{t:Hp},(∀b∈F,t b=θ)->∀b∈F,h9 X p t b:=λhn b c=>#[hn b c,(f2 b c).2];erw[codeAny_forLoop_any (λn s'=>∃i j t,au X p j t s'/\tn i s'.heap/\(∀b∈F,t b=θ)/\W i n j t) ?_ m0 #[0,σ,H2,I2,O,λb c=>(f2 b c).1,w0]];rintro n s3 ⟨i,k,M,I3,G,K,w3⟩;rcases E i n k M w3 with ⟨stop,qn⟩ | ⟨go,N,hN,step⟩
 .erw[Si C$ a8 (T.done X Z Z Z hc i p s3 k M X.xe I3 (S K) G stop) λr s4 z=>?_];let#[R,I4]:=z;subst R;rwa[SJ #[k,M,I4,qn]]
 .erw[Si C$ a8 (T.item X Z Z Z hc i p s3 k M X.xe I3 (S K) G go) λr s4 z=>?_];let#[u,R,h4]:=z;subst R;erw[Si C$ a8 h4 λ_ s5 z=>?_];let#[x,H5,I5,r5,y5,y,U]:=z;let V:=I5.pinned (S U) (T.obj _ _ y);erw[Si C$ a8 (hg _ s5 k H5 x u _ V r5$ step x H5 y5) λ_ s6 z=>?_];let#[Y,H6,I6,q6]:=z;erw[Si C$ a8 (c _ s6 Y H6 _ I6 q6) λf s7 Q=>?_];let again:∀{a:St} {l:Hp},au X (p++mJ F s5.heap) a l s7->N a l->∃m,m < n/\∃i j t,au X p j t s7/\tn i s7.heap/\(∀b∈F,t b=θ)/\W i m j t:=λ{a l} q L=>by let#[m',hm,w7]:=hN a l L;erw[#[m',hm,i+1,a,l,q.unpinned,T.keep _ _ _ y λb c o e=>(q.pin (b,o)$ O9 _$ O9 _$ zk c e).1,λb c=>?_,w7]];let#[o,e,d]:=T.obj _ _ y b c;rwa[(q.pin (b,o)$ O9 _$ O9 _$ zk c e).2.1]
  cases f with
  |next |cont=>let#[a,l,q,L]:=Q;rwa[again q L]
  |brk=>let#[a,l,q,Q]:=Q;rwa[#[a,l,q.unpinned,Q]]
  |ret v=>let#[x7,a,l,q,r7,Q]:=Q;rwa[#[x7,a,l,q.unpinned,r7,Q]]
end
def vQ{K:β}{a:ζ}{X:xD V}{g:TG}{t:TS}{D:bp}{b:St}{H:Hp}(Pv:Nat->St->Hp->Prop)(k:Pv 0 b H)(l:∀i b H,i<=ry X->Pv i b H->aK K H a X)
  (n:∀i x b H,X[i]?=δ x->Pv i b H->g x b H λc j=>t { D with nx:=Pv (i+1),ct:=Pv (i+1),bk:=D.nx } c j) (o:∀b H,Pv X.length b H->D.nx b H):
  ∃W:Nat->Nat->St->Hp->Prop,(∃m,W 0 m b H)/\∀i m b H,W i m b H->
   ((Ae K a).stop i H/\D.nx b H)\/((Ae K a).go i H/\∃N:St->Hp->Prop,(∀d h,N d h->∃M,M < m/\W (i+1) M d h)/\∀x h,(Ae K a).yld i H x h->g x b h λc j=>t { D with nx:=N,ct:=N,bk:=D.nx } c j):=by
 erw[#[λi m b H=>m=ry X - i/\i<=ry X/\Pv i b H,#[X.length,N8,OS _,k],?_]];rintro i m b H ⟨rfl,r,p⟩;let q:=l i b H r p;by_cases f:i < ry X
 .erw[.inr #[#[X,X[i],q,by simp [f]],Pv$ i+1,λd h P=>#[ry X - (i+1),N09,Z,f,P],λx h y=>?_]];let#[e,y]:=y;subst e;rwa[n i x b _ (y X q) p]
 .let e:i=ry X:=by omega
  subst e;rwa[.inl #[#[X,q,OM _],o b H p]]
def AV{K:β}{a:ζ}{X:xD V}{g:TG}{t:TS}{D:bp}{b:St}{H:Hp}(Pv:Nat->St->Hp->Prop)(k:Pv 0 b H)(l:∀i b H,i<=ry X->Pv i b H->aC K H a X)
  (n:∀i x b H,X[i]?=δ x->Pv i b H->g x b H λc j=>t { D with nx:=Pv (i+1),ct:=Pv (i+1),bk:=D.nx } c j) (o:∀b H,Pv X.length b H->D.nx b H):
  ∃W:Nat->Nat->St->Hp->Prop,(∃m,W 0 m b H)/\∀i m b H,W i m b H->
   ((Ap K a).stop i H/\D.nx b H)\/((Ap K a).go i H/\∃N:St->Hp->Prop,(∀d h,N d h->∃M,M < m/\W (i+1) M d h)/\∀x h,(Ap K a).yld i H x h->g x b h λc j=>t { D with nx:=N,ct:=N,bk:=D.nx } c j):=by
 erw[#[λi m b H=>m=ry X - i/\i<=ry X/\Pv i b H,#[X.length,N8,OS _,k],?_]];rintro i m b H ⟨rfl,r,p⟩;let q:=l i b H r p;by_cases f:i < ry X
 .erw[.inr #[#[X,X[i],q,by simp [f]],Pv$ i+1,λd h P=>#[ry X - (i+1),N9,Z,f,P],λx h y=>?_]];let#[e,y]:=y;subst e;rwa[n i x b _ (y X q) p]
 .let e:i=ry X:=by omega
  subst e;rwa[.inl #[#[X,q,OM _],o b H p]]
def QO{lo:Int}{n:Nat}{g:TG}{t:TS}{D:bp}{a:St}{H:Hp}(Pv:Nat->St->Hp->Prop)(j:Pv 0 a H)
  (k:∀i a H,i < n->Pv i a H->g (.int$ lo+i) a H λb f=>t { D with nx:=Pv (i+1),ct:=Pv (i+1),bk:=D.nx } b f) (l:∀a H,Pv n a H->D.nx a H):
  ∃W:Nat->Nat->St->Hp->Prop,(∃m,W 0 m a H)/\∀i m a H,W i m a H->
   ((uV lo n).stop i H/\D.nx a H)\/((uV lo n).go i H/\∃N:St->Hp->Prop,(∀c h,N c h->∃M,M < m/\W (i+1) M c h)/\∀x h,(uV lo n).yld i H x h->g x a h λb f=>t { D with nx:=N,ct:=N,bk:=D.nx } b f):=by
 erw[#[λi m a H=>m=n - i/\i<=n/\Pv i a H,#[n,N8,OS _,j],?_]];rintro i m a H ⟨rfl,o,p⟩;by_cases d:i < n
 .erw[.inr #[d,Pv$ i+1,λc h P=>#[n - (i+1),N09,Z,d,P],λx h y=>?_]];let#[e,y]:=y;subst e y;rwa[k i a _ d p]
 .let e:i=n:=by omega
  subst e;rwa[.inl #[OM _,l a H p]]
abbrev R2:=V->V->Hp->VK->Prop
def fQ(X:Cx)(f:η->η->Sem η)(r:R2):Prop:=
 ∀(p:xD (ζ×gs)) (s:ι) (a:St) (H:Hp) (x y:V) (v u:η) (Q:VK),au X p a H s->aJ x v->aJ y u->r x y H Q->
  π (υ X.prog X.w) X.A (f v u) (EP X p a Q) X.xe s
def My(X:Cx)(f:η->Sem η)(r:V->Hp->VK->Prop):Prop:=
 ∀(p:xD (ζ×gs)) (s:ι) (a:St) (H:Hp) (x:V) (v:η) (Q:VK),au X p a H s->aJ x v->r x H Q->
  π (υ X.prog X.w) X.A (f v) (EP X p a Q) X.xe s
def fu(X:Cx)(f:η)(r:xD V->Hp->VK->Prop):Prop:=
 ∀(p:xD (ζ×gs)) (s:ι) (a:St) (H:Hp) (x:xD V) (u:xD η) (Q:VK),au X p a H s->aG x u->r x H Q->
  π (υ X.prog X.w) X.A (call f u) (EP X p a Q) X.xe s
def Mx(X:Cx)(r:V->Hp->(Bool->Hp->Prop)->Prop):Prop:=
 ∀(p:xD (ζ×gs)) (s:ι) (a:St) (H:Hp) (x:V) (v:η) (Q:Bool->Hp->Prop),au X p a H s->aJ x v->r x H Q->
  π (υ X.prog X.w) X.A (truthy v) (TP X p a Q) X.xe s
def fg(r:R2)(t T:TE):TE:=λa H Q=>t a H λx h=>T a h λy b=>r x y b Q
def NT(r:V->Hp->VK->Prop)(t:TE):TE:=λa H Q=>t a H λx h=>r x h Q
inductive rI(C:Int->Int->Prop)(g:Int->Int->V)(x y:V)(H:Hp)(Q:VK):Prop
 |mk(i j:_)(_:x= .int i)(_:y= .int j)(_:C i j)(_:Q (g i j) H)
inductive Ai(g:Int->Int->V)(x y:V)(H:Hp)(Q:VK):Prop
 |mk(i j:_)(_:x= .int i)(_:y= .int j)(_:Q (g i j) H)
inductive rU(g:Int->V)(x:V)(H:Hp)(Q:VK):Prop
 |mk(i:_)(_:x= .int i)(_:Q (g i) H)
section
variable {X:Cx}{a b c:dg}{ta tb tc:TE}{pos:Pos}
def Ed(k:PE X a ta)(l:PE X b tb){R:V->V->Hp->Prop}(I:au X p e H s)
  (h:ta e H λx j=>tb e j λy d=>R x y d)  {f:η->η->Sem η}
  (m:∀v u i x y d,au X p e d i->aJ x v->aJ y u->R x y d->π (υ X.prog X.w) X.A (f v u) Q X.xe i):
  π (υ X.prog X.w) X.A (eval a X.env) (λv S=>π (υ X.prog X.w) X.A (eval b X.env) (λu g=>π (υ X.prog X.w) X.A (f v u) Q X.xe g) X.xe S) X.xe s:=by
 erw[a8 (k p s e H _ I h) λv n z=>?_];let#[x,j,o,r,q]:=z;erw[a8 (l p n e j _ o q) λu i z=>?_];let#[y,d,t,B,C]:=z;rwa[m v u i x y d t r B C]
def jv{o:Operator}{r:R2}(d:fQ X (binaryOp o) r)(e:PE X a ta)(f:PE X b tb):PE X (.BinOp a o b pos) (fg r ta tb):=by intro p s g H Q I h;rwa[wpAny_BinOp$ Ed e f I h λv u S x y i j R k q=>d p S g i x y v u Q j R k q]
def xw(e:My X (unaryOp o) r)(f:PE X a ta):PE X (.UnaryOp o a pos) (NT r ta):=by intro p s d H Q I h;rwa[UnaryOp_$ a8 (f p s d H _ I h) λv S #[x,g,i,R,q]=>e p S d g x v Q i R q]
def Mi{f:η->η->Sem η}{C:Int->Int->Prop}{g:Int->Int->Int}
  (rule:∀(i j:Int) (t u:Tok) (s:ι) (Q:η->ι->Prop) (E:η->ι->Prop),C i j->Q (.int (g i j) s.toks) { s with toks:=s.toks+1 }->π (υ X.prog X.w) X.A (f (.int i t)$ .int j u) Q E s):
  fQ X f (rI C λi j=>.int (g i j)):=by
 intro p s e H x y v u Q I r R h;let#[i,j,Z,Z,d,q]:=h;let#[t,Z]:=r;let#[T,Z]:=R;rwa[rule i j t T s _ _ d #[.int$ g i j,H,I.tok _,#[_,Z],q]]
def IW{f:η->η->Sem η}{g:Int->Int->Int}
  (rule:∀(i j:Int) (t u:Tok) (s:ι) (Q:η->ι->Prop) (E:η->ι->Prop),Q (.int (g i j) s.toks) { s with toks:=s.toks+1 }->π (υ X.prog X.w) X.A (f (.int i t)$ .int j u) Q E s):
  fQ X f (Ai λi j=>.int (g i j)):=by
 intro p s d H x y v u Q I r R h;let#[i,j,Z,Z,q]:=h;let#[t,Z]:=r;let#[T,Z]:=R;rwa[rule i j t T s _ _ #[.int$ g i j,H,I.tok _,#[_,Z],q]]
def FH{f:η->η->Sem η}{g:Int->Int->Bool}
  (rule:∀(i j:Int) (t u:Tok) (s:ι) (Q:η->ι->Prop) (E:η->ι->Prop),Q (.bool$ g i j) s->π (υ X.prog X.w) X.A (f (.int i t)$ .int j u) Q E s):
  fQ X f (Ai λi j=>.bl (g i j)):=by
 intro p s d H x y v u Q I r R h;let#[i,j,Z,Z,q]:=h;let#[t,Z]:=r;let#[T,Z]:=R;rwa[rule i j t T s _ _ #[.bl$ g i j,H,I,Z,q]]
def Mn(i j:Int):Prop:=0<=j/\j<=1000000/\i.natAbs < 2 ^ 64
def Al(i j:Int):Prop:=(-(2 ^ 64) < i/\i < 2 ^ 64)\/(-(2 ^ 64) < j/\j < 2 ^ 64)
def Al.ok(h:Al i j):IntMulOk i j:=by
 rcases h with ⟨H,d⟩ | ⟨H,d⟩
 .rwa[.of_left$ intBits_le_64 H d]
 .rwa[.of_right$ intBits_le_64 H d]
def jY:fQ X (binaryOp .Add) (Ai λi j=>.int (i+j)):=IW λ_ _ _ _ _ _ _ q=>add_int q
def zi:fQ X (binaryOp .Sub) (Ai λi j=>.int (i - j)):=IW λ_ _ _ _ _ _ _ q=>sub_int q
def zF:fQ X (binaryOp .Mult) (rI Al λi j=>.int (i*j)):=Mi λ_ _ _ _ _ _ _ h q=>mul_int q h.ok
def zj:fQ X (binaryOp .Mod) (rI (λ_ j=>0 < j) λi j=>.int (i % j)):=Mi λi j _ _ _ _ _ h q=>by let H:(0:Int) < j:=h;rwa[mod_int' N9 (by rw[Int.fmod_eq_emod_of_nonneg i N9];rwa[q])]
def Ku:fQ X (binaryOp .Pow) (rI Mn λi j=>.int (i ^ j.toNat)):=Mi λ_ _ _ _ _ _ _ h q=>pow_int_small h.1 h.2.1 h.2.2 q
def NW{f:η->Sem η}{g:Int->Int}
  (rule:∀(i:Int) (t:Tok) (s:ι) (Q:η->ι->Prop) (E:η->ι->Prop),Q (.int (g i) s.toks) { s with toks:=s.toks+1 }->π (υ X.prog X.w) X.A (f$ .int i t) Q E s):
  My X f (rU λi=>.int (g i)):=by
 intro p s d H x v Q I r h;let#[i,Z,q]:=h;let#[t,Z]:=r;rwa[rule i t s _ _ #[.int$ g i,H,I.tok _,#[_,Z],q]]
def YJ:My X (unaryOp .USub) (rU λi=>.int (-i)):=NW λ_ _ _ _ _ q=>neg_int q
end
def Lr:V->V->Bool
 | .non,.non=>μ | .non,.int _=>μ | .int _,.non=>μ | .non,.bl _=>μ | .bl _,.non=>μ | .non,.str _=>μ | .str _,.non=>μ
 | .int _,.int _=>μ | .bl _,.bl _=>μ | .str _,.str _=>μ | .byt _,.byt _=>μ
 | .int _,.str _=>μ | .str _,.int _=>μ | .bl _,.str _=>μ | .str _,.bl _=>μ
 |_,_=>ν
def K':R2:=λx y H Q=>Lr x y=μ/\Q (.bl$ decide$ x=y) H
def NA:R2:=λx y H Q=>Lr x y=μ/\Q (.bl (!decide (x=y))) H
def ZK:decide (tT i=tT j)=(i==j):=by rw[T5];simp
def vE:decide (V.bl i=V.bl j)=(i==j):=by rw[T5];simp
def ZL:decide (tz i=tz j)=(i==j):=by rw[T5];simp
def ZM:decide (V.byt i=V.byt j)=(i.toList==j.toList):=by rw[T5];cases i;cases j;simp
section
variable {X:Cx}{a b c:dg}{ta tb tc:TE}{pos:Pos}
def jR{Q:VK}(I:au X p d H s)(q:Q (.bl k) H)(e:k=f):EP X p d Q (.bool f) s:=by subst e;rwa[#[.bl k,H,I,Z,q]]
def qr:fQ X (compareOp .Eq) K':=by
 intro p s e H x y v u Q I R r h;let#[d,q]:=h;cases x with
 |non=>
  cases R;cases y with
  |non=>cases r;rwa[PySem.EqNone.eq_none_none (jR I q N8)]
  |bl j=>cases r;rwa[PySem.EqNone.eq_none_bool (jR I q N8)]
  |int j=>let#[T,Z]:=r;rwa[PySem.EqNone.eq_none_int (jR I q N8)]
  |str j=>let#[T,Z]:=r;rwa[PySem.EqNone.eq_none_str (jR I q N8)]
  |_=>rwa[absurd (show ν=μ from d) OX]
 |bl i=>
  cases R;cases y with
  |non=>cases r;rwa[PySem.EqNone.eq_bool_none (jR I q N8)]
  |bl j=>cases r;rwa[eq_bool (jR I q vE)]
  |str j=>let#[T,Z]:=r;rwa[X' (jR I q N8)]
  |_=>rwa[absurd (show ν=μ from d) OX]
 |int i=>
  let#[t,Z]:=R;cases y with
  |non=>cases r;rwa[PySem.EqNone.eq_int_none (jR I q N8)]
  |int j=>let#[T,Z]:=r;rwa[eq_int (jR I q ZK)]
  |str j=>let#[T,Z]:=r;rwa[WZ (jR I q N8)]
  |_=>rwa[absurd (show ν=μ from d) OX]
 |str i=>
  let#[t,Z]:=R;cases y with
  |non=>cases r;rwa[PySem.EqNone.eq_str_none (jR I q N8)]
  |bl j=>cases r;rwa[WY (jR I q N8)]
  |int j=>let#[T,Z]:=r;rwa[WX (jR I q N8)]
  |str j=>let#[T,Z]:=r;rwa[eq_str (jR I q ZL)]
  |_=>rwa[absurd (show ν=μ from d) OX]
 |byt i=>
  let#[t,Z]:=R;cases y with
  |byt j=>let#[T,Z]:=r;rwa[PySem.W.eq_bytes (jR I q ZM)]
  |_=>rwa[absurd (show ν=μ from d) OX]
 |_=>cases y<;>rwa[absurd (show ν=μ from d) OX]
def QH:fQ X (compareOp .NotEq) NA:=by
 intro p s e H x y v u Q I R r h;let#[d,q]:=h;cases x with
 |non=>
  cases R;cases y with
  |non=>cases r;rwa[PySem.EqNone.ne_none_none (jR I q N8)]
  |bl j=>cases r;rwa[PySem.EqNone.ne_none_bool (jR I q N8)]
  |int j=>let#[T,Z]:=r;rwa[PySem.EqNone.ne_none_int (jR I q N8)]
  |str j=>let#[T,Z]:=r;rwa[PySem.EqNone.ne_none_str (jR I q N8)]
  |_=>rwa[absurd (show ν=μ from d) OX]
 |bl i=>
  cases R;cases y with
  |non=>cases r;rwa[PySem.EqNone.ne_bool_none (jR I q N8)]
  |bl j=>cases r;rwa[ne_bool (jR I q (P' not vE))]
  |str j=>let#[T,Z]:=r;rwa[WW (jR I q N8)]
  |_=>rwa[absurd (show ν=μ from d) OX]
 |int i=>
  let#[t,Z]:=R;cases y with
  |non=>cases r;rwa[PySem.EqNone.ne_int_none (jR I q N8)]
  |int j=>let#[T,Z]:=r;rwa[ne_int (jR I q (P' not ZK))]
  |str j=>let#[T,Z]:=r;rwa[WV (jR I q N8)]
  |_=>rwa[absurd (show ν=μ from d) OX]
 |str i=>
  let#[t,Z]:=R;cases y with
  |non=>cases r;rwa[PySem.EqNone.ne_str_none (jR I q N8)]
  |bl j=>cases r;rwa[WU (jR I q N8)]
  |int j=>let#[T,Z]:=r;rwa[WT (jR I q N8)]
  |str j=>let#[T,Z]:=r;rwa[ne_str (jR I q (P' not ZL))]
  |_=>rwa[absurd (show ν=μ from d) OX]
 |byt i=>
  let#[t,Z]:=R;cases y with
  |byt j=>let#[T,Z]:=r;rwa[PySem.W.ne_bytes (jR I q (P' not ZM))]
  |_=>rwa[absurd (show ν=μ from d) OX]
 |_=>cases y<;>rwa[absurd (show ν=μ from d) OX]
def QI:fQ X (compareOp .Lt) (Ai λi j=>.bl (decide$ i < j)):=FH λ_ _ _ _ _ _ _ q=>lt_int q
def JQ:fQ X (compareOp .Gt) (Ai λi j=>.bl (decide$ j < i)):=FH λ_ _ _ _ _ _ _ q=>gt_int q
def xk:fQ X (compareOp .GtE) (Ai λi j=>.bl (decide$ j<=i)):=FH λ_ _ _ _ _ _ _ q=>ge_int q
def qv:fQ X (compareOp .Is) (λx y H Q=>y= .non/\Q (.bl$ decide$ x= .non) H):=by
 intro p s d H x y v u Q I r R h;let#[Z,q]:=h;cases R;erw[is_none_gen$ jR I q ?_];cases x<;>first
  | (cases r;rfl)
  | (let#[t,Z]:=r;rfl)
def BL:fQ X (compareOp .IsNot) (λx y H Q=>y= .non/\Q (.bl (!decide (x= .non))) H):=by
 intro p s d H x y v u Q I r R h;let#[Z,q]:=h;cases R;erw[isnot_none_gen$ jR I q ?_];cases x<;>first
  | (cases r;rfl)
  | (let#[t,Z]:=r;rfl)
def aF(b:dg)(h:↥(o≠ .In))(H:↥(o≠ .NotIn)):behindInMarks o b=ν:=by
 let e:(o==CmpOp.In)=ν:=by cases o<;>first |rfl |rwa[absurd Z h]
 let E:(o==CmpOp.NotIn)=ν:=by cases o<;>first |rfl |rwa[absurd Z H]
 cases b<;>simp [behindInMarks,e,E]
def zS(d:fQ X (compareOp o) r)(e:PE X a ta)(f:PE X b tb)(g:behindInMarks o b=ν):PE X (.Compare a [o] [b] pos) (fg r ta tb):=by intro p s i H Q I h;rwa[wpAny_Compare1 (Ed e f I h λv u S x y j k R l q=>d p S i j x y v u Q k R l q) g]
inductive yQ(Q:Bool->Hp->Prop)(x:V)(a:Hp):Prop
 |mk(k:_)(_:x= .bl k)(_:Q k a)
def mz(t:TE):TT:=λd H Q=>t d H (yQ Q)
def jz{o:CmpOp}{r:R2}(f:fQ X (compareOp o) r)(g:PE X a ta)(i:PE X b tb)(j:behindInMarks o b=ν):PT X (.Compare a [o] [b] pos) (mz$ fg r ta tb):=by
 intro p s d H Q I h;refine V1 (a8 (g p s d H _ I h) λv S #[x,l,m,R,q]=>a8 (i p S d l _ m q) λu n #[y,t,w,A,B]=>
  a8 (f p n d t x y v u _ w R A B) λc G #[z,C,D,E,k,e,F]=>?_) j
 subst e;cases E;rwa[SU #[C,D,F]]
def HY(K:β)(x:V)(H:Hp)(k:Bool):Prop:=
 match x with
 | .non=>k=ν
 | .bl b=>k=b
 | .int i=>k=(i != 0)
 | .str y=>y.length<=τ/\k=((y.length:Int) != 0)
 | .byt y=>y.size<=τ/\k=((y.size:Int) != 0)
 | .ref p=>(∃d,aK K H p d/\k=!d.isEmpty)\/(∃d,aC K H p d/\k=!d.isEmpty)\/∃e,H p=δ (.dK e)/\k=!e.isEmpty
 |_=>False
def YX{d:Type}{k:xD (d×V)}{v:xD (d×η)}(r:KV k v):(!v.isEmpty)=!k.isEmpty:=by cases r<;>rfl
def KY(r:aG x i):(!i.toArray.isEmpty)=!x.isEmpty:=by cases r<;>simp
def gj:(τ:Nat) < 2 ^ 63:=by rw[Sb];decide
def Hc:Mx X (λx H Q=>∃k,HY X.K x H k/\Q k H):=by
 intro o s B H x v Q I R h;let#[k,e,q]:=h;let C:=gj;let D:τ=16777216:=Sb;cases x with
 |non=>cases R;let E:k=ν:=e;subst E;rwa[truthy_none #[H,I,q]]
 |bl b=>cases R;let E:k=b:=e;subst E;rwa[SU #[H,I,q]]
 |int i=>let#[t,Z]:=R;let E:k=(i != 0):=e;subst E;rwa[PySem.P.truthy_int #[H,I,q]]
 |str y=>let#[t,Z]:=R;obtain⟨z,E⟩:y.length<=τ/\k=((y.length:Int) != 0):=e;subst E;rwa[PySem.P.truthy_str N9 #[H,I.tok _,q]]
 |byt y=>let#[t,Z]:=R;obtain⟨z,E⟩:y.size<=τ/\k=((y.size:Int) != 0):=e;subst E;rwa[PySem.W.truthy_bytes N9 #[H,I.tok _,q]]
 |ref p=>
  cases R;let E:(∃g,aK X.K H p g/\k=!g.isEmpty)\/(∃g,aC X.K H p g/\k=!g.isEmpty)\/∃d,H p=δ (.dK d)/\k=!d.isEmpty:=e;rcases E with ⟨g,j,E⟩ | ⟨g,j,E⟩ | ⟨d,j,E⟩
  .subst E;let#[l,r,n,u]:=I.list j;let f:=r.length;rwa[wpAny_truthy_list n.isList (by simp only[ON];omega) #[H,I.tok _,by rw[KY r];rwa[q]]]
  .subst E;let#[l,r,n,u]:=I.tuple j;let f:=r.length;rwa[truthy_tuple n (by simp only[ON];omega) #[H,I.tok _,by rw[KY r];rwa[q]]]
  .subst E;obtain⟨u,A,V,r,m⟩:ry d<=τ/\(p==sysModules)=ν/\∃V,KV d V/\s.heap.DictOf (be X.prog X.w) p V:=I.hok p _ j;let f:ry d=ry V:=Paired.length r;rwa[wpAny_truthy_dict A m N9 #[H,I.tok _,by rw[YX r];rwa[q]]]
 |_=>rwa[(show False from e).elim]
def xG(f:PE X a ta)(g:∀w,isTrue a X.env w=(do let v <- w;standAt a.pos;ly [v] (truthy v))):
  PT X a (λd H Q=>ta d H λx e=>∃k,HY X.K x e k/\Q k e):=by
 intro p s d H Q I h;rwa[isTrue_plain (a8 (f p s d H _ I h) λv S #[x,i,j,r,q]=>Hc p S d i x v Q j r q)$ g _]
inductive zQr(x:V)(y:V)(H:Hp)(Q:VK):Prop|mk(i j:_)(_:x= .str i)(_:y= .str j)(_:i.length+j.length<=τ)(_:Q (.str$ i++j) H)
def zQ:fQ X (binaryOp .Add) zQr:=by intro p s e H x y v u Q I r R h;let#[i,j,Z,Z,d,q]:=h;let#[t,Z]:=r;let#[T,Z]:=R;rwa[add_str (λT f=>#[.str$ i++j,H,I.tok _,#[_,Z],q]) d]
def gB(r:aG [x] U):∃u,U=[u]/\aJ x u:=by
 cases r with
 |cons R d=>cases d;rwa[#[_,Z,R]]
def qI:fu X (.type "int") (λx H Q=>(∃i,x=[.int i]/\Q (.int i) H)\/∃k,x=[.bl k]/\Q (.int (if k then 1 else 0)) H):=by
 intro p s d H x U Q I r h;rcases h with ⟨i,rfl,q⟩ | ⟨k,rfl,q⟩
 .let#[u,Z,t,Z]:=gB r;rwa[call_int_int #[.int i,H,I,#[_,Z],q]]
 .let#[u,Z,R]:=gB r;cases R;rwa[call_int_bool #[.int (if k then 1 else 0),H,I.tok _,#[_,Z],q]]
end
structure oN(h:de)(x dx C:ζ)(mA:ρ->xL η):Prop where
 obj:h.get? x=δ (instObj C dx)
 ns:h.Ns1 dx mA
 ne:dx≠x
def tJ{h:de}(n:h.Ns1 d m):∃O,h.get? d=δ O/\∀name,lookIn name O=δ (m name):=by
 let#[o,E,j,b,c,f,_,g]:=n;erw[#[o,b,λname=>?_]];let e:=g name;unfold nsFind findBy at e;rw[<- Array.find?_toList]at e;unfold lookIn;rw[c];dsimp only;split
 .rename_i y q
  rw[q]at e;rwa[P' δ e]
 .rename_i q
  rw[q]at e;let a:E.toList.any (·.refKey)=ν:=by rw[VV];intro y i;let#[z,t,H]:=f y (Array.mem_toList_iff.mp i);simp [DictEntry.refKey,H]
  let A:¬E.toList.any (·.refKey)=μ:=by rw[a];rwa[OX]
  rw[OU A];rwa[P' δ e]
def oN.look(I:oN h x d C m):∃o,PySem.W.InstAt h x (instObj C d) C (δ o)/\∀name,lookIn name o=δ (m name):=
 let #[o,H,a]:=tJ I.ns
 #[o,#[I.obj,Z,Z,H],a]
section
variable {prog:ψ}{w:bF}{A:bU}{E:η->ι->Prop}{s:ι}{K:β}{x dx C f:ζ}{mA:ρ->xL η}{name:ρ}{v:η}
def AW{Q:η->ι->Prop}(X:K.In s.heap)(I:oN s.heap x dx C mA)(a:plainGet K C name=μ)(b:hasDictIn K C=μ)
  (c:findIn K (.ref C) name=δ θ) (d:mA name=δ v) (H:PySem.W.handedIn v=μ) (h:Q v { s with toks:=s.toks+1 }):
  π (υ prog w) A (getAttr (.ref x) name e) Q E s:=by
 let#[o,J,g]:=I.look;rwa[PySem.W.get_value X J (Ue a).1 (PySem.W.findObj_own b c Z (by rw[g,d])) H h]
def vZ{Q:η×xD η->ι->Prop}(X:K.In s.heap)(I:oN s.heap x dx C mA)(H:plainGet K C name=μ)
  (a:findIn K (.ref C) name=δ (↑f)) (b:isFn K (.ref f)=μ) (c:mA name=θ) (h:Q (.ref f,[.ref x]) s):
  π (υ prog w) A (getMethod (.ref x) name p) Q E s:=by
 let#[o,J,d]:=I.look;rwa[PySem.W.method_fn X J (Ue H).1 (Ue H).2 a (beq_iff_eq.mp b) (by show(lookIn name o).map (·.isSome)=δ ν;rw[d,c];rfl) h]
def CC{Q:Unit->ι->Prop}(X:K.In s.heap)(I:oN s.heap x dx C mA)
  (k:findIn K (.ref C) "__setattr__"=δ (δ$ .builtin "object.__setattr__")) (l:PySem.W.plainOver K C=μ) (m:ri K C name=δ θ) (n:hasDictIn K C=μ)
  (o:PySem.Within mA N) (p:ry N<=τ)
  (h:∀d,oN d x dx C (λy=>if y=name then δ v else mA y)->fr dx s.heap d->Q () { s with heap:=d,toks:=s.toks+2 }):
  π (υ prog w) A (setAttr (.ref x) name v) Q E s:=by
 let#[O,J,B]:=I.look;refine PySem.W.set_plain X J k$ PySem.W.osa_open (s:={ s with toks:=s.toks+1 }) (r:=θ) X J l m λb=>?_;let#[D,q,e]:=PySem.W.any_some n;let t:s.heap.get? x=δ #[.ref C,δ dx,.plain,(ε [])]:=I.obj;refine OF$ OK$ OF$ OF$ Vn t$ OF$ WS (s:={ s with toks:=s.toks+1 }) (PySem.W.looks_clsIn X q) ?_;rw[e];erw[OK (a:=δ dx)$ OF$ OK$ OF ?_];refine wpAny_nsSet1 (s:={ s with toks:=s.toks+1 }) I.ns λd H c=>?_;let#[F,u,z,g,i,j]:=H.count (Z' name v o);erw[OF$ wpAny_lookBehind g (by rw[i];rwa[pastItsLine_dict$ O1 j (by rw[Ph];omega)]) ?_];rwa[OK$ h _ #[(c.2 _$ Pk I.ne).trans I.obj,H,I.ne] c]
def wF{R:Result->ι->Prop}(X:K.In s.heap)(H:PySem.W.makesIn K C=μ)
  (b:findIn K (.ref C) "__init__"=δ (↑f)) (c:typeIn K (.ref f)=δ (.type "function"))
  (h:kw (υ prog w) (A.under$ .builtin "type.__call__" #[.ref C::a,k]) (.call (.ref f) #[.ref (s.heap.objs.size+1)::a,k]) (PySem.W.InitBack (s.heap.objs.size+1) R)
   { s with heap:=(s.heap.push emptyDict).push (instObj C s.heap.objs.size) }):
  kw (υ prog w) A (.call (.ref C) #[a,k]) R s:=by
 let#[e,g,d,t,os]:=s;rwa[PySem.W.make_core (PySem.W.makes_of X H) (PySem.W.looks_findIn X b) (λS=>PySem.W.bind_fn X S c) (.inl Z) h]
end
def gm(f:ρ)(v:V):xD (ρ×V)->xD (ρ×V)
 | []=>[(f,v)]
 | (g,x)::r=>if g=f then (g,v)::r else (g,x)::gm f v r
theorem JT(f g:ρ)(v:V):∀F:xD (ρ×V),(gm f v F).lookup g=if g=f then δ v else F.lookup g
 | []=>by
  show hG g [(f,v)]=_;by_cases h:g=f
  .let H:(g==f)=μ:=beq_iff_eq.mpr h;simp only[hG,H,OT h]
  .let H:(g==f)=ν:=beq_eq_false_iff_ne.mpr h;simp only[hG,H,OU h]
 | (k,x)::r=>by
  let i:=JT f g v r;rw[show gm f v ((k,x)::r)=(if k=f then (k,v)::r else (k,x)::gm f v r) from Z];by_cases a:k=f
  .rw[OT a];by_cases h:g=k
   .let H:(g==k)=μ:=beq_iff_eq.mpr h;simp only[hG,H,OT$ h.trans a]
   .let H:(g==k)=ν:=beq_eq_false_iff_ne.mpr h;simp only[hG,H,OU (λe:g=f=>h (e.trans a.symm))]
  .rw[OU a];by_cases h:g=k
   .let H:(g==k)=μ:=beq_iff_eq.mpr h;simp only[hG,H,OU (λe:g=f=>a (h.symm.trans e))]
   .let H:(g==k)=ν:=beq_eq_false_iff_ne.mpr h;simp only[hG,H];rwa[i]
theorem JJ(f:ρ)(v:V):∀F:xD (ρ×V),f∈(gm f v F).map (·.1)/\∀g,g∈F.map (·.1)->g∈(gm f v F).map (·.1)
 | []=>#[by simp [gm],λg h=>by simp at h]
 | (k,x)::r=>by
  let#[i,I]:=JJ f v r;rw[show gm f v ((k,x)::r)=(if k=f then (k,v)::r else (k,x)::gm f v r) from Z];by_cases H:k=f
  .rw[OT H];subst H;rwa[#[N8,λg h=>by simpa using h]]
  .rw[OU H];erw[#[?_,λg h=>?_]]
   .rw[Rl];rwa[Pe _ i]
   .rw[Rl]at h ⊢;rcases Ξ.mp h with e |e
    .rwa[Ξ.mpr$ .inl e]
    .rwa[Pe _$ I g e]
theorem JU(f:ρ)(v:V):∀F:xD (ρ×V),(gm f v F).length<=ry F+1
 | []=>by simp [gm]
 | (k,x)::r=>by
  let i:=JU f v r;rw[show gm f v ((k,x)::r)=(if k=f then (k,v)::r else (k,x)::gm f v r) from Z];by_cases h:k=f
  .rw[OT h,Ph,Ph];omega
  .rw[OU h,Ph,Ph];omega
def fi.some_of{v:V}{o:xL η}(r:fi (δ v) o):∃u,o=δ u/\aJ v u:=by
 cases o with
 |none=>rwa[(show False from r).elim]
 |some u=>rwa[#[u,Z,r]]
def fi.none_of(r:fi θ o):o=θ:=by
 cases o with
 |none=>rfl
 |some u=>rwa[(show False from r).elim]
def sZ(r:aJ v u):PySem.W.handedIn u=μ:=by
 cases v with
 |non=>cases (show u=Ω from r);rfl
 |bl b=>cases (show u=rz b from r);rfl
 |int i=>let#[t,e]:=(show ∃t,u=ks i t from r);cases e;rfl
 |str x=>let#[t,e]:=(show ∃t,u=mT x t from r);cases e;rfl
 |byt b=>let#[t,e]:=(show ∃t,u=Value.bytes b t from r);cases e;rfl
 |flt b=>let#[t,e]:=(show ∃t,u=Value.float b t from r);cases e;rfl
 |ref a=>cases (show u=Θ a from r);rfl
 |ty n=>cases (show u=eT n from r);rfl
section
variable {P:ψ}{w:bF}{H H':Hp}{h h':de}{a C dx:ζ}{fs fs':xD (ρ×V)}
def Xn(b:gH P w H h)(e:H a=δ (.ins C dx fs)):∃m,oN h a dx C m/\(∀f,fi (fs.lookup f)$ m f)/\PySem.Within m (fs.map (·.1))/\ry fs<=1000/\H dx=δ (.own a):=by let#[d,z,N,o,m,n,r,q]:=(show a6 P w H h a (.ins C dx fs) from b a _ e);rwa[#[m,#[o,n,N],r,q,z,d]]
end
structure uO(K:β)(C:ζ):Prop where
 pg:plainGet K C Str.empty=μ
 hd:hasDictIn K C=μ
 po:PySem.W.plainOver K C=μ
 sa:findIn K (.ref C) "__setattr__"=δ (δ$ .builtin "object.__setattr__")
def uO.get{K:β}(c:uO K C)(f:ρ):plainGet K C f=μ:=c.pg
def a9(K:β)(C:ζ)(f:ρ):Prop:=findIn K (.ref C) f=δ θ
def a9.taker{K:β}(n:a9 K C f):ri K C f=δ θ:=by unfold ri;rw[show findIn K (.ref C) f=δ θ from n];rfl
structure bj(K:β)(C:ζ)(m:ρ)(f:ζ):Prop where
 at_:findIn K (.ref C) m=δ (↑f)
 fn:isFn K (.ref f)=μ
 kp:fJ K (.ref f)=μ
section
variable {X:Cx}{pins:xD (ζ×gs)}{σ:St}{H:Hp}{s:ι}{a C dx:ζ}{fs:xD (ρ×V)}{f:ρ}{v:V}{A:bU}{E:η->ι->Prop}
def KZ{Q:η->ι->Prop}(I:au X pins σ H s)(e:H a=δ (.ins C dx fs))(c:uO X.K C)(n:a9 X.K C f)(l:fs.lookup f=δ v)
  (h:∀u S,au X pins σ H S->aJ v u->Q u S):π (υ X.prog X.w) A (getAttr (.ref a) f b) Q E s:=by
 let#[m,O,r,_,_,_]:=Xn I.hok e;let#[u,d,R]:=fi.some_of (v:=v) (o:=m f) (by rw[<- l];rwa[r f]);rwa[AW I.kIn O (c.get f) c.hd n d (sZ R)$ h u _ (I.tok _) R]
def K0{Q:η×xD η->ι->Prop}(I:au X pins σ H s)(e:H a=δ (.ins C dx fs))(c:uO X.K C)(k:bj X.K C m g)(l:fs.lookup m=θ)
  (h:Q (.ref g,[.ref a]) s):π (υ X.prog X.w) A (getMethod (.ref a) m p) Q E s:=by
 let#[M,O,r,_,_,_]:=Xn I.hok e;let b:M m=θ:=fi.none_of (by rw[<- l];rwa[r m]);rwa[vZ I.kIn O (c.get m) k.at_ k.fn b h]
def K2{Q:Unit->ι->Prop}(I:au X pins σ H s)(e:H a=δ (.ins C dx fs))(c:uO X.K C)(n:a9 X.K C f)(F:ry fs < 1000)(R:aJ y u)
  (h:∀S,au X pins σ (af H a$ .ins C dx$ gm f y fs) S->Q () S):π (υ X.prog X.w) A (setAttr (.ref a) f u) Q E s:=by
 let#[m,O,r,W,_,i]:=Xn I.hok e;let j:(fs.map (·.1)).length<=τ:=by rw[OJ,Sb];omega
 erw[CC I.kIn O c.sa c.po n.taker c.hd W j λk d l=>h _ ?_];let p:∃o,k.get? dx=δ o:=let #[o,_,_,t,_]:=d.ns;#[o,t]
 erw[I.write (x:=a) (e:=dx) (by rw[e];rwa[True.intro]) (.inr i) (λb q B z=>(l.2 b B).trans z) p ?_];erw[#[by rw[jh O.ne];rwa[i],?_,O.ne,d.obj,_,d.ns,λg=>?_,λg D=>?_]]
 .let:=JU f y fs;omega
 .show fi ((gm f y fs).lookup g) (if g=f then δ u else m g);rw[JT];by_cases q:g=f
  .rw[OT q,OT q];rwa[R]
  .rw[OU q,OU q];rwa[r g]
 .by_cases q:g=f
  .rw[q];rwa[(JJ f y fs).1]
  .erw[(JJ f y fs).2 g (W g λz=>D ?_)];show(if g=f then δ u else m g)=θ;rw[OU q];rwa[z]
def au.made(I:au X pins σ H s):au X pins σ (af (af H s.heap.objs.size$ .own$ s.heap.objs.size+1) (s.heap.objs.size+1)$ .ins C s.heap.objs.size [])
  { s with heap:=(s.heap.push emptyDict).push (instObj C s.heap.objs.size) }:=by
 let c:(s.heap.push emptyDict).get? s.heap.objs.size=δ emptyDict:=OQ s.heap Z;let d:((s.heap.push emptyDict).push$ instObj C s.heap.objs.size).get? (s.heap.objs.size+1)=δ (instObj C s.heap.objs.size):=by let:=OQ (s.heap.push emptyDict) (o:=instObj C s.heap.objs.size) Z;rwa [PM]at this
 let g:(s.heap.push emptyDict).Ns s.heap.objs.size (λ_=>θ):=#[emptyDict,(ε []),_,c,Z,(λe h=>absurd h N8),λ_=>Z];let i:=I.laid (a:=s.heap.objs.size) (o:=.own (s.heap.objs.size+1)) (h':=s.heap.push emptyDict) (t':=s.toks) (λb u q=>OH _ q) (OM _) #[_,c];erw[i.laid (a:=s.heap.objs.size+1) (o:=.ins C s.heap.objs.size []) (t':=s.toks) (λb u q=>OH _ q) (TZ$ PM _ _) ?_];let n:s.heap.objs.size≠s.heap.objs.size+1:=OZ (Rs _);erw[#[by rw[jh n,jc],OS _,n,d,λ_=>θ,(Heap.Ns1.of_empty g).at λo q=>OH _ q,λ_=>True.intro,λy j=>absurd Z j]]
def AC{f:ρ}{s:ι}(c:attributeBase e f b (eval e b)=eval e b)
  (h:π (υ p w) A (eval e b) (λo S=>π (υ p w) A (getAttr o f μ) Q E S) E s):π (υ p w) A (eval (.Attribute e f d) b) Q E s:=
 Attribute_any_ h (by rw[arm_eval_Attribute,c])
end
inductive DW(K:β)(f:ρ)(Q:VK)(x:V)(b:Hp):Prop
 |mk(a C c d v:_)(_:x= .ref a)(_:b a=δ (.ins C c d))(_:uO K C)(_:a9 K C f)(_:d.lookup f=δ v)(_:Q v b)
def M7(K:β)(t:TE)(f:ρ):TE:=λa H Q=>t a H (DW K f Q)
inductive DN(K:β)(f:ρ)(D:bp)(e:St)(y x:V)(b:Hp):Prop
 |mk(a C c d:_)(_:x= .ref a)(_:b a=δ (.ins C c d))(_:uO K C)(_:a9 K C f)(_:ry d < 1000)(_:D.nx e (af b a (.ins C c (gm f y d))))
def MV(K:β)(t T:TE)(f:ρ):TS:=λD a H=>T a H λy h=>t a h (DN K f D a y)
def HQ(X:Cx)(o:Operator)(r:V->V->Hp->VK->Prop):Prop:=
 ∀(p:xD (ζ×gs)) (s:ι) (a:St) (H:Hp) (x y:V) (u v:η) (Q:VK),au X p a H s->aJ x u->aJ y v->r x y H Q->π (υ X.prog X.w) X.A (inplaceOp o u v) (EP X p a Q) X.xe s
inductive nV(K:β)(g:TE)(e:V->V->Hp->VK->Prop)(f:ρ)(D:bp)(h:St)(x:V)(b:Hp):Prop
 |mk(a C c d v:_)(_:x= .ref a)(_:b a=δ (.ins C c d))(_:uO K C)(_:a9 K C f)(_:d.lookup f=δ v)(_:g h b λy H2=>e v y H2 λz H3=>∃dx' fs',H3 a=δ (.ins C dx' fs')/\ry fs' < 1000/\D.nx h (af H3 a (.ins C dx' (gm f z fs'))))
def Ce(K:β)(t T:TE)(r:V->V->Hp->VK->Prop)(f:ρ):TS:=λD a H=>t a H (nV K T r f D a)
section
variable {X:Cx}{o e value:dg}{f:ρ}{pos pos' tpos:Pos}{ta tv:TE}
def kY(b:PE X e ta)(d:attributeBase e f X.env (eval e X.env)=eval e X.env):PE X (.Attribute e f pos) (M7 X.K ta f):=by intro p s g H Q I h;erw[AC d$ a8 (b p s g H _ I h) λu S z=>?_];let#[x,i,j,r,a,C,D,F,v,E,k,c,n,l,q]:=z;subst E;obtain rfl:u=Θ a:=r;rwa[KZ j k c n l λU t m R=>#[v,i,m,R,q]]
def qw(d:PE X o ta)(g:PE X value tv)(i:swapsWith value (δ$ .Attribute o f pos') pos.line X.env=pure ν):PS X (.Assign [.Attribute o f pos'] value pos) (MV X.K ta tv f):=by intro p s b H D I h;erw[plainObj_wpAny_Assign_Attribute (a8 (g p s b H _ I h) λu S #[y,j,k,r,q]=>a8 (d p S b j _ k q) λO w z=>?_) i];let#[x,A,m,R,a,C,B,F,E,t,c,n,l,Q]:=z;subst E;obtain rfl:O=Θ a:=R;rwa[K2 m t c n l r λG v=>#[b,_,v,Q]]
def uo{O:Operator}{r:V->V->Hp->VK->Prop}(i:PE X o ta)(j:PE X value tv)(g:HQ X O r):PS X (.AugAssign (.Attribute o f tpos) O value pos) (Ce X.K ta tv r f):=by intro p s d H D I h;erw[wpAny_AugAssign_AttributeAny$ a8 (i p s d H _ I h) λk s1 b=>?_];let#[x,m,t,R,a,C,dx,fs,v,w,A,c,n,l,q]:=b;subst w;obtain rfl:k=Θ a:=R;erw[KZ t A c n l λu S B F=>a8 (j p S d m _ B q) λW G #[y,J,L,M,Q]=>a8 (g p G d J v y u W _ L F M Q) λw4 s4 b=>?_];let#[z,H3,N,P,T,U,E,Y,q4]:=b;rwa[K2 N E c n Y P λs5 I5=>#[d,_,I5,q4]]
inductive J'(x y:V)(H:Hp)(Q:VK):Prop
 |mk(i j:_)(_:x= .int i)(_:y= .int j)(_:Q (.int (i+j)) H)
def Ez:HQ X .Add J':=by rintro p s a H x y u v Q I r R ⟨i,j,rfl,rfl,q⟩;let#[t,Z]:=(show ∃t,u=ks i t from r);let#[T,Z]:=(show ∃T,v=ks j T from R);rwa[PyProof.Rows.iadd_int #[.int$ i+j,H,I.tok _,#[_,Z],q]]
end
structure b6(k:Nat)(A:bU):Prop where
 hd:A.handled=θ
 dp:A.depth+3*k+5 < recursionLimit
 un:A.units+16*k+200 < cLine
def b6.mono(r:b6 k A)(h:j<=k):b6 j A:=#[r.hd,by let:=r.dp;omega,by let:=r.un;omega]
def b6.deeper(r:b6 (k+1) A)(e:Env):b6 k (A.deeper e):=
 #[r.hd,by let:=r.dp;show A.depth+1+3*k+5 < _;omega,by let:=r.un;show A.units+3+16*k+200 < _;omega]
def YY{A:bU}:(A.under$ .builtin "type.__call__" #[.ref C::u,k]).depth=A.depth+1:=by
 first |rfl |simp [Around.under,Code.weight,Code.isCreation,Code.isGuard,Code.isCaller,Code.frames,Code.isFrame,guardIds]
def YZ{A:bU}:(A.under$ .builtin "type.__call__" #[.ref C::u,k]).units=A.units+1:=by
 first |rfl |simp [Around.under,Code.cUnits,Code.frames,Code.isFrame]
def b6.make(r:b6 (k+1) A)(C:ζ)(u:xD η)(K:xD (ρ×η)):b6 k (A.under$ .builtin "type.__call__" #[.ref C::u,K]):=
 #[r.hd,by let:=r.dp;rw[YY];omega,by let:=r.un;rw[YZ];omega]
def b6.depth(r:b6 k A):A.depth < recursionLimit:=by let:=r.dp;omega
def b6.units(r:b6 k A):A.units+64 < cLine:=by let:=r.un;omega
def aZ:TA:=λ_ H Q=>Q [] H
def ap(t:TE)(T:TA):TA:=λa H Q=>t a H λx h=>T a h λX b=>Q (x::X) b
section
variable {X:Cx}{e:dg}{es:xD dg}{te:TE}{t:TA}{pos:Pos}
def jb:PA X [] aZ:=λ_ _ _ _ H Q I h=>Sd #[[],H,I,.nil,h]
def ja(b:PE X e te)(c:PA X es t)(d:↥(Δ (e::es) X.env=(ν,eval e X.env)::Δ es X.env)):PA X (e::es) (ap te t):=by intro pos p s a H Q I h;rw[d];show π _ _ (spliced ((ν,eval e X.env)::fx pos (Δ es X.env))) _ _ s;erw[RJ$ a8 (b p s a H _ I h) λu S z=>?_];let#[x,f,i,r,q]:=z;rwa[a8 (c pos p S a f _ i q) λU m #[g,j,k,R,l]=>#[x::g,j,k,.cons r R,l]]
def cQ(t:TA):TE:=λa H Q=>t a H λx h=>ry x<=τ/\∀p,h p=θ->Q (.ref p) (af h p$ .tup x)
def oA(t:TA):TE:=λa H Q=>t a H λx h=>ry x<=τ/\∀p,h p=θ->Q (.ref p) (af h p$ .lst x)
def ji{x}(h:PA X es t):PE X (.Tuple es x pos) (cQ t):=by intro p s c H Q I d;erw[wpAny_Tuple_spliced$ a8 (h pos p s c H _ I d) λU S #[f,a,i,r,z,q]=>#[by rw[<- r.length];rwa[z],?_]];let g:a S.heap.objs.size=θ:=i.hok.fresh (OM _);erw[#[.ref S.heap.objs.size,af a S.heap.objs.size$ .tup f,i.laid (t':=S.toks) (λb u e=>OH _ e) (OM _) ?_,Z,q _ g]];rwa[#[z,U,r,#[_,OQ _ Z,Z,_,Z]]]
def jF(h:PA X es t):PE X (.List es pos) (oA t):=by intro p s c H Q I d;erw[wpAny_List_spliced$ a8 (h pos p s c H _ I d) λU S #[x,a,i,r,z,q]=>#[by rw[<- r.length];rwa[z],?_]];let f:a S.heap.objs.size=θ:=i.hok.fresh (OM _);erw[#[.ref S.heap.objs.size,af a S.heap.objs.size$ .lst x,i.laid (t':=S.toks) (λb u e=>OH _ e) (OM _) ?_,Z,q _ f]];rwa[#[z,U,0,r,OQ _ Z]]
end
abbrev Sp:=xD V->Hp->VK->XK->Prop
abbrev sq:=xD Env->Hp->ι->XK->η->ι->Prop
structure oJ(P:ψ)(w:bF)(K:β)(mg:ρ->xL η)(base:de)(A:bU)(outer:xD Env)(s:ι)(H:Hp):Prop where
 frames:A.frames=δ outer
 mod:Mod K mg base
 bs:∀b o,base.get? b=δ o->s.heap.get? b=δ o/\H b=θ
 bsz:base.objs.size<=s.heap.objs.size
 funs:s.heap.FunFrames base outer
 frf:∀b∈mj outer,H b=θ
 hok:gH P w H s.heap
 bare:AllBare s.gens
def CE(o:xD Env)(P:ψ)(w:bF)(H:Hp)(s:ι)(Q:VK)(u:η)(S:ι):Prop:=
 ∃v h,S.os=s.os/\AllBare S.gens/\Un (mj o) [] H h s.heap S.heap/\gH P w h S.heap/\aJ v u/\Q v h
def CR(C:sq)(o:xD Env)(P:ψ)(w:bF)(H:Hp)(s:ι)(Q:VK)(E:XK)(r:Result)(S:ι):Prop:=
 match r with
 | .ok (.ret u)=>CE o P w H s Q u S
 | .ok _=>False
 | .error e=>C o H s E e S
structure ah(P:ψ)(w:bF)(K:β)(mg:ρ->xL η)(base:de)(CX:sq)(k:Nat)(f:ζ)(fd:bS)(ps:xD ρ)(sp:Sp):Prop where
 len:∀vs H Q E,sp vs H Q E->ry vs=ry ps
 run:∀(A:bU) (outer:xD Env) (s:ι) (H:Hp) (args:Args) (us:xD η) (vs:xD V) (Q:VK) (E:XK),b6 k A->oJ P w K mg base A outer s H->BindsTo s fd args (ps.zip us)->aG vs us->sp vs H Q E->
  kw (υ P w) A (.call (.ref f) args) (CR CX outer P w H s Q E) s
def oJ.make{P:ψ}{K:β}(e:oJ P w K m b A o s H)(C:ζ)(u:xD η)(k:xD (ρ×η)):
  oJ P w K m b (A.under$ .builtin "type.__call__" #[.ref C::u,k]) o s H:=#[by first |rwa[e.frames] | (simpa [Around.under,Code.envs,Code.isFrame,pushEnvs] using e.frames),e.mod,e.bs,e.bsz,e.funs,e.frf,e.hok,e.bare]
section
variable {X:Cx}{pins:xD (ζ×gs)}{σ:St}{H:Hp}{s s':ι}
def au.env0(I:au X pins σ H s):oJ X.prog X.w X.K X.mg X.base X.A X.stack s H:=
 #[I.ok.frames,I.ok.mod,I.bs,O1 I.ok.bsz I.sz,I.stack,I.stkFree,I.hok,I.bare]
def au.after(I:au X pins σ H s)(h:CE X.stack X.prog X.w H s Q u s'):EP X pins σ Q u s':=by let#[v,c,os,B,U,a,r,q]:=h;let#[e,g,d,t,o]:=s';obtain rfl:o=s.os:=os;rwa[#[v,c,I.call (h':=e) (g':=g) (d':=d) (t':=t) (ch:=[]) U a B (λb z=>absurd z N8),r,q]]
end
def ff(s:Sp)(d:xD V)(E:XK)(t:TA):TE:=λa H Q=>t a H λv h=>s (v++d) h Q E
inductive yN(C:ζ)(m:ρ)(f:Sp)(b:xD V)(E:XK)(t:TA)(g:St)(Q:VK)(x:V)(c:Hp):Prop
 |mk(a d e:_)(_:x= .ref a)(_:c a=δ (.ins C d e))(_:e.lookup m=θ)(_:t g c λvs H2=>f (x::(vs++b)) H2 Q E)
def yM(C:ζ)(m:ρ)(s:Sp)(d:xD V)(E:XK)(T:TE)(t:TA):TE:=λa H Q=>T a H (yN C m s d E t a Q)
def LL(C:ζ)(s:Sp)(D:xD V)(E:XK)(t:TA):TE:=λa H Q=>t a H λb h=>∀x d,h x=θ->h d=θ->d≠x->
 s (.ref x::(b++D)) (af (af h d$ .own x) x$ .ins C d []) (λv c=>v= .non/\Q (.ref x) c) E
def aE(K:β)(f:bS)(p:xD ρ)(d:xD η):Prop:=
 ∀(s:ι) (u:xD η),K.In s.heap->(u++d).length=ry p->BindsTo s f #[u,[]] (p.zip$ u++d)
def aE.all{K:β}{p:xD ρ}(h:∀u:xD η,ry u=ry p->bindArgs f #[u,[]]=pure (p.zip u)):aE K f p []:=λs u _ H=>by rw[Pj]at H ⊢;rwa[.of_eq$ h u H]
def eh(C:sq)(X:Cx)(E:XK):Prop:=∀(p:xD (ζ×gs)) (a:St) (H:Hp) (s:ι) (e:η) (S:ι),au X p a H s->C X.stack H s E e S->X.xe e S
section
variable {X:Cx}{CX:sq}{k:Nat}{f C:ζ}{fd:bS}{ps:xD ρ}{sp:Sp}{dvs:xD V}{ds:xD η}{E:XK}{x m:ρ}{p pos apos:Pos}{e o:dg}{es:xD dg}{ta:TE}{t:TA}
def Xa{us:xD η}{vs:xD V}(F:ah X.prog X.w X.K X.mg X.base CX k f fd ps sp)(d:b6 k X.A)(g:aE X.K fd ps ds)(i:aG dvs ds)(j:eh CX X E)
  (I:au X a c H s) (r:aG vs us) (h:sp (vs++dvs) H Q E):π (υ X.prog X.w) X.A (call (.ref f) us) (EP X a c Q) X.xe s:=by
 let R:aG (vs++dvs) (us++ds):=r.append i;let l:(us++ds).length=ry ps:=by rw[<- R.length];rwa[F.len _ _ _ _ h]
 erw[Vp$ Sw (F.run X.A X.stack s H #[us,[]] (us++ds) (vs++dvs) Q E d I.env0 (g s us I.kIn l) R h) λr S b=>?_];cases r with
 |error e=>rwa[j a c H s e S I b]
 |ok n=>
  cases n with
  |ret u=>rwa[I.after b]
  |next |brk |cont=>rwa[False.elim b]
def kC(F:ah X.prog X.w X.K X.mg X.base CX k f fd ps sp)(c:b6 k X.A)(d:Gl X x)(g:X.mg x=↑f)(j:fJ X.K (.ref f)=μ)(l:aE X.K fd ps ds)(n:aG dvs ds)(u:eh CX X E)
  (v:PA X (e::es) t) (a:↥((x==("__debug__":ρ))=ν)) (y:↥(Δ (e::es) X.env=(ν,eval e X.env)::Δ es X.env)) (b:↥((fx pos$ Δ es X.env).any (·.1)=ν)):
  PE X (.Call (.Name x p) (e::es) [] pos) (ff sp dvs E t):=by
 intro P s z H Q I h;erw[P6$ qc I d g ?_ a];erw[UD (h₀:=X.base) I.ok.mod.kin j (a8 (v pos P s z H _ I h) λU S #[B,D,i,r,q]=>#[i.kIn,?_]) y b];rwa[Xa F c l n u i r q]
def kh(v:PE X o ta)(c:uO X.K C)(g:bj X.K C m f)(F:ah X.prog X.w X.K X.mg X.base CX k f fd ps sp)(y:b6 k X.A)(B:aE X.K fd ps ds)(D:aG dvs ds)(G:eh CX X E)(J:PA X (e::es) t)
  (b:↥(Δ (e::es) X.env=(ν,eval e X.env)::Δ es X.env)) (d:↥((fx pos$ Δ es X.env).any (·.1)=ν))
  (L:↥(eval (.Call (.Attribute o m apos) (e::es) [] pos) X.env=(do
   let O <- eval o X.env
   standAt apos.atName
   let (f,first) <- ly [O] (getMethod O m pl)
   callWith pos f first (fx pos$ Δ (e::es) X.env) (backToKw pos$ keywordEach [] X.env)))):
  PE X (.Call (.Attribute o m apos) (e::es) [] pos) (yM C m sp dvs E ta t):=by
 intro P s i H Q I h;erw[TB (pl:=pl) (a8 (v P s i H _ I h) λu S z=>?_) L];let#[x,M,j,R,a,W,Y,N,T,l,q]:=z;subst N;obtain rfl:u=Θ a:=R;erw[K0 j T c g l ?_];erw[UD (first:=[.ref a]) (h₀:=X.base) I.ok.mod.kin g.kp (a8 (J pos P S i M _ j q) λus s2 #[vs,H2,n,r,U]=>#[n.kIn,?_]) b d];rwa[Xa (us:=.ref a::us) (vs:=.ref a::vs) F y B D G n (.cons Z r) U]
def XT(d:PE X o ta)(c:uO X.K C)(b:bj X.K C m f)(F:ah X.prog X.w X.K X.mg X.base CX k f fd ps sp)(g:b6 k X.A)(j:aE X.K fd ps ds)(n:aG dvs ds)(r:eh CX X E)
  (v:↥(eval (.Call (.Attribute o m apos) [] [] pos) X.env=(do
   let O <- eval o X.env
   standAt apos.atName
   let (f,first) <- ly [O] (getMethod O m pl)
   callWith pos f first (fx pos$ Δ [] X.env) (backToKw pos$ keywordEach [] X.env)))):
  PE X (.Call (.Attribute o m apos) [] [] pos) (yM C m sp dvs E ta aZ):=by
 intro P s y H Q I h;erw[TB (pl:=pl) (a8 (d P s y H _ I h) λu S z=>?_) v];let#[x,G,i,R,a,J,L,B,D,l,q]:=z;subst B;obtain rfl:u=Θ a:=R;erw[K0 i D c b l ?_];rwa[Vh (first:=[.ref a]) i.kIn b.kp$ Xa (us:=[.ref a]) (vs:=[.ref a]) F g j n r i (.cons Z .nil) q]
structure Mk(K:β)(C f:ζ):Prop where
 makes:PySem.W.makesIn K C=μ
 init:findIn K (.ref C) "__init__"=δ (↑f)
 fn:isFn K (.ref f)=μ
 kp:fJ K (.ref C)=μ
def xM(M:Mk X.K C f)(F:ah X.prog X.w X.K X.mg X.base CX k f fd ps sp)(l:b6 (k+1) X.A)(n:aE X.K fd ps ds)(q:aG dvs ds)
  (y:eh CX X E) (I:au X b c H s) (r:aG g U)
  (h:∀x d,H x=θ->H d=θ->d≠x->sp (.ref x::(g++dvs)) (af (af H d$ .own x) x$ .ins C d []) (λv z=>v= .non/\Q (.ref x) z) E):
  π (υ X.prog X.w) X.A (call (.ref C) U) (EP X b c Q) X.xe s:=by
 let j:=h (s.heap.objs.size+1) s.heap.objs.size (I.hok.fresh$ Rk _) (I.hok.fresh$ OM _) (OZ$ Rs _);let i:=au.made (C:=C) I;let R:aG (vr (s.heap.objs.size+1)::(g++dvs)) (Θ (s.heap.objs.size+1)::(U++ds)):=.cons Z (r.append q);let B:(Θ (s.heap.objs.size+1)::U++ds).length=ry ps:=by let e:=R.length;rw[F.len _ _ _ _ j]at e;rwa[e.symm]
 refine Vp (wF (f:=f) I.kIn M.makes M.init (beq_iff_eq.mp M.fn) (Sw (F.run _ X.stack _ _ #[Θ (s.heap.objs.size+1)::U,[]] (Θ (s.heap.objs.size+1)::(U++ds)) _ _ E (l.make C U [])
  (i.env0.make C U []) (n _ (Θ (s.heap.objs.size+1)::U) i.kIn B) R j) λr S a=>?_))
 cases r with
 |error e=>rwa[y b c _ _ e S i a]
 |ok D=>
  cases D with
  |ret u=>let#[v,G,J,L,N,O]:=i.after a;subst N;rwa[#[L,#[vr$ s.heap.objs.size+1,G,J,Z,O]]]
  |next |brk |cont=>rwa[False.elim a]
def Xo(M:Mk X.K C f)(F:ah X.prog X.w X.K X.mg X.base CX k f fd ps sp)(c:b6 (k+1) X.A)(d:Gl X x)(g:X.mg x=↑C)(j:aE X.K fd ps ds)(l:aG dvs ds)(n:eh CX X E)
  (u:PA X (e::es) t) (a:↥((x==("__debug__":ρ))=ν)) (v:↥(Δ (e::es) X.env=(ν,eval e X.env)::Δ es X.env)) (b:↥((fx pos$ Δ es X.env).any (·.1)=ν)):
  PE X (.Call (.Name x p) (e::es) [] pos) (LL C sp dvs E t):=by
 intro P s y H Q I h;erw[P6$ qc I d g ?_ a];erw[UD (h₀:=X.base) I.ok.mod.kin M.kp (a8 (u pos P s y H _ I h) λU S #[z,B,i,r,q]=>#[i.kIn,?_]) v b];rwa[xM M F c j l n i r q]
end
structure aj(N P:xD ρ)(sc:hJ):Prop where
 kind:sc.kind= .function
 co:sc.isCoroutine=ν
 gen:sc.isGenerator=ν
 nd:N.Nodup
 pre:N.take (ry P)=P
 par:∀x∈P,sc.names.lookup x=δ .local\/sc.names.lookup x=δ .cell
 nofree:∀y∈sc.names,y.2≠ .free
theorem QP{kindOf:ρ->xL NameKind}:∀{b:xD (ρ×η)} {m:ρ->xL η},(∀v,(x,v)∉b)->bindL kindOf b m x=m x
 | [],_,_=>rfl
 | (n,v)::r,m,h=>by
  unfold bindL;rw[QP λw H=>h w (Pe _ H)];split
  .let:x≠n:=by rintro rfl;rwa[h v O5]
   simp [this]
  .rfl
theorem QQ{kindOf:ρ->xL NameKind}:∀{b:xD (ρ×η)} {m:ρ->xL η},(∀v,(x,v)∉b)->bindC kindOf b m x=m x
 | [],_,_=>rfl
 | (n,v)::r,m,h=>by
  unfold bindC;rw[QQ λw H=>h w (Pe _ H)];split
  .rfl
  .let:x≠n:=by rintro rfl;rwa[h v O5]
   simp [this]
theorem QR{kindOf:ρ->xL NameKind}:∀{P:xD ρ} {V:xD η} {i:Nat} {m:ρ->xL η},P.Nodup->P[i]?=δ x->V[i]?=δ v->kindOf x=δ .local->
  bindL kindOf (P.zip V) m x=δ v
 | [],_,_,_,_,h,_,_ |_::_,[],_,_,_,_,h,_=>by simp at h
 |p::P,w::V,0,m,n,H,a,b=>by simp at H a;subst H;subst a;show bindL kindOf ((p,w)::P.zip V) m p=_;unfold bindL;rw[QP λv c=>(nk.mp n).1 (T3 c).1,OT b];simp
 |p::P,w::V,i+1,m,n,H,a,b=>by show bindL kindOf ((p,w)::P.zip V) m x=_;unfold bindL;rwa[QR (i:=i) (nk.mp n).2 (by simpa using H) (by simpa using a) b]
theorem QS{kindOf:ρ->xL NameKind}:∀{P:xD ρ} {V:xD η} {i:Nat} {m:ρ->xL η},P.Nodup->P[i]?=δ x->V[i]?=δ v->kindOf x≠δ .local->
  bindC kindOf (P.zip V) m x=δ v
 | [],_,_,_,_,h,_,_ |_::_,[],_,_,_,_,h,_=>by simp at h
 |p::P,w::V,0,m,n,H,a,b=>by simp at H a;subst H;subst a;show bindC kindOf ((p,w)::P.zip V) m p=_;unfold bindC;rw[QQ λv c=>(nk.mp n).1 (T3 c).1,OU b];simp
 |p::P,w::V,i+1,m,n,H,a,b=>by show bindC kindOf ((p,w)::P.zip V) m x=_;unfold bindC;rwa[QS (i:=i) (nk.mp n).2 (by simpa using H) (by simpa using a) b]
def iE(N:xD ρ)(v:xD V):St:=v.map δ++kz (ry N - ry v) θ
def gR(C:sq)(P:ψ)(w:bF)(K:β)(mg:ρ->xL η)(base:de)(N:xD ρ)(q:ρ)(S:hJ)(f:ζ)(c:η)(A:bU)(outer:xD Env)(s:ι)(H:Hp)(E:XK):Cx where
 prog:=P
 w:=w
 K:=K
 mg:=mg
 base:=base
 A:=A.deeper (envOfC q S s.heap.objs.size f c)
 N:=N
 s₀:=s
 H₀:=H
 env:=envOfC q S s.heap.objs.size f c
 outer:=outer
 stack:=envOfC q S s.heap.objs.size f c::outer
 ex:=[]
 calm:=μ
 fn:=λ_=>μ
 pn:=[]
 xe:=λe b=>π (υ P w) (A.deeper$ envOfC q S s.heap.objs.size f c) (leaving (envOfC q S s.heap.objs.size f c) e) (λ_ a=>C outer H s E e a) (λd a=>C outer H s E d a) b
def XU{s:hJ}{n:Nat}(h:s.names.lookup x=δ .cell):∃c,(cellsFrom n s.names []).lookup x=δ c:=by let q:=UY s.names n [] (.inl h);rwa[tf.mp q]
def tw{P:ψ}{K:β}{A:bU}{l:xD V}
  (S:aj N t d) (O:A.handled=θ) (j:oJ P w K M B A o s H) (hl:ry l=ry t) (r:aG l U)
  (x:InCallC s s.heap.objs.size (bindL (envOfC Q d s.heap.objs.size f I).kindOf (t.zip U) λ_=>θ) (cellsFrom (s.heap.objs.size+1) d.names []) (bindC (envOfC Q d s.heap.objs.size f I).kindOf (t.zip U) λ_=>θ) T):
  au (gR Y P w K M B N Q d f I A o s H E) [] (iE N l) H T:=by
 let R:ry t<=ry N:=by let:=P' ry S.pre;rw[Pf]at this;omega
 let#[F,tk,Z,J]:=x.done;let m:∀b:ζ,b∉(gR Y P w K M B N Q d f I A o s H E).ex:=λb z=>absurd (show b∈([]:xD ζ) from z) N8;refine#[#[j.mod,S.kind,Z,Z,OM _,λy z c F g=>?_,λy hy=>?_,λy c _ h=>?_,λ_=>O,Around.frames_deeper j.frames,.inr #[Z,Z],λb z=>absurd z (m b),j.bs,j.bsz,λb _ _=>m b,λb z=>absurd z (m b),j.funs,j.frf],
  rfl,j.bare,Un.kept J,#[_,x.toInCall.ns,λi y v F g h3=>?_],λy c h=>#[_,x.cell y c h],j.hok.fresh$ OM _,λy c h=>?_,λp C=>absurd (show p∈([]:xD (ζ×gs)) from C) N8,j.hok.kept J,?_]
 .rwa[name_of_addr x.apart (Rt F)$ Rt g]
 .let hy:d.names.lookup y=δ .cell\/d.names.lookup y=δ .free:=hy;rcases hy with hy |hy
  .rwa[XU hy]
  .rwa[absurd Z$ S.nofree _$ Rt hy]
 .rwa[RX$ x.above y c$ Rt h]
 .let G:i < ry l:=by
   unfold iE at g;by_cases G:i < ry l
   .rwa[G]
   .rw[RL (by simpa using G)]at g;rw[Vd]at g;split at g<;>cases g
  let W:l[i]?=δ v:=by
   unfold iE at g;rw[RP (by simpa using G),O2]at g;cases e:l[i]? with
   |none=>rw[e]at g;cases g
   |some a=>rw[e]at g;cases g;rfl
  let#[u,L,X]:=r.get W;let C:t[i]?=δ y:=by rw[<- S.pre,List.getElem?_take_of_lt N9];rwa[F]
  let D:t.Nodup:=by rw[<- S.pre];rwa[S.nd.sublist$ RT _ _]
  erw[#[u,X,?_]];rcases S.par y (Pd C) with k |k
  .rwa[.inl #[k,QR D C L k]]
  .let#[c,e]:=XU (n:=s.heap.objs.size+1) k;erw[.inr #[.inl k,c,e,?_]];let q:=x.cell y c e;rw[QS D C L (by show d.names.lookup y≠_;rw[k];decide)]at q;rwa[q]
 .rwa[j.hok.fresh$ RX$ x.above y c$ Rt h]
 .unfold iE;show _=ry N;rw[OL,OJ,Ub];omega
def Dp{P:ψ}{K:β}{kV:η}
    {G:Sp} (lk:K.lookup f=δ #[oc,od,.func$ ti name c p h a dV kV L pm an C ct,o1]) (M:codeIn K C c=μ) (S:aj N T a)
  (len:∀d H Q E,G d H Q E->ry d=ry T)
  (j:∀(A:bU) (O:xD Env) (s:ι) (H:Hp) (d:xD V) (Q:VK) (E:XK),b6 k (A.deeper$ envOfC c a s.heap.objs.size f C)->G d H Q E->
   ∃t,nJ (gR U P w K Y B N c a f C A O s H E) h t/\t { nx:=λ_ i=>Q .non i,rt:=Q } (iE N d) H):
  ah P w K Y B U (k+1) f (ti name c p h a dV kV L pm an C ct) T G:=by
 erw[#[len,λA O s H a0 us d Q E R z hb r D=>?_]];let hl:=len _ _ _ _ D;let KX:K.In s.heap:=z.mod.kin.keeps λb o e=>(z.bs b o e).1;let X:s.heap.NoLimit:=z.mod.nolimit.keeps λb o e=>(z.bs b o e).1;let l:∀y∈T.zip us,a.names.lookup y.1=δ .local\/(a.names.lookup y.1=δ .cell/\((cellsFrom (s.heap.objs.size+1) a.names []).lookup y.1).isSome=μ):=λ#[n,v] hy=>by
  rcases S.par n (T3 hy).1 with q |q
  .rwa[.inl q]
  .rwa[.inr #[q,UY _ _ _$ .inl q]]
 erw[codeAny_call_function R.depth (KX _ _ lk) Z S.co S.gen Z (PySem.W.codeRec_of KX M)$ hb _ _ _ _ ?_];erw[wpAny_newFunctionEnv_cells S.kind l λe1 he s1 x=>?_];subst he;erw[#[X.keeps x.toInCall.keep,codeAny_func ?_]];let#[t,ht,hq]:=j A O s H d Q E (R.deeper _) D;let I:au (gR U P w K Y B N c a f C A O s H E) [] (iE N d) H s1:=tw S R.hd z hl r x;erw[P5 (ht [] s1 (iE N d) H _ I hq) (λfl s' m=>?_) λe s' m=>m];let F:∀{g:St} {i:Hp} {v:V} {u:η},au (gR U P w K Y B N c a f C A O s H E) [] g i s'->aJ v u->Q v i->CE O P w H s Q u s':=
  λ{g i v u} J rv q=>#[v,i,J.os,J.bare,J.base,J.hok,rv,q]
 cases fl with
 |ret u=>let#[v,g,i,J,rv,q]:=m;rwa[F J rv q]
 |next=>let#[g,i,J,q]:=m;rwa[F (v:=V.non) (u:=Ω) J Z q]
 |brk |cont=>let#[_,_,_,q]:=m;rwa[False.elim q]
section
variable {X:Cx}{x:ρ}{p pos:Pos}{e:dg}{es:xD dg}{t:TA}{id T:String}{r:xD V->Hp->VK->Prop}
def Mj(r:xD V->Hp->VK->Prop)(t:TA):TE:=λa H Q=>t a H λv h=>r v h Q
def jO(d:fu X (.builtin id) r)(f:Gl X x)(g:X.mg x=θ)(i:bootBuiltins x=δ (.builtin id))(j:PA X (e::es) t)(k:↥(x≠"__name__"))(a:↥((x==("__debug__":ρ))=ν))
  (l:↥(Δ (e::es) X.env=(ν,eval e X.env)::Δ es X.env)) (b:↥((fx pos$ Δ es X.env).any (·.1)=ν)):PE X (.Call (.Name x p) (e::es) [] pos) (Mj r t):=by
 intro P s c H Q I h;erw[P6$ zU I f g i ?_ k a];rwa[PyProof.Rows.callWith_builtin1 (a8 (j pos P s c H _ I h) λu S #[v,m,n,R,q]=>d P S c m v u Q n R q) l b]
def jJ(d:fu X (.type T) r)(f:Gl X x)(g:X.mg x=θ)(i:bootBuiltins x=δ (.type T))(j:PA X (e::es) t)(k:↥(x≠"__name__"))(a:↥((x==("__debug__":ρ))=ν))
  (l:↥(Δ (e::es) X.env=(ν,eval e X.env)::Δ es X.env)) (b:↥((fx pos$ Δ es X.env).any (·.1)=ν)):PE X (.Call (.Name x p) (e::es) [] pos) (Mj r t):=by
 intro P s c H Q I h;erw[P6$ zU I f g i ?_ k a];rwa[Px (a8 (j pos P s c H _ I h) λu S #[v,m,n,R,q]=>d P S c m v u Q n R q) l b]
end
end _L
namespace HT
open PySem PyProof.Rows
section
variable {prog:ψ}{w:bF}{A:bU}{E:η->ι->Prop}{s:ι}
def cat_tup{v W:xD η}{Q:η->ι->Prop}(m:IsTup s.heap t v.toArray)(o:IsTup s.heap b W.toArray)(i:v≠[])
  (p:W=[]->Q (.ref t) s) (q:W≠[]->Q (.ref s.heap.objs.size) { s with heap:=s.heap.push { cls:=.type "tuple",data:=.seq (v++W).toArray } })
  (g:ry v+ry W<=τ):π (υ prog w) A (binaryOp .Add (.ref t)$ .ref b) Q E s:=by
 obtain⟨⟨cls,D,data,j⟩,c,k,n,l⟩:=id m;obtain⟨⟨C,d,data2,S⟩,h,H,N,a⟩:=id o;simp only at k l H a;subst k l H a;let e:v.toArray++W.toArray=(v++W).toArray:=by simp
 by_cases f:W=[]
 .exact VQ #[_,c,Z] #[_,h,Z] UX VA Tv To (Tn _ _)
   (tuple_addW1 t b v.toArray W.toArray n N D d j S (by simpa using i) (by simp [f])) #[c,h,p f]
 .refine VQ #[_,c,Z] #[_,h,Z] UX VA Tv To (Tn _ _)
   (tuple_addW2 t b v.toArray W.toArray n N D d j S (by simpa using i) (by simpa using f) (by rw[ON,ON];rwa[g])) #[c,h,?_]
  rw[e];rwa[q f]
def sIx(n d:Nat):xL Int->Nat
 |none=>d
 |some v=>if v < 0 then (v+(n:Int)).toNat else min v.toNat n
def sIx_none(n d:Nat):sIx n d θ=d:=rfl
def sIx_nat(n d k:Nat):sIx n d (δ (k:Int))=min k n:=by show(if (k:Int) < 0 then ((k:Int)+(n:Int)).toNat else min (k:Int).toNat n)=min k n;rw[OU N9,PQ]
def Go(n d:Nat)(H:d<=n)(o:xL Int):sIx n d o<=n:=by
 cases o with
 |none=>rwa[H]
 |some v=>
  show(if v < 0 then (v+(n:Int)).toNat else min v.toNat n)<=n;by_cases h:v < 0
  .rw[OT h];omega
  .rw[OU h];rwa[Nat.min_le_right _ _]
def ZN(v:Int)(n d:Nat):(if v < 0 then max (v+(n:Int)) 0 else min v (n:Int))=((sIx n d (δ v):Nat):Int):=by
 show(if v < 0 then max (v+(n:Int)) 0 else min v (n:Int))=(((if v < 0 then (v+(n:Int)).toNat else min v.toNat n):Nat):Int);by_cases h:v < 0
 .simp only[OT h];omega
 .simp only[OU h];omega
def Y0(lo h:xL Int)(n:Nat):mu lo h 1 (n:Int)=(((sIx n 0 lo:Nat):Int),((sIx n n h:Nat):Int)):=by
 let H:¬((1:Int) < 0):=by omega
 unfold mu;simp only[H,Rj];erw[Prod.ext ?_ ?_]
 .cases lo with
  |none=>rfl
  |some v=>rwa[ZN v n 0]
 .cases h with
  |none=>rfl
  |some v=>rwa[ZN v n n]
def Y1(i j:Nat):ic (i:Int) (j:Int) 1=j - i:=by
 unfold ic;let h:(1:Int) > 0:=by omega
 simp only[h,Tg,Int.ediv_one];split<;>omega
def K6{Q:xL Int->ι->Prop}(p:IsPart v o)(h:Q o s):π (υ prog w) A (Builtin.Slice.slicePartIndex v) Q E s:=by
 cases p with
 |none=>rwa[slicePart_none h]
 |int i t=>rwa[slicePart_int h]
def sliceApplied_gen{lo:xL Int}{Q:Int×Int×Nat->ι->Prop}(d:s.heap.IsSliceOf e v c .none)(p:IsPart v lo)(P:IsPart c b)
  (h:Q (((sIx n 0 lo:Nat):Int),1,sIx n n b - sIx n 0 lo) s):π (υ prog w) A (oS (.ref e)$ pure (n:Int)) Q E s:=by
 let#[os,H,f,a]:=id d;unfold oS Builtin.Slice.sliceFields;erw[OF$ OF$ Pg H a (x:=v) Z$ OF$ Pg H a (x:=c) Z$ OF$ Pg H a (x:=.none) Z$ OK ?_];erw[OF$ slicePart_none ?_];show π _ _ (if ((1:Int)==0)=μ then _ else _) _ _ s;rw[OU Oa];erw[OF$ K6 p$ OF$ K6 P$ OF$ OK ?_];show π _ _ (match mu lo b 1 (n:Int) with | (lo,b)=>pure (lo,(1:Int),ic lo b 1)) _ _ s;rw[Y0 lo b n];show π _ _ (pure (((sIx n 0 lo:Nat):Int),(1:Int),ic ((sIx n 0 lo:Nat):Int) ((sIx n n b:Nat):Int) 1)) _ _ s;rw[Y1];rwa[OK h]
def xC(X:Array η)(i k:Nat):((dn k).filterMap λ(m:Nat)=>X[((i:Int)+(m:Int)*1).toNat]?).toArray=((X.toList.drop i).take k).toArray:=by
 let e:(λ(m:Nat)=>X[((i:Int)+(m:Int)*1).toNat]?)=λm=>X[i+m]?:=by
  funext m;let:((i:Int)+(m:Int)*1).toNat=i+m:=by omega
  rw[this]
 rw[e];let:=pick_run X i k;rw[List.filterMap_map]at this;let a:((λx=>X[x]?) ∘ λx=>i+x)=λm=>X[i+m]?:=rfl;rw[a]at this;rw[this]
def getItem_tuple_cut{lo:xL Int}{Q:η->ι->Prop}(ht:IsTup s.heap t items)(hs:s.heap.IsSliceOf sl vl vu .none)(pl:IsPart vl lo)(pu:IsPart vu hi)
  (hw:¬(sIx items.size 0 lo=0/\sIx items.size items.size hi=items.size))
  (h:Q (.ref s.heap.objs.size) { s with heap:=s.heap.push { cls:=.type "tuple",data:=.seq ((items.toList.drop$ sIx items.size 0 lo).take$ sIx items.size items.size hi - sIx items.size 0 lo).toArray } })
  (hsz:items.size<=τ):π (υ prog w) A (getItem (.ref t)$ .ref sl) Q E s:=by
 let htake:sizeOk (.seq ((items.toList.drop$ sIx items.size 0 lo).take$ sIx items.size items.size hi - sIx items.size 0 lo).toArray):=by show((items.toList.drop$ sIx items.size 0 lo).take$ sIx items.size items.size hi - sIx items.size 0 lo).toArray.size<=τ;rw[ON,Pf,Ry,Pa];rwa[N09]
 let hj:sIx items.size items.size hi<=items.size:=Go _ _ (OM _) hi;let#[os,hos,hcs,hds]:=id hs;let hTs:s.TypeIs (.ref sl) "slice":=#[os,hos,hcs];unfold getItem;try with_reducible refine Pb ?_
 first |erw[OF (OK ?_)] |skip
 erw[OF$ UK ht.typeIs Oa ?_];refine OF (Pr (name:=Str.ofString "__getitem__") ht.typeIs RN
  (Pp RN ht.typeIs entry_tuple_getitem ?_$ args_tuple_getitem _ _))
 show π _ _ (pq (.ref t) >>= _) _ _ s;erw[OF$ tupleItemsOf_ ht ?_];erw[OF$ RM hTs ?_];rw[OT Oa];erw[OF$ sliceApplied_gen hs pl pu ?_];let hno:¬((((sIx items.size 0 lo:Nat):Int)==0&&(1:Int)==1&&(sIx items.size items.size hi - sIx items.size 0 lo)==items.size)=μ):=by intro q;rw[Rc,Rc]at q;let q1:((sIx items.size 0 lo:Nat):Int)=0:=eq_of_beq q.1.1;let q2:sIx items.size items.size hi - sIx items.size 0 lo=items.size:=eq_of_beq q.2;rwa[hw #[N9,N09]]
 show π _ _ (if (((sIx items.size 0 lo:Nat):Int)==0&&(1:Int)==1&&(sIx items.size items.size hi - sIx items.size 0 lo)==items.size)=μ then _ else _) _ _ s;rw[OU hno,xC];first
  |rwa[OF (m:=dO _) (Pu (OK #[_,Z,OK h]) htake)]
  |rwa[OF (m:=dO _) (Pu (OF (OK (OK #[_,Z,OK h]))) htake)]
  |rwa[OF (OF (m:=dO _) (Pu (OK (OK #[_,Z,OK h])) htake))]
  |rwa[OF (OF (m:=dO _) (Pu (OK #[_,Z,OK h]) htake))]
end
end HT
namespace _L
open PySem PySem.Spec PyProof.Rows
abbrev TO:=St->Hp->(xL Int->Hp->Prop)->Prop
def PO(X:Cx)(e:xL dg)(t:TO):Prop:=
 ∀(p:xD (ζ×gs)) (s:ι) (a:St) (H:Hp) (Q:xL Int->Hp->Prop),au X p a H s->t a H Q->
  π (υ X.prog X.w) X.A (evalPart e X.env) (λu S=>∃o h,au X p a h S/\IsPart u o/\Q o h) X.xe s
def nE:TO:=λ_ H Q=>Q θ H
inductive yP(Q:xL Int->Hp->Prop)(x:V)(a:Hp):Prop
 |mk(i:_)(_:x= .int i)(_:Q (δ i) a)
def oB(t:TE):TO:=λa H Q=>t a H (yP Q)
section
variable {X:Cx}{e:dg}{te:TE}{lo hi:xL dg}{tl th:TO}{pos p2:Pos}
def jT:PO X θ nE:=by intro p s a H Q I h;rw[evalPart_none];rwa[OK #[θ,H,I,.none,h]]
def jH(h:PE X e te):PO X (δ e) (oB te):=by intro p s a H Q I b;rw[evalPart_some];erw[a8 (h p s a H _ I b) λu S z=>?_];let#[x,c,d,r,f]:=z;let#[i,Z,q]:=f;let#[t,Z]:=r;rwa[#[δ i,c,d,.int i t,q]]
def Ma(X:Cx)(r:V->xL Int->xL Int->Hp->VK->Prop):Prop:=
 ∀(p:xD (ζ×gs)) (s:ι) (a:St) (H:Hp) (x:V) (v b c:η) (lo hi:xL Int) (S:ζ) (Q:VK),au X p a H s->aJ x v->s.heap.IsSliceOf S b c .none->IsPart b lo->IsPart c hi->r x lo hi H Q->
  ∃T id,typeLookup (.type T) "__getitem__"=pure (δ$ .builtin id)/\s.TypeIs v T/\π (υ X.prog X.w) X.A (getItem v$ .ref S) (EP X p a Q) X.xe s
def Ml(r:V->xL Int->xL Int->Hp->VK->Prop)(te:TE)(tl th:TO):TE:=λa H Q=>te a H λx h=>tl a h λl b=>th a b λu c=>r x l u c Q
def jI{r:V->xL Int->xL Int->Hp->VK->Prop}(g:Ma X r)(i:PE X e te)(j:PO X lo tl)(k:PO X hi th):PE X (.Subscript e (.Slice lo hi θ p2) pos) (Ml r te tl th):=by intro p s a H Q I h;erw[Wz$ a8 (i p s a H _ I h) λv m z=>?_];let#[x,n,o,R,t]:=z;erw[wpAny_Slice$ a8 (j p m a n _ o t) λc y #[l,B,C,P,D]=>a8 (k p y a B _ C D) λd S z=>?_];let#[u,f,E,F,G]:=z;rw[evalPart_none];erw[OK ?_];let J:au X p a f { S with heap:=S.heap.push { cls:=.type "slice",data:=.fields (ε [c,d,.none]) } }:=E.kept (t':=S.toks) λb O q=>OH _ q;let#[T,id,K,L,M]:=g p { S with heap:=S.heap.push { cls:=.type "slice",data:=.fields (ε [c,d,.none]) } } a f x v c d l u S.heap.objs.size Q J R (UJ ..) P F G;show π (υ X.prog X.w) X.A (subscriptTail e (.Slice lo hi θ p2) v$ .ref S.heap.objs.size) (EP X p a Q) X.xe { S with heap:=S.heap.push { cls:=.type "slice",data:=.fields (ε [c,d,.none]) } };rwa[tail_any (ops:=[.ref S.heap.objs.size,v]) L K M (by with_unfolding_all rfl)]
def aT(x:xD V)(lo hi:xL Int):xD V:=(x.drop$ HT.sIx x.length 0 lo).take (HT.sIx x.length x.length hi - HT.sIx x.length 0 lo)
def zq(x:xD V)(lo hi:xL Int):(aT x lo hi).length<=ry x:=by unfold aT;rw[Pf,Ry];omega
inductive Le(K:β)(x:V)(c b:xL Int)(H:Hp)(Q:VK):Prop
 |mk(a d:_)(_:x= .ref a)(_:aC K H a d)(_:¬(HT.sIx d.length 0 c=0/\HT.sIx d.length d.length b=ry d))(_:∀p,H p=θ->Q (.ref p) (af H p (.tup (aT d c b))))
def GL:Ma X (Le X.K):=by
 intro p s n H x v V t lo hi S Q I R j P k h;let#[a,d,Z,l,m,q]:=h;cases R;let#[i,r,f,g]:=I.tuple l;let c:i.toArray.size=ry d:=by rw[ON];rwa[r.length.symm]
 erw[#["tuple",_,PyProof.Rows.slot_tuple_getitem.lookup,f.typeIs,?_]];erw[HT.getItem_tuple_cut f j P k (by rw[c];rwa[m]) ?_ (by rw[c];rwa[g])];rw[c];erw[#[.ref s.heap.objs.size,_,I.laid (t':=s.toks) (o:=.tup (aT d lo hi)) (λb O q=>OH _ q) (OM _) ?_,Z,q _$ I.hok.fresh$ OM _]];rwa[#[O1 (zq d lo hi) g,_,(r.drop$ HT.sIx d.length 0 lo).take$ HT.sIx d.length d.length hi - HT.sIx d.length 0 lo,VW _ _]]
inductive DK(K:β)(x y:V)(H:Hp)(Q:VK):Prop
 |mk(a b c d:_)(_:x= .ref a)(_:y= .ref b)(_:aC K H a c)(_:aC K H b d)(_:c≠[])(_:ry c+ry d<=τ)(_:d=[]->Q (.ref a) H)(_:d≠[]->∀p,H p=θ->Q (.ref p) (af H p (.tup (c++d))))
def aG.nil_iff(r:aG x u):u=[]↔x=[]:=by
 cases r with
 |nil |cons _ _=>simp
def BJ:fQ X (binaryOp .Add) (DK X.K):=by intro p s A H x y v u Q I d f h;let#[a,b,g,Y,Z,Z,j,k,l,c,m,n]:=h;cases d;cases f;let#[t,R,P,_]:=I.tuple j;let#[i,r,p2,_]:=I.tuple k;erw[HT.cat_tup P p2 (λz=>l (R.nil_iff.mp z)) (λz=>#[.ref a,H,I,Z,m$ r.nil_iff.mp z]) (λz=>?_) (by rw[<- R.length,<- r.length];rwa[c])];erw[#[.ref s.heap.objs.size,_,I.laid (t':=s.toks) (o:=.tup (g++Y)) (λb O q=>OH _ q) (OM _) ?_,Z,n (λw=>z (r.nil_iff.mpr w)) _$ I.hok.fresh$ OM _]];rwa[#[by rw[OL];rwa[c],_,R.append r,VW _ _]]
end
def oX(n:Nat)(i:Int):xL Nat:=if 0<=i then (if i < n then δ i.toNat else θ) else if -(n:Int)<=i then δ (i+n).toNat else θ
def eW{a:Type}(x:xD a)(i:Int):xL a:=(oX x.length i).bind λj=>x[j]?
def ZO(h:oX n i=δ j):seqIndex? i n=δ j/\j < n/\ -(n:Int)<=i/\i < n:=by
 unfold oX at h;by_cases a:0<=i
 .rw[OT a]at h;by_cases H:i < n
  .rw[OT H]at h;let e:i.toNat=j:=PR h;rwa[#[by rw[V9 a H,e],N9,N9,H]]
  .rw[OU H]at h;cases h
 .rw[OU a]at h;by_cases H: -(n:Int)<=i
  .rw[OT H]at h;let e:(i+n).toNat=j:=PR h;rwa[#[by rw[VO N9 H,e],N9,H,N9]]
  .rw[OU H]at h;cases h
def Xp{a:Type}{x:xD a}{v:a}(h:eW x i=δ v):∃j,seqIndex? i (ry x)=δ j/\x[j]?=δ v/\j < ry x/\ -(x.length:Int)<=i/\i < ry x:=by
 unfold eW at h;cases e:oX x.length i with
 |none=>rw[e]at h;cases h
 |some j=>rw[e]at h;let#[H,b,c,d]:=ZO e;rwa[#[j,H,h,b,c,d]]
def jG{a:Type}{x:xD a}{j:Nat}{v:a}(h:x[j]?=δ v):eW x (j:Int)=δ v:=by
 let H:j < ry x:=(ξ.mp h).1;let e:oX x.length (j:Int)=δ j:=by unfold oX;rw[OT N9,OT N9];simp
 unfold eW;rw[e];rwa[h]
def At(b:dg):Prop:=∀o i,subscripted b ν o i=operate [o,i] (getItem o i)
def HR(X:Cx)(r:R2):Prop:=
 ∀(a S:dg) (p:xD (ζ×gs)) (s:ι) (b:St) (H:Hp) (x y:V) (v u:η) (Q:VK),au X p b H s->aJ x v->aJ y u->r x y H Q->
  subscripted S ν v u=operate [v,u] (getItem v u)->π (υ X.prog X.w) X.A (subscriptTail a S v u) (EP X p b Q) X.xe s
def Ms(X:Cx)(id:String)(r:V->xD V->Hp->VK->Prop):Prop:=
 ∀(p:xD (ζ×gs)) (s:ι) (a:St) (H:Hp) (x:V) (b:xD V) (v:η) (u:xD η) (Q:VK),au X p a H s->aJ x v->aG b u->r x b H Q->
  π (υ X.prog X.w) X.A (call (.builtin id) (v::u)) (EP X p a Q) X.xe s
section
variable {X:Cx}{a b:dg}{ta tb:TE}{pos:Pos}
def jq{r:R2}(c:HR X r)(d:PE X a ta)(e:PE X b tb)(f:At b:=by intro _ _;rfl):PE X (.Subscript a b pos) (fg r ta tb):=by intro p s g H Q I h;rwa[Wz$ Ed d e I h λv u S x y i j R k q=>c a b p S g i x y v u Q j R k q (f _ _)]
inductive md(K:β)(x y:V)(H:Hp)(Q:VK):Prop
 |mk(p a i v:_)(_:x= .ref p)(_:y= .int i)(_:aK K H p a)(_:eW a i=δ v)(_:Q v H)
inductive dh(K:β)(x y:V)(H:Hp)(Q:VK):Prop
 |mk(p a i v:_)(_:x= .ref p)(_:y= .int i)(_:aC K H p a)(_:eW a i=δ v)(_:Q v H)
inductive BW(x y:V)(H:Hp)(Q:VK):Prop
 |mk(z i c:_)(_:x= .str z)(_:y= .int i)(_:z.length<=τ)(_:eW z.cps.toList i=δ c)(_:Q (.str #[(ε [c])]) H)
def ju:HR X (md X.K):=by
 intro V S P s k H x y v u Q I n o h l;let#[p,L,i,z,Z,Z,A,B,q]:=h;cases n;let#[t,Z]:=o;let#[d,r,e,M]:=I.list A;let#[j,c,C,N,D,F]:=Xp B;let#[w,E,R]:=r.get C;let G:=r.length;let O:=gj;let f:EP X P k Q w s:=#[z,H,I,R,q];by_cases m:0<=i
 .let g:i.toNat=j:=by rw[V9 m F]at c;rwa[PR c]
  rwa[item_listR e.isList m N9 (by rw[g];simpa using E) f l]
 .let g:(i+(d.toArray.size:Int)).toNat=j:=by rw[VO N9 D]at c;rw[ON,<- G];rwa[PR c]
  exact VN (x:=w) e.isList.typeIs slot_list_getitem.lookup
   (wpAny_getItem_list_neg (Q:=λr J=>r=w/\EP X P k Q r J) e.isList N9 (by rw[ON]<;>omega) N9 (by rw[g];simpa using E) #[Z,f]) l
def jC:HR X (dh X.K):=by
 intro V S P s c H x y v u Q I e g h k;let#[p,D,i,z,Z,Z,l,m,q]:=h;cases e;let#[t,Z]:=g;let#[n,r,d,F]:=I.tuple l;let#[j,o,A,G,J,L]:=Xp m;let#[w,E,R]:=r.get A;let B:=r.length;let M:=gj;let f:EP X P c Q w s:=#[z,H,I,R,q];exact VN (x:=w) d.typeIs slot_tuple_getitem.lookup
  (getItem_tuple (j:=j) (Q:=λr C=>r=w/\EP X P c Q r C) d N9 N9 (by rw[ON,<- B];rwa[o]) (by simpa using E) #[Z,f]) k
def Kv:HR X BW:=by
 intro V S p s o H x y v u Q I r R h e;let#[z,i,c,Z,Z,w,f,q]:=h;let#[t,Z]:=r;let#[T,Z]:=R;let#[j,d,g,A,k,l]:=Xp f;let m:ry z.cps.toList=z.length:=by simp [Str.length]
 rw[m]at d k l;let B:=gj;exact tail_any (typeIs_str s z t) slot_str_getitem.lookup (getItem_str (c:=c) (by
  let E:decide (i < -(2 ^ 63:Int))=ν:=OR N9;let n:decide (i≥2 ^ 63)=ν:=OR N9;rw[E,n,U']) (by rw[d];simpa using g) #[.str #[(ε [c])],H,I.tok _,#[_,Z],q]) e
def Y2(i:xD η)(n j:Nat)(u:η):γ (·.setIfInBounds j u) { cls:=.type "list",data:=.seq i.toArray n }={ cls:=.type "list",data:=.seq (i.set j u).toArray n }:=by simp [γ]
def au.lst(I:au X c d H s)(h:H p=δ (.lst x)):
  ∃(i:xD η) (n:Nat),aG x i/\s.heap.get? p=δ { cls:=.type "list",data:=.seq i.toArray n }/\ry x<=τ:=by
 let#[z,i,n,r,e]:=I.hok p _ h;rwa[#[i,n,r,e,z]]
def au.lstUpd{c i:xD η}{f:gs->gs}(I:au X d j H s)(h:H p=δ (.lst o))
  (k:s.heap.get? p=δ { cls:=.type "list",data:=.seq c.toArray n }) (g:f { cls:=.type "list",data:=.seq c.toArray n }={ cls:=.type "list",data:=.seq i.toArray N }) (r:aG y i) (l:ry y<=τ) (t:Nat):
  au X d j (af H p$ .lst y) { s with heap:=s.heap.update p f,toks:=t }:=by
 let e:(s.heap.update p f).get? p=δ { cls:=.type "list",data:=.seq i.toArray N }:=by rw[Heap.get?_update_self f k (by rw[g]<;>rfl),g]
 erw[I.write (x:=p) (e:=p) (by rw[h];trivial) (.inl Z) (λb u m q=>(Heap.get?_update_other _ _$ Ne.symm m).trans q) #[_,e] ?_];rwa[#[l,i,N,r,e]]
inductive rn(o i v:V)(H:Hp)(Q:Hp->Prop):Prop
 |mk(p a k j:_)(_:o= .ref p)(_:i= .int k)(_:H p=δ (.lst a))(_:oX a.length k=δ j)(_:Q (af H p (.lst (a.set j v))))
def zL:HW X rn:=by
 intro P s z H o i v O F u Q I R A B h;let#[p,C,k,j,Z,Z,l,D,q]:=h;cases R;let#[t,Z]:=A;let#[c,n,r,e,E]:=I.lst l;let#[d,G,m,w]:=ZO D;let f:=r.length;let J:=gj;let x:au X P z (af H p$ .lst$ C.set j v) { s with heap:=s.heap.update p (γ (·.setIfInBounds j u)) }:=
  I.lstUpd l e (Y2 c n j u) (r.set B j) (by rw[T4];rwa[E]) s.toks
 by_cases y:0<=k
 .let g:k.toNat=j:=by rw[V9 y w]at d;rwa[PR d]
  rwa[PySem.W.ki_setAt e y N9 (by rw[ON,<- f];rwa[w]) (by rw[g];rwa[#[_,x,q]])]
 .let g:(k+(c.toArray.size:Int)).toNat=j:=by rw[VO N9 m]at d;rw[ON,<- f];rwa[PR d]
  rwa[PySem.W.ki_setBack e N9 (by rw[ON,<- f];rwa[m]) N9 (by rw[g];rwa[#[_,x,q]])]
def XA(lo H:xL Int)(n:Nat):(sliceBounds lo H θ n).1=((HT.sIx n 0 lo:Nat):Int)/\(sliceBounds lo H θ n).2.1=((HT.sIx n n H:Nat):Int)/\(sliceBounds lo H θ n).2.2=1:=by
 erw[#[?_,?_,Z]]
 .cases lo with
  |none=>simp [sliceBounds,HT.sIx]
  |some i=>
   simp only[sliceBounds,HT.sIx,Uw,show(1:Int) > 0 by decide,Tg];by_cases h:i < 0
   .simp only[h,Tg]<;>omega
   .simp only[h,Rj]<;>omega
 .cases H with
  |none=>simp [sliceBounds,HT.sIx]
  |some i=>
   simp only[sliceBounds,HT.sIx,Uw,show(1:Int) > 0 by decide,Tg];by_cases h:i < 0
   .simp only[h,Tg]<;>omega
   .simp only[h,Rj]<;>omega
def Qt(i:xD η)(lo h:xL Int):slicePick i.toArray lo h θ=((i.drop$ HT.sIx i.length 0 lo).take$ HT.sIx i.length i.length h - HT.sIx i.length 0 lo).toArray:=by let#[H,c,d]:=XA lo h i.toArray.size;unfold slicePick;rw[H,c,d];simp only[sliceRange_one,pick_run,ON]<;>rfl
inductive BX(K:β)(x:V)(c b:xL Int)(H:Hp)(Q:VK):Prop
 |mk(a d:_)(_:x= .ref a)(_:aK K H a d)(_:∀p,H p=θ->Q (.ref p) (af H p (.lst (aT d c b))))
def km:Ma X (BX X.K):=by intro p s m H x v V n lo e S Q I R g P i h;let#[a,c,Z,j,q]:=h;cases R;let#[k,r,f,l]:=I.list j;let d:=r.length;erw[#["list",_,slot_list_getitem.lookup,f.isList.typeIs,?_]];erw[wpAny_getItem_list_slice f.isList g P i .none N8 ?_ (by rw[ON]<;>omega)];rw[Qt,<- d];erw[#[.ref s.heap.objs.size,_,I.laid (t':=s.toks) (o:=.lst (aT c lo e)) (λb O q=>OH _ q) (OM _) ?_,Z,q _$ I.hok.fresh$ OM _]];rwa[#[O1 (zq c lo e) l,_,0,(r.drop$ HT.sIx c.length 0 lo).take$ HT.sIx c.length c.length e - HT.sIx c.length 0 lo,OQ _ Z]]
def dF:V->Bool
 | .non | .bl _ | .int _ | .str _=>μ
 |_=>ν
def oG:V->V->Bool
 | .non,.non=>μ
 | .bl a,.bl b=>a==b
 | .bl a,.int b=>(if a then 1 else 0)==b
 | .int a,.bl b=>a==(if b then 1 else 0)
 | .int a,.int b | .str a,.str b=>a==b
 |_,_=>ν
def vH(R:aJ y u)(r:aJ x v)(F:dF y=μ)(f:dF x=μ):SeqAt.EqAt A s u v (oG y x):=by
 cases y with
 |non=>
  cases R;cases x with
  |non=>cases r;rwa[SeqAt.EqAt.same _]
  |bl b=>cases r;rwa[SeqAt.EqAt.none_bool b]
  |int b=>let#[t,Z]:=r;rwa[SeqAt.EqAt.none_int b t]
  |str b=>let#[t,Z]:=r;rwa[SeqAt.EqAt.none_str b t]
  |_=>rwa[absurd (show ν=μ from f) OX]
 |bl a=>
  cases R;cases x with
  |non=>cases r;rwa[SeqAt.EqAt.bool_none a]
  |bl b=>cases r;rwa[SeqAt.EqAt.bool_bool a b]
  |int b=>let#[t,Z]:=r;rwa[SeqAt.EqAt.bool_int a b t]
  |str b=>let#[t,Z]:=r;rwa[SeqAt.EqAt.bool_str a b t]
  |_=>rwa[absurd (show ν=μ from f) OX]
 |int a=>
  let#[T,Z]:=R;cases x with
  |non=>cases r;rwa[SeqAt.EqAt.int_none a T]
  |bl b=>cases r;rwa[SeqAt.EqAt.int_bool a T b]
  |int b=>let#[t,Z]:=r;rwa[SeqAt.EqAt.int_int a T b t]
  |str b=>let#[t,Z]:=r;rwa[U6 a T b t]
  |_=>rwa[absurd (show ν=μ from f) OX]
 |str a=>
  let#[T,Z]:=R;cases x with
  |non=>cases r;rwa[SeqAt.EqAt.str_none a T]
  |bl b=>cases r;rwa[SeqAt.EqAt.str_bool a T b]
  |int b=>let#[t,Z]:=r;rwa[U5 a T b t]
  |str b=>let#[t,Z]:=r;rwa[SeqAt.EqAt.str_str a T b t]
  |_=>rwa[absurd (show ν=μ from f) OX]
 |_=>rwa[absurd (show ν=μ from F) OX]
def oV(x:V)(u:η):Bool:=match u with
 | .none=>oG .non x
 | .bool b=>oG (.bl b) x
 | .int i _=>oG (.int i) x
 | .str z _=>oG (.str z) x
 |_=>ν
def vK(r:aJ y u)(f:dF y=μ):oV x u=oG y x:=by
 cases y with
 |non |bl b=>cases r;rfl
 |int i |str z=>let#[t,Z]:=r;rfl
 |_=>rwa[absurd (show ν=μ from f) OX]
theorem Je:∀{c:xD V} {U:xD η},aG c U->c.all dF=μ->U.any (oV x)=c.any λy=>oG y x
 |_,_,.nil,_=>rfl
 |y::c,u::U,.cons r t,f=>by rw[U9,Rc]at f;rw[SY,SY,vK r f.1,Je t f.2]
theorem qy(R:aJ x v)(F:dF x=μ):∀{c:xD V} {U:xD η},aG c U->c.all dF=μ->∀u∈U,SeqAt.EqAt A s u v (oV x u)
 |_,_,.nil,_=>λu hu=>by cases hu
 |y::c,u::U,.cons r t,f=>λd hu=>by
  rw[U9,Rc]at f;rcases Ξ.mp hu with rfl |hu
  .rw[vK r f.1];rwa[vH r R f.1 F]
  .rwa[qy R F t f.2 d hu]
def pV(x:V)(c:xD V):Bool:=c.any λy=>oG y x
inductive Lc(K:β)(a:Bool)(x y:V)(H:Hp)(Q:VK):Prop
 |mk(p b:_)(_:y= .ref p)(_:aK K H p b\/aC K H p b)(_:dF x=μ)(_:b.all dF=μ)(_:Q (.bl (if a then !pV x b else pV x b)) H)
def zC:fQ X (compareOp .In) (Lc X.K ν):=by
 intro d s j H x y v u Q I R e h;let#[p,k,Z,hq,F,f,q]:=h;cases e;rcases hq with hq |hq
 .let#[i,r,P,g]:=I.list hq;erw[SeqAt.in_listAt (oV x) P.isList (λw c=>qy R F r f w (by simpa using c)) #[.bl _,H,I,Z,?_]];rw[show i.toArray.any (oV x)=i.any (oV x) by simp,Je r f];rwa[q]
 .let#[i,r,P,g]:=I.tuple hq;erw[SeqAt.in_tupleAt (oV x) P (λw c=>qy R F r f w (by simpa using c)) #[.bl _,H,I,Z,?_]];rw[show i.toArray.any (oV x)=i.any (oV x) by simp,Je r f];rwa[q]
def Jt:fQ X (compareOp .NotIn) (Lc X.K μ):=by
 intro d s j H x y v u Q I R e h;let#[p,k,Z,hq,F,f,q]:=h;cases e;rcases hq with hq |hq
 .let#[i,r,P,g]:=I.list hq;erw[SeqAt.notIn_listAt (oV x) P.isList (λw c=>qy R F r f w (by simpa using c)) #[.bl _,H,I,Z,?_]];rw[show i.toArray.any (oV x)=i.any (oV x) by simp,Je r f];rwa[q]
 .let#[i,r,P,g]:=I.tuple hq;erw[SeqAt.notIn_tupleAt (oV x) P (λw c=>qy R F r f w (by simpa using c)) #[.bl _,H,I,Z,?_]];rw[show i.toArray.any (oV x)=i.any (oV x) by simp,Je r f];rwa[q]
inductive jKr(K:β)(x:xD V)(H:Hp)(Q:VK):Prop|mk(p y:_)(_:x=[.ref p])(_:aK K H p y\/aC K H p y)(_:Q (.int y.length) H)
def jK:fu X (.builtin "len") (jKr X.K):=by
 intro d s g H x U Q I r h;let#[p,y,Z,hq,q]:=h;let#[u,Z,e]:=gB r;cases e;let j:=gj;rcases hq with hq |hq
 .let#[i,R,P,f]:=I.list hq;let c:=R.length;rwa[Calls.call_len_list P.isList (by simp only[ON]<;>omega) #[.int y.length,H,I.tok _,#[s.toks+1,by rw[ON,c]],q]]
 .let#[i,R,P,f]:=I.tuple hq;let c:=R.length;rwa[len_tuple P (by simp only[ON]<;>omega) #[.int y.length,H,I.tok _,#[s.toks+1,by rw[ON,c]],q]]
inductive Jur(K:β)(x:xD V)(H:Hp)(Q:VK):Prop|mk(p y:_)(_:x=[.ref p])(_:aK K H p y\/aC K H p y)(_:∀l,H l=θ->Q (.ref l) (af H l$ .lst y))
def Ju:fu X (.type "list") (Jur X.K):=by
 intro P s z H x U Q I r h;let#[p,y,Z,hq,q]:=h;let#[u,Z,A]:=gB r;cases A;let f:∀(i:xD η),aG y i->ry y<=τ->∀(c:de) (C:Nat),(∀b O,s.heap.get? b=δ O->c.get? b=δ O)->
   c.get? s.heap.objs.size=δ { cls:=.type "list",dict:=θ,data:=.seq i.toArray C,slots:=(ε []) }->EP X P z Q (.ref s.heap.objs.size) { s with heap:=c }:=λi R d c C k e=>
  #[.ref s.heap.objs.size,_,I.laid (t':=s.toks) k (OM _) (show a6 X.prog X.w _ c _ (.lst y) from #[d,i,C,R,e]),Z,q _$ I.hok.fresh$ OM _]
 rcases hq with hq |hq
 .let#[i,R,j,d]:=I.list hq;let g:=R.length;let#[o,m,t,n,v]:=j.isList;rwa[call_list_seq p (.inl Z) m t v (λc C k e=>f i R d c C k e) (by simp only[ON]<;>omega)]
 .let#[i,R,j,d]:=I.tuple hq;let g:=R.length;let#[o,m,t,n,v]:=j;rwa[call_list_seq p (.inr Z) m t v (λc C k e=>f i R d c C k e) (by simp only[ON]<;>omega)]
inductive jNr(K:β)(x:xD V)(H:Hp)(Q:VK):Prop|mk(p y:_)(_:x=[.ref p])(_:(aK K H p y/\∀l,H l=θ->Q (.ref l) (af H l$ .tup y))\/(aC K H p y/\Q (.ref p) H))
def jN:fu X (.type "tuple") (jNr X.K):=by
 intro P s g H x U Q I r h;let#[p,y,Z,h]:=h;let#[u,Z,n]:=gB r;cases n;rcases h with ⟨d,q⟩ | ⟨d,q⟩
 .let#[i,R,f,j]:=I.list d;let k:=R.length;erw[call_tuple_list f.isList (λc t=>?_) (by simp only[ON]<;>omega)];let m:au X P g H { s with heap:=c }:=I.kept (t':=s.toks) t;let v:au X P g (af H c.objs.size$ .tup y) { s with heap:=c.push { cls:=.type "tuple",data:=.seq i.toArray } }:=
   m.laid (t':=s.toks) (λb o e=>OH _ e) (OM _) (show a6 X.prog X.w _ _ _ (.tup y) from #[j,i,R,VW _ _])
  rwa[#[.ref c.objs.size,_,v,Z,q _$ m.hok.fresh$ OM _]]
 .let#[i,R,f,j]:=I.tuple d;rwa[call_tuple_same f #[.ref p,H,I,Z,q]]
def Na(K:β)(T:String)(x:V)(H:Hp):Prop:=match x with
 | .str _=>T="str"
 | .int _=>T="int"
 | .ref p=>(T="list"/\∃c,aK K H p c)\/(T="tuple"/\∃o,K.lookup p=δ o/\o.cls= .type "tuple"/\o.dict=θ)\/
   (T="dict"/\((∃k,H p=δ (.dK k))\/∃k,H p=δ (.dT k)))\/(T="set"/\∃S n,H p=δ (.set S n))
 |_=>False
def yY(I:au X j u H s)(r:aJ x v)(d:Na X.K T x H):
  s.TypeIs v T/\∀a,v= .ref a->∃O,s.heap.get? a=δ O/\O.dict=θ:=by
 cases x with
 |str z=>let#[t,Z]:=r;cases (show T="str" from d);rwa[#[typeIs_str s z t,λ_ e=>nomatch e]]
 |int i=>let#[t,Z]:=r;cases (show T="int" from d);rwa[#[typeIs_int s i t,λ_ e=>nomatch e]]
 |ref p=>
  cases r;rcases d with ⟨rfl,w,l⟩ | ⟨rfl,o,h,m,f⟩ | ⟨rfl,h⟩ | ⟨rfl,S,n,h⟩
  .let#[q,_,P,_]:=I.list l;erw[#[P.isList.typeIs,λa e=>?_]];cases e;let#[o,n,e,c,f,_]:=P;rwa[#[o,e,f]]
  .erw[#[#[o,I.kIn p o h,m],λa e=>?_]];cases e;rwa[#[o,I.kIn _ o h,f]]
  .let z:∃o,s.heap.get? p=δ o/\o.ExactDict:=by
    rcases h with ⟨k,h⟩ | ⟨k,h⟩
    .let#[_,_,_,_,o,_,_,e,E,_]:=I.hok p _ h;rwa[#[o,e,E]]
    .let#[_,_,_,_,o,_,_,e,E,_]:=I.hok p _ h;rwa[#[o,e,E]]
   let#[o,e,E]:=z;erw[#[#[o,e,E.1],λa g=>?_]];cases g;rwa[#[o,e,E.2.1]]
  .let#[o,_,_,_,e,E,_]:=I.hok p _ h;erw[#[#[o,e,E.1],λa g=>?_]];cases g;rwa[#[o,e,E.2.1]]
 |_=>rwa[False.elim d]
def M5(K:β)(T:String)(r:V->xD V->Hp->VK->Prop)(t:TE):TE:=λc H Q=>t c H λx h=>Na K T x h/\r x [] h Q
def M4(K:β)(T:String)(r:V->xD V->Hp->VK->Prop)(d:TE)(t:TA):TE:=λc H Q=>d c H λx h=>Na K T x h/\t c h λe f=>r x e f Q
variable {o e:dg}{es:xD dg}{to:TE}{t:TA}{name:ρ}{apos cpos:Pos}{T id:String}{r:V->xD V->Hp->VK->Prop}
def FY(P:PlainAttrs T)(S:Slot T name id)(f:typeOf (.builtin id)=pure (.type "method_descriptor"))(j:Ms X id r)(k:PE X o to)
  (c:↥(attributeBase o name X.env (eval o X.env)=eval o X.env)) (d:↥((apos.endLine==cpos.line)=μ)):PE X (.Call (.Attribute o name apos) [] [] cpos) (M5 X.K T r to):=by
 intro p s g H Q I h;erw[wpAny_Call_method0_late c d$ a8 (k p s g H _ I h) λv l z=>?_];let#[x,m,i,R,n,q]:=z;let#[u,w]:=yY i R n;rwa[#[T,id,P,S,f,u,w,TK Z$ PySem.evalArgs_none$ j p l g m x [] v [] Q i R .nil q]]
def jZ(P:PlainAttrs T)(S:Slot T name id)(i:typeOf (.builtin id)=pure (.type "method_descriptor"))(m:Ms X id r)(n:PE X o to)(q:PA X (e::es) t)
  (d:↥(attributeBase o name X.env (eval o X.env)=eval o X.env))
  (g:↥(((fx cpos$ Δ (e::es) X.env).all (λx=>!x.1)&&(backToKw cpos$ keywordEach [] X.env).all (λx=>x.1.isSome)
   &&decide ((e::es).length+([]:xD Keyword).length+(if ([]:xD Keyword).isEmpty then 0 else 1) < 30))=μ))
  (f:↥((apos.endLine==cpos.line)=μ)) (u:↥(Δ (e::es) X.env=(ν,eval e X.env)::Δ es X.env)) (c:↥((fx cpos$ Δ es X.env).any (·.1)=ν)):
  PE X (.Call (.Attribute o name apos) (e::es) [] cpos) (M4 X.K T r to t):=by
 intro p s j H Q I h;erw[wpAny_Call_method_late d g f Z$ a8 (n p s j H _ I h) λv w z=>?_];let#[x,y,k,R,A,B]:=z;let#[C,D]:=yY k R A;erw[#[T,id,P,S,i,C,D,?_]];let l:=q cpos p w j y _ k B;rw[u]at l ⊢;erw[TK (by show(ν||(fx cpos$ Δ es X.env).any (·.1))=ν;rw[c]<;>rfl)$ Vu ?_];rwa[a8 l λU E #[F,G,J,L,M]=>m p E j G x F v U Q J R L M]
end
def LZ(X:Cx)(id:String)(r:V->xD V->Hp->VK->Prop):Prop:=
 ∀(p:xD (ζ×gs)) (s:ι) (a:St) (H:Hp) (x:V) (b:xD V) (v:η) (u:xD η) (Q:VK),au X p a H s->aJ x v->aG b u->r x b H Q->
  π (υ X.prog X.w) X.A (call (.builtin id) (v::u)) (EP X p a Q) X.xe s
def aG.one:∀{x:V} {U:xD η},aG [x] U->∃u,U=[u]/\aJ x u
 |_,_,.cons r .nil=>#[_,Z,r]
def aG.zero:∀{u:xD η},aG [] u->u=[]
 |_,.nil=>rfl
def aG.dropLast(h:aG x u):aG x.dropLast u.dropLast:=by
 induction h with
 |nil=>rwa[.nil]
 |cons r t i=>
  cases t with
  |nil=>rwa[.nil]
  |cons q T=>rwa[.cons r i]
def aG.reverse(h:aG x u):aG x.reverse u.reverse:=by
 induction h with
 |nil=>rwa[.nil]
 |cons r t i=>rw[Tp,Tp];rwa[aG.append i (.cons r .nil)]
def Y3{c:Type}(l:xD c):l.eraseIdx (ry l - 1)=l.dropLast:=by
 induction l with
 |nil=>rfl
 |cons a r i=>
  cases r with
  |nil=>rfl
  |cons b r=>
   let e:(a::b::r).length - 1=((b::r).length - 1)+1:=by let h:(a::b::r).length=ry r+2:=rfl;let H:(b::r).length=ry r+1:=rfl;omega
   rw[e,List.eraseIdx_cons_succ,i];all_goals rfl
section
variable {X:Cx}{pins:xD (ζ×gs)}{σ:St}{H:Hp}{s:ι}{l b:ζ}{xs ys zs:xD V}
def au.lset{i its':xD η}{f:Array η->Array η}{t':Nat}(I:au X pins σ H s)(h:H l=δ (.lst xs))
  (e:s.heap.get? l=δ { cls:=.type "list",data:=.seq i.toArray n }) (a:f i.toArray=its'.toArray) (c:aG ys its') (d:ry ys<=τ):
  au X pins σ (af H l$ .lst ys) { s with heap:=s.heap.update l (γ f),toks:=t' }:=by
 let q:=PySem.IsL.update e f;rw[a]at q;erw[I.write (x:=l) (e:=l) (by rw[h];rwa[trivial]) (.inl Z) (λB u g j=>(O6 s.heap (γ f)$ Pk g).trans j) #[_,q] ?_];rwa[#[d,its',_,c,q]]
def au.lnew{t':Nat}(I:au X pins σ H s)(h:aG ys i)(a:ry ys<=τ):
  au X pins σ (af H s.heap.objs.size$ .lst ys) { s with heap:=s.heap.push { cls:=.type "list",data:=.seq i.toArray },toks:=t' }:=
 I.laid (λ_ _ q=>OH _ q) (OM _) #[a,i,0,h,OQ _ Z]
def au.fresh(I:au X pins σ H s):H s.heap.objs.size=θ:=I.hok.fresh (OM _)
def au.lstM(I:au X pins σ H s)(h:H l=δ (.lst xs)):ry xs<=τ/\∃(i:xD η) (n:Nat),aG xs i/\ry xs=ry i/\s.heap.get? l=δ { cls:=.type "list",data:=.seq i.toArray n }:=by let#[z,i,n,r,e]:=I.hok l _ h;rwa[#[z,i,n,r,r.length,e]]
def ig(h:n<=τ):fy n=ν:=by unfold fy;rwa[OR N9]
end
section
variable {X:Cx}
inductive mK(x:V)(a:xD V)(H:Hp)(Q:VK):Prop
 |mk(l b y:_)(_:x= .ref l)(_:a=[y])(_:H l=δ (.lst b))(_:ry b < τ)(_:Q .non (af H l (.lst (b++[y]))))
def jQ:LZ X "list.append" mK:=by intro p s d H x V v U Q I R b h;let#[l,f,y,Z,Z,a,g,q]:=h;cases R;let#[u,Z,c]:=b.one;let#[z,i,n,r,j,e]:=I.lstM a;erw[UC F.slot_list_append #[_,e,Z] F.entry_list_append (F.args_list_append_2 _ _) (PySem.list_append l i.toArray n u (by rw[ON];omega)) #[e,?_]];erw[#[.non,_,I.lset (its':=i++[u]) a e N8 (r.append$ .cons c .nil) ?_,Z,q]];rw[OL,Sc];omega
inductive rj(x:V)(a:xD V)(H:Hp)(Q:VK):Prop
 |mk(l b c d:_)(_:x= .ref l)(_:a=[.ref b])(_:H l=δ (.lst c))(_:H b=δ (.lst d))(_:ry c+ry d<=τ)(_:Q .non (af H l (.lst (c++d))))
def zD:LZ X "list.extend" rj:=by
 intro p s t H x V v U Q I R g h;let#[l,b,w,y,Z,Z,f,j,A,q]:=h;cases R;let#[u,Z,k]:=g.one;cases k;let#[z,a,n,r,B,e]:=I.lstM f;let#[C,i,N,m,o,E]:=I.lstM j;let d:a.toArray.size+i.toArray.size<=τ:=by rw[ON,ON];omega
 let c:¬(!a.toArray.isEmpty&&fy (a.toArray.size+i.toArray.size))=μ:=by rw[ig d,Uh];rwa[OX]
 refine UC Wi #[_,e,Z] V5 (VX _ _)
  (AutoSeq1.list_extend_list_list_0 l a.toArray n b i.toArray N c (by rw[ON];omega) N9) #[e,E,?_]
 erw[#[.non,_,I.lset (its':=a++i) f e N8 (r.append m) ?_,Z,q]];rw[OL];rwa[N09]
inductive Ld(x:V)(a:xD V)(H:Hp)(Q:VK):Prop
 |mk(l b y:_)(_:x= .ref l)(_:a=[])(_:H l=δ (.lst b))(_:b[ry b - 1]?=δ y)(_:Q y (af H l (.lst b.dropLast)))
def EN:LZ X "list.pop" Ld:=by
 intro p s m H x V v U Q I R d h;let#[l,o,y,Z,Z,c,f,q]:=h;cases R;let a:=d.zero;subst a;let#[z,i,n,r,g,e]:=I.lstM c;let#[u,j,k]:=r.get f;let b:i.toArray[i.toArray.size - 1]?=δ u:=by show i.toArray[ry i - 1]?=δ u;rw[<- Ru,<- g];rwa[j]
 erw[UC F.slot_list_pop #[_,e,Z] F.entry_list_pop (F.args_list_pop_1 _) (MeetsSeq.list_pop_last l i.toArray n u b (by rw[ON];omega)) #[e,?_]];erw[#[y,_,I.lset (its':=i.dropLast) c e ?_ r.dropLast ?_,k,q]]
 .show i.toArray.eraseIdxIfInBounds (i.toArray.size - 1)=i.dropLast.toArray;rw[ON,List.eraseIdxIfInBounds_toArray,Y3]
 .rw[List.length_dropLast];omega
inductive BV(x y:V)(H:Hp)(Q:VK):Prop
 |mk(l b a c:_)(_:x= .ref l)(_:y= .ref b)(_:H l=δ (.lst a))(_:H b=δ (.lst c))(_:ry a+ry c<=τ)(_:∀p,H p=θ->Q (.ref p) (af H p (.lst (a++c))))
def zG:fQ X (binaryOp .Add) BV:=by
 intro p s m H x y v u Q I R c h;let#[l,b,o,t,Z,Z,d,f,w,q]:=h;cases R;cases c;let#[z,a,n,r,A,e]:=I.lstM d;let#[B,i,N,g,j,E]:=I.lstM f;erw[PySem.P.add_list e E ?_ (by rw[ON,ON];omega)];let k:a.toArray++i.toArray=(a++i).toArray:=by simp
 rw[k];rwa[#[.ref _,_,I.lnew (t':=s.toks) (r.append g) (by rw[OL];omega),Z,q _ I.fresh]]
end
section
variable {prog:ψ}{w:bF}{A:bU}{E:η->ι->Prop}{s:ι}
def uI(i I : xD η)(a c : Nat) : i.toArray.extract 0 a ++ I.toArray ++ i.toArray.extract c i.toArray.size = (i.take a ++ I ++ i.drop c).toArray := by
  apply Array.toList_inj.mp;first
    | (simp
       rwa[RE N8])
    | simp [RE]
    | simp
def Y4{a c n:Nat}(hac:a<=c)(hc:c<=n):sliceBounds (δ (a:Int)) (δ (c:Int)) θ n=((a:Int),(c:Int),1):=by
 simp only[sliceBounds,Uw];let h1:¬((a:Int) < 0):=by omega
 let h2:¬((c:Int) < 0):=by omega
 simp only[h1,h2,Rj,show(1:Int) > 0 by decide,Tg];congr 1
 .omega
 .congr 1;omega
set_option maxRecDepth 100000 in
def Qu{a c : Nat}{Q : Unit -> ι -> Prop}
    (e : s.heap.get? l = δ { cls := .type "list", data := .seq i n }) (y : s.heap.get? b = δ { cls := .type "list", data := .seq N I }) (q : l ≠ b)
    (C : s.heap.IsSliceOf p z B .none) (P : IsPart z (δ (a : Int))) (D : IsPart B (δ (c : Int))) (r : a <= c) (F : c <= i.size)
    (f : i.size + N.size <= τ) (h : Q () { s with heap := s.heap.update l (γ λX => X.extract 0 a ++ N ++ X.extract c X.size) }) :
    π (υ prog w) A (setItem (.ref l) (.ref p)$ .ref b) Q E s := by
  let t : s.heap.IsList l i := Vs e;let G : s.heap.IsList b N := Vs y;obtain ⟨os, d, u, g⟩ := id C;let k : s.TypeIs (.ref p) "slice" := #[os, d, u];let j : ¬ ((rawPart θ == rawInt 0) = μ) := OX;let H : ef (.ref l) (.ref b) = ν := by unfold ef;rwa[beq_eq_false_iff_ne.mpr q]
  let o : (max (a : Int) (c : Int)).toNat = c := by omega
  let v : ((λX : Array η => X.extract 0 a ++ N ++ X.extract c X.size) i).size <= τ + 1 := by simp only [Uv, Array.size_extract];omega
  unfold setItem;try with_reducible refine Pb ?_
  first | erw[OF (OK ?_)] | skip
  erw[OF$ UK t.typeIs Oa ?_];refine OF (Pr (name := Str.ofString "__setitem__") t.typeIs WG
    (Pp WG t.typeIs entry_list_setitem ?_$ args_list_setitem _ _ _))
  show π _ _ (pz (.ref p) >>= _) _ _ s;erw[OF ?_];unfold pz;erw[OF$ RG k slice_no_index ?_];simp only [Vw, Tg];erw[OK ?_];show π _ _ (typeOf (.ref p) >>= _) _ _ s;erw[OF$ RM k ?_];first
    | rw [OU Oa]
    | erw[TW Oa ?_]
  rw [listSliceParts_eq];erw[OF$ OF$ Pg d g (x := .none) Z$ OF$ Vo .none ?_];rw [OU j];erw[OF$ Pg d g (x := z) Z$ OF$ Vo P ?_];erw[OF$ Pg d g (x := B) Z$ OF$ Vo D$ OK ?_];first
    | simp only [H, O0, Rj]
    | erw[TW H ?_]
    | (dsimp only
       rw [OU (by rw [H]; rwa[OX])])
  erw[OF (m := rc (.ref b) "must assign iterable to extended slice") ?_];unfold rc;erw[OF$ RM G.typeIs ?_];first
    | erw[PySem.W.KFB.if_so Oa ?_]
    | rw [OT Oa]
    | simp only [Um, WO, Tg]
  unfold Builtin.List.listItems;erw[OF$ PZ y Z$ OK ?_];erw[OF$ OF$ PZ e Z$ OK ?_];erw[OF$ TQ ((sliceIndices_raw (δ (a : Int)) (δ (c : Int)) θ i.size N8).trans$ P' (pure : Int × Int × Int -> Sem (Int × Int × Int))$ Y4 r F) ?_];show π _ _ (if ((1 : Int) == 1) = μ then _ else _) _ _ s;rw [OT Oa];erw[OF$ RQ ?_];first
    | simp only [ig f, O0, Rj]
    | erw[TW (ig f) ?_]
  first | erw[OF (OK ?_)] | skip
  show π _ _ (updateSeq l (λX => X.extract 0 ((a : Int)).toNat ++ N ++ X.extract (max (a : Int) (c : Int)).toNat X.size) >>= _) _ _ s;rw [o, PQ];erw[OF$ Ui (hz := O1 (So _ _) f) (_hz' := v) e Z ?_];erw[OF$ V8 ?_];first
    | rwa[OF (OK (OK #[.none, Z, OK h]))]
    | rwa[OK #[.none, Z, OK h]]
end
section
variable {X:Cx}
def uH{Q:Unit->ι->Prop}(I:au X p o H s)
  (k:H l=δ (.lst x)) (q:H b=δ (.lst y)) (f:l≠b) (t:s.heap.IsSliceOf u v B .none) (R:aJ (.int a) v) (D:aJ (.int c) B) (m:0<=a) (g:a<=c) (J:c<=ry x)
  (K:ry x+ry y<=τ) (h:∀S,au X p o (af H l$ .lst$ x.take a.toNat++y++x.drop c.toNat) S->Q () S):
  π (υ X.prog X.w) X.A (setItem (.ref l) (.ref u)$ .ref b) Q X.xe s:=by
 let#[T,Z]:=R;let#[L,Z]:=D;let#[z,d,n,r,M,e]:=I.lstM k;let#[N,i,O,E,F,G]:=I.lstM q;let#[j,Z]:=Vk m;let#[C,Z]:=Vk (Int.le_trans m g);simp only[PQ]at h;erw[Qu (a:=j) (c:=C) e G f t (.int _ _) (.int _ _) N9 (by rw[ON];omega) (by rw[ON,ON];omega)$ h _ ?_];erw[I.lset (its':=d.take j++i++d.drop C) (t':=s.toks) k e ?_ (aG.append (aG.append (r.take _) E)$ r.drop _) ?_]
 .rwa[uI d i j C]
 .rw[OL,OL,Pf,Ry];omega
end
end _L
namespace Att
open PySem PySem.W PySem.Calls PyProof.Rows
def J1{P:Params}:∀(N:xD Int) (v:xD η),WellAll P h v (N.map WData.int)->IntsAre v N:=by
 intro N;induction N with
 |nil=>intro v w;rw[WK]at w;cases w;rwa[.nil]
 |cons n N i=>
  intro v w;rw[Rl]at w;cases w with
  |cons a b=>cases a;rwa[.cons _ _$ i _ b]
def uG{l:OpenLaw}(k:l.most=δ n){P:Params}
  (H:l.row.toRowW.claim.pre args=μ) (g:WellAll P h v args):
  ∃a V N,v=[Θ a]/\args=[WData.list$ N.map WData.int]/\h.get? a=δ { cls:=.type "list",data:=.seq V.toArray }/\IntsAre V N/\ry N<=n:=by
 let i:WShape.hasAll [] args [.list .int]=μ:=(pre_splitW H).1;let j:l.pre.holds [] { args:=args }=μ:=(pre_splitW H).2;let#[d,r,Z,m,o]:=hasAllW_cons i;obtain rfl:=hasAllW_nil o;let#[x,Z,p]:=hasW_list m;let#[N,Z]:=items_int p;let b:ry N<=n:=by
  unfold OpenLaw.pre at j;let e:(WTm.not$ .lt (.lit$ .int (n:Int))$ .len$ .arg 0).holds [] { args:=[.list$ N.map .int] }=μ:=by let e:=(holds_andW j).1;rw[k]at e;rwa[e]
  let f:=condW_of e (w_not$ w_lt w_lit$ w_len_list$ w_arg Z);rw[OJ]at f;erw[TJ λq=>?_];let Q:(n:Int) < ((N.length:Nat):Int):=by rwa[N09]
  first
   | (rw[OY Q]at f;rwa[absurd f Oa])
   | (simp at f;omega)
 cases g with
 |cons w W=>
  cases W;cases w with
  |list s c=>rwa[#[_,_,N,Z,Z,s,J1 N _ c,b]]
def um(l:OpenLaw)(args:xD WData):l.row.toRowW.claim.post args (.bool μ) args=μ:=
 postW_of (r:=l.row.toRowW) (X:=(μ==μ))
  (show WShape.has [] (.bool μ) .bool=μ by first |rfl |decide |simp [WShape.has,WShape.arms,WShape.armsAll])
  (show(WTm.eq .res$ .lit$ .bool μ).value [] { args:=args,res:=δ (.bool μ),after:=args }=δ (.bool$ μ==μ) from w_eq_bool (w_res Z) w_lit) Z
def attach_call{l:OpenLaw}{y:bF->de->Prop}{d:DefRec}
  (x:l.most=δ n) (g:d.params.defaults=[])
  (call:∀(w:bF) (S s:ι) (m M:ρ->xL η) (F:ζ) (o:gs) (p C D:η) (a:ζ) (v:xD η) (N:xD Int),
   Ground q L [] z w S m M s.heap->y w s.heap->
   s.heap.get? F=δ o->o.data= .func (docDef d.name d.params d.body d.scope p C D)->s.heap.CodeRec C d.name->m d.name=↑F->
   s.heap.get? a=δ { cls:=.type "list",data:=.seq v.toArray }->IntsAre v N->ry N<=n->s.gens=(ε [])->
   kw (υ l.prog w) callerA (.call (.ref F) #[[.ref a],[]]) (λr e=>r= .ok (.ret$ .bool μ)/\OldK s.heap e.heap/\e.os=s.os/\AllBare e.gens) s):
  WalkO q L z y l.row.toRowW d [] (λf v=>PySem.call f v):=by
 intro w S s m M G Y F o p C D B kV E I i t j J A V W H u K k O;obtain rfl:B= .none:=Dflts.none t g;obtain rfl:kV= .none:=Dflts.noKw t;let#[a,v,N,Z,Z,b,h,c]:=uG x H k;erw[enter_call$ Sw (call w S s m M F o p C D a v N G Y E (fd_plain I) i j b h c J) λr e P=>?_];let#[Z,Q,R,T]:=P;rwa[#[.inl #[.bool μ,.bool μ,[],Z,λ_=>Z,.bool μ,um l _,λ_=>#[iu,λ_ U=>(nomatch U)]],Q,R,T]]
end Att
namespace _L
open PySem PySem.Spec PyProof.Rows
theorem QT:∀{v:xD η} {N:xD Int},IntsAre v N->aG (N.map tT) v
 |_,_,.nil=>.nil
 |_,_,.cons n t h=>.cons #[t,Z] (QT h)
def D3(H:Hp):Prop:=∀b,H b=θ\/∃o x,H b=δ (.frz o$ .lst x)
def ww{P:ψ}{K:β}{S:ι}{i:xD η}
  (Y:K.In S.heap) (l:S.heap.Ns Ψ M) (c:S.heap.Ns builtinsNs mb) (Q:∀x:ρ,x≠"__name__"->mb x=bootBuiltins x) (p:S.heap.NoLimit) (hg:S.gens=(ε []))
  (J:S.heap.get? a=δ { cls:=.type "list",data:=.seq i.toArray }) (hi:IntsAre i O) (hl:ry O<=τ) (hr:b6 k callerA)
  (F:∀f:de,K.In f->f.Ns Ψ M->ah P w K M f CX k fa fd [x] sp) (j:∀(s:ι) (u:η),BindsTo s fd #[[u],[]] [(x,u)])
  (R:∀H:Hp,D3 H->aK K H a (O.map tT)->sp [.ref a] H (λv _=>v= .bl μ) λ_ _ _=>False)
  (T:∀H e g,CX [] H S (λ_ _ _=>False) e g->False):
  kw (υ P w) callerA (.call (.ref fa) #[[.ref a],[]]) (λr g=>r= .ok (.ret$ .bool μ)/\OldK S.heap g.heap/\g.os=S.os/\AllBare g.gens) S:=by
 let rv:=QT hi;let L:=hi.length;let C:∀H:Hp,D3 H->aK K H a (O.map tT)->gH P w H S.heap->(∀b,H b≠θ->b=a)->(H a≠θ->K.lookup a=θ)->
   kw (υ P w) callerA (.call (.ref fa) #[[.ref a],[]]) (λr g=>r= .ok (.ret$ .bool μ)/\OldK S.heap g.heap/\g.os=S.os/\AllBare g.gens) S:=by
  intro H hO hS t hA hK;let B:∀{b:ζ} {o:gs},S.heap.get? b=δ o->H b=θ->(mE S.heap H).get? b=δ o:=λe n=>we e n;let U:∀{b:ζ} {o:gs} {E:Array DictEntry} {y:Nat},S.heap.get? b=δ o->o.data= .dict E y->H b=θ:=λ{b o E y} e d=>by
   cases q:H b with
   |none=>rfl
   |some u=>have W:b=a:=hA b (by rw[q];simp);subst W;rw[J]at e;cases e;let d':Data.seq i.toArray _=Data.dict E y:=d;cases d'
  let N:∀{b:ζ} {m:ρ->xL η},S.heap.Ns b m->(mE S.heap H).Ns b m:=λ{b m} #[o,E,y,e,d,r]=>#[o,E,y,B e$ U e d,d,r];let A:K.In (mE S.heap H):=λb o e=>B (Y b o e) (by
   cases q:H b with
   |none=>rfl
   |some u=>
    let W:b=a:=hA b (by rw[q];simp);subst W;rw[hK (by rw[q];simp)]at e;cases e)
  let hM:Mod K M (mE S.heap H):=#[A,N l,#[mb,N c,Q],let #[mc,h1,h2]:=p;#[mc,N h1,h2]];let e0:oJ P w K M (mE S.heap H) callerA [] S H:=#[Z,hM,λb o e=>Bl e,TZ$ tj _ _,trivial,λb c=>absurd (show b∈([]:xD ζ) from c) N8,t,.of_eq hg];erw[Sw ((F _ A$ N l).run callerA [] S H #[[.ref a],[]] [.ref a] [.ref a] _ _ hr e0 (j S$ .ref a) (.cons Z .nil) (R H hO hS)) λr g h=>?_];cases r with
  |error e=>rwa[(T H e g h).elim]
  |ok fl=>
   cases fl with
   |next |brk |cont=>rwa[False.elim h]
   |ret u=>
    let#[v,H',os,D,un,G,r',q]:=h;let q':v= .bl μ:=q;subst q';obtain rfl:u=rz μ:=r';erw[#[Z,OldK.of_keep λb o e=>?_,os,D]];cases q:H b with
    |none=>rwa[un.keep b o e q (by intro z;rwa[absurd (show b∈([]:xD ζ) from z) N8]) N8]
    |some u=>
     rcases hO b with z | ⟨ob,xs,z⟩
     .rw[q]at z;cases z
     .let z2:=un.frzs b ob _ z;let#[e1,_]:=t b _ z;let#[e2,_]:=G b _ z2;rw[e]at e1;cases e1;rwa[e2]
 cases X:K.lookup a with
 |some o=>have e:=Y a o X;rw[J]at e;cases e;erw[C (λ_=>θ) (λ_=>.inl Z) (.inr #[_,i.toArray,_,X,Z,Z,Z,by rw[ON,L];rwa[hl],by simpa using rv]) (λb u z=>by let I:(θ:xL HO)=δ u:=z;cases I) (λb z=>absurd Z z) λz=>absurd Z z]
 |none=>
  erw[C (λb=>if b=a then δ (.frz { cls:=.type "list",data:=.seq i.toArray }$ .lst$ O.map tT) else θ) (λb=>?_) (.inl$ .inr #[{ cls:=.type "list",data:=.seq i.toArray },OT Z]) (λb u z=>?_) (λb z=>?_) λ_=>X]
  .by_cases c:b=a
   .rwa[.inr #[_,_,OT c]]
   .rwa[.inl$ OU c]
  .by_cases c:b=a
   .let I:=(OT c).symm.trans z;cases I;subst c;rwa[#[J,by rw[OJ];rwa[hl],i,_,rv,J]]
   .let I:=(OU c).symm.trans z;cases I
  .by_cases c:b=a
   .rwa[c]
   .rwa[absurd (OU c) z]
def CV{l:rm}{n k:Nat}{E:bF->de->Prop}{d:DefRec}{K:Params->β}{CX:bF->sq}{sp:bF->Sp}{x:ρ}
  (O:l.most=δ n) (r:n<=τ) (t:d.params.defaults=[]) (P:b6 k callerA)
  (Q:∀(w:bF) (h:de),E w h->(K w.params).In h)
  (F:∀(w:bF) (m:ρ->xL η) (p:ζ) (h:de),(K w.params).In h->h.Ns Ψ m->m d.name=↑p->
   ∃y:bS,(∀(s:ι) (u:η),BindsTo s y #[[u],[]] [(x,u)])/\
    ∀B:de,(K w.params).In B->B.Ns Ψ m->ah l.prog w (K w.params) m B (CX w) k p y [x] (sp w))
  (z:∀(w:bF) (H:Hp) (a:ζ) (N:xD Int),ry N<=n->D3 H->aK (K w.params) H a (N.map tT)->sp w [.ref a] H (λv _=>v= .bl μ) λ_ _ _=>False)
  (A:∀(w:bF) (H:Hp) (s:ι) (e:η) (C:ι),CX w [] H s (λ_ _ _=>False) e C->False):
  PySem.W.WalkO q L XP E l.row.toRowW d [] (λf I=>PySem.call f I):=by
 erw[Att.attach_call O t λw J S m mb p o pm cd R a I N G Y ho hd U D j i c X=>?_];let M:=Q w _ Y;let#[y,hb,hF]:=F w m p _ M G.T.g D;rwa[ww M G.T.g G.T.b G.T.builtins G.T.nolimit X j i (O1 c r) P hF hb (λH hO hS=>z w H a N c hO hS) λH e C=>A w H S e C]
def bX(s:cc)(j:Nat):cc:=match s with
 | .ClassDef _ _ _ b _ _ _ _ _ _ _=>b.getD j (.Pass #[0,0,0,0])
 |_=>.Pass #[0,0,0,0]
def cf(s:cc):Arguments:=match s with
 | .FunctionDef _ a _ _ _ _ _ _ _ _=>a
 |_=>{ posonlyargs:=[],args:=[],vararg:=θ,kwonlyargs:=[],kw_defaults:=[],kwarg:=θ,defaults:=[] }
def bL(s:cc):xD cc:=match s with
 | .FunctionDef _ _ b _ _ _ _ _ _ _=>b
 |_=>[]
def ae(s:cc):hJ:=match s with
 | .FunctionDef _ _ _ _ _ _ S _ _ _=>S
 |_=>{ kind:=.function,names:=[],isGenerator:=ν,isCoroutine:=ν }
abbrev aH:sq:=λ_ _ _ _ _ _=>False
abbrev E0:XK:=λ_ _ _=>False
def bY{X:Cx}:eh aH X E0:=λ_ _ _ _ _ _ _ h=>h.elim
structure aS(K:β)(x qual:ρ)(st:cc)(f:ζ)(fd:bS):Prop where
 ex:∃(oc:η) (od:xL ζ) (kV doc pm:η) (an:xL ζ) (cdv ct:η) (osl:Array (xL η)),
  fd=ti x qual (cf st) (bL st) (ae st) .none kV doc pm an cdv ct/\K.lookup f=δ #[oc,od,.func fd,osl]/\codeIn K cdv qual=μ
 kp:fJ K (.ref f)=μ
section
variable {P:ψ}{w:bF}{K:β}{mg:ρ->xL η}{base:de}
abbrev xb(K:β)(x:ρ):=aS K x x
def aS.ok{st:cc}{d:Sp}(F:aS K x a st f i)(S:aj N p (ae st))
  (b:∀(c:η) (A:bU) (o:xD Env) (s:ι) (H:Hp) (v:xD V) (Q:VK) (E:XK),b6 k (A.deeper$ envOfC a (ae st) s.heap.objs.size f c)->d v H Q E->
   let X:=gR aH P w K mg base N a (ae st) f c A o s H E;∃t,nJ X.nox (bL st) t/\t { nx:=λ_ j=>Q .non j,rt:=Q } (iE N v) H)(len:∀v H Q E,d v H Q E->ry v=ry p:=by rintro _ _ _ _⟨⟩;subst_vars;rfl):ah P w K mg base aH (k+1) f i p d:=by
 let#[m,n,kV,D,r,u,c,C,O,Z,lk,e]:=F.ex;erw[Dp lk e S len λA o s H v Q E l g=>?_];let#[t,h,q]:=b c A o s H v Q E l g;rwa[#[t,h.nox,q]]
def aS.binds{st:cc}{p:xD ρ}(F:aS K x q st f b)
  (h:∀(kV d a:η) (A:xL ζ) (c C:η) (u:xD η),ry u=ry p->bindArgs (ti x q (cf st) (bL st) (ae st) .none kV d a A c C) #[u,[]]=pure (p.zip u)):aE K b p []:=by
 let#[O,e,kV,d,a,A,c,C,o,Z,lk,H]:=F.ex;rwa[.all$ h kV d a A c C]
def vV{st:cc}{kV:η}(l:K.lookup f=δ #[O,e,.func$ ti x q (cf st) (bL st) (ae st) .none kV d p a C b,o])
  (c:codeIn K C q=μ) (k:fJ K (.ref f)=μ):aS K x q st f (ti x q (cf st) (bL st) (ae st) .none kV d p a C b):=#[#[O,e,kV,d,p,a,C,b,o,Z,l,c],k]
end
def zR(h:b6 k A):A.units+1 < cLine:=Rm (VG (by decide:1<=64) _) h.units
section
variable {X:Cx}
def pv(i:Nat){x:ρ}{p:Pos}(H:↥(X.N[i]?=δ x))(a:Mc X.env.scope x:=by first |rwa[ω Z] |rwa[fz (ω Z)] |rwa[fz$ fz Z])(b:↥((x==("__debug__":ρ))=ν))
  (h:↥((x==("__classdict__":ρ))=ν)):PE X (.Name x p) (bn i):=Ga H a b h
end
def nP{A B:Prop}(h:B):if ν=μ then A else B:=by rw[OU OX];rwa[h]
def nQ{A B:Prop}(h:A):if μ=μ then A else B:=by rw[OT Z];rwa[h]
def cp{c A B:Prop}[Decidable c](H:c->A)(a:¬c->B):if c then A else B:=by
 by_cases h:c
 .rw[OT h];rwa[H h]
 .rw[OU h];rwa[a h]
def aa(H h:Hp):Prop:=∀b o,H b=δ o->h b=δ o
def aa.refl(H:Hp):aa H H:=λ_ _ h=>h
def aa.trans(a:aa H d)(b:aa d e):aa H e:=λc o h=>b c o (a c o h)
def aa.free(e:aa H a)(h:a l=Option.none):H l=Option.none:=by
 cases q:H l with
 |none=>rfl
 |some o=>rw[e l o q]at h;cases h
def aa.seq{K:β}(e:aa H b)(h:aK K H a x):aK K b a x:=by
 rcases h with (h | ⟨o,h⟩) |h
 .rwa[.inl$ .inl$ e _ _ h]
 .rwa[.inl$ .inr #[o,e _ _ h]]
 .rwa[.inr h]
section
variable {prog:ψ}{w:bF}{A:bU}{R:Result->ι->Prop}{s:ι}
abbrev C8:η->ι->Prop:=λ_ _=>False
def sO{iter:dg}(I:Nat->ι->Prop)
  (T:∀n s,I n s->π (υ prog w) A (pyNext B) (λr S=>match r with
   |none=>R (.ok .next) S
   |some v=>π (υ prog w) A (letOwnedTupleGo t B v) (λ_ b=>π (υ prog w) A (assign t e v) (λ_ d=>
     π (υ prog w) A (forIn l μ λc r=>if r=μ then do let o <- isTrue c e (eval c e);pure (ForInStep.yield o) else pure (ForInStep.yield r)) (λo a=>
      if o=μ then π (υ prog w) A (eval E e) (λx g=>
       π (υ prog w) A (call (.builtin "list.append") [p,x]) (λ_ i=>∃m,m < n/\I m i) C8 g) C8 a
      else ∃m,m < n/\I m a) C8 d) C8 b) C8 S) C8 s)
  (n:Nat) (h:I n s):
  kw (υ prog w) A (.compLoop (.ListComp E [#[t,iter,l,0]] k C) 0 B p e) R s:=by
 erw[codeAny_loop Z I (λn s D=>?_) n h];show π _ A ((compTurn (.ListComp E [#[t,iter,l,0]] k C) 0 B p e).onRaise (λx=>do noteFrame x e;theTreesLotGoes x)) _ _ s;erw[wpAny_noted ?_];rw[compTurn_list];erw[OF$ Sj$ OF$ P5 (T n s D) (λr S H=>?_) λ_ _ f=>f.elim];cases r with
 |none=>rwa[OK H]
 |some v=>
  erw[OF$ P5 H (λ_ b q=>?_) λ_ _ f=>f.elim];erw[OF$ P5 q (λ_ d u=>OF (P5 u (λo a j=>?_) λ_ _ f=>f.elim)) λ_ _ f=>f.elim];cases o with
  |false=>rwa[OK #[Z,j]]
  |true=>rwa[OF$ OF$ P5 j (λx g y=>OF (P5 y (λ_ i z=>OK (OK #[Z,z])) λ_ _ f=>f.elim)) λ_ _ f=>f.elim]
end
def bu(X:Cx)(s:hJ)(M:xD ρ)(c:xD (ρ×ζ))(C:ζ)(f:xD ζ)(S:ι)(H:Hp):Cx where
 prog:=X.prog
 w:=X.w
 K:=X.K
 mg:=X.mg
 base:=X.base
 A:=X.A
 N:=M
 s₀:=S
 H₀:=H
 env:=compEnvC s c C X.env
 outer:=X.stack
 stack:=X.stack
 ex:=f
 fn:=λ_=>ν
 calm:=X.calm
 pn:=[]
 xe:=λ_ _=>False
def Ht(n:Nat)(I:xD Nat)(a:St):St:=kz n θ++I.map λi=>(a[i]?).getD θ
structure bo(N:xD ρ)(sc scope:hJ)(M:xD ρ)(nT:Nat)(ix:xD Nat):Prop where
 cell:∀y∈scope.names,y.2≠ .cell
 kind:scope.kind= .function
 loc:∀y∈scope.names,y.2= .local->scope.names.lookup y.1=δ .local
 fre:∀y∈scope.names,y.2= .free->sc.names.lookup y.1=δ .cell
 nms:M.drop nT=ix.map λi=>N.getD i Str.empty
 len:ry M=nT+ry ix
 vis:∀i∈ix,scope.names.lookup (N.getD i Str.empty)=δ .free
theorem Jv{E:Env}(c:E.scope.kind= .function):∀{N:xD (ρ×NameKind)} {y:ρ},N.lookup y=δ .free->E.kindOf y=δ .cell->
  (N.map λ(n,k)=>if (k==NameKind.free&&E.scope.kind== .function&&E.kindOf n==δ .cell) then (n,NameKind.cell) else (n,k)).lookup y=δ .cell
 | [],_,h,_=>by simp at h
 | (n,k)::r,y,h,b=>by
  let i:=@Jv E c r y;show hG y ((if (k==NameKind.free&&E.scope.kind== .function&&E.kindOf n==δ .cell)=μ then (n,NameKind.cell) else (n,k))::_)=_;cases H:y==n with
  |true=>
   simp only[P8,H]at h;cases h;let e:y=n:=by simpa using H
   subst e;rw[OT (by rw[c,b];rfl)];simp [P8]
  |false=>
   simp only[P8,H]at h;by_cases a:(k==NameKind.free&&E.scope.kind== .function&&E.kindOf n==δ .cell)=μ
   .rw[OT a];simp only[P8,H];rwa[i h b]
   .rw[OU a];simp only[P8,H];rwa[i h b]
theorem K7{E:Env}:∀{N:xD (ρ×NameKind)} {y:ρ} {K:NameKind},
  (N.map λ(n,k)=>if (k==NameKind.free&&E.scope.kind== .function&&E.kindOf n==δ .cell) then (n,NameKind.cell) else (n,k)).lookup y=δ K->
  ∃k,N.lookup y=δ k/\(K=k\/k= .free)
 | [],_,_,h=>by simp at h
 | (n,k)::r,y,K,h=>by
  let i:=@K7 E r y K;let h:hG y ((if (k==NameKind.free&&E.scope.kind== .function&&E.kindOf n==δ .cell)=μ then (n,NameKind.cell) else (n,k))::_)=δ K:=h;cases a:y==n with
  |true=>
   erw[#[k,by simp only[P8,a],?_]];by_cases H:(k==NameKind.free&&E.scope.kind== .function&&E.kindOf n==δ .cell)=μ
   .right;simp only[Rc]at H;simpa using H.1.1
   .rw[OU H]at h;simp only[P8,a]at h;left;rwa[(PR h).symm]
  |false=>
   let b:hG y (r.map λ(n,k)=>if (k==NameKind.free&&E.scope.kind== .function&&E.kindOf n==δ .cell) then (n,NameKind.cell) else (n,k))=δ K:=by
    by_cases H:(k==NameKind.free&&E.scope.kind== .function&&E.kindOf n==δ .cell)=μ
    .rw[OT H]at h;simp only[P8,a]at h;rwa[h]
    .rw[OU H]at h;simp only[P8,a]at h;rwa[h]
   let#[c,e,q]:=i b;rwa[#[c,by simp only[P8,a];rwa[e],q]]
def ba(e:Env):xD (ρ×NameKind)->xD (ρ×ζ)->xD (ρ×ζ)
 | [],a=>a
 | (n,k)::r,a=>if k== .free then ba e r ((n,(e.cells.lookup n).getD 0)::a) else ba e r a
theorem qi{E:Env}:∀{N:xD (ρ×NameKind)} {acc:xD (ρ×ζ)},(∀y∈N,y.2= .free->∃c,E.cells.lookup y.1=δ c)->(∀x c,acc.lookup x=δ c->E.cells.lookup x=δ c)->
  ∀x c,(ba E N acc).lookup x=δ c->E.cells.lookup x=δ c
 | [],_,_,b,x,c,h=>b x c h
 | (n,k)::r,acc,f,b,x,c,h=>by
  unfold ba at h;by_cases g:(k==NameKind.free)=μ
  .rw[OT g]at h;erw[qi (λy H=>f y (Pe _ H)) (λX j a=>?_) x c h];let#[C,d]:=f (n,k) O5 (by simpa using g);let d:E.cells.lookup n=δ C:=d;simp only[P8]at a;cases i:X==n with
   |true=>
    rw[i]at a;let e:X=n:=by simpa using i
    subst e;rw[d]at a;rw[d];rwa[a]
   |false=>rw[i]at a;rwa[b _ _ a]
  .rw[OU g]at h;rwa[qi (λy H=>f y (Pe _ H)) b x c h]
theorem qF:∀{a:xD (ρ×ζ)},(∃c,(x,c)∈a)->∃c,a.lookup x=δ c
 | [],h=>by let#[_,h]:=h;cases h
 | (n,c)::r,h=>by
  simp only[P8];cases H:x==n with
  |true=>rwa[#[c,Z]]
  |false=>
   let#[C,h]:=h;rcases Ξ.mp h with e |h
   .injection e with E _;subst E;simp at H
   .rwa[qF #[C,h]]
theorem qY:∀{N:xD (ρ×NameKind)} {a:xD (ρ×ζ)},((∃c,(x,c)∈a)\/(x,NameKind.free)∈N)->∃c,(x,c)∈ba E N a
 | [],_,h=>by
  rcases h with h |h
  .rwa[h]
  .cases h
 | (n,k)::r,a,h=>by
  unfold ba;by_cases H:(k==NameKind.free)=μ
  .rw[OT H];erw[qY ?_];rcases h with ⟨c,h⟩ |h
   .rwa[.inl #[c,Pe _ h]]
   .rcases Ξ.mp h with e |h
    .injection e with b _;subst b;rwa[.inl #[_,O5]]
    .rwa[.inr h]
  .rw[OU H];erw[qY ?_];rcases h with h |h
   .rwa[.inl h]
   .rcases Ξ.mp h with e |h
    .injection e with _ d;subst d;rwa[absurd Z H]
    .rwa[.inr h]
theorem qK{e:Env}:∀(N:xD (ρ×NameKind)) (A:xD (ρ×ζ)),(∀y∈N,y.2= .free->∃c,e.cells.lookup y.1=δ c)->
  (forIn N A (λx r=>match x with | (name,K)=>if (K==NameKind.free)=μ then (do let a <- cellOf e name;pure (ForInStep.yield ((name,a)::r))) else pure (ForInStep.yield r)):Sem (xD$ ρ×ζ))=pure (ba e N A)
 | [],A,_=>rfl
 | (n,k)::r,A,b=>by
  let i:=λA=>qK r A λy H=>b y (Pe _ H);rw[Sa];unfold ba;by_cases h:(k==NameKind.free)=μ
  .let#[C,E]:=b (n,k) O5 (by simpa using h);let E:e.cells.lookup n=δ C:=E;let d:cellOf e n=pure C:=by unfold cellOf;rw[E]
   rw[OT h];simp only[h,Tg,d,E];rwa[i _]
  .rw[OU h];simp only[h];rwa[i _]
def qL{e:Env}{S:hJ}(H:∀y∈S.names,y.2= .free->∃c,e.cells.lookup y.1=δ c):closureFor S e=pure (ba e S.names []):=by let h:=qK S.names [] H;rwa[P' (λt:Sem (xD$ ρ×ζ)=>t >>= λs=>pure s) h]
section
variable {X:Cx}{pins:xD (ζ×gs)}{σ:St}{H:Hp}{s:ι}
def Jn(I:au X pins σ H s)(S:bo X.N X.env.scope a M n i):∀y∈a.names,y.2= .free->∃c,X.env.cells.lookup y.1=δ c:=
 λy h e=>I.ok.has y.1 (.inl$ S.fre y h e)
def vm{g:de}(I:au X pins σ H s)(F:∀b∈Y,h9 X pins H b)(P:∀b∈Y,b < s.heap.objs.size)
  (S:bo X.N X.env.scope a M n G) (Q:s.heap.objs.size<=C) (O:∀b o,s.heap.get? b=δ o->g.get? b=δ o) (R:g.Ns C m):
  au (bu X a M (ba X.env a.names []) C Y s H) [] (Ht n G σ) H { s with heap:=g,toks:=tk }:=by
 let sub:∀x c,(ba X.env a.names []).lookup x=δ c->X.env.cells.lookup x=δ c:=qi (Jn I S) (λx c h=>by simp at h);let j:∀x,a.names.lookup x=δ .free->∃c,(ba X.env a.names []).lookup x=δ c:=λx e=>qF (qY$ .inr$ Rt e);let hex:∀x K,(relabel a X.env).names.lookup x=δ K->(K= .cell\/K= .free)->a.names.lookup x=δ .free:=λx K e A=>by
  let#[k,t,q]:=K7 e;rcases q with q |q
  .rcases A with z |z
   .rwa[absurd (q.symm.trans z)$ S.cell (x,k)$ Rt t]
   .rw[t,<- q,z]
  .rw[t,q]
 refine#[#[I.ok.mod,S.kind,I.ok.glob,I.ok.blt,Q,λx y c h1 h2=>I.ok.inj x y c (sub x c h1) (sub y c h2),λx hx=>?_,λx c hx=>?_,I.ok.hd,I.ok.frames,.inl Z,λb w=>#[λz=>?_,λx c e=>?_],I.bs,O1 I.ok.bsz I.sz,λb o e w=>?_,λb w hz=>?_,I.stack,I.stkFree],
  rfl,I.bare,Un.kept O,#[m,R,λk y v t E _=>?_],λx c e=>?_,I.hok.fresh Q,λx c e=>I.freeC x c (sub x c e),λp hp=>absurd (show p∈([]:xD (ζ×gs)) from hp) N8,I.hok.kept O,?_]
 .rcases hx with hx |hx
  .rwa[j x$ hex x _ hx$ .inl Z]
  .rwa[j x$ hex x _ hx$ .inr Z]
 .rwa[absurd (show ν=μ from hx) Oa]
 .let z':b=C:=z;let:=P b w;rw[z']at this;rwa[absurd this$ Nat.not_lt.mpr Q]
 .rwa[(F b w).2.2.2.2.1 x c (sub x c e)]
 .rcases(F b w).2.2.2.1 with z |z
  .rwa[I.ok.noex b o e z]
  .rwa[absurd (O3 (OP e)$ O1 I.ok.bsz z)$ PX _]
 .rcases Ξ.mp (I.stkSub b hz) with z |z
  .rwa[(F b w).2.1 z]
  .rwa[(F b w).2.2.1 z]
 .let E:(Ht n G σ)[k]?=δ (δ v):=E;let t:M[k]?=δ y:=t;unfold Ht at E;by_cases A:k < n
  .rw[RP (by simpa using A),Vd]at E;simp [A]at E
  .let B:n<=k:=TJ A;rw[RL (by simpa using B),Ub,O2]at E;cases J:G[k - n]? with
   |none=>rw[J]at E;cases E
   |some i=>
    rw[J]at E;let L:(σ[i]?).getD θ=δ v:=PR E;let V:σ[i]?=δ (δ v):=by
     cases W:σ[i]? with
     |none=>rw[W]at L;cases L
     |some o=>rw[W]at L;rwa[P' δ L]
    let hi:i < ry X.N:=by rw[<- I.len];rwa[(ξ.mp V).1]
    let e7:y=X.N.getD i Str.empty:=by
     let q:(M.drop n)[k - n]?=δ y:=by rw[Up];rw[VF B];rwa[t]
     rw[S.nms,O2,J]at q;rwa[(PR q).symm]
    let e8:X.N[i]?=δ y:=by rw[e7,OG hi,Pl,OG hi];rfl
    let d:a.names.lookup y=δ .free:=by rw[e7];rwa[S.vis i$ Pd J]
    let f:X.env.scope.names.lookup y=δ .cell:=S.fre (y,.free) (Rt d) Z;let#[m',_,hl]:=I.loc;let#[u,r,l]:=hl i y v e8 V (.inr$ .inl f);erw[#[u,r,?_]];rcases l with ⟨l,_⟩ | ⟨_,c,ec,o,T,U⟩
    .let l:X.env.scope.names.lookup y=δ .local:=l;rw[f]at l;cases l
    .let#[c',D]:=j y d;let q:=sub y c' D;rw[ec]at q;cases q;rwa[.inr #[.inl$ Jv I.ok.kind d f,c,D,o,O _ _ T,U]]
 .let#[v,o,T,U]:=I.cell x c (sub x c e);rwa[#[v,o,O _ _ T,U]]
 .show(Ht n G σ).length=ry M;rw[S.len];simp [Ht]
def au.track(I:au X pins σ H s)(f:h9 X pins H D)(G:X.s₀.heap.objs.size<=D)(a:a6 X.prog X.w (af H D o) s.heap D o):au X pins σ (af H D o) s:=by
 let n:=f.1;let N:∀b u,H b=δ u->b≠D:=λb u e=>jk e n;erw[#[I.ok,I.os,I.bare,#[I.base.keep,I.base.slot,λb O e q i=>?_,I.base.there,λb d e=>?_,λb O u e=>?_,λb P e=>?_],I.loc,I.cell,?_,λx c e=>?_,λp h=>?_,λb u e=>?_,I.len]]
 .rw[jh$ OZ$ O3 (OP e) G];rwa[I.base.free b O e q i]
 .let q:=I.base.tups b d e;rw[jh$ N _ _ q];rwa[q]
 .let q:=I.base.frzs b O u e;rw[jh$ N _ _ q];rwa[q]
 .let#[m,q]:=I.base.tbls b P e;rwa[#[m,by rw[jh$ N _ _ q];rwa[q]]]
 .rw[jh$ Pk f.2.1];rwa[I.free]
 .rw[jh$ f.2.2.2.2.1 x c e];rwa[I.freeC x c e]
 .let#[e,q,r]:=I.pin p h;rwa[#[e,by rw[jh$ f.2.2.2.2.2 p h];rwa[q],r]]
 .by_cases g:b=D
  .subst g;rw[jc]at e;cases e;rwa[a]
  .rw[jh g]at e;rwa[(I.hok b u e).stay (λ_ _ _ q=>q) (λc q=>by rw[jh$ N _ _ q];rwa[q]) λc d q=>by rw[jh$ N _ _ q];rwa[q]]
abbrev ma(u:xD η):gs:={ cls:=.type "list",data:=.seq u.toArray u.length }
def tM(u:xD η)(y:η):({ cls:=.type "list",data:=.seq (u.toArray.push y) (ry u+1) }:gs)=ma (u++[y]):=by show({ cls:=.type "list",data:=.seq (u.toArray.push y) (ry u+1) }:gs)={ cls:=.type "list",data:=.seq (u++[y]).toArray (u++[y]).length };rw[OL,Sc,List.push_toArray]
def PF(X:Cx)(i:xD dg)(t:TT):Prop:=
 ∀(pins:xD (ζ×gs)) (s:ι) (σ:St) (H:Hp) (Q:Bool->Hp->Prop),au X pins σ H s->t σ H Q->
  π (υ X.prog X.w) X.A (forIn i μ λc r=>if r=μ then do let o <- isTrue c X.env (eval c X.env);pure (ForInStep.yield o) else pure (ForInStep.yield r)) (TP X pins σ Q) X.xe s
def nD:TT:=λ_ H Q=>Q μ H
def zH:PF X [] nD:=λ_ _ _ H _ I h=>wpAny_tests_nil #[H,I,h]
def Kw{c:dg}{t:TT}(h:PT X c t):PF X [c] t:=λpins s σ H Q I q=>wpAny_tests_one (h pins s σ H Q I q)
def rE(I:xD Nat)(σ:St):St:=I.map λi=>(σ[i]?).getD θ
def fe(J:It)(n:Nat)(t:St)(g:TG)(j:TT)(k:TE)(Q:xD V->Hp->Prop)(H:Hp):Prop:=
 ∃W:Nat->Nat->xD V->Hp->Prop,(∃m,W 0 m [] H)/\∀i m Y H,W i m Y H->
  (J.stop i H/\Q Y H)\/(J.go i H/\ry Y < τ/\∃N:xD V->Hp->Prop,(∀c h,N c h->∃M,M < m/\W (i+1) M c h)/\
   ∀x d (e:St),ry e=n->J.yld i H x d->g x (e++t) d λa h=>(∃T:St,ry T=n/\a=T++t)/\j a h λb f=>if b=μ then k a f λy l=>N (Y++[y]) l else N Y f)
def K8{iter:dg}
  {RR:η->ζ->Result->ι->Prop} 
  (I:au X pins σ H s) (hc:X.calm=μ) (T:oQ X.prog X.w X.K tg J k it tn) (st:tn 0 s.heap) (hf:∀b∈k,h9 X pins H b) (S:bo X.N X.env.scope scope M nT ix)
  (hg:∀cl C k s H,PG (bu X scope M cl C k s H) tg g) (hi:∀cl C k s H,PF (bu X scope M cl C k s H) i0 tt) (he:∀cl C k s H,PE (bu X scope M cl C k s H) e0 te)
  (h:fe J nT (rE ix σ) g tt te Qf H)
  (h':∀D C Y m t G,(∀b o u,H b=δ (.frz o u)->t b=δ (.frz o u))->t D=θ->au X pins σ (af t D$ .lst Y) G->h9 X pins (af t D$ .lst Y) C->G.heap.Ns C m->Qf Y t->RR (.ref D) C (.ok .next) G):
  π (υ X.prog X.w) X.A (newList []) (λacc B=>π (υ X.prog X.w) X.A (newFunctionEnv scope X.env.globals (ba X.env scope.names []) [] X.env.qual θ .none$ δ X.env) (λc0 s0=>
   kw (υ X.prog X.w) X.A (.compStart (.ListComp e0 [#[tg,iter,i0,0]] scope p1) 0 (.ref it) acc { c0 with scope:=relabel scope X.env }) (RR acc c0.locals) s0) E B) E s:=by
 obtain⟨W,⟨m0,w0⟩,t1⟩:=h;let h3:∀b∈k,b < s.heap.objs.size:=λb a=>by let#[o,e,_]:=T.obj 0 _ st b a;rwa[OP e]
 erw[Pu$ wpAny_newFunctionEnv S.cell (by intro y hy;simp at hy) (λF l f=>?_) S.kind];dsimp only at l f ⊢;generalize h4:s.heap.push { cls:=.type "list",dict:=θ,data:=.seq ([]:xD η).toArray }=H2 at l f ⊢;let hC:H2.objs.size=s.heap.objs.size+1:=by rw[<- h4,PM]
 let P:s.heap.objs.size≠H2.objs.size:=by rw[hC];rwa[OZ$ Rs _]
 let h0:s.heap.objs.size<=H2.objs.size:=by rw[hC];rwa[Rk _]
 let b0:∀b,b < s.heap.objs.size->b≠H2.objs.size/\b≠s.heap.objs.size:=λb a=>#[by rw[hC];rwa[OZ$ RW a],OZ a];let o1:∀b o,s.heap.get? b=δ o->F.get? b=δ o:=λb o e=>f.extBut b o (b0 b$ OP e).1 (OH _$ h4▸OH _ e);let h5:F.get? s.heap.objs.size=δ (ma []):=f.extBut _ _ P (OH _$ h4▸OQ _ Z);let a0:H s.heap.objs.size=θ:=I.hok.fresh (OM _);let h6:s.heap.objs.size∉mj X.stack:=λa=>(Ξ.mp$ I.stkSub _ a).elim (λe=>absurd I.lt (by rw[<- e];rwa[PX _])) (I.nofs$ OM _);generalize hD:s.heap.objs.size=D at*;generalize b1:H2.objs.size=C at*;let J0:∀tk,au (bu X scope M (ba X.env scope.names []) C k s H) [] (Ht nT ix σ) H { s with heap:=F,toks:=tk }:=λtk=>vm I hf (by rw[hD];rwa[h3]) S (by rw[hD];rwa[h0]) o1 l;let c1:∀x c,(ba X.env scope.names []).lookup x=δ c->c≠D:=λx c e z=>by let sub:=qi (Jn I S) (acc:=[]) (λx c h=>by simp at h) x c e;let#[v,o,ho,_]:=I.cell x c sub;let:=OP ho;rw[z,hD]at this;rwa[PX _ this]
 let p0:∀{σ0:St} {t:Hp} {G:ι} {U:xD η},au (bu X scope M (ba X.env scope.names []) C k s H) [] σ0 t G->G.heap.get? D=δ (ma U)->t D=θ->
   au (bu X scope M (ba X.env scope.names []) C k s H) [(D,ma U)] σ0 t G:=λ{σ0 t G U} I' e n=>I'.pins_of λp hp=>by
  let ep:p=(D,ma U):=by simpa using hp
  subst ep;rwa[#[e,n,P,h6,λv z=>by cases z]]
 let L:∀{t:Hp} {U:xD η},(∀b∈k,t b=θ)->∀b∈k,h9 (bu X scope M (ba X.env scope.names []) C k s H) [(D,ma U)] t b:=λ{t U} hn b a=>
  #[hn b a,((J0 0).ok.exf b a).1,(J0 0).ok.exfs b a,.inl a,((J0 0).ok.exf b a).2,λp hp z=>by
   let ep:p=(D,ma U):=by simpa [bu] using hp
   rw[ep]at z;let:=h3 b a;rw[<- z]at this;rwa[PX _ this]]
 let l0:∀B:ι,(∃tk,B={ s with heap:=F,toks:=tk })->
   kw (υ X.prog X.w) X.A (.compLoop (.ListComp e0 [#[tg,iter,i0,0]] scope p1) 0 (.ref it) (.ref D)$ compEnvC scope (ba X.env scope.names []) C X.env) (RR (.ref D) C) B:=by
  rintro B ⟨tk,rfl⟩;refine sO (λn G=>∃i Y U ts t,ry ts=nT/\au (bu X scope M (ba X.env scope.names []) C k s H) [(D,ma U)] (ts++rE ix σ) t G/\aG Y U/\ry Y<=τ/\tn i G.heap/\(∀b∈k,t b=θ)/\W i n Y t) ?_ m0
   #[0,[],[],kz nT θ,H,Ub,p0 (J0 tk) h5 a0,.nil,OS _,T.keep _ _ _ st λb a o e=>o1 b o e,λb a=>(hf b a).1,w0]
  rintro n s1 ⟨i,Y,U,ts,Q,a1,I1,rv,hz,s7,f0,w1⟩;rcases t1 i n Y Q w1 with ⟨stop,q⟩ | ⟨go,a2,N,hN,step⟩
  .erw[a8 (T.done (bu X scope M (ba X.env scope.names []) C k s H) Z Z Z hc i _ s1 _ Q C8 I1 (L f0) s7 stop) λr s2 j=>?_];let#[hr,I2]:=j;subst hr;let IO:au X pins σ Q s2:=I.call' (ch:=k) I2.os I2.base I2.hok I2.bare λb a=>#[(hf b a).2.2.2.1,(hf b a).2.1,(hf b a).2.2.2.2.1,(hf b a).2.2.2.2.2];let pD:=I2.pin (D,ma U) (by simp [bu]);let h8:Q D=θ:=pD.2.1;let fD:h9 X pins Q D:=by rw[<- hD];rwa[I.fpOk (OM _) (by rw[hD];rwa[h8])]
   let IT:au X pins σ (af Q D$ .lst Y) s2:=IO.track fD (by rw[<- hD];rwa[I.sz]) #[hz,U,U.length,rv,pD.1];let#[mC,a3,_]:=I2.loc;let a4:Q C=θ:=I2.free;rwa[h' D C Y mC Q s2 I2.base.frzs h8 IT (I.fpOk (by rw[hD];rwa[h0]) (by rw[jh$ Pk P];rwa[a4])) a3 q]
  .erw[a8 (T.item (bu X scope M (ba X.env scope.names []) C k s H) Z Z Z hc i _ s1 _ Q C8 I1 (L f0) s7 go) λr s2 j=>?_];let#[u,hr,h2]:=j;subst hr;erw[a8 h2 λ_ s3 j=>?_];let#[x,H3,I3,r3,y3,O,f1]:=j;let a5:=I3.pinned (L f1) (T.obj _ _ O);erw[a8 (hg _ _ _ _ _ _ s3 _ H3 x u _ a5 r3$ step x H3 ts a1 y3) λ_ s4 j=>?_];obtain⟨σ1,H4,I4,⟨t0,h1,e4⟩,q4⟩:=j;subst e4;erw[a8 (hi _ _ _ _ _ _ s4 _ H4 _ I4 q4) λb s5 j=>?_];let#[H5,I5,q5]:=j;cases b with
   |false=>obtain⟨m',hm,w'⟩:∃m',m' < n/\W (i+1) m' Y H5:=hN _ _ q5;erw[#[m',hm,i+1,Y,U,t0,H5,h1,I5.unpinned,rv,hz,T.keep _ _ _ O λb a o e=>(I5.pin (b,o)$ O9 _$ O9 _$ zk a e).1,λb a=>?_,w']];let#[o,e,d]:=T.obj _ _ O b a;rwa[(I5.pin (b,o)$ O9 _$ O9 _$ zk a e).2.1]
   |true=>
    erw[a8 (he _ _ _ _ _ _ s5 _ H5 _ I5 q5) λv s6 j=>?_];let#[y,H6,I6,r6,q6]:=j;let#[m',hm,w']:=hN _ _ q6;let pD:=I6.pin (D,ma U) (O9 _$ Ro _ O5);let hl:=rv.length;let R:∀b∈k,∀o,s3.heap.get? b=δ o->s6.heap.get? b=δ o:=λb a o e=>(I6.pin (b,o)$ O9 _$ O9 _$ zk a e).1;let V:∀b∈k,H6 b=θ:=λb a=>by let#[o,e,d]:=T.obj _ _ O b a;rwa[(I6.pin (b,o)$ O9 _$ O9 _$ zk a e).2.1]
    erw[append_at (hsz:=by rw[ON,<- hl];rwa[hz]) pD.1 λh7 sb a'=>?_];let I7:au (bu X scope M (ba X.env scope.names []) C k s H) [] (t0++rE ix σ) H6 { s6 with heap:=h7 }:=
     (I6.pins_of (pins':=[]) λp hp=>absurd hp N8).turned (t':=s6.toks) (it:=D) (λb o a e=>(sb.2 b a).trans e) pD.2.1 P (.inr (by show s.heap.objs.size<=D;rw[hD];rwa[OM _])) c1 λp hp=>absurd (show p∈([]:xD (ζ×gs)) from hp) N8
    refine#[m',hm,i+1,Y++[y],U++[v],t0,H6,h1,p0 I7 (a'.trans$ P' δ$ tM U v) pD.2.1,rv.append$ .cons r6 .nil,by rw[OL,Sc];rwa[a2],
     T.keep _ _ _ (T.keep _ _ _ O R) λb a o e=>(sb.2 b λz=>?_).trans e,V,w']
    let:=h3 b a;rw[z]at this;rwa[PX _ this]
 rwa[codeAny_compStart_list (l0 _ #[_,Z])$ T.self _ 0 _ _ _ (T.keep _ _ _ st λb a o e=>o1 b o e)$ l0 _ #[_,Z]]
def yK(w:TI)(n:Nat)(i:xD Nat)(g:TG)(t:TT)(T:TE):TE:=λσ H Q=>w σ H λJ a=>fe J n (rE i σ) g t T (λy h=>∀p,h p=θ->Q (.ref p) (af h p$ .lst y)) a
def zn{t E iter:dg}{i:xD dg}{a:hJ}{p:Pos}{M:xD ρ}{k:Nat}{l:xD Nat}{W:TI}{g:TG}{r:TT}{u:TE}(v:X.calm=μ)(y:PI X t iter W)(S:bo X.N X.env.scope a M k l)
  (z:∀c C f s H,PG (bu X a M c C f s H) t g) (B:∀c C f s H,PF (bu X a M c C f s H) i r) (G:∀c C f s H,PE (bu X a M c C f s H) E u)
  (K:∀x,foldedSetIterable iter X.env x=pure x:=by intro _;rfl):
  PE X (.ListComp E [#[t,iter,i,0]] a p) (yK W k l g r u):=by
 intro pins s σ H Q I h;rw[eval_ListComp];erw[Vz (use:=θ) Z K (qL$ Jn I S) S.kind S.loc$ a8 (y pins s σ H _ I h) λxv s1 L=>a8 L λO s2 P=>?_];let#[it,f,tn,J,H2,e,U,T,d,V,R]:=P;subst e;erw[K8 (RR:=λj C=>compPost (υ X.prog X.w) X.A X.xe θ (EP X pins σ Q) j C) U v T d V S z B G R ?_];intro D C ys m H' Y _ n I' F ns q;rwa[#[m,ns,λh' sb=>#[.ref D,_,I'.turned (t':=Y.toks) (λb o hb e=>(sb.2 b hb).trans e) F.1 F.2.1 F.2.2.2.1 F.2.2.2.2.1 F.2.2.2.2.2,Z,q D n]]]
def qG{t E iter:dg}{d:xD dg}{c:hJ}{p P f:Pos}{y:ρ}{i:Nat}{M:xD ρ}{U:Nat}{V:xD Nat}{W:TI}{g:TG}{Y:TT}{te:TE}(hN:X.N.Nodup)(hy:X.N[i]?=δ y)(hx:uW X.env.scope y)
  (hc:X.calm=μ) (hI:PI X t iter W) (S:bo X.N X.env.scope c M U V)
  (hg:∀l C j s H,PG (bu X c M l C j s H) t g) (hi:∀l C j s H,PF (bu X c M l C j s H) d Y) (he:∀l C j s H,PE (bu X c M l C j s H) E te)
  (r:↥(swapsWith (.ListComp E [#[t,iter,d,0]] c p) (δ$ .Name y P) f.line X.env=pure μ))
  (hf:autoParam (X.fn y=μ\/X.env.scope.names.lookup y=δ .local) Wx._auto_1)
  (hs:∀x,foldedSetIterable iter X.env x=pure x:=by intro _;rfl):
  PS X (.Assign [.Name y P] (.ListComp E [#[t,iter,d,0]] c p) f) (λD σ H=>yK W U V g Y te σ H λv H1=>D.nx (σ.set i$ δ v) H1):=by
 intro pins s σ H D I h;rw[exec_Assign_Name_used _ _ _ _ r];erw[OF$ Sj$ OF ?_];show π _ X.A (do let _ <- comprehension (.ListComp E [#[t,iter,d,0]] c p) c X.env _ (newList []) ν (eval iter X.env) (δ$ assign (.Name y P) X.env)) _ _ s;refine OF (a8 (Vz (use:=δ (assign (.Name y P) X.env)) (Q:=λ_ k=>SP X pins D .next k) Z hs (qL$ Jn I S) S.kind S.loc
  (a8 (hI pins s σ H _ I h) λxv s1 h1=>a8 h1 λi0 s2 h2=>?_)) λ_ k hq=>OK (OK hq))
 let#[it,j,tn,J,H2,e,I2,T,u,f2,R]:=h2;subst e;erw[K8 (RR:=λB C=>compPost (υ X.prog X.w) X.A X.xe (δ$ assign (.Name y P) X.env) (λ_ k=>SP X pins D .next k) B C) I2 hc T u f2 S hg hi he R ?_];intro Dd C ys m H' k _ n I' F ns q;show π _ X.A (assign (.Name y P) X.env$ .ref Dd) _ _ k;erw[WE$ QN I' hN hy hx (v:=.ref Dd) Z (λG K hh=>?_) hf];let#[a,sb,ha]:=hh;let L:C≠a:=by
  rcases ha with z |z
  .rw[z];rwa[F.2.1]
  .rwa[Pk$ F.2.2.2.2.1 _ _ z]
 rwa[#[m,ns.sameBut sb L,λh' O=>#[_,_,K.turned (t':=G.toks) (λb o hb e=>(O.2 b hb).trans e) F.1 F.2.1 F.2.2.2.1 F.2.2.2.2.1 F.2.2.2.2.2,q Dd n]]]
end
section
variable {X:Cx}
def Hv(i j:Int):Prop:=0 < j/\j<=1000000000000000000
def KJ:fQ X (binaryOp .FloorDiv) (rI Hv λi j=>.int (i / j)):=Mi λi j _ _ _ _ _ h q=>by
 let b:(0:Int) < j:=h.1;let c:j<=1000000000000000000:=h.2;erw[floordiv_int N9 (by rw[Int.fdiv_eq_ediv_of_nonneg i N9];rwa[q])$ .inl$ PyProof.noPylong_of_log2 ?_];let H:j.natAbs≠0:=by omega
 let a:j.natAbs < 2 ^ 60:=by rwa[N09]
 let d:j.natAbs.log2 < 60:=(Nat.log2_lt H).mpr a;omega
theorem qj:∀{Y:xD ρ} {U:xD η},aG (Y.map tz) U->StrsAre U Y
 | [],_,.nil=>.nil
 |y::r,_,.cons (b:=u) h t=>by obtain⟨T,e⟩:∃T,u=mT y T:=h;subst e;rwa[.cons y T$ qj t]
inductive Xqr(K:β)(x:V)(a:xD V)(H:Hp)(Q:VK):Prop|mk(z:ρ)(p:ζ)(y:xD ρ)(_:x= .str z)(_:a=[.ref p])(_:aK K H p (y.map tz))(_:z.length<=16)(_:(y.map (·.length)).sum+ry y<=1048576)(_:Q (.str$ Txt.join z y) H)
def Xq:Ms X "str.join" (Xqr X.K):=by intro P s l H x a v U Q I r R h;let#[z,p,y,Z,Z,b,c,d,q]:=h;let#[u,Z,e]:=gB R;cases e;let#[t,Z]:=r;let#[i,f,g,j]:=I.list b;rwa[join_listW g.isList (by simpa using qj f) c d λT k=>#[.str _,H,I.tok k,#[_,Z],q]]
def vt:dg->xL V
 | .Constant (.str x) _ _=>δ (.str x)
 | .Constant (.int i) _ _=>δ (.int i)
 |_=>θ
def F8(h:vt e=δ v):PE X e (tC v):=by
 cases e with
 |Constant c j p=>
  cases c with
  |str x=>cases h;rwa[jm]
  |int i=>cases h;rwa[jf]
  |_=>cases h
 |_=>cases h
def yE(h:vt e=δ v):Δ (e::a) E=(ν,eval e E)::Δ a E:=by
 cases e with
 |Constant c j p=>rfl
 |_=>cases h
def wt(e:dg):Bool:=(vt e).isSome
def vq(e:dg):V:=(vt e).getD .non
theorem Xr:∀{E:xD dg},E.all wt=μ->PA X E (λ_ H Q=>Q (E.map vq) H)
 | [],_=>jb
 |e::E,h=>by
  rw[U9,Rc]at h;let#[v,a]:=tf.mp (show(vt e).isSome=μ from h.1);let b:vq e=v:=by unfold vq;rw[a];rfl
  rw[Rl,b];rwa[ja (F8 a) (Xr h.2)$ yE a]
def sV{E:xD dg}(h:E.all wt=μ):(E.map vq).all dF=μ:=by
 rw[Tz]at h ⊢;intro v H;let#[e,a,Z]:=dr.mp H;let q:=h e a;unfold wt at q;unfold vq;cases e with
 |Constant c j p=>
  cases c with
  |str x |int i=>rfl
  |_=>rwa[absurd q OX]
 |_=>rwa[absurd q OX]
def LM(t:TS):TS:=λD b H=>∃R:St->Hp->Prop,t { D with nx:=R } b H/\∀a h,R a h->D.nx a h
def kc{st:cc}{t:TS}(h:PS X st t):PS X st (LM t):=by
 intro p s b H D I c;let#[R,d,e]:=c;erw[a8 (h p s b H _ I d) λf S q=>?_];cases f with
 |next=>let#[a,g,i,q]:=q;rwa[#[a,g,i,e _ _ q]]
 |brk |cont |ret v=>rwa[q]
def tG{t:St}(h:ry t=1):∃v,t=[v]:=by
 cases t with
 |nil=>cases h
 |cons v r=>
  cases r with
  |nil=>rwa[#[v,Z]]
  |cons _ _=>cases h
def Yt{lo:Int}{t:TE}{Q:xD V->Hp->Prop}(Pv:Nat->xD V->Hp->Prop)(g:Pv 0 [] H)(j:n<=τ)(b:∀i Y h,Pv i Y h->ry Y<=i)
  (k:∀i Y h,i < n->Pv i Y h->t (δ (.int$ lo+i)::c) h λy d=>Pv (i+1) (Y++[y]) d) (l:∀Y h,Pv n Y h->Q Y h):
  fe (uV lo n) 1 c (bH 0) nD t Q H:=by
 erw[#[λi m Y h=>m=n - i/\i<=n/\Pv i Y h,#[n,N8,OS _,g],?_]];rintro i m Y h ⟨rfl,q,p⟩;by_cases a:i < n
 .erw[.inr #[a,Rm (b i Y h p)$ O3 a j,Pv$ i+1,λo d P=>#[n - (i+1),N09,Z,a,P],λx d T f y=>?_]];let#[e,y]:=y;subst e y;let#[v,Z]:=tG f;rwa[#[#[[δ _],Z,Z],k i Y _ a p]]
 .let e:i=n:=by omega
  subst e;rwa[.inl #[OM _,l Y h p]]
end
section
variable {κ:Type}[DecidableEq κ]
def eU(K:xD (κ×V))(k:κ):xL V:=(K.find? λa=>decide (a.1=k)).map (·.2)
def bN(K:xD (κ×V))(k:κ)(v:V):xD (κ×V):=
 if (K.any λa=>decide (a.1=k))=μ then K.map (λa=>if a.1=k then (a.1,v) else a) else K++[(k,v)]
def KK{p:κ×V}(e:p.1=k):eU (p::r) k=δ p.2:=by simp [eU,SA,e]
def KL{p:κ×V}(e:¬p.1=k):eU (p::r) k=eU r k:=by simp [eU,SA,e]
theorem XV(k:κ):∀K:xD (κ×V),(K.any λa=>decide (a.1=k))=(eU K k).isSome
 | []=>rfl
 |p::r=>by
  rw[SY];by_cases e:p.1=k
  .simp only[KK e,OY e,WO,Option.isSome_some]
  .rw[KL e,OR e,Bool.false_or];rwa[XV k r]
def qE(K:xD (κ×V))(k:κ)(v:V):(bN K k v).length<=ry K+1:=by
 unfold bN;split
 .rw[OJ];omega
 .rw[OL,Ph,UH];omega
def fi.isSome_eq(r:fi o u):o.isSome=u.isSome:=by
 cases o with
 |none=>cases u with
  |none=>rfl
  |some _=>rwa[(show False from r).elim]
 |some _=>cases u with
  |none=>rwa[(show False from r).elim]
  |some _=>rfl
def fi.getD(r:fi o u)(R:aJ d D):aJ (o.getD d) (u.getD D):=by
 cases o with
 |none=>cases u with
  |none=>rwa[R]
  |some _=>rwa[(show False from r).elim]
 |some _=>cases u with
  |none=>rwa[(show False from r).elim]
  |some _=>rwa[r]
def KV.val(r:KV a v)(k:κ):fi (eU a k) (valueAt v k):=by
 unfold KV at r;induction r with
 |nil=>rwa[True.intro]
 | @cons p q P Q h t i=>
  let#[H,c]:=h;by_cases e:p.1=k
  .let E:q.1=k:=H.symm.trans e;let b:valueAt (q::Q) k=δ q.2:=by simp [valueAt,SA,E]
   rw[KK e,b];rwa[c]
  .let E:¬q.1=k:=λz=>e (H.trans z);let b:valueAt (q::Q) k=valueAt Q k:=by simp [valueAt,SA,E]
   rw[KL e,b];rwa[i]
def KV.any(r:KV a v)(k:κ):(a.any λK=>decide (K.1=k))=v.any λK=>decide (K.1=k):=by
 unfold KV at r;induction r with
 |nil=>rfl
 |cons h t i=>rw[SY,SY,i,h.1]
def KV.repl(r:KV a v)(k:κ)(R:aJ y u):
  KV (a.map λK=>if K.1=k then (K.1,y) else K) (v.map λK=>if K.1=k then (K.1,u) else K):=by
 unfold KV at r ⊢;induction r with
 |nil=>rwa[.nil]
 | @cons p q P Q h t i=>
  rw[Rl,Rl];erw[.cons ?_ i];let#[H,b]:=h;by_cases e:p.1=k
  .rw[OT e,OT$ H.symm.trans e];rwa[#[H,R]]
  .rw[OU e,OU (λz=>e (H.trans z))];rwa[#[H,b]]
def KV.put(r:KV a v)(k:κ)(R:aJ y u):KV (bN a k y) (stored v k u):=by
 unfold bN stored;rw[r.any k];by_cases e:(v.any λK=>decide (K.1=k))=μ
 .rw[OT e,OT e];rwa[r.repl k R]
 .rw[OU e,OU e];rwa[Paired.snoc r #[Z,R]]
def KV.length(r:KV k v):ry k=ry v:=Paired.length r
end
def QJ{P:ψ}(r:aJ (kV k) u):(be P w).is k u=μ:=by
 cases k with
 |inl i=>let#[t,e]:=(show ∃t,u=ks i t from r);subst e;rwa[Yr P w i t]
 |inr x=>let#[t,e]:=(show ∃t,u=mT x t from r);subst e;rwa[Ys P w x t]
theorem QU{P:ψ}:∀{K:xD cg} {u:xD η},aG (K.map kV) u->ItemsAre (be P w) K u
 | [],_,r=>by rw[WK]at r;cases r;rwa[.nil]
 |k::K,_,r=>by
  rw[Rl]at r;cases r with
  |cons h t=>rwa[.cons (QJ h) (QU t)]
abbrev KT(H:Hp):xD (xD cg×V)->xD (xD cg×ζ×η)->Prop:=Paired λp q=>p.1=q.1/\H q.2.1=δ (.tup$ p.1.map kV)/\aJ p.2 q.2.2
def KT.val(r:KT H a x)(k:xD cg):fi (eU a k) ((atKey x k).map (·.2)):=by
 induction r with
 |nil=>rwa[True.intro]
 | @cons p q P Q h t i=>
  let#[c,_,d]:=h;by_cases e:p.1=k
  .let E:q.1=k:=c.symm.trans e;let b:atKey (q::Q) k=δ q.2:=by simp [atKey,SA,E]
   rw[KK e,b];rwa[d]
  .let E:¬q.1=k:=λz=>e (c.trans z);let b:atKey (q::Q) k=atKey Q k:=by simp [atKey,SA,E]
   rw[KL e,b];rwa[i]
def KT.repl(r:KT H b x)(k:xD cg)(R:aJ y u):
  KT H (b.map λK=>if K.1=k then (K.1,y) else K) (x.map$ putAt k u):=by
 induction r with
 |nil=>rwa[.nil]
 | @cons p q P Q h t i=>
  rw[Rl,Rl];erw[.cons ?_ i];let#[a,c,d]:=h;unfold putAt;by_cases e:p.1=k
  .rw[OT e,OT$ a.symm.trans e];rwa[#[a,c,R]]
  .rw[OU e,OU (λz=>e (a.trans z))];rwa[#[a,c,d]]
def KT.put(r:KT H a x)(k:xD cg)(h:H b=δ (.tup$ k.map kV))(R:aJ y u):
  KT H (bN a k y) (storedH x k b u):=by
 let e:(a.any λK=>decide (K.1=k))=(atKey x k).isSome:=by rw[XV,(r.val k).isSome_eq,VC]
 unfold bN storedH;rw[e];by_cases q:(atKey x k).isSome=μ
 .rw[OT q,OT q];rwa[r.repl k R]
 .rw[OU q,OU q];rwa[Paired.snoc r #[Z,h,R]]
def KT.keeps{h:Hp}(r:KT H k x)(a:∀b y,H b=δ (.tup y)->h b=δ (.tup y)):KT h k x:=
 Paired.mapP r λ_ _ z=>#[z.1,a _ _ z.2.1,z.2.2]
section
variable {P:ψ}{w:bF}{H:Hp}{h:de}{a:ζ}
def DL(o:gH P w H h)(e:Rd H a u):a6 P w H h a u:=e.ok o
def Km(o:gH P w H h)(e:Rd H a (.dK k)):ry k<=τ/\(a==sysModules)=ν/\∃v,KV k v/\h.DictOf (be P w) a v:=
 show a6 P w H h a (.dK k) from DL o e
def Ip(o:gH P w H h)(e:H a=δ (.dK k)):ry k<=τ/\(a==sysModules)=ν/\∃v,KV k v/\h.DictOf (be P w) a v:=Km o (.inl e)
def Kx{k:xD cg}(O:gH P w H h)(e:H a=δ (.tup$ k.map kV)):(tupleKind$ be P w).is h k a:=by let#[_,i,r,o,b,c,n,d]:=(show a6 P w H h a (.tup$ k.map kV) from O a _ e);rwa[#[o,i.toArray,n,b,c,d,by simpa using QU r]]
def QK(O:gH P w H h)(e:Rd H a (.dT k)):ry k<=τ/\(a==sysModules)=ν/\
  ∃X,KT H k X/\h.DictOfH (tupleKind$ be P w) a X:=by
 let#[z,y,X,r,o,E,c,d,f,g,i,j]:=(show a6 P w H h a (.dT k) from DL O e);erw[#[z,y,X,r,o,E,c,d,f,g,i,λx hx=>?_,j]];let all:∀{l:xD (xD cg×V)} {m:xD (xD cg×ζ×η)},KT H l m->∀x∈m,(tupleKind$ be P w).is h x.1 x.2.1:=by
  intro l m q;induction q with
  |nil=>intro x hx;rwa[nomatch hx]
  | @cons p q n Q b t I=>
   intro x hx;rcases Ξ.mp hx with e |hx
   .subst e;rwa[Kx O (by rw[<- b.1];rwa[b.2.1])]
   .rwa[I x hx]
 rwa[all r x hx]
def Ir(o:gH P w H h)(e:H a=δ (.dT k)):ry k<=τ/\(a==sysModules)=ν/\
  ∃x,KT H k x/\h.DictOfH (tupleKind$ be P w) a x:=QK o (.inl e)
end
def hZ(H:Hp)(a:ζ)(y:V)(r:xL V):Prop:=
 (∃K k,Rd H a (.dK K)/\y=kV k/\r=eU K k)\/∃K k b,Rd H a (.dT K)/\y= .ref b/\H b=δ (.tup$ k.map kV)/\r=eU K k
def oH(H:Hp)(a:ζ)(y v:V)(h:Hp):Prop:=
 (∃K k,H a=δ (.dK K)/\y=kV k/\ry K < τ/\h=af H a (.dK$ bN K k v))\/
 ∃K k b,H a=δ (.dT K)/\y= .ref b/\H b=δ (.tup$ k.map kV)/\ry K < τ/\h=af H a (.dT$ bN K k v)
def hZ.k{H:Hp}{k:cg}(e:H a=δ (.dK b)):hZ H a (kV k) (eU b k):=.inl #[b,k,.inl e,Z,Z]
def oH.k{H:Hp}{k:cg}(e:H a=δ (.dK b))(h:ry b < τ):oH H a (kV k) v (af H a$ .dK$ bN b k v):=.inl #[b,k,e,Z,h,Z]
section
variable {X:Cx}{pins:xD (ζ×gs)}{σ:St}{H:Hp}{s:ι}{a:ζ}{y v:V}{u r:η}{o:xL V}{A:bU}{E:η->ι->Prop}
def au.big(I:au X pins σ H s):sysModules < s.heap.objs.size:=by let h:Ψ < s.heap.objs.size:=(I.mod.glob.keeps I.bk).lt;rwa[Nat.lt_trans Oa h]
def sP{Q:η->ι->Prop}(m:A.units+1 < cLine)(I:au X pins σ H s)(g:hZ H a y (δ v))(j:aJ y u)(h:∀W S,au X pins σ H S->aJ v W->Q W S):
  π (υ X.prog X.w) A (getItem (.ref a) u) Q E s:=by
 rcases g with ⟨K,k,e,d,l⟩ | ⟨K,k,b,e,d,n,l⟩
 .subst d;let#[z,q,t,R,D]:=Km I.hok e;let#[W,f,c]:=fi.some_of (v:=v) (o:=valueAt t k) (by rw[l];rwa[R.val k]);rwa[wpAny_getItem_of (QJ j) D.mapOf f$ h W _ (I.tok _) c]
 .subst d;cases (show u=Θ b from j);let#[z,q,x,R,D]:=QK I.hok e;let#[W,f,c]:=fi.some_of (v:=v) (o:=(atKey x k).map (·.2)) (by rw[l];rwa[R.val k]);let#[p,B,i]:=cv.mp f;erw[wpAny_getItem_heap (Tu m) (Kx I.hok n) D B ?_];rw[i];rwa[h W _ (I.tok _) c]
def MG{Q:η->ι->Prop}(i:A.units+1 < cLine)(I:au X pins σ H s)(g:hZ H a y o)(f:aJ y u)(h:∀S,au X pins σ H S->Q (.bool o.isSome) S):
  π (υ X.prog X.w) A (compareOp .In u$ .ref a) Q E s:=by
 rcases g with ⟨K,k,e,c,l⟩ | ⟨K,k,b,e,c,j,l⟩
 .subst c;let#[z,d,m,R,D]:=Km I.hok e;erw[wpAny_in_of (QJ f) d D.mapOf ?_];rw[<- (R.val k).isSome_eq,<- l];rwa[h _$ I.tok _]
 .subst c;cases (show u=Θ b from f);let#[z,d,x,R,D]:=QK I.hok e;erw[wpAny_in_heap (Tu i) (Kx I.hok j) d D ?_];let q:=(R.val k).isSome_eq;rw[VC]at q;rw[<- q,<- l];rwa[h _$ I.tok _]
def ZP(I:au X pins σ H s)(m:HS (H a))(c:fr a s.heap h)(d:∃q,h.get? a=δ q)(n:a6 X.prog X.w (af H a O) h a O):
  au X pins σ (af H a O) { s with heap:=h,toks:=t }:=
 I.write (x:=a) (e:=a) m (.inl Z) (λb q f z=>(c.2 b f).trans z) d n
def YK{P:ψ}{h:de}{k:xD (cg×V)}(z:ry k<=τ)(c:(a==sysModules)=ν)(R:KV k b)(d:h.DictOf (be P w) a b):
  a6 P w e h a (.dK k):=#[z,c,b,R,d]
def sQ{Q:Unit->ι->Prop}(J:A.units+1 < cLine)(I:au X pins σ H s)(g:oH H a y v L)(x:aJ y u)(B:aJ v r)(h:∀S,au X pins σ L S->Q () S):
  π (υ X.prog X.w) A (setItem (.ref a) u r) Q E s:=by
 rcases g with ⟨K,k,e,i,l,j⟩ | ⟨K,k,b,e,i,C,l,j⟩
 .subst i j;let#[z,m,M,R,D]:=Ip I.hok e;let n:ry M<=τ:=by rw[<- R.length];rwa[z]
  let p:(bN K k v).length<=τ:=by let:=qE K k v;omega
  erw[wpAny_setItem_pairs (hsz:=n) (QJ x) D λF d t=>h _ ?_];let N:∃q,F.get? a=δ q:=let #[q,_,_,f,_]:=d;#[q,f]
  rwa[ZP I (by rw[e];rwa[True.intro]) t N$ YK p m (R.put k B) d]
 .subst i j;cases (show u=Θ b from x);let#[z,m,O,R,D]:=Ir I.hok e;let n:ry O<=τ:=by rw[<- Paired.length R];rwa[z]
  let p:(bN K k v).length<=τ:=by let:=qE K k v;omega
  erw[wpAny_setItem_heap (hsz:=n) (Tu J) (Kx I.hok C) D λF d t=>h _ ?_];let#[q,P,T,f,U,W,Y,_,h5]:=d;erw[ZP I (by rw[e];rwa[True.intro]) t #[q,f] #[p,m,_,(R.put k C B).keeps λc ys G=>?_,q,P,T,f,U,W,Y,h5]];rw[jh$ jM G e (λz=>nomatch z)];rwa[G]
end
def HU(i:dg):Prop:=∀o I,subscripted i ν o I=operate [o,I] (getItem o I)
def CN{id:String}
  (k:typeLookup (.type T) "__getitem__"=pure (δ$ .builtin id)) (l:HU a)
  (h:π (υ p w) A (eval v e) (λo b=>π (υ p w) A (eval a e) (λi S=>S.TypeIs o T/\π (υ p w) A (getItem o i) Q E S) E b) E s):
  π (υ p w) A (eval (.Subscript v a m) e) Q E s:=by
 erw[Wz$ P5 h (λo b d=>P5 d (λi S H=>?_) λ_ _ x=>x) λ_ _ x=>x];let#[j,H]:=H;unfold subscriptTail;erw[OF ?_];rw[getitemInPython_of_ne j.not_modules];erw[OF$ RG j k ?_];let f:π (υ p w) A (subscripted a ν o i) (λr c=>π (υ p w) A (letTemporaryGo v o r >>= λ_=>pure r) Q E c) E S:=by rw[l o i];rwa[wpAny_operating$ P5 H (λr c g=>OF (wpAny_letTemporaryGo$ OK g)) λ_ _ x=>x]
 first
  |rwa[OK (OF f)]
  |rwa[OF (OK (OF f))]
  |rwa[OF f]
def Yu{X:Cx}(I:au X p c H s)(g:hZ H a y o):s.TypeIs (.ref a) "dict":=by
 rcases g with ⟨K,k,e,_,_⟩ | ⟨K,k,b,e,_,_,_⟩
 .let#[_,_,v,_,d]:=Km I.hok e;rwa[d.typeIs]
 .let#[_,_,x,_,d]:=QK I.hok e;rwa[d.typeIs]
inductive yL(Q:VK)(x y:V)(b:Hp):Prop
 |mk(a v:_)(_:x= .ref a)(_:hZ b a y (δ v))(_:Q v b)
def LJ(t T:TE):TE:=λa H Q=>t a H λx h=>T a h (yL Q x)
inductive DV(Q:VK)(y x:V)(b:Hp):Prop
 |mk(a o:_)(_:x= .ref a)(_:hZ b a y o)(_:Q (.bl o.isSome) b)
def M6(t T:TE):TE:=λa H Q=>t a H λy h=>T a h (DV Q y)
inductive xR(D:bp)(d:St)(v x y:V)(b:Hp):Prop
 |mk(a c:_)(_:x= .ref a)(_:oH b a y v c)(_:D.nx d c)
def xQ(t T b:TE):TS:=λD a H=>b a H λv h=>t a h λx c=>T a c (xR D a v x)
section
variable {X:Cx}{o i e value:dg}{pos pos' tpos:Pos}{td ty tv:TE}
def BP(d:X.A.units+1 < cLine)(f:PE X o td)(j:PE X i ty)(k:HU i):PE X (.Subscript o i pos) (LJ td ty):=by intro p s b H Q I h;erw[CN PySem.F.slot_dict_getitem.lookup k$ a8 (f p s b H _ I h) λu S #[x,l,m,R,q]=>a8 (j p S b l _ m q) λC D z=>?_];let#[y,n,c,t,a,v,E,g,w]:=z;subst E;obtain rfl:u=Θ a:=R;rwa[#[Yu c g,sP d c g t λW G B r=>#[v,n,B,r,w]]]
def FT(c:X.A.units+1 < cLine)(d:PE X i ty)(f:PE X o td):PC X .In i o (M6 ty td):=by intro p s b H Q I h;erw[a8 (d p s b H _ I h) λv S #[y,j,k,r,q]=>a8 (f p S b j _ k q) λu w z=>?_];let#[x,l,m,R,a,O,E,g,n]:=z;subst E;obtain rfl:u=Θ a:=R;rwa[MG c m g r λB t=>#[.bl O.isSome,l,t,Z,n]]
def Jf(c:X.A.units+1 < cLine)(d:PE X o td)(f:PE X i ty)(j:PE X value tv)(k:swapsWith value (δ$ .Subscript o i pos') pos.line X.env=pure ν):
  PS X (.Assign [.Subscript o i pos'] value pos) (xQ td ty tv):=by
 intro p s b H D I h;erw[wpAny_Assign_Subscript (a8 (j p s b H _ I h) λr S #[v,l,m,R,q]=>a8 (d p S b l _ m q) λu n #[x,t,w,B,Q]=>a8 (f p n b t _ w Q) λL M z=>?_) k];let#[y,N,C,E,a,F,G,g,J]:=z;subst G;obtain rfl:u=Θ a:=B;rwa[sQ c C g E R λO K=>#[b,F,K,J]]
end
def vF{P:ψ}(h:de)(a:sysModules < h.objs.size):a6 P w H (h.push { cls:=.type "dict",data:=.dict (ε []) }) h.objs.size (.dK []):=
 #[OS _,beq_eq_false_iff_ne.mpr$ Pk$ OZ a,[],.nil,Vl h]
def GY:TE:=λ_ H Q=>∀p,H p=θ->Q (.ref p) (af H p$ .dK [])
section
variable {X:Cx}{pos:Pos}
def XX:PE X (.Dict [] [] pos) GY:=λp s b H Q I h=>
 wpAny_Dict_empty #[.ref s.heap.objs.size,_,I.laid (a:=s.heap.objs.size) (o:=.dK []) (t':=s.toks) (λ_ _ q=>OH _ q) (OM _)$ vF s.heap I.big,Z,h _$ I.hok.fresh$ OM _]
end
def dR(k m:xD (cg×V)):xD (cg×V):=m.foldl (λa K=>bN a K.1 K.2) k
def KV.merge:∀{m:xD (cg×V)} {R:xD (cg×η)} {k:xD (cg×V)} {v:xD (cg×η)},KV m R->KV k v->KV (dR k m) (merged v R):=by
 intro m R k v r;unfold KV at r;induction r generalizing k v with
 |nil=>intro q;rwa[q]
 | @cons p q P Q h t i=>
  intro a;let e:KV (bN k p.1 p.2) (stored v q.1 q.2):=by let:=a.put p.1 h.2;rw[<- h.1];rwa[this]
  rwa[i e]
theorem qM:∀(m k:xD (cg×V)),(dR k m).length<=ry k+ry m
 | [],k=>by show ry k<=ry k+0;omega
 |p::r,k=>by let h:=qM r (bN k p.1 p.2);let H:=qE k p.1 p.2;show(dR (bN k p.1 p.2) r).length<=_;rw[Ph];omega
structure M2(X:Cx)(o:dg)(m:ρ)(apos:Pos)(e f:dg)(cpos:Pos):Prop where
 base:attributeBase o m X.env (eval o X.env)=eval o X.env
 few:((fx cpos$ Δ [e,f] X.env).all (λx=>!x.1)&&(backToKw cpos$ keywordEach [] X.env).all (λx=>x.1.isSome)
  &&decide (([e,f]:xD dg).length+([]:xD Keyword).length+(if ([]:xD Keyword).isEmpty then 0 else 1) < 30))=μ
 line:(apos.endLine==cpos.line)=μ
 trees:fx cpos (Δ [e,f] X.env)=[(ν,eval e X.env),(ν,eval f X.env)]
def Ni(H:Hp)(a:ζ):Prop:=(∃k,Rd H a$ .dK k)\/∃k,Rd H a (.dT k)
def EB{X:Cx}(I:au X p g H s)(d:Ni H a):
  s.TypeIs (.ref a) "dict"/\(∀b,Θ a= .ref b->∃o,s.heap.get? b=δ o/\o.dict=θ)/\(a==sysModules)=ν:=by
 rcases d with ⟨k,e⟩ | ⟨k,e⟩
 .let#[_,h,v,_,D]:=Km I.hok e;erw[#[D.typeIs,λb q=>?_,h]];cases q;let#[o,_,_,c,f,_]:=D;rwa[#[o,c,f.2.1]]
 .let#[_,h,x,_,D]:=QK I.hok e;erw[#[D.typeIs,λb q=>?_,h]];cases q;let#[o,_,_,c,f,_]:=D;rwa[#[o,c,f.2.1]]
section
variable {X:Cx}{pins:xD (ζ×gs)}{σ:St}{H:Hp}{s:ι}{a:ζ}{y d:V}{u r:η}{o:xL V}{A:bU}{E:η->ι->Prop}
def El{Q:η->ι->Prop}(m:A.units+1 < cLine)(I:au X pins σ H s)(g:hZ H a y o)(i:aJ y u)(j:aJ d r)(h:∀W S,au X pins σ H S->aJ (o.getD d) W->Q W S):
  π (υ X.prog X.w) A (call (.builtin "dict.get") [.ref a,u,r]) Q E s:=by
 rcases g with ⟨K,k,e,c,l⟩ | ⟨K,k,b,e,c,n,l⟩
 .subst c;let#[z,f,v,R,D]:=Km I.hok e;erw[call_meetsIn TH D.typeIs UZ (UT _ _ _) (meets_dict_get_default (be X.prog X.w) a (QJ i) f r) #[_,D.mapOf,h _ _ (I.tok _) ?_]];rw[l];rwa[(R.val k).getD j]
 .subst c;cases (show u=Θ b from i);let#[z,f,x,R,D]:=QK I.hok e;erw[call_meetsIn TH D.typeIs UZ (UT _ _ _) (meetsH_dict_get_default (tupleKind$ be X.prog X.w) a b f r) #[Tu m,k,x,Kx I.hok n,D,h _ _ (I.tok _) ?_]];rw[l];rwa[(R.val k).getD j]
end
inductive sh(d c:TE)(e:St)(Q:VK)(x:V)(b:Hp):Prop
 |mk(a:_)(_:x= .ref a)(_:Ni b a)(_:d e b λy H2=>c e H2 λz H3=>∃o,hZ H3 a y o/\Q (o.getD z) H3)
def GX(t T b:TE):TE:=λa H Q=>t a H (sh T b a Q)
section
variable {X:Cx}{o e f:dg}{apos cpos:Pos}{td ty tx:TE}
def KM(j:X.A.units+1 < cLine)(k:PE X o td)(l:PE X e ty)(n:PE X f tx)(m:M2 X o "get" apos e f cpos):PE X (.Call (.Attribute o "get" apos) [e,f] [] cpos) (GX td ty tx):=by
 intro p s b H Q I h;erw[wpAny_Call_method m.base m.few m.line PySem.F.plainAttrs_dict TH PySem.F.type_dict_get$ a8 (k p s b H _ I h) λu S c=>?_];let#[x,q,i,R,a,E,d,t]:=c;subst E;obtain rfl:u=Θ a:=R;let#[T,v,_]:=EB i d;erw[#[T,v,?_]];rw[m.trees];refine TK Z (Vu (RJ (a8 (l p S b q _ i t) λO w #[y,B,C,D,G]=>
  RJ (a8 (n p w b B _ C G) λP U #[z,J,K,L,V,g,M]=>Sd ?_))))
 rwa[El j K g D L λW Y N r=>#[_,J,N,r,M]]
end
section
variable {X:Cx}{pins:xD (ζ×gs)}{σ:St}{H:Hp}{s:ι}{a:ζ}{kvs:xD (cg×V)}{A:bU}{E:η->ι->Prop}
def vC{Q:η->ι->Prop}(I:au X pins σ H s)(e:Rd H a (.dK kvs))(h:∀p S,H p=θ->au X pins σ (af H p$ .dK kvs) S->Q (.ref p) S):π (υ X.prog X.w) A (call (.type "dict") [.ref a]) Q E s:=by let#[z,f,v,r,D]:=Km I.hok e;erw[kt_call_dict f D (by rw[<- r.length];rwa[z]) λi d g=>?_];erw[h _ _ (I.hok.fresh$ OM _)$ I.laid (a:=s.heap.objs.size) (o:=.dK kvs) (t':=s.toks) (λb q c=>?_) (OM _)$ YK z (beq_eq_false_iff_ne.mpr$ Pk$ OZ I.big) r d];rwa[(g.2 b$ OZ$ OP c).trans (OH _ c)]
end
section
variable {X:Cx}{pins:xD (ζ×gs)}{σ:St}{H:Hp}{s:ι}
inductive JKr(x:xD V)(H:Hp)(Q:VK):Prop|mk(a k:_)(_:x=[.ref a])(_:H a=δ (.dK k))(_:∀p,H p=θ->Q (.ref p) (af H p$ .dK k))
def JK:fu X (.type "dict") JKr:=by intro pins s σ H x U Q I r h;let#[a,k,Z,b,q]:=h;let#[u,Z,R]:=gB r;cases R;rwa[vC I (.inl b) λp S n i=>#[.ref p,_,i,Z,q p n]]
end
section
open PySem.W PySem.Calls Builtin Builtin.ObjectAttr
variable {prog:ψ}{w:bF}{A:bU}{E:η->ι->Prop}{s:ι}{K:β}{x C:ζ}{ox:gs}{od:xL gs}{name:ρ}
structure uY(K:β)(C:ζ):Prop where
 ga:findIn K (.ref C) "__getattribute__"=δ (δ$ .builtin "BaseException.__getattribute__")
 gh:findIn K (.ref C) "__getattr__"=δ θ
 sa:findIn K (.ref C) "__setattr__"=δ (δ$ .builtin "object.__setattr__")
 cl:findIn K (.ref C) "__class__"=δ (δ$ .builtin "object.__class__")
 gt:specialIn K (.builtin "object.__class__") "__get__"=δ (δ$ .builtin "getset_descriptor.__get__")
 tk:takesIn K (.builtin "object.__class__")=δ μ
 mb:mroIn K C (.type "BaseException")=δ μ
 mo:mroIn K C (.type "object")=δ μ
 hd:hasDictIn K C=μ
abbrev sJ:xD η:=[.type "ValueError",.type "Exception",.type "BaseException",.type "object"]
end
section
open PySem.W PySem.Calls
variable {prog:ψ}{w:bF}{A:bU}{E:η->ι->Prop}{R:Result->ι->Prop}{K:β}{h:de}{g:Array GenState}{d:Drawn}{t:Nat}{os:OsState}{C B:ζ}
def sU(q:excIn K C sJ "ValueError.__new__"=μ):(∃p q N r f a s sub u c D k i j m o,K.lookup C=δ (excClassObj p q C N r f a s sub u c D k i j m o "ValueError.__new__")/\tailIn K sJ f=μ/\nsOkIn K N=μ/\nsIn K N "__init__"=δ θ):=by
 unfold excIn at q;split at q
 .rename_i D z S F
  split at q
  .rename_i O f k i j m n o x y
   simp only[Rc,beq_iff_eq,VY]at q;obtain⟨⟨⟨⟨⟨rfl,rfl⟩,H⟩,G⟩,b⟩,e⟩:=q;let#[p,r,M,I,Q,J,s,sub,u,c,L]:=z;dsimp only at x H b e;subst x H;let v:S=(ε [k,i,j,m,δ$ .builtin "ValueError.__new__",o]):=by let#[l]:=S;simp only at y;rw[y]
   subst v;rwa[#[p,Q,I,r,f,J,s,sub,u,c,D,k,i,j,m,o,F,G,b,e]]
  .cases q
 .cases q
end
def a6.obj{P:ψ}{a:ζ}(x:a6 P w H h a o):∃u,h.get? a=δ u:=by
 cases o with
 |lst X=>let#[_,_,_,_,e]:=x;rwa[#[_,e]]
 |tup X=>let#[_,_,_,o,e,_]:=x;rwa[#[_,e]]
 |dK k |dT k=>let#[_,_,_,_,o,_,_,e,_]:=x;rwa[#[_,e]]
 |set S n=>let#[o,_,_,_,e,_]:=x;rwa[#[_,e]]
 |ins C d F=>let#[_,_,_,e,_]:=x;rwa[#[_,e]]
 |own y=>let#[_,e]:=x;rwa[#[_,e]]
 |xd F=>obtain⟨_,⟨_,_,_,e,_⟩,_⟩:=x;rwa[#[_,e]]
 |rng lo b=>let#[_,_,_,e]:=x;rwa[#[_,e]]
 |frz O u=>let#[e,_]:=x;rwa[#[_,e]]
 |tbl p |met f y=>rwa[#[_,(show h.get? a=δ _ from x)]]
 |ext c=>obtain⟨_,⟨_,e⟩,_⟩:=x;rwa[#[_,e]]
def au.laidN{X:Cx}{h':de}{a:ζ}{o:HO}{t':Nat}(I:au X p g H s)(k:∀b u,s.heap.get? b=δ u->h'.get? b=δ u)(d:s.heap.get? a=θ)(N:a6 X.prog X.w (af H a o) h' a o):
  H a=θ/\au X p g (af H a o) { s with heap:=h',toks:=t' }:=by
 let i:∀b u,s.heap.get? b=δ u->b≠a:=λb u q z=>by rw[z,d]at q;cases q
 let h:H a=θ:=by
  cases q:H a with
  |none=>rfl
  |some u=>let#[U,e]:=(I.hok a u q).obj;rw[d]at e;cases e
 erw[#[h,I.un ?_ ?_]]
 .rwa[{ keep:=λb u q _ _ _=>k b u q,slot:=λb u q _ _ _=>#[u.slots,k b u q],free:=λb u q n _=>by rw[jh$ i b u q];rwa[n],there:=λb u q _=>#[u,k b u q],tups:=λb x q=>by rw[jh$ jk q h];rwa[q],frzs:=λb u x q=>by rw[jh$ jk q h];rwa[q],tbls:=λb P q=>#[(ε []),by rw[jh$ jk q h,q];simp] }]
 .intro b u e;by_cases f:b=a
  .subst f;rw[jc]at e;cases e;rwa[N]
  .rw[jh f]at e;rwa[(I.hok b u e).stay (λc v _ q=>k c v q) (λc q=>by rw[jh$ jk q h];rwa[q]) λc x q=>by rw[jh$ jk q h];rwa[q]]
def C6(C:ζ)(d:xL ζ)(x:ζ):HO:=.ext λh=>∃o,h.get? x=δ o/\o.cls= .ref C/\notCls o=μ/\o.dict=d/\∃v,o.data= .fields v/\v[1]?=δ .none
def Ep{P:ψ}{h:de}(e:h.get? x=δ o)(a:o.cls= .ref C)(b:notCls o=μ)(c:o.dict=d)(f:∃v,o.data= .fields v/\v[1]?=δ .none):a6 P w H h x (C6 C d x):=
 #[#[o,e,a,b,c,f],#[o,e],λg i #[O,E,q] k=>#[O,k O E,q]]
def CQ(C:ζ):TE:=λa H Q=>∀x,H x=θ->Q (.ref x) (af H x$ C6 C θ x)
section
variable {X:Cx}{CX:sq}{k:Nat}{f C:ζ}{fd:bS}{ps:xD ρ}{sp:Sp}{E:XK}{x m g:ρ}{p pos pos':Pos}{e o value:dg}{es:xD dg}{ta tv:TE}{t:TA}
def QV(M:excIn X.K C sJ "ValueError.__new__"=μ)(l:fJ X.K (.ref C)=μ)(n:Gl X x)(r:X.mg x=↑C)(c:↥((x==("__debug__":ρ))=ν)):
  PE X (.Call (.Name x p) [] [] pos) (CQ C):=by
 intro P s D H Q I h;erw[P6$ qc I n r ?_ c];erw[Vh I.kIn l ?_];let#[G,q,N,J,L,j,S,sub,O,u,R,U,V,Y,k3,k5,v,w,b,i]:=sU M;let y:=I.kIn _ _ v;let#[hp,g,d,T,os]:=s;erw[wpAny_call_exc_subT PySem.F.excBase_ValueError (PySem.W.tail_of_in I.kIn w) y (.of_isNs$ PySem.W.isNs_of_in I.kIn b) (PySem.W.nsMap_none_of_in I.kIn b i) (λh' e m=>?_)$ OS _];let#[t,z,_,_]:=m.there;let#[A,B]:=I.laidN (a:=e) (h':=h') (o:=C6 C θ e) (t':=T) m.keeps m.new (Ep z Z Z Z #[_,Z,Z]);rwa[#[.ref e,_,B,Z,h e A]]
end
def au.turnedN{X:Cx}{p:xD (ζ×gs)}{d:St}{H:Hp}{s:ι}{g:de}{t':Nat}{f:xD ζ}(I:au X p d H s)(a:∀b∈f,h9 X p H b)(k:∀b o,b∉f->s.heap.get? b=δ o->g.get? b=δ o):
  au X p d H { s with heap:=g,toks:=t' }:=by
 let N:∀b u,H b=δ u->b∉f:=λb u e z=>by rw[(a b z).1]at e;cases e
 refine I.step (g':=s.gens) (d':=s.drawn) (ch:=f) (λb i=>?_) (λb o _ _ h e _=>k b o h e) (λb o _ _ h e _=>#[o.slots,k b o h e]) (λ_ _ _ _ n=>n)
  (λb o h e=>#[o,k b o h e]) (λ_ _ e=>e) (λ_ _ _ e=>e) (λb P e=>#[(ε []),by rw[e];simp]) (λm j=>?_) (λb u e=>?_) I.bare
 .let#[A,F,B,l,t,w]:=a b i;rwa[#[l,F,t,w]]
 .let#[o,E,x,y,r]:=j;rwa[#[o,E,x,k _ o (λz=>(a _ z).2.1 Z) y,r]]
 .erw[(I.hok b u e).stay (λc v h q=>k c v ?_ q) (λ_ q=>q) λ_ _ q=>q];rcases h with z |z
  .rw[z];rwa[N b u e]
  .rwa[N c _ z]
section
variable {M:Model}{A:bU}{E:η->ι->Prop}{s:ι}
structure dP(fl:η)(mj:xD ζ)(x:ζ)(ox:gs)(h h':de):Prop where
 ex:∃T oT ts,h.objs.size<=T/\h'.get? x=δ (gb (·.setIfInBounds 1 (.ref T)) ox)/\h'.get? T=δ oT/\oT.data= .fields ts/\ts[3]?=δ fl
 keep:∀b o,b∉mj->b≠x->h.get? b=δ o->h'.get? b=δ o
 slot:∀b o,b≠x->h.get? b=δ o->∃sl,h'.get? b=δ { o with slots:=sl }
def QW{Q:Unit->ι->Prop}
  (t:A.frames=δ (d::O)) (F:s.heap.FunFrames G (d::O)) (N:d.frame=δ L)
  (I:s.heap.get? x=δ u) (v:u.data= .fields J) (w:1 < J.size)
  (h:∀K,dP (rawInt L) ((d::O).filterMap (·.frame)) x u s.heap K->Q () { s with heap:=K }):
  π M A (do let a <- frameOf d;let p <- entryPlaceOf L q;let b <- EntryCells.newEntry f a .none (rawInt L) .none p;setField (.ref x) 1 b) Q E s:=by
 let y:x∉(d::O).filterMap (·.frame):=λP=>by let#[_,o,r,z]:=F.mem P;rw[I]at r;injection r with r;subst r;rwa[z J v]
 erw[OF$ wpAny_frameOf_fun t F N λH c=>?_];erw[OF$ wpAny_entryPlaceOf λp B=>?_];unfold EntryCells.newEntry newFields;erw[OF$ Pu ?_$ B.sizeOk5 _ _ _ _ _];let g:H.get? x=δ u:=(c.2.1 x y).trans I;let i:=OH (h:=H) { cls:=.type "traceback",dict:=θ,data:=.fields ([f,.ref L,.none,rawInt L,.none]++(if p.isEmpty then kz 6 Ω else p)).toArray } g;erw[PU i v w$ h _ ?_];let C:H.objs.size≠x:=PV (OP g);let j:=Pn v (·.setIfInBounds 1 (Θ H.objs.size));let l:=Pq (gb (·.setIfInBounds 1 (Θ H.objs.size))) i (Ra j);let k:∀b o,b≠x->H.get? b=δ o->((H.push { cls:=.type "traceback",dict:=θ,data:=.fields ([f,.ref L,.none,rawInt L,.none]++(if p.isEmpty then kz 6 Ω else p)).toArray }).update x$ gb (·.setIfInBounds 1 (Θ H.objs.size))).get? b=δ o:=λb o D e=>by rw[O6 _ _$ Pk D];rwa[OH _ e]
 let m:=(O6 (H.push { cls:=.type "traceback",dict:=θ,data:=.fields ([f,.ref L,.none,rawInt L,.none]++(if p.isEmpty then kz 6 Ω else p)).toArray })
  (gb (·.setIfInBounds 1 (Θ H.objs.size))) (Pk C)).trans (OQ H Z)
 erw[#[#[H.objs.size,_,_,TZ c.1.symm,l,m,Z,N8],λb o D n e=>k b o n ((c.2.1 b D).trans e),λb o n e=>?_]];let#[S,R]:=c.2.2 b o e;rwa[#[S,k b _ n R]]
def Y5{Q:Unit->ι->Prop}
  (H:A.frames=δ (e::o)) (i:s.heap.FunFrames b (e::o)) (a:e.frame=δ L)
  (c:s.heap.get? x=δ O) (d:O.data= .fields v) (f:v[1]?=δ .none)
  (h:∀g,dP (rawInt L) ((e::o).filterMap (·.frame)) x O s.heap g->Q () { s with heap:=g }):
  π M A (noteFrame (.ref x) e) Q E s:=by
 unfold noteFrame;simp only[a];erw[OF$ Pg c d f ?_];rw[OU Oa];rwa[QW H i a c d (ab.mp f).1 h]
def EG{mj:xD ζ}{Q:Unit->ι->Prop}(N:dP C mj x O H s.heap)(j:H.get? x=δ O)(v:O.data= .fields w)(k:1 < w.size)
  (h:∀p,dP .none mj x O H p->Q () { s with heap:=p }):π M A (setFlight (.ref x) θ) Q E s:=by
 let#[T,D,F,c,r,t,g,y]:=N.ex;let l:=Pn v (·.setIfInBounds 1 (Θ T));let m:T≠x:=λz=>absurd (O3 (OP j) (by rw[<- z];rwa[c])) (PX _);unfold setFlight;erw[OF$ Pg r l (x:=.ref T) (by simp [k]) ?_];rw[OT (show(Θ T != Ω)=μ from by simp)];let i:=(ab.mp y).1;erw[PU t g i$ h _ ?_];let a:=Pn g (·.setIfInBounds 3 ((θ:xL ζ).elim Ω λf=>rawInt f));let n:=Pq (gb (·.setIfInBounds 3 ((θ:xL ζ).elim Ω λf=>rawInt f))) t (Ra a);let u:∀b o,H.get? b=δ o->T≠b:=λb o e z=>absurd (O3 (OP e) (by rw[<- z];rwa[c])) (PX _);erw[#[#[T,_,_,c,by rw[O6 _ _ m];rwa[r],n,a,by simp [i]],λb o B d e=>?_,λb o d e=>?_]]
 .rw[O6 _ _$ u b o e];rwa[N.keep b o B d e]
 .let#[S,q]:=N.slot b o d e;rwa[#[S,by rw[O6 _ _$ u b o e];rwa[q]]]
def Yv{base:de}{Q:Unit->ι->Prop}
  (a:A.frames=δ (e::o)) (f:s.heap.FunFrames base (e::o)) (g:e.frame=δ L)
  (b:s.heap.get? x=δ O) (c:O.data= .fields v) (d:v[1]?=δ .none)
  (h:∀H,dP .none ((e::o).filterMap (·.frame)) x O s.heap H->Q () { s with heap:=H }):
  π M A (leaving e$ .ref x) Q E s:=by
 unfold leaving;exact OF$ Y5 a f g b c d λH N=>EG (s:={ s with heap:=H }) N b c (ab.mp d).1 h
end
section
variable {M:Model}{A:bU}{E:η->ι->Prop}{s:ι}
abbrev fX(T:ζ)(h:de):de:=h.update T (gb (·.setIfInBounds 3 Ω))
def QX{base:de}{Q:Unit->ι->Prop}
  (f:A.frames=δ (e::O)) (w:s.heap.FunFrames base (e::O)) (j:e.frame=δ L)
  (k:s.heap.get? x=δ l) (m:l.data= .fields v) (p:v[1]?=↑T) (g:T≠x) (i:s.heap.get? T=δ y) (c:y.data= .fields t) (r:t[3]?=δ .none)
  (h:∀u,dP (rawInt L) ((e::O).filterMap (·.frame)) x l (fX T s.heap) u->Q () { s with heap:=u }):
  π M A (noteFrame (.ref x) e) Q E s:=by
 unfold noteFrame;simp only[j];erw[OF$ Pg k m p ?_];rw[OT (show(Θ T != Ω)=μ from by simp)];erw[OF$ Pg i c r ?_];rw[OU (show ¬((Ω==rawInt L)=μ) from by simp [rawInt])];erw[OF$ PU i c (ab.mp r).1 ?_];let a:∀b,b≠T->(fX T s.heap).get? b=s.heap.get? b:=λb H=>O6 _ _ (Pk H);let n:∀b o,s.heap.get? b=δ o->(∀v,o.data≠ .fields v)->b≠T:=λb o H d q=>by rw[q,i]at H;injection H with H;subst H;rwa[d t c]
 exact QW (s:={ s with heap:=fX T s.heap }) f (w.of_keeps λb o H d=>#[o,(a b$ n b o H d).trans H,Z]) j ((a x$ Pk g).trans k) m (ab.mp p).1 h
def Y6{base:de}{Q:Unit->ι->Prop}
  (b:A.frames=δ (e::o)) (i:s.heap.FunFrames base (e::o)) (j:e.frame=δ L)
  (d:s.heap.get? x=δ O) (f:O.data= .fields v) (g:v[1]?=↑T) (H:T≠x) (k:s.heap.get? T=δ l) (c:l.data= .fields t) (m:t[3]?=δ .none)
  (h:∀a,dP .none ((e::o).filterMap (·.frame)) x O (fX T s.heap) a->Q () { s with heap:=a }):
  π M A (leaving e$ .ref x) Q E s:=by
 unfold leaving;exact OF$ QX b i j d f g H k c m λa N=>EG (s:={ s with heap:=a }) N ((O6 _ _ H).trans d) f (ab.mp g).1 h
end
def i6(C:ζ)(d:xL ζ)(T x:ζ):HO:=.ext λh=>∃o v,h.get? x=δ o/\o.cls= .ref C/\notCls o=μ/\o.dict=d/\o.data= .fields v/\v[1]?=↑T
def iH(T:ζ):HO:=.ext λh=>∃o t,h.get? T=δ o/\o.data= .fields t/\t[3]?=δ .none
def He{P:ψ}{h:de}(e:h.get? x=δ o)(c:o.cls= .ref C)(f:notCls o=μ)(g:o.dict=d)(i:o.data= .fields a)(b:a[1]?=↑T):a6 P w H h x (i6 C d T x):=
 #[#[o,a,e,c,f,g,i,b],#[o,e],λb j #[O,v,E,q] k=>#[O,v,k O E,q]]
def yV{P:ψ}{h:de}(e:h.get? T=δ o)(b:o.data= .fields a)(c:a[3]?=δ .none):a6 P w H h T (iH T):=
 #[#[o,a,e,b,c],#[o,e],λd f #[O,t,E,q] k=>#[O,t,k O E,q]]
def dH(P:ψ)(w:bF):sq:=λo H s E e S=>∃x C d T h,e= .ref x/\S.os=s.os/\AllBare S.gens/\Un (mj o) [] H h s.heap S.heap/\gH P w h S.heap/\
 h x=δ (i6 C d T x)/\h T=δ (iH T)/\T≠x/\E (.ref C) d h
section
variable {X:Cx}{pins:xD (ζ×gs)}{σ:St}{H:Hp}{s:ι}{x C:ζ}{d:xL ζ}
def dP.hok{fl:η}(I:au X pins σ H s)(g:H x=δ (.ext M))(P:s.heap.get? x=δ o)(B:o.cls= .ref C)(D:o.dict=d)(j:o.data= .fields E)(k:1 < E.size)(l:∀b∈G,H b=θ)
  (N:dP .none G x o s.heap J):∃T,H T=θ/\T≠x/\s.heap.objs.size<=T/\gH X.prog X.w (af (af H T$ iH T) x$ i6 C d T x) J:=by
 let#[T,Q,R,h,m,F,n,p]:=N.ex;let i:H T=θ:=I.hok.fresh h;let r:T≠x:=Pk (jk g i);let a:=Pn j (·.setIfInBounds 1 (Θ T));erw[#[T,i,r,h,λb u e=>?_]];by_cases t:b=x
 .subst t;rw[jc]at e;cases e;erw[He m ((SO _ _).trans B) ?_ ?_ a (by simp [k])]
  .unfold notCls;rw[a]
  .let#[S,U,O,K]:=o;simp only at j;subst j;rwa[D]
 .rw[jh t]at e;by_cases f:b=T
  .subst f;rw[jc]at e;cases e;rwa[yV F n p]
  .rw[jh f]at e;erw[(I.hok b u e).stay (λc v A q=>?_) (λc q=>?_) λc V q=>?_]
   .let y:c≠x:=by
     rcases A with z |z
     .rw[z];rwa[t]
     .rwa[jM z g (by intro q;cases q)]
    erw[N.keep c v (λL=>?_) y q];let:=l c L;rcases A with z |z
    .rw[z,e]at this;cases this
    .rw[z]at this;cases this
   .rw[jh$ jM q g nofun,jh$ jk q i];rwa[q]
   .rw[jh$ jM q g nofun,jh$ jk q i];rwa[q]
def dP.un{h':de}(I:au X pins σ H s)(hex:X.ex=[])(j:H x=δ (.ext k))(l:H T=θ)(c:s.heap.objs.size<=T)(f:∀b∈p,b∈X.fs\/X.s₀.heap.objs.size<=b)
  (N:dP .none p x y s.heap h'):Un X.fs [] X.H₀ (af (af H T$ iH T) x$ i6 C d T x) X.s₀.heap h':=by
 let g:∀b,H b=θ->b≠x:=λb e z=>by rw[z,j]at e;cases e
 let r:∀b o,X.s₀.heap.get? b=δ o->b≠T:=λb o e=>OZ (O3 (OP e)$ O1 I.sz c);let a:∀b:ζ,b∉X.ex:=λb z=>by rw[hex]at z;cases z
 let t:∀b,H b=θ->b≠T->af (af H T$ iH T) x (i6 C d T x) b=θ:=λb e z=>by rw[jh$ g b e,jh z];rwa[e]
 let U:∀b u,H b=δ u->(∀k,u≠ .ext k)->af (af H T$ iH T) x (i6 C d T x) b=δ u:=λb u e z=>by rw[jh (λq=>by rw[q,j]at e;cases e;rwa[z _ Z]),jh$ jk e l];rwa[e]
 erw[#[λb o e n h _=>?_,λb o e n h _=>?_,λb o e n _=>?_,λb o e _=>?_,λb v e=>U b _ (I.base.tups b v e) (by intro _ q;cases q),λb o u e=>U b _ (I.base.frzs b o u e) (by intro _ q;cases q),λb P e=>?_]]
 .erw[N.keep b o (λz=>?_) (g b$ I.base.free b o e n$ a b)$ I.base.keep b o e n h$ a b];rcases f b z with q |q
  .rwa[h q]
  .rwa[absurd (O3 (OP e) q)$ PX _]
 .let#[w,q]:=I.base.slot b o e n h (a b);let#[S,Q]:=N.slot b _ (g b$ I.base.free b o e n$ a b) q;rwa[#[S,Q]]
 .rwa[t b (I.base.free b o e n$ a b)$ r b o e]
 .let#[O,q]:=I.base.there b o e (a b);by_cases h:b=x
  .let#[A,_,_,_,i,_]:=N.ex;rwa[#[_,by rw[h];rwa[i]]]
  .let#[w,Q]:=N.slot b O h q;rwa[#[_,Q]]
 .let#[m,q]:=I.base.tbls b P e;rwa[#[m,U b _ q (by intro _ q;cases q)]]
end
section
variable {P:ψ}{w:bF}{K:β}{mg:ρ->xL η}{base:de}{N:xD ρ}{qual:ρ}{scope:hJ}{f:ζ}{cd:η}{A:bU}{outer:xD Env}{s₀:ι}{H₀:Hp}{E:XK}
variable {pins:xD (ζ×gs)}{σ:St}{H:Hp}{s:ι}{x C:ζ}{d:xL ζ}
def Ad(I:au (gR (dH P w) P w K mg base N qual scope f cd A outer s₀ H₀ E) pins σ H s)(c:H x=δ (C6 C d x))
  (h:∀T,H T=θ->E (.ref C) d (af (af H T$ iH T) x$ i6 C d T x)):(gR (dH P w) P w K mg base N qual scope f cd A outer s₀ H₀ E).xe (.ref x) s:=by
 obtain⟨⟨O,l,q,t,r,v,m,n⟩,_⟩:=I.hok x _ c;let g:=(ab.mp n).1;erw[Yv (base:=base) I.ok.frames I.stack Z l m n λy o=>?_];let#[T,p,a,i,j]:=o.hok (C:=C) (d:=d) (fl:=.none) I c l q r m g λb k=>I.stkFree b k;let u:=o.un (C:=C) (d:=d) I Z c p i λb k=>by
  rcases Ξ.mp (I.stkSub b k) with e |e
  .rwa[.inr (by rw[e];rwa[I.ok.above])]
  .rwa[.inl e]
 rwa[#[x,C,d,T,_,Z,I.os,I.bare,u,j,jc,by rw[jh a,jc],a,h T p]]
def au.cleared{X:Cx}(I:au X pins σ H s)(c:H T=δ (iH T))(i:s.heap.get? T=δ O)(j:O.data= .fields t)(k:t[3]?=δ .none):au X pins σ H { s with heap:=fX T s.heap }:=by
 let h:=Pn j (·.setIfInBounds 3 Ω);let g:=Pq (gb (·.setIfInBounds 3 Ω)) i (Ra h);let:=I.write (x:=T) (e:=T) (o:=iH T) (h':=fX T s.heap) (t':=s.toks) (by rw[c];rwa[True.intro]) (.inl Z) (λb u a q=>(O6 _ _$ Pk a).trans q) #[_,g] (yV g h (by simp [(ab.mp k).1]));let l:af H T (iH T)=H:=by
  funext b;by_cases a:b=T
  .rw[a,jc,c]
  .rw[jh a]
 rw[l]at this;rwa[this]
def CY(I:au (gR (dH P w) P w K mg base N qual scope f cd A outer s₀ H₀ E) pins σ H s)(g:H x=δ (i6 C d T x))(n:H T=δ (iH T))(c:T≠x)
  (h:∀t,H t=θ->E (.ref C) d (af (af H t$ iH t) x$ i6 C d t x)):(gR (dH P w) P w K mg base N qual scope f cd A outer s₀ H₀ E).xe (.ref x) s:=by
 obtain⟨⟨O,V,o,D,G,F,p,q⟩,_⟩:=I.hok x _ g;obtain⟨⟨J,L,r,u,v⟩,_⟩:=I.hok T _ n;let i:=(ab.mp q).1;let y:=I.cleared n r u v;erw[Y6 (base:=base) I.ok.frames I.stack Z o p q c r u v λM z=>?_];let j:(fX T s.heap).get? x=δ O:=(O6 _ _ c).trans o;let#[t,B,a,k,l]:=dP.hok (C:=C) (d:=d) (fl:=.none) y g j D F p i (λb m=>I.stkFree b m) z;let U:=dP.un (C:=C) (d:=d) y Z g B k (λb m=>by
  rcases Ξ.mp (I.stkSub b m) with e |e
  .rwa[.inr (by rw[e];rwa[I.ok.above])]
  .rwa[.inl e]) z
 rwa[#[x,C,d,t,_,Z,I.os,I.bare,U,l,jc,by rw[jh a,jc],a,h t B]]
def BO{j:XK}(m:∀x C d T t a,a x=δ (i6 C d T x)->a T=δ (iH T)->a t=θ->j (.ref C) d a->E (.ref C) d (af (af a t$ iH t) x$ i6 C d t x)):
  eh (dH P w) (gR (dH P w) P w K mg base N qual scope f cd A outer s₀ H₀ E) j:=by
 intro pins σ H s e S I h;let#[x,C,d,T,a,Z,os,B,u,c,k,l,i,n]:=h;let#[p,g,D,q,o]:=S;obtain rfl:o=s.os:=os;let r:=I.call (h':=p) (g':=g) (d':=D) (t':=q) (ch:=[]) u c B (λb z=>absurd z N8);rwa[CY r k l i λt v=>m x C d T t a k l v n]
end
section
open PySem.W
variable {prog:ψ}{w:bF}{A:bU}{E:η->ι->Prop}{K:β}{x C:ζ}{ox:gs}{vs:Array η}{env:Env}
def Y7{ev:Sem η}(e:A.handled=θ)
  (h:π (υ prog w) A ev (λv S=>∃x C ox vs,v= .ref x/\K.In S.heap/\uY K C/\typeIn K (.ref C)=δ (.type "type")/\S.heap.get? x=δ ox/\ox.cls= .ref C/\ox.data= .fields vs/\vs[1]?=δ .none/\E (.ref x) S) E s):
  π (υ prog w) A (raiseStmt env (δ ev) θ) Q E s:=by
 unfold raiseStmt;erw[OF$ P5 h (λv S a=>?_) λ_ _ z=>z];let#[x,C,ox,vs,Z,X,f,i,b,j,c,m,n]:=a;let#[H,g,d,T,os]:=S;let L:Looks (υ prog w) H (typeOf$ .ref x) (.ref C):=j▸(Looks.ld b).andThen .now;let l:Looks (υ prog w) H (isType$ .ref x) ν:=by intro u y B D k q;unfold isType loadHead;erw[OF$ Vn (k _ _ b) ?_];rw[c];rwa[OK q]
 let _L:=V' (M:=υ prog w) X f.mb;let o:=looks_typeIn (M:=υ prog w) X i;let L4:Looks (υ prog w) H (isInstance (.ref x)$ .type "BaseException") μ:=L.andThen _L;let p:Looks (υ prog w) H (isExcClass$ .ref x) ν:=by unfold isExcClass;rwa[l.andThen .now]
 let r:Looks (υ prog w) H (raisedInstance$ .ref x) (.ref x):=by unfold raisedInstance;rwa[L.andThen$ o.andThen (by rw[OT Oa];rwa[.now])]
 let t:Looks (υ prog w) H (excFromValue (.ref x) "exceptions must derive from BaseException") (.ref x):=by unfold excFromValue;rwa[p.andThen (by rw[OU Oa];rwa[L4.andThen (by rw[OT Z];rwa[.now])])]
 erw[OF$ OK ?_];erw[OF$ Pb$ t.at ?_];dsimp only;erw[OF$ l.at ?_];rw[OU Oa];erw[OF$ r.at ?_];unfold setFlight;erw[OF$ OF$ Pg b c m ?_];rw[OU Oa];rwa[OK$ wpAny_raiseNew_none e n]
end
def C7(X:Cx)(W:ζ->ζ->xL ζ->Hp->Prop):Prop:=∀(p:xD (ζ×gs)) (a:St) (H:Hp) (s:ι) (x C:ζ) (d:xL ζ),au X p a H s->H x=δ (C6 C d x)->W x C d H->X.xe (.ref x) s
def QY{P:ψ}{K:β}:
  C7 (gR (dH P w) P w K m b N q s f g A o a c E) (λx C d H=>∀T,H T=θ->E (.ref C) d (af (af H T$ iH T) x$ i6 C d T x)):=
 λ_ _ _ _ _ _ _ I e h=>Ad I e h
inductive rC(K:β)(b:ζ->ζ->xL ζ->Hp->Prop)(v:V)(a:Hp):Prop
 |mk(x C d:_)(_:v= .ref x)(_:a x=δ (C6 C d x))(_:uY K C)(_:typeIn K (.ref C)=δ (.type "type"))(_:b x C d a)
def Gu(K:β)(t:TE)(W:ζ->ζ->xL ζ->Hp->Prop):TS:=λ_u0 a H=>t a H (rC K W)
def XY{X:Cx}{e:dg}{t:TE}{P:Pos}{W:ζ->ζ->xL ζ->Hp->Prop}(f:X.calm=μ)(F:C7 X W)(g:PE X e t):PS X (.Raise (δ e) θ P) (Gu X.K t W):=by intro p s b H D I h;rw[arm_exec_Raise];erw[OF$ Sj ?_];erw[Y7 (K:=X.K) (ev:=do let v <- eval e X.env;standAt P;pure v) (I.ok.hd f)$ OF$ a8 (g p s b H _ I h) λu S a=>OF (Sj$ OK ?_)];let#[v,j,i,r,x,C,d,ev,c,k,l,q]:=a;subst ev;obtain rfl:u=Θ x:=r;obtain⟨⟨o,m,n,z,A,V,w,y⟩,_⟩:=i.hok x _ c;rwa[#[x,C,o,V,Z,i.kIn,k,l,m,n,w,y,F p b j S x C d i c q]]
section
variable {X:Cx}{pins:xD (ζ×gs)}{σ:St}{H:Hp}{s:ι}{x C:ζ}{d:xL ζ}
def au.noted{t':Nat}(I:au X pins σ H s)(a:H x=δ (.ext l))(p:s.heap.get? x=δ O)(r:O.cls= .ref C)(t:O.dict=d)(v:O.data= .fields w)(c:1 < w.size)
  (N:dP .none (mj X.stack) x O s.heap y):∃T,H T=θ/\T≠x/\au X pins σ (af (af H T$ iH T) x$ i6 C d T x) { s with heap:=y,toks:=t' }:=by
 let#[T,m,f,g,i]:=dP.hok (C:=C) (d:=d) (fl:=.none) I a p r t v c (λb h=>I.stkFree b h) N;let j:∀b,H b=θ->b≠x:=λb e z=>by rw[z,a]at e;cases e
 let U:∀b u,H b=δ u->(∀l,u≠ .ext l)->af (af H T$ iH T) x (i6 C d T x) b=δ u:=λb u e z=>by rw[jh (λq=>by rw[q,a]at e;cases e;rwa[z _ Z]),jh$ jk e m];rwa[e]
 erw[#[T,m,f,I.call (g':=s.gens) (d':=s.drawn) (ch:=[]) ?_ i I.bare (λb z=>absurd z N8)]];erw[#[λb o e n h _=>N.keep b o h (j b n) e,λb o e n _ _=>N.slot b o (j b n) e,λb o e n _=>?_,λb o e _=>?_,λb A e=>U b _ e (by intro _ q;cases q),λb o u e=>U b _ e (by intro _ q;cases q),λb P e=>#[(ε []),by rw[U b _ e (by intro _ q;cases q)];simp]]]
 .rw[jh$ j b n,jh$ OZ$ O3 (OP e) g];rwa[n]
 .by_cases h:b=x
  .let#[B,_,_,_,k,_]:=N.ex;rwa[#[_,by rw[h];rwa[k]]]
  .let#[S,q]:=N.slot b o h e;rwa[#[_,q]]
end
abbrev Cx.mark(X:Cx)(e:η)(xe:η->ι->Prop):Cx:={ X with A:=X.A.mark (δ e),calm:=ν,xe:=xe }
def au.mark{X:Cx}(I:au X p a H s)(e:η)(x:η->ι->Prop):au (X.mark e x) p a H s:=
 #[#[I.ok.mod,I.ok.kind,I.ok.glob,I.ok.blt,I.ok.above,I.ok.inj,I.ok.has,I.ok.cab,(λz=>nomatch (show ν=μ from z)),I.ok.frames,I.ok.stk,I.ok.exf,I.ok.bs,I.ok.bsz,I.ok.noex,I.ok.exfs,I.ok.funs,I.ok.frf],I.os,I.bare,I.base,I.loc,I.cell,I.free,I.freeC,I.pin,I.hok,I.len]
def au.unmark{X:Cx}(o:X.Ok)(I:au (X.mark e x) p a H s):au X p a H s:=
 #[o,I.os,I.bare,I.base,I.loc,I.cell,I.free,I.freeC,I.pin,I.hok,I.len]
section
open PySem.W
def Qv{K:β}(X:K.In h)(a:h.get? x=δ o)(b:o.cls= .ref C)(H:clsIn K B≠θ)(tB:typeIn K (.ref B)=δ (.type "type"))(m:mroIn K B (.type "BaseException")=δ μ)(c:mroIn K C (.ref B)=δ μ):
  Looks M h (excMatches (.ref x)$ .ref B) μ:=by
 let L:Looks M h (typeOf$ .ref x) (.ref C):=b▸(Looks.ld a).andThen .now;let l:=looks_typeIn (M:=M) X tB;let _L:Looks M h (isInstance (.ref B)$ .type "tuple") ν:=l.andThen (Wo tc_notTuple);let d:Looks M h (isType$ .ref B) μ:=by
  unfold clsIn at H;split at H
  .rename_i e
   intro A Q E s k q;unfold isType loadHead;rwa[OF$ Vn (k _ _$ X _ _ e)$ OK q]
  .rwa[absurd Z H]
 let L4:Looks M h (isExcClass$ .ref B) μ:=by unfold isExcClass;rwa[d.andThen (by rw[OT Z];rwa[V' X m])]
 let f:=V' (M:=M) X c;intro A Q E s k q;unfold excMatches;erw[OF$ _L A _ E s k ?_];rw[OU Oa];erw[OF$ OK ?_];dsimp only;erw[OF ?_];rw[Sa];erw[OF$ OF$ L4 A _ E s k ?_];simp only[S0,O0,Rj];erw[OK ?_];dsimp only;rw[Tj];erw[OK ?_];erw[OF$ L A _ E s k ?_];erw[OF ?_];rw[Sa];erw[OF$ OF$ f A _ E s k ?_];simp only[Tg];erw[OK$ OK ?_];rwa[OK q]
end
abbrev XR:=ζ->ζ->xL ζ->ζ->Hp->Prop
def XW(X:Cx)(p:xD (ζ×gs))(a:St)(R:XR)(e:η)(s:ι):Prop:=
 ∃x C d T H,e= .ref x/\au X p a H s/\H x=δ (i6 C d T x)/\H T=δ (iH T)/\T≠x/\R x C d T H
abbrev Mu:=St->Hp->VK->XR->Prop
abbrev Mw:=bp->XR->St->Hp->Prop
def Nl(X:Cx)(e:dg)(t:Mu):Prop:=
 ∀(p:xD (ζ×gs)) (s:ι) (a:St) (H:Hp) (Q:VK) (R:XR),au X p a H s->t a H Q R->π (υ X.prog X.w) X.A (eval e X.env) (EP X p a Q) (XW X p a R) s
def Np(X:Cx)(st:cc)(t:Mw):Prop:=
 ∀(p:xD (ζ×gs)) (s:ι) (a:St) (H:Hp) (D:bp) (R:XR),au X p a H s->t D R a H->π (υ X.prog X.w) X.A (exec st X.env) (SP X p D) (XW X p a R) s
def NE(R:XR):XK:=λc d H=>∀x C T,c= .ref C->H x=δ (i6 C d T x)->H T=δ (iH T)->T≠x->R x C d T H
def GV(s:Sp)(d:xD V)(t:TA):Mu:=λa H Q R=>t a H λv h=>s (v++d) h Q (NE R)
section
variable {X:Cx}{k:Nat}{f:ζ}{fd:bS}{ps:xD ρ}{sp:Sp}{dvs:xD V}{ds:xD η}{x:ρ}{p pos:Pos}{e:dg}{es:xD dg}{t:TA}{te:Mu}
def XZ(F:ah X.prog X.w X.K X.mg X.base (dH X.prog X.w) k f fd ps sp)(y:b6 k X.A)(D:Gl X x)(E:X.mg x=↑f)(G:fJ X.K (.ref f)=μ)(J:aE X.K fd ps ds)(L:aG dvs ds)
  (M:PA X.nox (e::es) t) (g:↥((x==("__debug__":ρ))=ν)) (N:↥(Δ (e::es) X.env=(ν,eval e X.env)::Δ es X.env)) (j:↥((fx pos$ Δ es X.env).any (·.1)=ν)):
  Nl X (.Call (.Name x p) (e::es) [] pos) (GV sp dvs t):=by
 intro P s O H Q R I h;erw[P6$ qc I D E ?_ g];erw[UD (h₀:=X.base) I.ok.mod.kin G (P5 (M pos P s O H _ (I.wish _) h) (λU S #[v,W,i,r,q]=>#[i.kIn,?_]) λ_ _ z=>z.elim) N j];let i:=i.unwish;let m:aG (v++dvs) (U++ds):=r.append L;let Y:(U++ds).length=ry ps:=by rw[<- m.length];rwa[F.len _ _ _ _ q]
 erw[Vp$ Sw (F.run X.A X.stack S W #[U,[]] (U++ds) (v++dvs) Q (NE R) y i.env0 (J S U i.kIn Y) m q) λr s' a=>?_];cases r with
 |error e=>let#[x,C,d,T,H',Z,os,B,un,l,n,o,c,hw]:=a;rwa[#[x,C,d,T,H',Z,i.call' os un l B (λb z=>absurd z N8),n,o,c,hw x C T Z n o c]]
 |ok fl=>
  cases fl with
  |ret u=>rwa[i.after a]
  |next |brk |cont=>rwa[False.elim a]
def ZQ{i:Nat}{y:ρ}{P:Pos}(d:X.N.Nodup)(g:X.N[i]?=δ y)(j:uW X.env.scope y)(l:Nl X e te)(m:↥(swapsWith e (δ$ .Name y P) pos.line X.env=pure ν))(n:autoParam (X.fn y=μ\/X.env.scope.names.lookup y=δ .local) Wx._auto_1):
  Np X (.Assign [.Name y P] e pos) (λD R b H=>te b H (λv c=>D.nx (b.set i$ δ v) c) R):=by
 intro a s b H D R I h;erw[WF (a8 (l a s b H _ R I h) λv S z=>?_) m];let#[y,c,o,r,q]:=z;rwa[zK o d g j r (λw u=>#[_,c,u,q]) n]
end
def aS.ok1{P:ψ}{K:β}{st:cc}{a:Sp}(F:aS K x q st f g)(S:aj N p (ae st))
  (h:∀(c:η) (A:bU) (o:xD Env) (s:ι) (H:Hp) (v:xD V) (Q:VK) (E:XK),b6 k (A.deeper$ envOfC q (ae st) s.heap.objs.size f c)->a v H Q E->
   let X:=gR (dH P w) P w K m b N q (ae st) f c A o s H E;∃t,nJ X (bL st) t/\t { nx:=λ_ i=>Q .non i,rt:=Q } (iE N v) H)(len:∀v H Q E,a v H Q E->ry v=ry p:=by rintro _ _ _ _⟨⟩;subst_vars;rfl):ah P w K m b (dH P w) (k+1) f g p a:=by
 let#[l,n,kV,D,r,u,c,C,O,Z,lk,d]:=F.ex;rwa[Dp lk d S len λA o s H v Q E j e=>h c A o s H v Q E j e]
end _L
namespace _L
open PySem PySem.Spec PyProof.Rows PySem.SeqAt
def vJ(x y:xD V):Bool:=(dn$ min x.length y.length).all (λj=>oG (x.getD j .non) (y.getD j .non))&&ry x==ry y
section
variable {X:Cx}
def uJ(r:aG x i)(R:aG y I)(f:x.all dF=μ)(F:y.all dF=μ)(j:Nat)(c:j < i.toArray.size)(d:j < I.toArray.size):EqAt A s i.toArray[j] I.toArray[j] (oG (x.getD j .non)$ y.getD j .non):=by
 let L:=r.length;let p:=R.length;let H:j < ry x:=by simp at c;omega
 let h:j < ry y:=by simp at d;omega
 let a:x[j]?=δ x[j]:=OG H;let b:y[j]?=δ y[j]:=OG h;let#[u,q,g]:=r.get a;let#[U,Q,k]:=R.get b;let l:=List.all_eq_true.mp f _ (Sm H);let m:=List.all_eq_true.mp F _ (Sm h);let E:i.toArray[j]=u:=by let#[_,e]:=ξ.mp q;simpa using e
 let n:I.toArray[j]=U:=by let#[_,e]:=ξ.mp Q;simpa using e
 let G:x.getD j .non=x[j]:=by rw[Pl,a];rfl
 let o:y.getD j .non=y[j]:=by rw[Pl,b];rfl
 rw[E,n,G,o];rwa[vH g k l m]
inductive FJr(K:β)(x:V)(y:V)(H:Hp)(Q:VK):Prop|mk(a b c Y:_)(_:x= .ref a)(_:y= .ref b)(_:aC K H a c)(_:aC K H b Y)(_:c.all dF=μ)(_:Y.all dF=μ)(_:Q (.bl$ vJ c Y) H)
def FJ(f:X.A.units < cLine):fQ X (compareOp .Eq) (FJr X.K):=by
 intro p s z H x y v u Q I g k h;let#[a,b,c,Y,Z,Z,l,m,F,n,q]:=h;cases g;cases k;let#[i,r,P,_]:=I.tuple l;let#[d,R,o,_]:=I.tuple m;erw[eq_tupleAt (e:=λj=>oG (c.getD j .non) (Y.getD j .non)) (show s.heap.IsTuple a i.toArray from P) (show s.heap.IsTuple b d.toArray from o) f (λj t w=>uJ r R F n j t w) ?_];let e:((dn$ min i.toArray.size d.toArray.size).all (λj=>oG (c.getD j .non) (Y.getD j .non))&&i.toArray.size==d.toArray.size)=vJ c Y:=by unfold vJ;rw[ON,ON,<- r.length,<- R.length]
 rw[e];rwa[#[.bl _,H,I,Z,q]]
end
end _L
namespace _L
open PySem PySem.Spec PyProof.Rows
section
variable {prog:ψ}{w:bF}{A:bU}{E:η->ι->Prop}{s:ι}
def Y8{Q:Nat->ι->Prop}(H:n≠0)(h:∀i d,i < n->Q i { s with drawn:=d }):π (υ prog w) A (choose a n) Q E s:=by intro Γ p _;show Sem.wp _ Γ (.choose a n .pure) _ _ p s;rw[Sem.wp_choose];rwa[#[H,h _ _$ Nat.mod_lt _$ Nat.pos_of_ne_zero H]]
def Yw{α:Type}:∀(n:Nat) (xs:xD α) (s:ι) {Q:xD α->ι->Prop},ry xs=n->(∀ys d,ys.Perm xs->Q ys { s with drawn:=d })->
  π (υ prog w) A (drawOrder n xs) Q E s:=by
 intro n;induction n with
 |zero=>
  intro xs s Q hl h;cases xs with
  |nil=>unfold drawOrder;rwa[OK$ h [] s.drawn .rfl]
  |cons _ _=>cases hl
 |succ n ih=>
  intro xs s Q hl h;cases xs with
  |nil=>cases hl
  |cons x r=>unfold drawOrder;erw[OF$ Y8 N8 λi d hi=>?_];let hg:(x::r)[i]?=δ ((x::r)[i]'hi):=OG hi;rw[hg];dsimp only;erw[OF$ ih _ _ (by rw[UU hi,hl];rfl) λys d' hp=>OK (h _ d' ?_)];erw[(List.Perm.cons _ hp).trans ?_];rw[Ux];erw[List.perm_middle.symm.trans ?_];rw[RF,T8]
end
def nF:η->ρ
 | .str x _=>x
 |_=>#[(ε [])]
def Qw(t:SetTable)(n:Nat):(t.orStandIn n).led=t.led:=by
 unfold SetTable.orStandIn;split
 .rfl
 .rfl
def Y9(t:SetTable)(e:Array (Int×η))(h:Int)(x:η):(layNew t e h x).2.1.led=t.led:=by
 unfold layNew;split
 .rwa[Qw _ _]
 .rfl
def XB(t:SetTable)(E:Array (Int×η))(n:Nat):(relayAll t E n).2.1.led=t.led:=by
 unfold relayAll;split
 .rename_i T o e
  unfold SetTable.relaid SetTable.laid at e;cases h:SetTable.layClean (SetTable.sizeAbove n - 1) (E.map (·.1)) with
  |none=>rw[h]at e;cases e
  |some O=>rw[h]at e;cases e;dsimp only;split<;>rfl
 .rfl
def Qj(t:SetTable)(E:Array (Int×η))(n:Nat)(H:t.plain=ν):(relayAll t E n).2.1.plain=ν:=by
 unfold relayAll;split
 .rename_i T o e
  unfold SetTable.relaid SetTable.laid at e;cases h:SetTable.layClean (SetTable.sizeAbove n - 1) (E.map (·.1)) with
  |none=>rw[h]at e;cases e
  |some O=>
   rw[h]at e;cases e;dsimp only;split
   .rwa[H]
   .rfl
 .rfl
def dB(p:ψ)(w:bF)(h:de)(a:ζ)(L:xD ρ):Prop:=
 ∃o E b t,h.get? a=δ o/\o.ExactSet/\o.data= .set E b t/\ElemsOf (cJ p w) E.toList/\(E.toList.map λe=>nF e.2).Perm L/\L.Nodup
  /\E.size < scanBound/\t.fits E.size=μ/\t.led=!(w.params.followText "set-order")/\(t.plain=ν\/E.size=0)
def dB.at{H:de}{a:ζ}(x:dB p w h a L)(e:∀o,h.get? a=δ o->H.get? a=δ o):dB p w H a L:=
 let #[o,E,b,t,c,r]:=x;#[o,E,b,t,e o c,r]
section
variable {prog:ψ}{w:bF}{A:bU}{E:η->ι->Prop}{s:ι}
def JV{a:Array (Int×η)}(b:ElemsOf (cJ prog w) a.toList)(x:ρ):
  (a.toList.findIdx? (λe=>(cJ prog w).is x e.2)=θ↔¬x∈a.toList.map λe=>nF e.2):=by
 rw[List.findIdx?_eq_none_iff];constructor
 .intro h m;let#[e,H,f]:=dr.mp m;obtain⟨⟨k,g,_⟩,_⟩:=b e H;let#[t,c]:=Tb g;let q:=h e H;rw[c]at f q;let d:k=x:=f;subst d;let Q:(cJ prog w).is k (.str k t)=μ:=strKind_is prog w k t;rw[Q]at q;cases q
 .intro h e H;cases q:(cJ prog w).is x e.2 with
  |false=>rfl
  |true=>let#[t,c]:=Tb q;rwa[absurd (dr.mpr #[e,H,by rw[c];rfl]) h]
def JW{b:Array (Int×η)}{T:SetTable}(d:s.heap.get? a=δ o)(f:o.ExactSet)(h:o.data= .set p c t)
  (g:ElemsOf (cJ prog w) b.toList) (i:(b.toList.map λe=>nF e.2).Perm L) (j:L.Nodup) (k:b.size < scanBound) (l:T.fits b.size=μ)
  (m:T.led=!(w.params.followText "set-order")) (n:T.plain=ν):
  (s.heap.update a$ mL b T).get? a=δ { o with data:=.set b (c+1) T }/\dB prog w (s.heap.update a$ mL b T) a L:=by
 let H:(s.heap.update a$ mL b T).get? a=δ { o with data:=.set b (c+1) T }:=by let q:=Pq (mL b T) d (by rw[putSet_of b T h];rfl);rwa [putSet_of b T h]at q
 rwa[#[H,_,b,c+1,T,H,f,Z,g,i,j,k,l,m,.inl n]]
def Yx{Q : Bool -> ι -> Prop}(hS : dB prog w s.heap a L)(room : ry L + 1 < scanBound)
    (h : ∀ b R l, fr a s.heap R -> dB prog w R a (if x ∈ L then L else L ++ [x]) -> s.toks <= l -> Q b { s with heap := R, toks := l }) :
    π (υ prog w) A (setAdd a$ .str x f) Q E s := by
  obtain ⟨o, g, ep, t, n, U, u, H, v, B, hb, V, X, Y⟩ := hS;let d : (cJ prog w).is x (.str x f) = μ := strKind_is prog w x f;let C : g.size = ry L := by rw [<- v.length_eq, OJ, Pa]
  unfold setAdd;erw[Pb$ OF ((cJ prog w).pyHash (k := x) d ?_)];unfold setAddHashed setAddHashedIn;refine Pb$ OF$ RD (s := { s with toks := s.toks + 1 }) n u V ?_;dsimp only;rw [byScan_of Z hb H];simp only [↓reduceIte];unfold setAddByScan;erw[OF$ OF$ RQ$ OF$ wpAny_setScan_of (knd := cJ prog w) d n u V H ?_];cases hr : List.findIdx? (λe => (cJ prog w).is x e.2) g.toList with
  | some j =>
    dsimp only;let D : x ∈ L := by erw[Decidable.byContradiction λhn => ?_];let q := (JV (prog := prog) (w := w) H x).mpr λm => hn (v.mem_iff.mp m);rw [q] at hr; cases hr
    let q := h ν s.heap (s.toks + 1) (U3 a s.heap) (by rw [OT D]; rwa[#[o, g, ep, t, n, U, u, H, v, B, hb, V, X, Y]]) (Rk _);rwa[OK$ OK q]
  | none =>
    dsimp only;let D : ¬ x ∈ L :=λm => (JV (prog := prog) (w := w) H x).mp hr (v.mem_iff.mpr m);let W : ∀ (b : Bool) {S : ι} {Q' : Unit -> ι -> Prop}, Q' () S -> π (υ prog w) A (match b with | true => rule "set.scan.the-table-gave-way" | false => pure ()) Q' E S := by
      intro b S Q' hq;cases b
      · rwa[OK hq]
      · rwa[RQ hq]
    let p := layNew_perm t g ((cJ prog w).hash x) (.str x f);let M := layNew_fits t g ((cJ prog w).hash x) (.str x f);let O := Y9 t g ((cJ prog w).hash x) (.str x f);generalize layNew t g ((cJ prog w).hash x) (.str x f) = N at p M O ⊢;obtain ⟨c, t1, w0, g4⟩ := N;dsimp only at p M O ⊢;rw [VL] at p;let F : ElemsOf (cJ prog w) c.toList := (H.push d Z).perm p;let P : (c.toList.map λe => nF e.2).Perm (L ++ [x]) := by erw[(p.map _).trans ?_];rw [O4];rwa[v.append_right _]
    let G : (L ++ [x]).Nodup := List.nodup_append.mpr #[B, by simp,λy hy z hz e => by rw [Uo] at hz; subst hz; subst e; rwa[D hy]];let iZ : c.size = g.size + 1 := by rw [<- Pa, p.length_eq, OL, Pa]; rfl
    let b1 : c.size < scanBound := by rw [iZ, C]; rwa[room]
    erw[OF$ W _ ?_];let i : ∀ T : SetTable, T.fits c.size = μ -> T.led = t.led -> T.plain = ν ->
        π (υ prog w) A (do
          storeSet a c T
          if (!w0 && T.tooFull) = μ then do
              (match (relayAll T c$ SetTable.grown c.size).2.2 with | true => rule "set.scan.the-table-gave-way" | false => pure ())
              storeSet a (relayAll T c$ SetTable.grown c.size).1 (relayAll T c$ SetTable.grown c.size).2.1
              pure (δ μ)
            else pure (δ μ)) (λr s' => r = δ μ /\ Q μ s') E { s with toks := s.toks + 1 } := by
      intro T g1 g2 g3;refine OF$ WB (s := { s with toks := s.toks + 1 }) n u ?_$ TU b1;obtain ⟨o1, S1⟩ := JW (s := s) (prog := prog) (w := w) n U u F P G b1 g1 (g2.trans X) g3;let I := RB s.heap a (mL c T);split
      · have J := relayAll_perm T c (SetTable.grown c.size)
        let f2 := relayAll_fits T c (SetTable.grown c.size);let l2 := XB T c (SetTable.grown c.size);let q2 := Qj T c (SetTable.grown c.size) g3;generalize relayAll T c (SetTable.grown c.size) = Z at J f2 l2 q2 ⊢;obtain ⟨K, t3, g0⟩ := Z;dsimp only at J f2 l2 q2 ⊢;let cj : K.size = c.size := by rw [<- Pa, J.length_eq, Pa]
        let b2 : K.size < scanBound := by rw [cj]; rwa[b1]
        refine OF$ W _$ OF$ WB (s := { s with heap := s.heap.update a (mL c T), toks := s.toks + 1 }) o1 Z ?_$ TU b2;obtain ⟨_, S2⟩ := JW (s := { s with heap := s.heap.update a (mL c T) }) (prog := prog) (w := w) o1 U Z (F.perm J) ((J.map _).trans P) G b2 f2 (l2.trans$ g2.trans X) q2;rwa[OK #[Z, h μ _ _ (I.trans$ RB _ a _) (by rw [OU D]; rwa[S2]) (Rk _)]]
      · rwa[OK #[Z, h μ _ _ I (by rw [OU D]; rwa[S1]) (Rk _)]]
    split
    · rename_i tp
      erw[OF ?_];rw [hashByValue_scannable 8 (x := .str x f) Z];erw[OK ?_];let e0 : plainKind (.str x f) = ν := rfl;rw [e0];simp only [O0, ↓reduceIte];refine P5 (i { t1 with plain := ν } (SetTable.fits_plain_off M) O Z) (λr s' q => ?_) λ_ _ z => z;obtain ⟨rfl, q⟩ := q;rwa[OK q]
    · rename_i tp
      erw[OF$ OK ?_];simp only [↓reduceIte];erw[P5 (i t1 M O (by simpa using tp)) (λr s' q => ?_) λ_ _ z => z];obtain ⟨rfl, q⟩ := q;rwa[OK q]
end
def bM(w:bF):gs:={ cls:=.type "set",dict:=θ,data:=.set (ε []) 0 (.fresh 0 0 (!(w.params.followText "set-order"))) }
section
variable {prog:ψ}{w:bF}{A:bU}{E:η->ι->Prop}{s:ι}
def Yy{h:de}(e:h.get? a=δ (bM w)):dB prog w h a []:=
 #[_,(ε []),0,_,e,#[Z,Z,Z],Z,λ_ z=>by simp at z,N8,Uf,(by decide:(0:Nat) < scanBound),Z,Z,.inr Z]
def Qx(a:η){G:η->ι->Prop}(h:G (.ref s.heap.objs.size) { s with heap:=s.heap.push (bM w) }):
  kw (υ prog w) A (.call (.builtin "set.__new__") #[[.type "set",a],[]]) (wants G E) s:=by
 erw[Vc ?_];show π _ A.in1 (do checkBuiltinCall "set.__new__" _;again (.builtin "set.__new__" _)) _ _ s;erw[OF$ TQ (PySem.F.newCall_set_1 a)$ OK #[RZ U8 _,Rq PySem.F.entry_set_new ?_]];rw[PY U8];unfold dw.«set.__new__» Builtin.Frozenset.newClass;let o:=sub_set_self;let#[H,g,d,t,os]:=s;dsimp only;wp_walk;erw[Sv$ OK ?_];dsimp only;simp only[newObj];rwa[OF$ wpAny_alloc$ OK$ OK h]
end
theorem StrsAre.at':∀{V:xD η} {s:xD ρ},StrsAre V s->∀(i:Nat) (v:η),V[i]?=δ v->∃x t,s[i]?=δ x/\v= .str x t
 |_,_,.nil,i,v,h=>by simp at h
 |_,_,.cons y t r,0,v,h=>by simp at h;rwa[#[y,t,Z,h.symm]]
 |_,_,.cons y t r,i+1,v,h=>by simp only[List.getElem?_cons_succ]at h;let#[x,T,e,E]:=StrsAre.at' r i v h;rwa[#[x,T,by simpa using e,E]]
theorem StrsAre.len:∀{v:xD η} {s:xD ρ},StrsAre v s->ry s=ry v
 |_,_,.nil=>rfl
 |_,_,.cons _ _ r=>by simp [StrsAre.len r]
def ki:Slot "set_iterator" "__next__" "set_iterator.__next__":=by
 erw[.of (owner:="set_iterator") (n:="__next__") ?_ N7 N7 N7 ?_ ?_]
 .rw[Rp,PL];kernel_rfl
 .first |rwa[.inl N7] |rwa[.inr N7]
 .rw[RC];kernel_rfl
def qq:Slot "set_iterator" "__iter__" "set_iterator.__iter__":=by
 erw[.of (owner:="set_iterator") (n:="__iter__") ?_ N7 N7 N7 ?_ ?_]
 .rw[Rp,PL];kernel_rfl
 .first |rwa[.inl N7] |rwa[.inr N7]
 .rw[RC];kernel_rfl
def JN:entryFor table "set_iterator.__next__"=δ dw.«set_iterator.__next__»:=Ud (by kernel_rfl)
def JO:entryFor table "set_iterator.__iter__"=δ dw.«dict_keyiterator.__iter__»:=by erw[Ut (id':="dict_keyiterator.__iter__") ?_ Z N7 ?_]<;>kernel_rfl
def J2:entryFor table "set.__iter__"=δ dw.«frozenset.__iter__»:=by erw[Ut (id':="frozenset.__iter__") ?_ Z N7 ?_]<;>kernel_rfl
def J3(a:η):argsOk "set_iterator.__next__" #[[a],[]]:=by unfold argsOk;kernel_rfl
def J4(a:η):argsOk "set_iterator.__iter__" #[[a],[]]:=by unfold argsOk;kernel_rfl
def cX(h:de)(I:ζ)(f:η)(i:Nat)(S:ζ)(n e:Nat):Prop:=
 ∃o,h.get? I=δ o/\o.cls= .type "set_iterator"/\o.data= .fields (ε [f,.int i 0,.ref S,.int n 0,.int e 0])
def cX.at{H:de}{i:Nat}{S:ζ}(x:cX h I f i S n E)(e:∀o,h.get? I=δ o->H.get? I=δ o):cX H I f i S n E:=
 let #[o,a,r]:=x;#[o,e o a,r]
def cX.is{s:ι}{S:ζ}(x:cX s.heap I f i S n e):s.TypeIs (.ref I) "set_iterator":=let #[o,h,H,_]:=x;#[o,h,H]
section
variable {prog:ψ}{w:bF}{A:bU}{E:η->ι->Prop}{s:ι}
def J6{c:Type}{Q:c->ι->Prop}(d:A.handled=θ)
  (h:∀H e,(∀b o,s.heap.get? b=δ o->H.get? b=δ o)->Shared.TypeIs { s with heap:=H } e "StopIteration"->E e { s with heap:=H }):
  π (υ prog w) A (do raiseNew (<- newExc (.type "StopIteration") []):Sem c) Q E s:=by
 erw[OF ?_];simp only[newExc,newTuple];erw[OF$ Pu ?_ (by size_fits)];erw[OF (m:=firstArgMember _ _)$ TQ (a:=Ω) ?_ ?_]
 .first |rfl | (simp only[firstArgMember];rfl)
 erw[Pu ?_ (by size_fits)];simp only[raiseNew];erw[OF$ wpAny_handled ?_];rw[d];erw[OF$ OK$ wpAny_throw$ h _ _ (λb o e=>OH _ (OH _ e)) ?_];rwa[#[_,OQ _ Z,Z]]
def J7{S:ζ}(H:cX s.heap I f i S n c)
  (h:π (υ prog w) A.in1 (dw.«set_iterator.__next__» #[[.ref I],[]]) (λF a=>∃v,F= .done (.ret v)/\Q (δ v) a) (λe a=>a.TypeIs e "StopIteration"/\Q θ a) s):
  π (υ prog w) A (pyNext$ .ref I) Q E s:=by
 unfold pyNext;erw[OF$ SI$ Pr (name:=Str.ofString "__next__") H.is ki$ Pp ki H.is JN ?_$ J3 _];erw[P5 h (λF a q=>?_) λe a q=>?_]
 .let#[v,e,q]:=q;rwa[#[v,e,OK q]]
 .rwa[OF$ R4 (T:="StopIteration") (b:=μ) q.1 Us$ OK q.2]
def QZ{I:ζ}{f:η}{i:Nat}{S:ζ}{n a:Nat}{o:gs}{v:Array η}(H:s.heap.get? I=δ o)(b:o.cls= .type "set_iterator")(h:o.data= .fields v)(k:Nat)(x:η)
  (e:v.setIfInBounds k x=(ε [f,.int i 0,.ref S,.int n 0,.int a 0])):cX (s.heap.update I$ gb (·.setIfInBounds k x)) I f i S n a:=
 #[_,Pq _ H$ Ra$ Pn h _,(SO ..).trans b,by rw[Pn h,e]]
def Za{I S P:ζ}{i:Nat}{O j:gs}{e:Array (Int×η)}{a:Nat}{t:SetTable}{k:Array η}{c p:Nat}{hx:Int}{x:η}{Q:xL η->ι->Prop}
  (h:cX s.heap I (.ref P) i S e.size a) (l:s.heap.get? S=δ O) (H:O.data= .set e a t) (m:t.fits e.size=μ) (n:s.heap.get? P=δ j) (b:j.data= .seq k c)
  (q:k[i]?=δ (.int p 0)) (r:e[p]?=δ (hx,x)) (u:∀d,cX d I (.ref P) (i+1) S e.size a->fr I s.heap d->Q (δ x) { s with heap:=d }):
  π (υ prog w) A (pyNext$ .ref I) Q E s:=by
 erw[J7 h ?_];let#[o,f,v,g]:=h;show π _ _ (fieldsOf (.ref I) >>= _) _ _ s;erw[OF$ Uq f g ?_];dsimp only;erw[OF$ SE l H m ?_];simp only[Rr,O0,↓reduceIte];erw[OF$ PZ n b ?_];simp only[PQ,q];unfold setNextDrawn;erw[OF$ OF$ RD l H m ?_];simp only[Rr,O0,↓reduceIte,r];erw[OK ?_];erw[OF$ PU f g N8$ OK #[x,Z,u _ ?_$ RB ..]];rwa[QZ f v g _ _ (by simp [rawInt])]
def Qk(q:A.handled=θ){I S P:ζ}{i:Nat}{O l:gs}{d:Array (Int×η)}{m:Nat}{t:SetTable}{p:Array η}{c:Nat}{Q:xL η->ι->Prop}
  (h:cX s.heap I (.ref P) i S d.size m) (r:s.heap.get? S=δ O) (f:O.data= .set d m t) (u:t.fits d.size=μ) (v:s.heap.get? P=δ l) (g:l.data= .seq p c)
  (x:p[i]?=θ) (y:∀H,(∀b o,b≠I->s.heap.get? b=δ o->H.get? b=δ o)->Q θ { s with heap:=H }):
  π (υ prog w) A (pyNext$ .ref I) Q E s:=by
 erw[J7 h ?_];let#[o,j,B,a]:=h;show π _ _ (fieldsOf (.ref I) >>= _) _ _ s;erw[OF$ Uq j a ?_];dsimp only;erw[OF$ SE r f u ?_];simp only[Rr,O0,↓reduceIte];erw[OF$ PZ v g ?_];simp only[PQ,x];erw[OF$ PU j a N8 ?_];erw[OF$ PU (Pq _ j$ Ra$ Pn a _) (Pn a _) N8 ?_];refine J6 (s:={ s with heap:=_ }) (by simpa using q) λH e k T=>#[T,y H λb o n z=>k b o ?_];rwa[(O6 _ _$ Pk n).trans ((O6 _ _$ Pk n).trans z)]
end
section
variable {prog:ψ}{w:bF}{A:bU}{E:η->ι->Prop}{s:ι}
def Q0{I S:ζ}{i j nx:Nat}{O:gs}{e:Array (Int×η)}{a:Nat}{t:SetTable}{x:η}{Q:xL η->ι->Prop}
  (h:cX s.heap I (.int j 0) i S e.size a) (f:s.heap.get? S=δ O) (b:O.data= .set e a t) (k:t.fits e.size=μ)
  (l:∀(q:xL (η×Nat)->ι->Prop) m,q (δ (x,nx)) s->π (υ prog w) A.in1 (setNext S j i a) q m s)
  (n:∀c,cX c I (.int nx 0) (i+1) S e.size a->fr I s.heap c->Q (δ x) { s with heap:=c }):
  π (υ prog w) A (pyNext$ .ref I) Q E s:=by
 erw[J7 h ?_];let#[o,d,p,H]:=h;show π _ _ (fieldsOf (.ref I) >>= _) _ _ s;erw[OF$ Uq d H ?_];dsimp only;erw[OF$ SE f b k ?_];simp only[Rr,O0,↓reduceIte];simp only[PQ];erw[OF$ l _ _ ?_];dsimp only;erw[OF$ PU d H N8 ?_];let g:=Pq (gb (·.setIfInBounds 0 (rawInt nx))) d (Ra$ Pn H _);let D:=Pn H (·.setIfInBounds 0 (rawInt nx));erw[OF$ PU g D N8$ OK #[x,Z,n _ ?_ ((RB ..).trans$ RB ..)]];exact QZ (s:={ s with heap:=_ }) g ((SO ..).trans p) D _ _ (by simp [rawInt])
def qN(l:A.handled=θ){I S:ζ}{i j:Nat}{O:gs}{a:Array (Int×η)}{c:Nat}{t:SetTable}{Q:xL η->ι->Prop}
  (h:cX s.heap I (.int j 0) i S a.size c) (m:s.heap.get? S=δ O) (d:O.data= .set a c t) (n:t.fits a.size=μ)
  (p:∀(q:xL (η×Nat)->ι->Prop) r,q θ s->π (υ prog w) A.in1 (setNext S j i c) q r s)
  (u:∀H,(∀b o,b≠I->s.heap.get? b=δ o->H.get? b=δ o)->Q θ { s with heap:=H }):
  π (υ prog w) A (pyNext$ .ref I) Q E s:=by
 erw[J7 h ?_];let#[o,f,y,g]:=h;show π _ _ (fieldsOf (.ref I) >>= _) _ _ s;erw[OF$ Uq f g ?_];dsimp only;erw[OF$ SE m d n ?_];simp only[Rr,O0,↓reduceIte];simp only[PQ];erw[OF$ p _ _ ?_];dsimp only;erw[OF$ PU f g N8 ?_];refine J6 (s:={ s with heap:=_ }) (by simpa using l) λH e k T=>#[T,u H λb o v x=>k b o ?_];rwa[(O6 _ _$ Pk v).trans x]
def Jw(a:w.params.followText "set-order"=μ){S:ζ}(b:s.heap.get? S=δ o)(H:o.data= .set c d t)
  (f:t.fits c.size=μ) {Q:xL (η×Nat)->ι->Prop} (h:Q (((pickOrder (w.params.setOrder S d) c)[i]?).map λe=>(e.2,j)) s):
  π (υ prog w) A (setNext S j i d) Q E s:=by
 unfold setNext;erw[OF$ RD b H f ?_];dsimp only;unfold setsByText;erw[OF$ OF$ Sv$ OK ?_];dsimp only;rw[show(υ prog w).w.params.followText "set-order"=_ from a];simp only[↓reduceIte,Rr,O0];unfold setWalk;erw[OF$ OF$ RD b H f ?_];dsimp only;unfold setsByText;erw[OF$ OF$ Sv$ OK ?_];dsimp only;rw[show(υ prog w).w.params.followText "set-order"=_ from a];simp only[↓reduceIte];rwa[OF$ Sv$ OK$ OK h]
def JX(a:w.params.followText "set-order"=ν){S:ζ}(b:s.heap.get? S=δ o)(H:o.data= .set e c t)
  (d:t.fits e.size=μ) (f:t.led=μ) (l:e.size<=1) {Q:xL (η×Nat)->ι->Prop}
  (h:Q (match e[SetTable.below t.place j]?,t.place[SetTable.below t.place j]? with |some (_,x),δ k=>δ (x,k+1) |_,_=>θ) s):
  π (υ prog w) A (setNext S j i c) Q E s:=by
 unfold setNext;erw[OF$ RD b H d ?_];dsimp only;unfold setsByText;erw[OF$ OF$ Sv$ OK ?_];dsimp only;rw[show(υ prog w).w.params.followText "set-order"=_ from a];simp only[O0,↓reduceIte];split
 .rename_i z
  let g:(!t.plain&&decide (e.size > 1))=μ:=z;simp only[Rc,decide_eq_true_eq]at g;omega
 .erw[OF ?_];show π _ _ (if (!t.led&&!e.isEmpty)=μ then _ else _) _ _ _;rw[f];simp only[S0,Wu,O0,↓reduceIte];rwa[OK$ OK h]
end
def Yz{a:Type}(f:Nat->Nat):∀(n k:Nat) (l:xD a) (o:Array a),ry l=n->(pickOrder.go f n k l o).toList.Perm (o.toList++l):=by
 intro n;induction n with
 |zero=>intro k l o h;rw[List.length_eq_zero_iff.mp h];unfold pickOrder.go;simp
 |succ n i=>intro k l o h;unfold pickOrder.go;let H:f k % ry l < ry l:=Nat.mod_lt _ N9;rw[OG H];dsimp only;erw[(i _ _ _ (by rw[UU H,h];rfl)).trans ?_];rw[VL,Pt,List.singleton_append];erw[Tx _ ?_];rw[Ux];erw[List.perm_middle.symm.trans ?_];rw[RF,T8]
def ky{a:Type}(f:Nat->Nat)(x:Array a):(pickOrder f x).toList.Perm x.toList:=by let h:=Yz f x.size 0 x.toList (ε []) (Pa ..);simpa [pickOrder] using h
def Jo{a:Type}(x:Array a)(d:a):(dn x.size).map (λp=>(x[p]?).getD d)=x.toList:=by
 erw[UA N8 λi b h=>?_];let H:i < x.size:=by simpa using h
 simp [H]
def oK(ord:xD (Int×η))(i:Nat)(v:η):Prop:=∃e,ord[i]?=δ e/\v=e.2
section
variable {prog:ψ}{w:bF}{A:bU}{E:η->ι->Prop}{s:ι}
def qZ{S:ζ}(H:cX s.heap I f i S n e){Q:η->ι->Prop}(h:Q (.ref I) s):π (υ prog w) A (pyIter$ .ref I) Q E s:=by erw[UL H.is qq$ Pp qq H.is JO ?_$ J4 _];show π _ _ (ret$ .ref I) _ _ s;rwa[OK #[_,Z,"set_iterator",_,H.is,ki.lookup,h]]
def Zb(D:A.handled=θ)(I S P:ζ)(l:S≠I)(m:P≠I){O oP:gs}{y:xD Nat}{c:Nat}(f:O.data= .set d G t)
  (u:t.fits d.size=μ) (g:oP.data= .seq (y.map λ(i:Nat)=>rawInt i).toArray c) (n:y.Perm (dn d.size)):
  WalksS prog w A I [I,S,P] [I] (λa b=>b=a) d.size (oK$ y.map λp=>(d[p]?).getD (0,.none))
   (λi s=>cX s.heap I (.ref P) i S d.size G/\s.heap.get? S=δ O/\s.heap.get? P=δ oP) where
 sub:=λb H=>by simp at H;simp [H]
 grefl:=λ_=>Z
 gtrans:=λ_ _ _ F J=>J.trans F
 frame:=λi s v T st _ k=>#[st.1.at λo e=>k I N8 o e,k S N8 _ st.2.1,k P N8 _ st.2.2]
 item:=λi s Q E K st j=>by
  let B:ry y=d.size:=by rw[n.length_eq,SK]
  let h:i < ry y:=by omega
  let C:y[i] < d.size:=sn.mp (n.mem_iff.mp$ Sm h);erw[Za (p:=y[i]) (hx:=(d[y[i]]).1) (x:=(d[y[i]]).2) st.1 st.2.1 f u st.2.2 g (by simp [h,rawInt]) (by simp [C]) λv q r=>?_];erw[j _ _ #[d[y[i]],by simp [h,C],Z] #[q,?_,?_] #[λb o H e=>?_,Z,Z,Z,OM _]]
  .rw[r.2 S l];rwa[st.2.1]
  .rw[r.2 P m];rwa[st.2.2]
  .rw[r.2 b (λz=>H (by simp [z]))];exact e
 done:=λs Q E st j=>by
  let B:ry y=d.size:=by rw[n.length_eq,SK]
  refine Qk D st.1 st.2.1 f u st.2.2 g (by simp [B]) λv k=>j _ #[λb o H e=>k b o (λz=>H (by simp [z])) e,Z,Z,Z,OM _]
 self:=λ_ _ _ _ st j=>qZ st.1 j
def uL(r:A.handled=θ)(m:w.params.followText "set-order"=μ)(I S:ζ)(l:S≠I){O:gs}(h:O.data= .set c d t)
  (j:t.fits c.size=μ):
  WalksS prog w A I [I,S] [I] (λa b=>b=a) c.size (oK (pickOrder (w.params.setOrder S d) c).toList)
   (λi s=>cX s.heap I (.int (0:Nat) 0) i S c.size d/\s.heap.get? S=δ O) where
 sub:=λb H=>by simp at H;simp [H]
 grefl:=λ_=>Z
 gtrans:=λ_ _ _ u v=>v.trans u
 frame:=λi s n T st _ k=>#[st.1.at λo e=>k I N8 o e,k S N8 _ st.2]
 item:=λi s Q E D st f=>by
  let y:(pickOrder (w.params.setOrder S d) c).size=c.size:=by rw[<- Pa,(ky _ _).length_eq,Pa]
  let g:i < (pickOrder (w.params.setOrder S d) c).size:=by omega
  erw[Q0 (x:=(pickOrder (w.params.setOrder S d) c)[i].2) (nx:=0) st.1 st.2 h j (λB C q=>Jw m st.2 h j (by rw[RO g];rwa[q])) λn q p=>?_];erw[f _ _ #[(pickOrder (w.params.setOrder S d) c)[i],by rw[Ru];rwa[RO g],Z] #[q,?_] #[λb o H e=>?_,Z,Z,Z,OM _]]
  .rw[p.2 S l];rwa[st.2]
  .rw[p.2 b (λz=>H (by simp [z]))];exact e
 done:=λs Q E st f=>by
  let y:(pickOrder (w.params.setOrder S d) c).size=c.size:=by rw[<- Pa,(ky _ _).length_eq,Pa]
  refine qN r st.1 st.2 h j (λB C q=>Jw m st.2 h j (by rw[TM N9];rwa[q])) λn k=>f _ #[λb o H e=>k b o (λz=>H (by simp [z])) e,Z,Z,Z,OM _]
 self:=λ_ _ _ _ st f=>qZ st.1 f
def Zc(p:Nat):SetTable.below (ε [p]) 0=0:=by simp [SetTable.below,SetTable.below.go]
def Zd(p:Nat):SetTable.below (ε [p]) (p+1)=1:=by simp [SetTable.below,SetTable.below.go]
def y7(G:A.handled=θ)(u:w.params.followText "set-order"=ν)(I S:ζ)(n:S≠I){O:gs}(h:O.data= .set c L t)
  (g:t.fits c.size=μ) (v:t.led=μ) (y:c.size<=1):
  WalksS prog w A I [I,S] [I] (λa b=>b=a) c.size (oK c.toList)
   (λi s=>(∃j:Nat,cX s.heap I (.int j 0) i S c.size L/\(i=0->j=0)/\(i=1->∃p,t.place=(ε [p])/\j=p+1))/\s.heap.get? S=δ O) where
 sub:=λb d=>by simp at d;simp [d]
 grefl:=λ_=>Z
 gtrans:=λ_ _ _ K M=>M.trans K
 frame:=λi s B W st _ k=>#[let #[j,a,r]:=st.1;#[j,a.at λo e=>k I N8 o e,r],k S N8 _ st.2]
 item:=λi s Q E X st l=>by
  obtain⟨⟨j,H,J,C⟩,f⟩:=st;let N:i=0:=by omega
  subst N;cases J Z;let D:c.size=1:=by omega
  let P:t.place.size=1:=by simp only[SetTable.fits,Rc,beq_iff_eq]at g;omega
  let#[p,m]:=Array.size_eq_one_iff.mp P;erw[Q0 (x:=(c[0]'N9).2) (nx:=p+1) H f h g (λR T q=>JX u f h g v y (by rw[m,Zc,RO N9];rwa[q])) λB q F=>?_];erw[l _ _ #[c[0]'N9,by rw[Ru];rwa[RO N9],Z] #[#[_,q,λz=>by omega,λ_=>#[p,m,Z]],?_] #[λb o d e=>?_,Z,Z,Z,OM _]]
  .rw[F.2 S n];rwa[f]
  .rw[F.2 b (λz=>d (by simp [z]))];exact e
 done:=λs Q E st l=>by
  obtain⟨⟨j,H,J,C⟩,f⟩:=st;erw[qN G H f h g (λR T q=>JX u f h g v y ?_) λB k=>l _ #[λb o d e=>k b o (λz=>d (by simp [z])) e,Z,Z,Z,OM _]];by_cases z:c.size=0
  .rw[TM (show c.size<=_ by omega)];rwa[q]
  .let D:c.size=1:=by omega
   let#[p,U,V]:=C D;subst V;rw[U,Zd,TM (show c.size<=1 by rwa[N09])];exact q
 self:=λ_ _ _ _ st l=>let #[#[_,a,_],_]:=st;qZ a l
end
def ql{prog:ψ}{w:bF}(h:ElemsOf (cJ prog w) E)(i:Nat)(v:η)(b:oK E i v):∃x t,(E.map λe=>nF e.2)[i]?=δ x/\v= .str x t:=by let#[e,H,Z]:=b;obtain⟨⟨k,c,_⟩,_⟩:=h e (Pd H);let#[t,a]:=Tb c;rwa[#[k,t,by rw[O2,H];show δ (nF e.2)=_;rw[a];rfl,a]]
def D6(p:ψ)(w:bF)(s c:ι)(S I:ζ)(L:xD ρ):Prop:=
 ∃(f:xD ζ) (d:xD ρ) (P:Nat->η->Prop) (St:Nat->ι->Prop),(∀b o,s.heap.get? b=δ o->c.heap.get? b=δ o)/\c.gens=s.gens/\c.os=s.os/\s.toks<=c.toks/\
  s.heap.objs.size<=I/\I < c.heap.objs.size/\c.TypeIs (.ref I) "set_iterator"/\(∀b∈f,b=S\/s.heap.objs.size<=b)/\(∀A:bU,A.handled=θ->WalksS p w A I f [I] (λa b=>b=a) d.length P St)/\St 0 c/\
  (∀i v,P i v->∃x t,d[i]?=δ x/\v= .str x t)/\d.Perm L
section
variable {prog:ψ}{w:bF}{A:bU}{E:η->ι->Prop}{s:ι}
def Ze{S:ζ}(V:dB prog w s.heap S L){Q:η->ι->Prop}(h:∀f I,D6 prog w s f S I L->Q (.ref I) f):π (υ prog w) A (pyIter$ .ref S) Q E s:=by
 let#[o,a,x,t,H,W,m,n,M,X,r,u,Y,N]:=V;let P:s.TypeIs (.ref S) "set":=#[o,H,W.1];let v:S < s.heap.objs.size:=OP H;erw[UL P U7$ Pp U7 P J2 ?_$ PySem.F.args_set_iter_1 _];unfold dw.«frozenset.__iter__»;show π _ _ (Builtin.Frozenset.sizeOf S >>= _) _ _ s;unfold Builtin.Frozenset.sizeOf;erw[OF$ OF$ SE H m u$ OK ?_];unfold setDrawn;erw[OF$ OF$ RD H m u ?_];dsimp only;unfold setsByText;erw[OF$ OF$ Sv$ OK$ OK ?_];split
 .rename_i z
  let B:(!(w.params.followText "set-order")&&(!t.plain&&decide (a.size > 1)))=μ:=z;simp only[Rc,decide_eq_true_eq]at B;erw[OF$ Yw a.size (dn a.size) s N8 λy d G=>?_];let C:ry y=a.size:=by rw[G.length_eq,SK]
  let O:((y.map λ(i:Nat)=>rawInt i).length)<=τ:=by rw[OJ,C];rwa[TU r]
  refine OF$ SV (s:={ s with drawn:=d }) ?_ O;erw[OF ?_];unfold setEpoch;erw[OF$ RD (OH _ H) m u$ OK ?_];erw[OF$ Pu$ OK #[_,Z,"set_iterator",_,#[_,OQ _ Z,Z],ki.lookup,h _ _ ?_]];generalize J:s.heap.push { cls:=.type "tuple",data:=.seq (y.map λ(i:Nat)=>rawInt i).toArray }=g;let R:g.objs.size=s.heap.objs.size+1:=by rw[<- J,PM]
  let gP:g.get? s.heap.objs.size=δ { cls:=.type "tuple",data:=.seq (y.map λ(i:Nat)=>rawInt i).toArray }:=by rw[<- J];rwa[OQ _ Z]
  let gS:g.get? S=δ o:=by rw[<- J];rwa[OH _ H]
  refine#[[g.objs.size,S,s.heap.objs.size],(y.map λp=>(a[p]?).getD (0,.none)).map λe=>nF e.2,oK$ y.map λp=>(a[p]?).getD (0,.none),
   (λi f=>cX f.heap g.objs.size (.ref s.heap.objs.size) i S a.size x/\f.heap.get? S=δ o/\f.heap.get? s.heap.objs.size=δ { cls:=.type "tuple",data:=.seq (y.map λ(i:Nat)=>rawInt i).toArray }),λb o e=>?_,Z,Z,OM _,?_,?_,#[_,OQ _ Z,Z],λb r=>?_,
   λT D=>?_,#[#[_,OQ _ Z,Z,Z],OH _ gS,OH _ gP],?_,?_]
  .rwa[OH _ (by rw[<- J];rwa[OH _ e])]
  .show s.heap.objs.size<=g.objs.size;omega
  .show g.objs.size < (g.push _).objs.size;rw[PM];rwa[Rs _]
  .simp only[RY,Pm,T6]at r;rcases r with e |e |e
   .subst e;rwa[.inr N9]
   .rwa[.inl e]
   .rw[e];rwa[.inr (OM _)]
  .let q:=Zb (prog:=prog) (w:=w) D g.objs.size S s.heap.objs.size (OZ (by rw[R];rwa[RW v])) (OZ (by rw[R];rwa[Rs _])) m u (oP:={ cls:=.type "tuple",data:=.seq (y.map λ(i:Nat)=>rawInt i).toArray }) (c:=0) Z G;simpa [C] using q
  .erw[ql (prog:=prog) (w:=w)$ n.perm ?_];let q:=G.map λp=>(a[p]?).getD ((0:Int),Ω);rwa [Jo]at q
  .let q:=G.map λp=>(a[p]?).getD ((0:Int),Ω);rw[Jo]at q;rwa[(q.map _).trans M]
 .rename_i z
  let B:¬(!(w.params.followText "set-order")&&(!t.plain&&decide (a.size > 1)))=μ:=z;erw[OF$ OK ?_];erw[OF ?_];unfold setEpoch;erw[OF$ RD H m u$ OK ?_];erw[OF$ Pu$ OK #[_,Z,"set_iterator",_,#[_,OQ _ Z,Z],ki.lookup,h _ _ ?_]];let k:∀b∈[s.heap.objs.size,S],b=S\/s.heap.objs.size<=b:=λb r=>by
   simp only[RY,Pm,T6]at r;rcases r with e |e
   .subst e;rwa[.inr (OM _)]
   .rwa[.inl e]
  let l:∀U:gs,s.heap.objs.size < (s.heap.push U).objs.size:=λU=>by rw[PM];rwa[Rs _]
  cases K:w.params.followText "set-order" with
  |true=>
   let pl:(pickOrder (w.params.setOrder S x) a).toList.length=a.size:=by rw[(ky _ _).length_eq,Pa]
   refine#[[s.heap.objs.size,S],(pickOrder (w.params.setOrder S x) a).toList.map λe=>nF e.2,oK (pickOrder (w.params.setOrder S x) a).toList,
    (λi f=>cX f.heap s.heap.objs.size (.int (0:Nat) 0) i S a.size x/\f.heap.get? S=δ o),λb o e=>OH _ e,Z,Z,OM _,OM _,l _,#[_,OQ _ Z,Z],k,
    λT D=>?_,#[#[_,OQ _ Z,Z,Z],OH _ H],?_,?_]
   .let q:=uL (prog:=prog) (w:=w) D K s.heap.objs.size S (OZ v) m u;rw[OJ,pl];rwa[q]
   .rwa[ql (prog:=prog) (w:=w)$ n.perm$ ky _ _]
   .rwa[((ky _ _).map _).trans M]
  |false=>
   let hs:a.size<=1:=by
    rw[K]at B;rcases N with e |e
    .rw[e]at B;simp at B;rwa[B]
    .omega
   refine#[[s.heap.objs.size,S],a.toList.map λe=>nF e.2,oK a.toList,
    (λi f=>(∃j:Nat,cX f.heap s.heap.objs.size (.int j 0) i S a.size x/\(i=0->j=0)/\(i=1->∃p,t.place=(ε [p])/\j=p+1))/\f.heap.get? S=δ o),λb o e=>OH _ e,Z,Z,OM _,OM _,l _,#[_,OQ _ Z,Z],k,
    λT D=>?_,#[#[0,#[_,OQ _ Z,Z,Z],λ_=>Z,λz=>by cases z],OH _ H],?_,?_]
   .let q:=y7 (prog:=prog) (w:=w) D K s.heap.objs.size S (OZ v) m u (by rw[Y,K];rfl) hs;rw[OJ,Pa];rwa[q]
   .rwa[ql (prog:=prog) (w:=w) n]
   .rwa[M]
theorem qO:∀(V:xD η) (S:xD ρ),ry V=ry S->(∀(i:Nat) (v:η),V[i]?=δ v->∃x t,S[i]?=δ x/\v=mT x t)->StrsAre V S
 | [],[],_,_=>.nil
 | [],_::_,h,_ |_::_,[],h,_=>by cases h
 |v::V,y::S,h,k=>by let#[x,t,e,Z]:=k 0 v Z;cases e;rwa[.cons y t$ qO V S (by simpa using h) λi u H=>k (i+1) u (by simpa using H)]
def Qy{S:ζ}(hh:A.handled=θ)(y:dB prog w s.heap S L){Q:xD η->ι->Prop}
  (h:∀a V g,s.heap.objs.size<=a.heap.objs.size->(∀b o,s.heap.get? b=δ o->a.heap.get? b=δ o)->a.gens=s.gens->a.os=s.os->s.toks<=a.toks->StrsAre V g->g.Perm L->Q V a):π (υ prog w) A (collect$ .ref S) Q E s:=by
 let n:ry L < scanBound:=by let#[o,es,ep,t,j,M,hd,h0,u,h1,k,hf,hl,h2]:=y;rw[<- u.length_eq,OJ,Pa];rwa[k]
 unfold collect;erw[OF$ Vm$ Rq Uz ?_];rw[PY Uy];show π _ A.in1 (newList [] >>= λl=>again (.builtin "list.__iadd__" #[[l,.ref S],[]])) _ _ s;erw[OF$ Pu$ OK #[RZ Ss _,Rq UR ?_]];rw[PY Ss];show π _ A.in1 (ge (.ref s.heap.objs.size) (.ref S)$ .ref s.heap.objs.size) _ _ _;unfold ge;let p:S < s.heap.objs.size:=by let#[o,_,_,_,j,_]:=y;rwa[OP j]
 generalize x:s.heap.push { cls:=.type "list",data:=.seq ([]:xD η).toArray }=H;let gl:H.get? s.heap.objs.size=δ { cls:=.type "list",data:=.seq ([]:xD η).toArray }:=by rw[<- x];rwa[OQ _ Z]
 let R:dB prog w H S L:=y.at λo e=>by rw[<- x];rwa[OH _ e]
 let gk:∀b o,s.heap.get? b=δ o->H.get? b=δ o:=λb o e=>by rw[<- x];rwa[OH _ e]
 let T:Shared.TypeIs { s with heap:=H } (.ref S) "set":=by let#[o,_,_,_,j,M,_]:=R;rwa[#[o,j,M.1]]
 erw[OF$ RM T ?_];let n1:ef (.ref s.heap.objs.size) (.ref S)=ν:=by simp only[ef,beq_eq_false_iff_ne];rwa[PV p]
 let n2:(eT "set"==eT "list")=ν:=by decide
 let n3:(eT "set"==eT "tuple")=ν:=by decide
 simp only[n1,n2,n3,U',O0,Rj];refine OF$ Ze (s:={ s with heap:=H }) R λr I B=>?_;let#[fp,g,P,St,K,kg,ko,kt,C,h3,h4,D,W,st,hv,u]:=B;let G:H.objs.size=s.heap.objs.size+1:=by rw[<- x,PM]
 let f:r.TypeIs (.ref S) "set":=by let#[o,j,hc]:=T;rwa[#[o,K _ _ j,hc]]
 erw[OF$ Pb ?_];unfold lq;erw[OF$ RG f PySem.F.slot_set_len.lookup ?_]
 wp_delta
 erw[OF$ R4 (b:=μ) f sub_set_self ?_];show π _ A.in1 (typeOf (Θ S) >>= _) _ _ _;erw[OF$ RM f$ OK ?_];rw[OT Oa];erw[OF$ RQ ?_];let U:=K _ _ gl;erw[OF ?_];show π _ A.in1 (updateSeq s.heap.objs.size (·.push .none) >>= λ_=>updateSeq s.heap.objs.size (·.pop)) _ _ _;erw[OF$ Ui U Z ?_];let X:=Pq (γ (·.push Ω)) U Z;erw[Ui X Z ?_];let g3:=Pq (γ (·.pop)) X Z;let N:¬s.heap.objs.size∈fp:=λm=>by
  rcases D _ m with e |e
  .rwa[absurd p (by rw[<- e];rwa[PX _])]
  .let e':H.objs.size<=s.heap.objs.size:=e;omega
 let O:∀b o,b≠s.heap.objs.size->r.heap.get? b=δ o->((r.heap.update s.heap.objs.size$ γ (·.push Ω)).update s.heap.objs.size$ γ (·.pop)).get? b=δ o:=
  λb o k e=>(O6 _ _$ Pk k).trans ((O6 _ _$ Pk k).trans e)
 let Y:=W A.in1 (by simpa using hh);let hn:ry g<=τ:=by rw[u.length_eq];rwa[TU n]
 erw[OK #[RZ UE _,Wa Y hn _ N _ g.length 0 _ _ _ Z (OS _) (Y.frame 0 r _ r.toks st (OM _) λb k o e=>O b o (λz=>N (z▸k)) e) g3 (Wq P) λa J c m gS d=>?_]];show π _ A (load s.heap.objs.size >>= _) _ _ a;erw[OF$ Wv gS$ OK$ h a J.toList g (RX$ OP gS) (λb o e=>?_) ?_ ?_ ?_ ?_ u]
 .let ne:b≠s.heap.objs.size:=OZ (OP e);erw[m.heap b o ?_$ O b o ne$ K b o$ gk b o e];simp only[RY,Pm,T6,not_or];erw[#[ne,λz=>?_]];let q:s.heap.objs.size+1<=I:=G▸C;let q2:=OP e;rw[z]at q2;rwa[absurd (O3 (RW q2) q)$ PX _]
 .rwa[m.gens.trans kg]
 .rwa[m.os.trans ko]
 .rwa[O1 kt m.toks]
 .erw[qO _ _ (by rw[Pa,d.1]) λi v e=>hv i v (d.2 i v (by rwa [Ru]at e))]
end
section
variable {prog:ψ}{w:bF}{A:bU}{E:η->ι->Prop}{s:ι}
def XC{S:ζ}(z:A.handled=θ)(B:dB prog w s.heap S L)(j:ry L < 64){Q:η->ι->Prop}
  (h:∀f a c v i,s.heap.objs.size<=a->(∀b o,s.heap.get? b=δ o->f.heap.get? b=δ o)->f.gens=s.gens->f.os=s.os->f.heap.get? a=δ (seqObj "list" v c)->StrsAre v.toList i->i.Perm L->sortedS i=μ->Q (.ref a) f):
  π (υ prog w) A (call (.builtin "sorted") [.ref S]) Q E s:=by
 erw[Sn U4 UM UN (UO _) ?_];unfold dw.«sorted»;erw[OF (m:=checkCount "sorted" 1 1 _)$ OK ?_];erw[OF$ Qy (by simpa using z) B λd v i K k C D P H r=>?_];let F:ry v < 64:=by rw[<- _L.StrsAre.len H,r.length_eq];rwa[j]
 erw[OF$ SH ?_ (by let q:τ=1000000000\/64<=τ:=.inr Oa;omega)];let g:=OQ d.heap (o:=seqObj "list" v.toArray 0) Z;erw[OF$ Pb$ Pp Ur #[_,g,Z] Uk (list_sort_treeK strKind_oneLt g H.keysOf (λV t R e=>keyKind_strs (by rw[<- e];rwa[H])) F λl G I=>#[_,Z,?_]) (Uu _)];let#[n,u,J,M]:=sorted_out_str H G I;generalize (arrOf l).map (·.2)=out at u ⊢;let#[c,N]:=sortedHeap_at (out:=out) g;let O:∀b o,s.heap.get? b=δ o->(sortedHeap (d.heap.push$ seqObj "list" v.toArray 0) d.heap.objs.size v out).get? b=δ o:=by
  intro b o e;let x:=k b o e;let y:b < d.heap.objs.size:=OP x;let p:b < (d.heap.push$ seqObj "list" v.toArray 0).objs.size:=by rw[Vr];rwa[RW y]
  rw[sortedHeap_old (OZ y) p];rwa[OH _ x]
 exact OK #[_,Z,h { d with heap:=sortedHeap (d.heap.push$ seqObj "list" v.toArray 0) d.heap.objs.size v out } d.heap.objs.size c out n K O C D N u (J.trans r) M]
end
def Jx(h:StrsAre v s):aG (s.map tz) v:=by
 induction h with
 |nil=>rwa[.nil]
 |cons y t _ i=>rwa[.cons #[t,Z] i]
def Mb(P:ψ)(w:bF)(a:ζ)(L:xD ρ):HO:=.ext λh=>dB P w h a L
section
variable {X:Cx}
def qm(i:X.calm=μ):fu X (.builtin "sorted") (λx H Q=>∃(p:ζ) (L:xD ρ),x=[.ref p]/\H p=δ (Mb X.prog X.w p L)/\ry L < 64/\
  ∀l S,H l=θ->S.Perm L->L.Nodup->sortedS S=μ->Q (.ref l) (af H l$ .lst$ S.map tz)):=by
 intro P s B H x U Q I r h;let#[p,L,Z,j,d,q]:=h;let#[u,Z,R]:=gB r;cases R;let#[f,_,_]:=I.hok p _ j;let b:L.Nodup:=by let#[_,_,_,_,_,_,_,_,_,b,_]:=f;rwa[b]
 erw[XC (I.ok.hd i) f d λm a c v S e k K o t y g A=>?_];let len:(S.map tz).length<=τ:=by rw[OJ,g.length_eq];rwa[O1 (RX d) Oa]
 let n:a6 X.prog X.w (af H a$ .lst$ S.map tz) m.heap a (.lst$ S.map tz):=#[len,v.toList,c,Jx y,t];erw[#[.ref a,_,I.call' (ch:=[]) o (Un.laid k e$ I.hok.fresh e) (I.hok.laid k e n) (by rw[K];rwa[I.bare]) (λ_ z=>nomatch z),Z,q _ _ (I.hok.fresh e) g b A]]
inductive XDr(K:β)(x:xD V)(H:Hp)(Q:VK):Prop|mk(p:ζ)(a:xD ρ)(_:x=[.ref p])(_:aK K H p (a.map tz))(_:ry a < 64)(_:∀l S,H l=θ->S.Perm a->sortedS S=μ->Q (.ref l) (af H l$ .lst$ S.map tz))
def XD:fu X (.builtin "sorted") (XDr X.K):=by
 intro P s v H x U Q I r h;let#[p,a,Z,f,b,q]:=h;let#[u,Z,R]:=gB r;cases R;let#[i,g,j,y]:=I.list f;let d:=qj g;let k:ry i=ry a:=(_L.StrsAre.len d).symm;erw[sorted_strs j.isList d (by rw[k];rwa[b]) λo S m A n=>?_];let#[c,t]:=sortedAll_at s.heap i o;let len:(S.map tz).length<=τ:=by rw[OJ,A.length_eq];rwa[O1 (RX b) Oa]
 erw[#[.ref$ s.heap.objs.size+1,_,I.laid (t':=s.toks) (λ_ _ e=>sortedAll_old e) (Rk _) (show a6 X.prog X.w _ _ _ (.lst$ S.map tz) from #[len,o.toList,c,Jx m,t]),Z,q _ _ (I.hok.fresh$ Rk _) A n]]
end
def ZR:mroOf (.type "reversed")=pure [.type "reversed",.type "object"]:=by rw[mroOf_type];kernel_rfl
def Ql:typeLookup (.type "reversed") "__new__"=pure (δ$ .builtin "reversed.__new__"):=by rw[Rp,PL];kernel_rfl
def Qz:Slot "reversed" "__init__" "object.__init__":=by
 erw[.of (owner:="object") (n:="__init__") ?_ N7 N7 N7 ?_ ?_]
 .rw[Rp,PL];kernel_rfl
 .first |rwa[.inl N7] |rwa[.inr N7]
 .rw[RC];kernel_rfl
def Zf:TypeCalled "reversed" "reversed.__new__" "object.__init__":=by erw[#[N7,N7,#[_,_,ZR],madeBy_type ZR Ql N7,N7,?_,Qz]];rw[RC];kernel_rfl
def XE(a:η):checkTypeCall "reversed" #[[a],[]]=pure ():=by kernel_rfl
def YA(a:η):checkBuiltinCall "reversed.__new__" #[[.type "reversed",a],[]]=pure ():=by kernel_rfl
def QA:entryFor table "reversed.__new__"=δ dw.«reversed.__new__»:=Ud (by kernel_rfl)
def CO:isSubtype (.type "reversed") (.type "reversed")=pure μ:=by rw[RC];kernel_rfl
def XF:typeLookup (.type "tuple") "__reversed__"=pure θ:=by rw[Rp,PL];kernel_rfl
def Qm:isSubtype (.type "tuple") (.type "dict")=pure ν:=by rw[RC];kernel_rfl
def revObj(t:ζ)(n:Int):gs:={ cls:=.type "reversed",data:=.fields (ε [.ref t,.int (n - 1) 0]) }
section
variable {prog:ψ}{w:bF}{A:bU}{E:η->ι->Prop}{s:ι}
def vh{Q:η->ι->Prop}(H:IsTup s.heap t i)(c:(i.size:Int) < 2 ^ 63)
  (h:Q (.ref s.heap.objs.size) { s with heap:=s.heap.push (revObj t i.size),toks:=s.toks+1+1 }):π (υ prog w) A (call (.type "reversed") [.ref t]) Q E s:=by
 refine VS (S:=λ_ R a=>a=s/\R (.ok$ .ret$ .ref s.heap.objs.size) { s with heap:=s.heap.push (revObj t i.size),toks:=s.toks+1+1 }) Zf Oa (XE _) (YA _) (λo=>Tc o _) QA
  (.of_wp λp W f R a d=>?_) #[Z,#[_,OQ _ Z,Z],h]
 let#[Z,e]:=d;unfold dw.«reversed.__new__» Builtin.SmallTypes.newClass;erw[OF ?_];dsimp only;erw[OF$ OK ?_];simp only[S0,O0,Rj];erw[OF$ TQ CO ?_];simp only[S0,O0,Rj];erw[OK ?_];erw[OF (m:=Builtin.SmallTypes.refuseKeywords _ _ _)$ OK ?_];erw[OF (m:=checkCount "reversed" 1 1 _)$ OK ?_];dsimp only;erw[OF$ RG H.typeIs XF ?_];dsimp only;erw[OF ?_];show π _ _ (isInstance (.ref t) (.type "dict") >>= _) _ _ _;erw[OF$ R4 (b:=ν) H.typeIs Qm ?_];simp only[O0,Rj];erw[OF$ RG H.typeIs PyProof.Rows.slot_tuple_getitem.lookup ?_];dsimp only;rw[OT N7];erw[OK ?_];simp only[S0,O0,Rj];erw[OF$ len_tuple H c ?_];erw[OF (m:=asInt? _)$ OK ?_];dsimp only;show π _ _ (newObj (.type "reversed") (.fields [Θ t,rawInt ((i.size:Int) - 1)].toArray) >>= _) _ _ _;rwa[OF$ Pu$ OK #[_,Z,e]]
end
def zX:Slot "reversed" "__next__" "reversed.__next__":=by
 erw[.of (owner:="reversed") (n:="__next__") ?_ N7 N7 N7 ?_ ?_]
 .rw[Rp,PL];kernel_rfl
 .first |rwa[.inl N7] |rwa[.inr N7]
 .rw[RC];kernel_rfl
def qP:Slot "reversed" "__iter__" "reversed.__iter__":=by
 erw[.of (owner:="reversed") (n:="__iter__") ?_ N7 N7 N7 ?_ ?_]
 .rw[Rp,PL];kernel_rfl
 .first |rwa[.inl N7] |rwa[.inr N7]
 .rw[RC];kernel_rfl
def Qn:entryFor table "reversed.__next__"=δ dw.«reversed.__next__»:=Ud (by kernel_rfl)
def Qo:entryFor table "reversed.__iter__"=δ dw.«dict_keyiterator.__iter__»:=by erw[Ut (id':="dict_keyiterator.__iter__") ?_ Z N7 ?_]<;>kernel_rfl
def QB(a:η):argsOk "reversed.__next__" #[[a],[]]:=by unfold argsOk;kernel_rfl
def QC(a:η):argsOk "reversed.__iter__" #[[a],[]]:=by unfold argsOk;kernel_rfl
def eM(h:de)(I t:ζ)(k:Int):Prop:=∃o,h.get? I=δ o/\o.cls= .type "reversed"/\o.data= .fields (ε [.ref t,.int k 0])
def eM.at{H:de}(x:eM h I t k)(e:∀o,h.get? I=δ o->H.get? I=δ o):eM H I t k:=let #[o,a,r]:=x;#[o,e o a,r]
def eM.is{s:ι}(x:eM s.heap I t k):s.TypeIs (.ref I) "reversed":=let #[o,h,H,_]:=x;#[o,h,H]
section
variable {prog:ψ}{w:bF}{A:bU}{E:η->ι->Prop}{s:ι}
def X0(H:eM s.heap I t k)
  (h:π (υ prog w) A.in1 (dw.«reversed.__next__» #[[.ref I],[]]) (λf S=>∃v,f= .done (.ret v)/\Q (δ v) S) (λe S=>S.TypeIs e "StopIteration"/\Q θ S) s):
  π (υ prog w) A (pyNext$ .ref I) Q E s:=by
 unfold pyNext;erw[OF$ SI$ Pr (name:=Str.ofString "__next__") H.is zX$ Pp zX H.is Qn ?_$ QB _];erw[P5 h (λf S q=>?_) λe S q=>?_]
 .let#[v,e,q]:=q;rwa[#[v,e,OK q]]
 .rwa[OF$ R4 (T:="StopIteration") (b:=μ) q.1 Us$ OK q.2]
def IK{I t:ζ}{k:Nat}{items:Array η}{x:η}{Q:xL η->ι->Prop}(H:eM s.heap I t k)(c:IsTup s.heap t items)(d:items[k]?=δ x)(e:(items.size:Int) < 2 ^ 63)
  (f:∀b,eM b I t ((k:Int) - 1)->fr I s.heap b->Q (δ x) { s with heap:=b,toks:=s.toks+1 }):π (υ prog w) A (pyNext$ .ref I) Q E s:=by
 erw[X0 H ?_];let#[o,a,g,h]:=H;let i:k < items.size:=(ab.mp d).1;show π _ _ (field (.ref I) 0 >>= _) _ _ s;erw[OF$ Pg a h (x:=.ref t) Z$ OF$ Pg a h (x:=.int k 0) Z ?_];dsimp only;rw[OU N9];erw[OF$ RG c.typeIs PyProof.Rows.slot_tuple_getitem.lookup ?_];simp only[Vv,O0,Rj];erw[OF$ wpAny_mkInt$ OF$ SI ?_];refine getItem_tuple (s:={ s with toks:=s.toks+1 }) c N9 N9 (j:=k) ?_ d ?_
 .unfold seqIndex?;simp;omega
 refine OF$ Pg (s:={ s with toks:=s.toks+1 }) a h (x:=.int k 0) Z ?_;dsimp only;erw[OF$ PU a h N8$ OK #[x,Z,f _ ?_$ RB ..]];rwa[#[_,Pq _ a$ Ra$ Pn h _,(SO ..).trans g,by rw[Pn h];simp [rawInt]]]
def tN(f:A.handled=θ){Q:xL η->ι->Prop}(h:eM s.heap I t (-1))
  (g:∀a,(∀b o,b≠I->s.heap.get? b=δ o->a.get? b=δ o)->Q θ { s with heap:=a }):π (υ prog w) A (pyNext$ .ref I) Q E s:=by
 erw[X0 h ?_];let#[o,c,j,H]:=h;show π _ _ (field (.ref I) 0 >>= _) _ _ s;erw[OF$ Pg c H (x:=.ref t) Z$ OF$ Pg c H (x:=.int (-1) 0) Z ?_];dsimp only;rw[OT Oa];erw[OF$ RQ$ OF ?_];show π _ _ (setField (.ref I) 1 (rawInt (-1)) >>= λ_=>setField (.ref I) 0 .none) _ _ _;erw[OF$ PU c H N8 ?_];erw[PU (Pq _ c$ Ra$ Pn H _) (Pn H _) N8 ?_];erw[OF ?_];refine J6 (s:={ s with heap:=_ }) (by simpa using f) λa e k T=>#[T,g a λb o d i=>k b o ?_];rwa[(O6 _ _$ Pk d).trans ((O6 _ _$ Pk d).trans i)]
def Dy(H:eM s.heap I t k){Q:η->ι->Prop}(h:Q (.ref I) s):π (υ prog w) A (pyIter$ .ref I) Q E s:=by erw[UL H.is qP$ Pp qP H.is Qo ?_$ QC _];show π _ _ (ret$ .ref I) _ _ s;rwa[OK #[_,Z,"reversed",_,H.is,zX.lookup,h]]
end
def JY:entryFor table "dict.update.loop"=δ dw.«dict.update.loop»:=Ud (by kernel_rfl)
def zT:plainId "dict.update.loop"=μ:=by decide+kernel
section
variable {X:Cx}{o lo hi:dg}{to tl th:TE}{pos p2:Pos}
inductive IC(v:V)(h:St)(Q:St->Hp->Prop)(e a c:V)(d:Hp):Prop
 |mk(l b f g i j:_)(_:e= .ref l)(_:v= .ref b)(_:a= .int i)(_:c= .int j)(_:d l=δ (.lst f))(_:d b=δ (.lst g))(_:l≠b)(_:0<=i)(_:i<=j)(_:j<=(f.length:Int))(_:ry f+ry g<=τ)(_:Q h (af d l (.lst (f.take i.toNat++g++f.drop j.toNat))))
def NH(to tl th:TE):TG:=λv b H Q=>to b H λO h=>tl b h λa c=>th b c (IC v b Q O a)
def xz(n:PE X o to)(t:PE X lo tl)(w:PE X hi th)
  (A:∀v,assign (.Subscript o (.Slice (δ lo) (δ hi) θ p2) pos) X.env v=(do
   let O <- ly [v] (eval o X.env)
   let c <- ly [v,O] (eval (.Slice (δ lo) (δ hi) θ p2) X.env)
   standAt pos
   ly [v,O,c] (setItem O c v)
   release [c,v,O] []):=by intro _;rfl):PG X (.Subscript o (.Slice (δ lo) (δ hi) θ p2) pos) (NH to tl th):=by
 intro p s a H v u Q I r h;rw[A];erw[OF$ Pb$ a8 (n p s a H _ I h) λO B d=>?_];let#[x,C,D,R,E]:=d;erw[OF$ Pb ?_];erw[wpAny_Slice$ a8 (t p B a C _ D E) λV F #[y,G,J,K,L]=>a8 (w p F a G _ J L) λm S f=>?_];let#[z,M,N,P,l,b,xs,ys,i,j,T,U,W,Y,h1,h2,g,h0,k,hj,hz,q]:=f;subst T U W Y;cases (show O=Θ l from R);cases (show u=Θ b from r);erw[OK ?_];let I4:au X p a M { S with heap:=S.heap.push { cls:=.type "slice",data:=.fields (ε [V,m,.none]) } }:=N.kept (t':=S.toks) λb o e=>OH _ e;erw[OF$ Sj$ OF$ Pb ?_];rwa[uH I4 h1 h2 g (UJ S.heap V m .none) K P h0 k hj hz λs5 I5=>wpAny_release #[a,_,I5,q]]
end
end _L
namespace _L
open PySem PySem.Spec PyProof.Rows Builtin Builtin.Str
section
variable {prog:ψ}{w:bF}{A:bU}{E:η->ι->Prop}{s:ι}
def JA{lo:xL Int}{Q:η->ι->Prop}(H:IsTup s.heap t i)(d:s.heap.IsSliceOf e v j .none)(p:IsPart v lo)(P:IsPart j f)
  (g:HT.sIx i.size 0 lo=0/\HT.sIx i.size i.size f=i.size) (h:Q (.ref t) s):π (υ prog w) A (getItem (.ref t)$ .ref e) Q E s:=by
 let#[os,a,b,k]:=id d;let c:s.TypeIs (.ref e) "slice":=#[os,a,b];unfold getItem;try with_reducible refine Pb ?_
 first |erw[OF (OK ?_)] |skip
 erw[OF$ UK H.typeIs Oa ?_];refine OF (Pr (name:=Str.ofString "__getitem__") H.typeIs RN
  (Pp RN H.typeIs PyProof.Rows.entry_tuple_getitem ?_$ PyProof.Rows.args_tuple_getitem _ _))
 show π _ _ (pq (.ref t) >>= _) _ _ s;erw[OF$ PyProof.Rows.tupleItemsOf_ H ?_];erw[OF$ RM c ?_];rw[OT Oa];erw[OF$ HT.sliceApplied_gen d p P ?_];show π _ _ (if (((HT.sIx i.size 0 lo:Nat):Int)==0&&(1:Int)==1&&(HT.sIx i.size i.size f - HT.sIx i.size 0 lo)==i.size)=μ then _ else _) _ _ s;rw[g.1,g.2,OT N8];unfold Builtin.Tuple.tupleIsExact;erw[OF$ OF$ RM H.typeIs$ OK ?_];rw[OT Oa];first
  |rwa[RQ (OK #[_,Z,OK h])]
  |rwa[OF (RQ (OK #[_,Z,OK h]))]
  |rwa[OF (OK (OK #[_,Z,OK h]))]
end
section
variable {X:Cx}
inductive xK(x y:V)(H:Hp)(Q:VK):Prop
 |mk(a b c d:_)(_:x= .ref a)(_:y= .ref b)(_:H a=δ (.tup c))(_:H b=δ (.tup d))(_:ry c+ry d<=τ)(_:∀r H',H' r=δ (.tup (c++d))->aa H H'->Q (.ref r) H')
def jU:fQ X (binaryOp .Add) xK:=by
 intro P s G H x y v u Q I r R h;let#[a,b,m,Y,Z,Z,d,f,J,q]:=h;let t:=aC.of (K:=X.K) d;let w:=aC.of (K:=X.K) f;by_cases z:m=[]
 .subst z;cases r;cases R;let#[l,L,M,_]:=I.tuple t;let#[i,r2,N,_]:=I.tuple w;let O:l=[]:=L.nil_iff.mpr Z;subst O;obtain⟨⟨T,U,A,V⟩,B,C,n,E⟩:=id M;obtain⟨⟨F,D,data2,S⟩,g,j,W,k⟩:=id N;simp only at C E j k;subst C E j k;exact VQ #[_,B,Z] #[_,g,Z] UX VA Tv To (Tn _ _)
   (tuple_addW0 a b ([]:xD η).toArray i.toArray n W U D V S Z) #[B,g,.ref b,H,I,Z,q b H f$ aa.refl H]
 .erw[BJ P s G H _ _ v u Q I r R #[a,b,m,Y,Z,Z,t,w,z,J,λe=>?_,λ_ p np=>?_]]
  .subst e;rwa[q a H (by rw[Pj];rwa[d])$ aa.refl H]
  .rwa[q p _ jc λc o e=>by rw[jh$ jk e np];rwa[e]]
inductive Ge(x:V)(c b:xL Int)(H:Hp)(Q:VK):Prop
 |mk(a d:_)(_:x= .ref a)(_:H a=δ (.tup d))(_:∀r H',H' r=δ (.tup (aT d c b))->aa H H'->Q (.ref r) H')
def j9:Ma X Ge:=by
 intro P s u H x v V w lo j S Q I R k l m h;let#[a,b,Z,d,q]:=h;let n:=aC.of (K:=X.K) d;by_cases g:HT.sIx b.length 0 lo=0/\HT.sIx b.length b.length j=ry b
 .cases R;let#[i,r,t,y]:=I.tuple n;let f:i.toArray.size=ry b:=by rw[ON];rwa[r.length.symm]
  erw[#["tuple",_,PyProof.Rows.slot_tuple_getitem.lookup,t.typeIs,?_]];erw[JA t k l m (by rw[f];rwa[g]) #[.ref a,H,I,Z,q a H ?_$ aa.refl H]];rw[d];unfold aT;rw[g.1,g.2,Ug,Ti,Py]
 .rwa[GL P s u H _ v V w lo j S Q I R k l m #[a,b,Z,n,g,λp N=>q p _ jc λc o e=>by rw[jh$ jk e N];rwa[e]]]
end
end _L
namespace _L
open PySem PySem.Spec PyProof.Rows
def De{G:Bool->Hp->Prop}(y:G μ H)(n:b=ν->G b H):G b H:=by
 cases b
 .rwa[n Z]
 .rwa[y]
def aW{A:Prop}(h:∀G:Prop,(A->G)->G):A:=h A λz=>z
section
variable {t u:TS}{D:bp}{σ:St}{H:Hp}
def gY(h:∀E:bp,(∀a b,u D a b->E.nx a b)->t E σ H):eQ t u D σ H:=h { D with nx:=u D } λ_ _ h=>h
def ai(h:∀F:St->Hp->Prop,(∀a b,u D a b->F a b)->t { D with nx:=F } σ H):eQ t u D σ H:=h _ λ_ _ h=>h
def pU{c:TT}(h:∀F:Bool->Hp->Prop,(∀b a,(if b=μ then t D σ a else u D σ a)->F b a)->c σ H F):iR c t u D σ H:=h _ λ_ _ x=>x
def oW{c:TT}(h:∀F:Bool->Hp->Prop,(∀a,t D σ a->F μ a)->(∀a,u D σ a->F ν a)->c σ H F):iR c t u D σ H:=by
 erw[h _ (λa x=>?_) λa x=>?_]
 .show if μ=μ then _ else _;rw[OT Z];rwa[x]
 .show if ν=μ then _ else _;rw[OU Oa];rwa[x]
def eN(R:St->Hp->Prop)(c:∀E:bp,E.rt=D.rt->(∀a b,R a b->E.nx a b)->t E σ H)(d:∀a b,R a b->D.nx a b):LM t D σ H:=#[R,c { D with nx:=R } Z λ_ _ h=>h,d]
def pI{c:TT}{T:TS}(W:Nat->St->Hp->Prop)(d:Nat)(e:W d σ H)
  (f:∀m σ H,∀E:bp,E.rt=D.rt->(∀M a b,M < m->W M a b->E.nx a b)->∀F:Bool->Hp->Prop,(∀b,T E σ b->F μ b)->(∀b,D.nx σ b->F ν b)->∀G:Prop,(c σ H F->G)->W m σ H->G):yS c T D σ H:=by
 erw[#[W,#[d,e],λm σ H w=>?_]];refine f m σ H { D with nx:=λa b=>∃M,M < m/\W M a b,ct:=λa b=>∃M,M < m/\W M a b,bk:=D.nx } Z (λM a b l g=>#[M,l,g]) _ (λb x=>?_) (λb x=>?_) _ (λz=>z) w
 .show if μ=μ then _ else _;rw[OT Z];rwa[#[_,λ_ _ h=>h,x]]
 .show if ν=μ then _ else _;rw[OU Oa];rwa[x]
def sH(J:It)(g:TG)(T:TS)(D:bp)(σ:St)(H:Hp):Prop:=∃W:Nat->Nat->St->Hp->Prop,(∃m,W 0 m σ H)/\∀i m σ H,W i m σ H->
 (J.stop i H/\D.nx σ H)\/(J.go i H/\∃N:St->Hp->Prop,(∀a h,N a h->∃M,M < m/\W (i+1) M a h)/\∀x h,J.yld i H x h->g x σ h λb c=>T { D with nx:=N,ct:=N,bk:=D.nx } b c)
def eX{w:TI}(h:∀F:It->Hp->Prop,(∀J a,sH J g T D σ a->F J a)->w σ H F):GZ w g T D σ H:=h _ λ_ _ z=>z
def NV{g:TG}{Q:St->Hp->Prop}(h:∀F:St->Hp->Prop,(∀a b,Q a b->F a b)->g x σ H F):g x σ H Q:=h _ λ_ _ z=>z
def zc{lo:Int}{g:TG}{T:TS}{D:bp}{σ:St}{H:Hp}(Pv:Nat->St->Hp->Prop)(d:Pv 0 σ H)
  (e:∀E:bp,E.rt=D.rt->∀i σ H,i < n->(∀a c,Pv (i+1) a c->E.nx a c)->∀G:Prop,((g (.int$ lo+i) σ H λb f=>T E b f)->G)->Pv i σ H->G) (j:∀σ H,Pv n σ H->D.nx σ H):sH (uV lo n) g T D σ H:=
 QO Pv d (λi σ H k p=>e { D with nx:=Pv (i+1),ct:=Pv (i+1),bk:=D.nx } Z i σ H k (λ_ _ h=>h) _ (λz=>z) p) j
def JL{K:β}{a:ζ}{xs:xD V}{g:TG}{T:TS}{D:bp}{σ:St}{H:Hp}(Pv:Nat->St->Hp->Prop)(e:Pv 0 σ H)(f:∀i σ H,i<=ry xs->Pv i σ H->aK K H a xs)
  (j:∀E:bp,E.rt=D.rt->∀i x σ H,xs[i]?=δ x->(∀b d,Pv (i+1) b d->E.nx b d)->∀G:Prop,((g x σ H λc k=>T E c k)->G)->Pv i σ H->G) (l:∀σ H,Pv xs.length σ H->D.nx σ H):sH (Ae K a) g T D σ H:=
 vQ Pv e f (λi x σ H m p=>j { D with nx:=Pv (i+1),ct:=Pv (i+1),bk:=D.nx } Z i x σ H m (λ_ _ h=>h) _ (λz=>z) p) l
def Jp{K:β}{a:ζ}{xs:xD V}{g:TG}{T:TS}{D:bp}{σ:St}{H:Hp}(Pv:Nat->St->Hp->Prop)(e:Pv 0 σ H)(f:∀i σ H,i<=ry xs->Pv i σ H->aC K H a xs)
  (j:∀E:bp,E.rt=D.rt->∀i x σ H,xs[i]?=δ x->(∀b d,Pv (i+1) b d->E.nx b d)->∀G:Prop,((g x σ H λc k=>T E c k)->G)->Pv i σ H->G) (l:∀σ H,Pv xs.length σ H->D.nx σ H):sH (Ap K a) g T D σ H:=
 AV Pv e f (λi x σ H m p=>j { D with nx:=Pv (i+1),ct:=Pv (i+1),bk:=D.nx } Z i x σ H m (λ_ _ h=>h) _ (λz=>z) p) l
end
end _L
namespace _L
open PySem PySem.Spec PyProof.Rows PySem.SeqAt
section
variable {prog:ψ}{w:bF}{A:bU}{E:η->ι->Prop}{s:ι}
def Zg{P:Fin->ι->Prop}(H:s.heap.get? a=δ (seqObj "list" [v].toArray n))
  (h:P (.done$ .ret .none) { s with heap:=sortedHeap s.heap a [v] (ε [v]) }):π (υ prog w) A (dw.«list.sort» #[[.ref a],[]]) P E s:=by
 rw[Va];erw[OF$ VP H Z ?_];erw[OF$ Tf H Z ?_];obtain⟨e,b⟩:∃e,(s.heap.update a$ γ λ_=>(ε [])).get? a=δ (seqObj "list" (ε []) e):=#[_,Vb H (λ_=>(ε []))];erw[OF$ TR b Z ?_];erw[OF$ SV ?_];erw[OF$ SH ?_];erw[Pb ?_];let g:(((s.heap.update a$ γ λ_=>(ε [])).push$ seqObj "tuple" [v].toArray 0).push$ seqObj "list" (ε []) 0).get? a=δ (seqObj "list" (ε []) e):=OH _ (OH _ b);show π (υ prog w) A _ P E { s with heap:=((s.heap.update a$ γ λ_=>(ε [])).push$ seqObj "tuple" [v].toArray 0).push (seqObj "list" (ε []) 0) };dsimp only;let S:[v].toArray.size < 2:=by show 1 < 2;decide
 rw[OT S,OT S];erw[OF$ OK ?_];rw[VT];erw[OF$ OK ?_];dsimp only;erw[OF$ TR g Z ?_];let c:(arrOf$ SortSt.mk' general' ([v].toArray.zip [v].toArray) (ε []) 7 θ).map (·.2)=(ε [v]):=by show([v].toArray.zip [v].toArray).map (·.2)=(ε [v]);simp
 rw[c];erw[OF$ Tf g Z ?_ (hsz2:=by show 1<=τ+1;omega)];simp only[Rr,O0,Rj];rwa[OK h]
def CG{Q:η->ι->Prop}(H:s.heap.IsList l [v].toArray)
  (h:Q (.ref$ s.heap.objs.size+1) { s with heap:=sortedAll s.heap [v] (ε [v]) }):π (υ prog w) A (call (.builtin "sorted") [.ref l]) Q E s:=by
 erw[Sn U4 UM UN (UO _) ?_];unfold dw.«sorted»;erw[OF (m:=checkCount "sorted" 1 1 _)$ OK ?_];erw[OF$ VR H ?_];erw[OF$ SH ?_];let z:((s.heap.push$ seqObj "list" (ε []) 0).update s.heap.objs.size$ γ (·++[v].toArray)).objs.size=s.heap.objs.size+1:=by rw[UB,Vr]
 let g:(((s.heap.push$ seqObj "list" (ε []) 0).update s.heap.objs.size$ γ (·++[v].toArray)).push$ seqObj "list" [v].toArray 0).get? (s.heap.objs.size+1)=δ (seqObj "list" [v].toArray 0):=by rw[<- z];rwa[OQ _ Z]
 show π _ _ _ _ _ { s with heap:=((s.heap.push$ seqObj "list" (ε []) 0).update s.heap.objs.size$ γ (·++[v].toArray)).push (seqObj "list" [v].toArray 0) };rw[z];erw[OF$ Pb$ Pp Ur #[_,g,Z] Uk (Zg g #[_,Z,?_]) (Uu _)];rwa[OK #[_,Z,h]]
end
inductive Tr where
 |lf (v:V) |tp (l:Tr) |nil |cons (h t:Tr)
def Tr.dep:Tr->Nat
 | .lf _=>0
 | .tp l=>l.dep+1
 | .nil=>0
 | .cons h t=>max h.dep t.dep
def Tr.isL:Tr->Bool
 | .nil | .cons _ _=>μ
 |_=>ν
def NN:V->Bool
 | .byt _ | .flt _=>ν
 |_=>μ
end _L
namespace _L
open PySem PySem.Spec PyProof.Rows
def Mq(K:β)(a:ζ)(n:Nat):It:=
 #[λi H=>∃X x,aC K H a X/\ry X=n/\X.reverse[i]?=δ x,λi H x h=>h=H/\∀X,aC K H a X->X.reverse[i]?=δ x,λi H=>∃X,aC K H a X/\ry X=n/\i=n]
def yW{P:ψ}{K:β}(a f:ζ)(n:Nat):oQ P w K tg (Mq K a n) [f] f (λi h=>eM h f a ((n:Int) - 1 - i)) where
 mem:=by simp
 obj:=λi h st b j=>by
  let e:b=f:=by simpa using j
  subst e;let#[o,e,c,d]:=st;exact#[o,e,λv z=>by rw[d]at z;cases z]
 keep:=λi h q st k=>st.at λo e=>k f N8 o e
 item:=by
  intro X y A B O i g s Q H E I t st C;subst y A B;let#[l,x,D,T,m]:=C;let#[r,R,p,hz]:=I.tuple D;let hl:=R.length;let U:=gj;let V:i < ry l:=by
   rcases TY i l.length with z |z
   .rwa[z]
   .rw[PJ (by simpa using z)]at m;cases m
  let F:l[ry l - 1 - i]?=δ x:=by rw[SR V]at m;rwa[m]
  let#[u,W,Y]:=R.get F;let#[G,J,f2,L,M,N]:=t f N8;let e:((n:Int) - 1 - i)=((ry l - 1 - i:Nat):Int):=by rwa[N09]
  rw[e]at st;erw[IK (items:=r.toArray) st (show IsTup s.heap a r.toArray from p) (x:=u) (by simpa using W) (by simp only[ON];omega) λq S sb=>?_];let I1:au X g Q H { s with heap:=q,toks:=s.toks+1 }:=I.turned (t':=s.toks+1) (λb o j e=>(sb.2 b j).trans e) G J L M N;let#[o,e',c,d]:=id S;refine#[u,Z,Zx (s:={ s with heap:=q,toks:=s.toks+1 }) e' c d Oa #[x,H,I1,Y,#[Z,λys hy=>by rw[I.tuple_inj hy D];rwa[m]],?_,λb j=>(t b j).1]];let e2:((n:Int) - 1 - ((i+1:Nat):Int))=((ry l - 1 - i:Nat):Int) - 1:=by omega
  show eM q f a ((n:Int) - 1 - ((i+1:Nat):Int));rw[e2];exact S
 done:=by
  intro X y A B O i g s Q H E I t st C;subst y A B;let#[l,D,T,m]:=C;let#[G,J,f2,L,M,N]:=t f N8;let e:((n:Int) - 1 - (i:Int))= -1:=by omega
  rw[e]at st;exact tN (I.ok.hd O) st λq eb=>#[Z,I.turned (t':=s.toks) (λb o j e=>eb b o j e) G J L M N]
 self:=λ_ _ _ _ _ st h=>Dy st h
section
variable {X:Cx}{tg:dg}
inductive Dw(K:β)(R:It->Hp->Prop)(x:V)(b:Hp):Prop
 |mk(a c:_)(_:x= .ref a)(_:aC K b a c)(_:R (Mq K a c.length) b)
def MM(K:β)(t:TE):TI:=λa H R=>t a H (Dw K R)
def xA{e:dg}{t:TE}{c:ρ}{p P:Pos}(j:Gl X c)(k:X.mg c=θ)(l:bootBuiltins c=δ (.type "reversed"))(y:PE X e t)(m:↥(c≠"__name__"))(n:↥((c==("__debug__":ρ))=ν))
  (r:↥(Δ [e] X.env=(ν,eval e X.env)::Δ [] X.env)) (A:↥((fx P$ Δ [] X.env).any (·.1)=ν)):PI X tg (.Call (.Name c p) [e] [] P) (MM X.K t):=by
 intro d s B H R I h;erw[P6$ zU I j k l ?_ m n];erw[Px ?_ r A];rw[r];show π _ _ (spliced ((ν,eval e X.env)::fx P (Δ [] X.env))) _ _ s;erw[RJ$ a8 (y d s B H _ I h) λu S z=>?_];let#[x,C,g,D,a,v,E,F,q]:=z;subst E;cases (show u=Θ a from D);let#[i,G,J,N]:=g.tuple F;let f:=G.length;let L:=gj;erw[Sd$ vh (show IsTup S.heap a i.toArray from J) (by simp only[ON];omega) ?_];let w:eM (S.heap.push$ revObj a i.toArray.size) S.heap.objs.size a ((v.length:Int) - 1 - ((0:Nat):Int)):=#[_,OQ _ Z,Z,by rw[ON,<- f];simp [revObj]];refine Dy (s:={ S with heap:=S.heap.push (revObj a i.toArray.size),toks:=S.toks+1+1 }) w ?_;erw[#[S.heap.objs.size,[S.heap.objs.size],_,_,C,Z,g.kept (t':=S.toks+1+1) λb o e=>OH _ e,yW a _ v.length,w,λb M=>?_,q]];let e:b=S.heap.objs.size:=by simpa using M
 subst e;rwa[g.fpOk (OM _)$ g.hok.fresh$ OM _]
end
def X1{K:β}{xs:xD V}{g:TG}{t:TS}{D:bp}(Pv:Nat->St->Hp->Prop)(k:Pv 0 b H)(l:∀i b H,i<=ry xs->Pv i b H->aC K H a xs)
  (n:∀E:bp,E.rt=D.rt->∀i x b H,xs.reverse[i]?=δ x->(∀c f,Pv (i+1) c f->E.nx c f)->∀G:Prop,((g x b H λj o=>t E j o)->G)->Pv i b H->G) (r:∀b H,Pv xs.length b H->D.nx b H):sH (Mq K a xs.length) g t D b H:=by
 erw[#[λi m b H=>m=ry xs - i/\i<=ry xs/\Pv i b H,#[xs.length,N8,OS _,k],?_]];rintro i m b H ⟨rfl,s,p⟩;let q:=l i b H s p;by_cases d:i < ry xs
 .erw[.inr #[#[xs,_,q,Z,OG (by simpa using d)],Pv$ i+1,λc f P=>#[ry xs - (i+1),N09,Z,d,P],λx f y=>?_]];let#[e,y]:=y;subst e;exact n { D with nx:=Pv (i+1),ct:=Pv (i+1),bk:=D.nx } Z i x b _ (y xs q) (λ_ _ h=>h) _ (λz=>z) p
 .let e:i=ry xs:=by omega
  subst e;rwa[.inl #[#[xs,q,Z,Z],r b H p]]
def yB:Slot "list_reverseiterator" "__length_hint__" "list_reverseiterator.__length_hint__":=by erw[Slot.of (owner:="list_reverseiterator") (n:="__length_hint__") (by rw[Rp,PL];kernel_rfl) N7 N7 N7 ?_ (by rw[RC];kernel_rfl)];first |rwa[.inl N7] |rwa[.inr N7]
def tP:typeLookup (.type "list_reverseiterator") "__len__"=pure θ:=by rw[Rp,PL];kernel_rfl
def GU:isSubtype (.type "list_reverseiterator") (.type "list_reverseiterator")=pure μ:=by rw[RC];kernel_rfl
section
variable {prog:ψ}{w:bF}{A:bU}{E:η->ι->Prop}{s:ι}
def Ex(H:s.heap.IsRevIter I t k){Q:Bool->ι->Prop}(h:Q ν s):π (υ prog w) A (lq$ .ref I) Q E s:=by
 unfold lq;erw[OF$ RG H.typeIs tP ?_];show π _ A (specialOf (Θ I) (Str.ofString "__length_hint__") >>= _) _ _ _;erw[OF$ RG H.typeIs yB.lookup ?_];let e:splitId "list_reverseiterator.__length_hint__"=δ ("list_reverseiterator","__length_hint__"):=by decide+kernel
 dsimp only;rw[e];dsimp only;erw[OF$ R4 (b:=μ) H.typeIs GU ?_];simp only[S0,O0,Rj];rw[OT N7,OU N7];rwa[OK h]
def sM{a:Array η}{Q:xD η->ι->Prop}(z:A.handled=θ)(f:s.heap.IsRevIter I t ((a.size:Int) - 1))(r:s.heap.IsList t a)(B:t≠I)(C:a.size<=τ)
  (D:∀S,(∀b o,b≠I->s.heap.get? b=δ o->S.heap.get? b=δ o)->s.heap.objs.size<=S.heap.objs.size->S.gens=s.gens->S.os=s.os->Q a.toList.reverse S):π (υ prog w) A (collect$ .ref I) Q E s:=by
 let j:I < s.heap.objs.size:=by let#[o,k,_]:=f;rwa[OP k]
 let n:t < s.heap.objs.size:=by let#[o,k,_]:=r;rwa[OP k]
 let u:I≠s.heap.objs.size:=OZ j;let F:t≠s.heap.objs.size:=OZ n;unfold collect;refine OF (Vm (Rq Uz (by
  rw[PY Uy _];show π _ A.in1 (newList [] >>= λl=>again (.builtin "list.__iadd__" #[[l,.ref I],[]])) _ _ s;erw[OF$ Pu$ OK #[RZ Ss _,Rq UR ?_]];rw[PY Ss _];generalize v:s.heap.push { cls:=.type "list",data:=.seq ([]:xD η).toArray }=H;let J:H.get? s.heap.objs.size=δ { cls:=.type "list",data:=.seq (ε []) }:=by rw[<- v];rwa[OQ _ Z]
  let G:∀b o,s.heap.get? b=δ o->H.get? b=δ o:=λb o e=>by rw[<- v];rwa[OH _ e]
  let h:H.IsRevIter I t ((a.size:Int) - 1):=f.at λo e=>G I o e;let p:H.IsList t a:=r.at λo e=>G t o e;show π _ A.in1 (ge (.ref s.heap.objs.size) (.ref I)$ .ref s.heap.objs.size) _ _ { s with heap:=H };unfold ge;refine OF$ RM (s:={ s with heap:=H }) h.typeIs ?_;let K:ef (.ref s.heap.objs.size) (.ref I)=ν:=by simp only[ef,beq_eq_false_iff_ne];rwa[Pk u]
  let L:(eT "list_reverseiterator"==eT "list")=ν:=by decide
  let M:(eT "list_reverseiterator"==eT "tuple")=ν:=by decide
  simp only[K,L,M,U',O0,Rj];refine OF$ wpAny_pyIter_revIter (s:={ s with heap:=H }) h$ OF$ Pb$ Ex (s:={ s with heap:=H }) h ?_;let N:¬s.heap.objs.size∈[I,t]:=by simp only[RY,Pm,T6,not_or];rwa[#[Pk u,Pk F]]
  rw[OU N7];erw[OK #[RZ UE _,?_]];let W:=(Walks.listRev (prog:=prog) (w:=w) (A:=A.in1) (by simpa using z) I t B a).toS;erw[Wa W C _ N _ a.size 0 _ (ε []) _ Z (OS _) #[OS _,by simpa using h,p] J (Wq _) λS d U m x c=>?_];let O:d=a.toList.reverse.toArray:=by
   apply Array.ext';erw[VU λi=>?_];by_cases y:i < a.size
   .let g:i < d.size:=by rw[c.1];rwa[y]
    let q:=c.2 i d[i] (by simp [g]);rw[Ru,RO g,<- q];show a[a.size - 1 - i]?=a.toList.reverse[i]?;rw[SR (by simpa using y)];simp
   .rw[PJ (by rw[Pa,c.1];omega),PJ (by simp;omega)]
  subst O;show π _ A (load s.heap.objs.size >>= _) _ _ S;erw[OF$ Wv x$ OK ?_];let P:a.toList.reverse.toArray.toList=a.toList.reverse:=by simp
  rw[P];erw[D S (λb o R e=>?_) ?_ m.gens m.os]
  .let T:b≠s.heap.objs.size:=OZ (OP e);rwa[m.heap b o (by simp only[RY,Pm,T6,not_or];rwa[#[T,R]])$ G b o e]
  .rwa[RX$ OP x])))
end
section
variable {prog:ψ}{w:bF}{A:bU}{E:η->ι->Prop}{s:ι}
def XG{i:Array η}{Q:η->ι->Prop}(f:A.handled=θ)(H:s.heap.IsRevIter I t ((i.size:Int) - 1))(g:s.heap.IsList t i)(j:t≠I)(d:i.size<=τ)
  (h:∀S:ι,(∀b o,b≠I->s.heap.get? b=δ o->S.heap.get? b=δ o)->s.heap.objs.size<=S.heap.objs.size->S.gens=s.gens->S.os=s.os->
   Q (.ref S.heap.objs.size) { S with heap:=S.heap.push { cls:=.type "tuple",data:=.seq i.toList.reverse.toArray } }):
  kw (υ prog w) A (.call (.builtin "tuple.__new__") #[[.type "tuple",.ref I],[]]) (wants Q E) s:=by
 erw[Vc (show π _ A.in1 (do checkBuiltinCall "tuple.__new__" #[[.type "tuple",.ref I],[]];again (.builtin "tuple.__new__" #[[.type "tuple",.ref I],[]])) _ _ s from ?_)];refine OF (TQ (PySem.F.newCall_tuple_1 _) (OK #[RZ UQ _,Rq PySem.F.entry_tuple_new (by
  rw[PY UQ _];let e:=sub_tuple_self;let a:=init_tuple_lookup;let l:=madeHere_tuple;let c:=H.typeIs;wp_walk using RM c,sM (by simpa using f) H g j d;intro S k z m n;show π _ _ (dO i.toList.reverse.toArray >>= λv=>ret v) _ _ _;unfold dO;rwa[OF$ Pu (OK$ h S k z m n) (by show i.toList.reverse.toArray.size<=τ;simpa using d)])]))
def XH{items:Array η}{Q:η->ι->Prop}(d:A.handled=θ)(c:s.heap.IsRevIter I t ((items.size:Int) - 1))(e:s.heap.IsList t items)(f:t≠I)(g:items.size<=τ)
  (h:∀a:ι,(∀b o,b≠I->s.heap.get? b=δ o->a.heap.get? b=δ o)->s.heap.objs.size<=a.heap.objs.size->a.gens=s.gens->a.os=s.os->
   Q (.ref a.heap.objs.size) { a with heap:=a.heap.push { cls:=.type "tuple",data:=.seq items.toList.reverse.toArray } }):π (υ prog w) A (call (.type "tuple") [.ref I]) Q E s:=by
 erw[callType_codes (Q₁:=λO S=>S.TypeIs O "tuple"/\Q O S) nz (PySem.F.typeCall_tuple_1 _) PySem.F.entry_object_init (XG (by simpa using d) c e f g λa k z i j=>#[#[_,OQ _ Z,Z],h a k z i j]) λO S H=>?_];rwa[#[H.1,Tc O _,object_init_meets nz.init.lookup nz.made Oa prog w A.in1 _ S #[H.1,Z,H.2]]]
end
section
variable {X:Cx}{e:dg}{te:TE}{xl xr:ρ}{p p2 pos pos2:Pos}
inductive oC(K:β)(Q:VK)(x:V)(b:Hp):Prop
 |mk(a c:_)(_:x= .ref a)(_:aK K b a c)(_:∀l,b l=θ->Q (.ref l) (af b l (.tup c.reverse)))
def CS(K:β)(te:TE):TE:=λa H Q=>te a H (oC K Q)
def uk(M:X.calm=μ)(g:Gl X xl)(j:X.mg xl=θ)(l:bootBuiltins xl=δ (.type "tuple"))(m:Gl X xr)(n:X.mg xr=θ)(r:bootBuiltins xr=δ (.type "reversed"))(O:PE X e te)
  (t:↥(xl≠"__name__")) (v:↥((xl==("__debug__":ρ))=ν)) (y:↥(xr≠"__name__")) (A:↥((xr==("__debug__":ρ))=ν))
  (E:↥(Δ [.Call (.Name xr p2) [e] [] pos2] X.env=(ν,eval (.Call (.Name xr p2) [e] [] pos2) X.env)::Δ [] X.env)) (T:↥((fx pos$ Δ [] X.env).any (·.1)=ν))
  (F:↥(Δ [e] X.env=(ν,eval e X.env)::Δ [] X.env)) (U:↥((fx pos2$ Δ [] X.env).any (·.1)=ν)):
  PE X (.Call (.Name xl p) [.Call (.Name xr p2) [e] [] pos2] [] pos) (CS X.K te):=by
 intro P s V H Q I h;erw[P6$ zU I g j l ?_ t v];erw[Px ?_ E T];rw[E];show π _ _ (spliced ((ν,eval (.Call (.Name xr p2) [e] [] pos2) X.env)::fx pos (Δ [] X.env))) _ _ s;erw[RJ ?_];erw[P6$ zU I m n r ?_ y A];erw[Px ?_ F U];rw[F];show π _ _ (spliced ((ν,eval e X.env)::fx pos2 (Δ [] X.env))) _ _ s;erw[RJ$ a8 (O P s V H _ I h) λu d B=>?_];let#[x,W,f,Y,a,G,ex,hq,q]:=B;subst ex;cases (show u=Θ a from Y);let#[i,R,C,hz]:=f.list hq;let J:=R.length;erw[Sd$ call_reversed_list C.isList$ Sd ?_];let D:a < d.heap.objs.size:=by let#[o,ho,_]:=C.isList;rwa[OP ho]
 refine XH (s:={ d with heap:=d.heap.push (PySem.revObj a ((i.toArray.size:Int) - 1)) }) (items:=i.toArray) (I.ok.hd M) #[_,OQ _ Z,Z,Z] (C.isList.at λo e=>OH _ e) (OZ D)
  (by simp only[ON];omega) λS k hl kg ko=>?_
 let c:d.heap.objs.size<=S.heap.objs.size:=O1 (by show _<=(d.heap.push _).objs.size;rw[PM];rwa[Rk _]) hl;let L:∀b o,d.heap.get? b=δ o->(S.heap.push { cls:=.type "tuple",data:=.seq i.toArray.toList.reverse.toArray }).get? b=δ o:=λb o e=>OH _ (k b o (OZ$ OP e)$ OH _ e);let hg:(S.heap.push { cls:=.type "tuple",data:=.seq i.toArray.toList.reverse.toArray }).get? S.heap.objs.size=δ { cls:=.type "tuple",data:=.seq i.toArray.toList.reverse.toArray }:=OQ _ Z;let N:a6 X.prog X.w (af W S.heap.objs.size$ .tup G.reverse) (S.heap.push { cls:=.type "tuple",data:=.seq i.toArray.toList.reverse.toArray }) S.heap.objs.size (.tup G.reverse):=by
  erw[#[by rw[VD];rwa[hz],i.reverse,aG.reverse R,?_]];let ee:i.toArray.toList.reverse.toArray=i.reverse.toArray:=by simp
  rw[<- ee];rwa[#[_,hg,Z,_,Z]]
 rwa[#[.ref S.heap.objs.size,_,f.call' (ch:=[]) ko (Un.laid L c$ f.hok.fresh c) (f.hok.laid L c N) (by show AllBare S.gens;rw[kg];rwa[f.bare]) (λ_ z=>nomatch z),Z,q _$ f.hok.fresh c]]
end
section
variable {prog:ψ}{w:bF}{A:bU}{E:η->ι->Prop}{s:ι}
def K9{x:η}{Q:η->ι->Prop}(a:s.heap.IsTupleIter J T i)(e:s.heap.IsTuple T I)(f:I[i]?=δ x)
  (q:∀b,b.IsTupleIter J T (i+1)->fr J s.heap b->Q x { s with heap:=b }):π (υ prog w) A (Φ$ .ref J) Q E s:=by
 let#[o,H,g,h]:=id a;let#[O,c,_,n,d]:=e;unfold Φ;erw[OF$ Pr (name:=Str.ofString "__next__") a.typeIs P9$ Pp P9 a.typeIs Sx (show π _ _ (field (.ref J) 0 >>= _) _ _ s from ?_)$ Sr _];erw[OF$ Pg H h (x:=.ref T) Z (show π _ _ (if (Θ T==Ω)=μ then _ else _) _ _ s from ?_)];rw[OU (show ¬((Θ T==Ω)=μ) from OX)];erw[(show π _ _ (field (.ref J) 1 >>= _) _ _ s from OF$ Pg H h (x:=.int i 0) Z (show π _ _ (seqItems? (.ref T) >>= _) _ _ s from OF$ PZ c d ?_))];simp only[PQ,f];erw[OF$ PU H h N8$ OK #[x,Z,OK$ q _ #[_,Pq _ H$ Ra$ Pn h _,(SO ..).trans g,by rw[Pn h];simp [rawInt]] (RB ..)]]
def tO(g:A.handled=θ)(H:s.heap.IsTupleIter J T i)(j:s.heap.IsTuple T I)(l:I[i]?=θ)
  (q:∀h e,nI J s.heap h->Shared.TypeIs { s with heap:=h } e "StopIteration"->E e { s with heap:=h }):π (υ prog w) A (Φ$ .ref J) Q E s:=by
 let#[o,a,p,c]:=id H;let#[O,d,_,N,f]:=j;unfold Φ;erw[OF$ Pr (name:=Str.ofString "__next__") H.typeIs P9$ Pp P9 H.typeIs Sx (show π _ _ (field (.ref J) 0 >>= _) _ _ s from ?_)$ Sr _];erw[OF$ Pg a c (x:=.ref T) Z (show π _ _ (if (Θ T==Ω)=μ then _ else _) _ _ s from ?_)];rw[OU (show ¬((Θ T==Ω)=μ) from OX)];erw[(show π _ _ (field (.ref J) 1 >>= _) _ _ s from OF$ Pg a c (x:=.int i 0) Z (show π _ _ (seqItems? (.ref T) >>= _) _ _ s from OF$ PZ d f ?_))];simp only[PQ,l];erw[OF$ RQ$ OF$ PU a c N8 ?_];erw[J6 (by simpa using g) λh e k t=>q h e (λb o m n=>k b o ?_) t];rwa[(O6 _ _$ Pk m).trans n]
end
def iU(b:Bool)(h:de)(i l:ζ)(k:Nat):Prop:=match b with
 |true=>h.IsListIter i l k
 |false=>h.IsTupleIter i l k
def l7(b:Bool)(h:de)(l:ζ)(x:Array η):Prop:=match b with
 |true=>h.IsList l x
 |false=>h.IsTuple l x
def ie:Bool->String
 |true=>"list_iterator"
 |false=>"tuple_iterator"
def iU.kp{b:Bool}{H:de}(x:iU b h i l k)(e:∀o,h.get? i=δ o->H.get? i=δ o):iU b H i l k:=by
 cases b
 .rwa[Ws x e]
 .let#[o,a,r]:=x;rwa[#[o,e o a,r]]
def l7.kp{b:Bool}{H:de}(x:l7 b h l a)(e:∀o,h.get? l=δ o->H.get? l=δ o):l7 b H l a:=by
 cases b
 .let#[o,c,r]:=x;rwa[#[o,e o c,r]]
 .rwa[Heap.IsList.at x e]
def iU.ob(x:iU b h i l k):∃o,h.get? i=δ o/\o.cls= .type (ie b)/\∀v,o.data≠ .cell v:=by
 cases b
 .let#[o,H,c,d]:=x;rwa[#[o,H,c,λv z=>by rw[d]at z;cases z]]
 .let#[o,H,c,d]:=x;rwa[#[o,H,c,λv z=>by rw[d]at z;cases z]]
section
variable {prog:ψ}{w:bF}{A:bU}{E:η->ι->Prop}{s:ι}
def qk{Q:η->ι->Prop}(H:iU b s.heap J T i)(a:l7 b s.heap T I)(c:I[i]?=δ x)
  (q:∀h,iU b h J T (i+1)->fr J s.heap h->Q x { s with heap:=h }):π (υ prog w) A (Φ$ .ref J) Q E s:=by
 cases b
 .rwa[K9 H a c q]
 .rwa[wpAny_nextOf_list_item H a c q]
def Q1(H:A.handled=θ)(a:iU b s.heap J T i)(c:l7 b s.heap T I)(d:I[i]?=θ)
  (q:∀h e,nI J s.heap h->Shared.TypeIs { s with heap:=h } e "StopIteration"->E e { s with heap:=h }):π (υ prog w) A (Φ$ .ref J) Q E s:=by
 cases b
 .rwa[tO H a c d q]
 .rwa[wpAny_nextOf_list_end H a c d λh e k #[o,f,g]=>q h (.ref e) k #[o,f,g]]
def DA{Q:η->ι->Prop}(h:l7 b s.heap T i)
  (q:Q (.ref s.heap.objs.size) { s with heap:=s.heap.push { cls:=.type (ie b),data:=.fields (ε [.ref T,.int 0 0]) } }):π (υ prog w) A (pyIter$ .ref T) Q E s:=by
 cases b
 .rwa[SN h q]
 .rwa[TN h q]
structure Aw(z u v c d a b:ζ):Prop where
 uz:u≠z
 vz:v≠z
 cz:c≠z
 dz:d≠z
 uv:u≠v
 uc:u≠c
 ud:u≠d
 vc:v≠c
 vd:v≠d
 cd:c≠d
 az:a≠z
 av:a≠v
 ac:a≠c
 ad:a≠d
 bz:b≠z
 bv:b≠v
 bc:b≠c
 bd:b≠d
def C1{Q:xL η->ι->Prop}(D:Aw z u v c d a b)
  (H:IsZip s.heap z u v .none) (hu:IsPair s.heap u (.ref c) (.ref d)) (hv:IsPair s.heap v p q) (h1:iU B s.heap c a k) (h2:iU C s.heap d b k) (g1:l7 B s.heap a xs) (g2:l7 C s.heap b ys) (hx:xs[k]?=δ x) (hy:ys[k]?=δ y)
  (hQ:∀h,IsZip h z u v (rawInt s.heap.objs.size)->IsPair h v x y->iU B h c a (k+1)->iU C h d b (k+1)->IsPair h s.heap.objs.size x y->h.objs.size=s.heap.objs.size+1->
   (∀e o,e≠z->e≠v->e≠c->e≠d->s.heap.get? e=δ o->h.get? e=δ o)->Q (δ$ .ref s.heap.objs.size) { s with heap:=h }):π (υ prog w) A (pyNext$ .ref z) Q E s:=by
 let W:s.TypeIs (.ref z) "zip":=#[_,H,Z];unfold pyNext;erw[OF$ SI$ Pr (name:=Str.ofString "__next__") W Rg$ Pp Rg W SG (show π _ _ (field (.ref z) 2 >>= _) _ _ _ from ?_)$ Su _];erw[OF$ Pg H Z (x:=.bool ν) Z (show π _ _ (field (.ref z) 3 >>= _) _ _ _ from OF$ Pg H Z (x:=.ref u) Z$ OF$ PZ hu Z ?_)];erw[(show π _ _ (bx (.ref z) >>= _) _ _ _ from OF ?_)];unfold bx;erw[OF$ Pg H Z (x:=.none) Z$ OK ?_];simp only[Tg];erw[OF$ RQ$ OF$ Pg H Z (x:=.ref v) Z$ OF$ Se H N8 λX F S=>?_];replace F:IsZip X z u v .ellipsis:=F;erw[OF ?_];simp only[V2,We,Sa,Tj];erw[OF$ OF$ Vy (show π _ _ (Φ (.ref c) >>= _) _ _ _ from ?_)];refine OF$ qk (s:={ s with heap:=X }) (h1.kp λo e=>S.extBut _ _ D.cz e) (g1.kp λo e=>S.extBut _ _ D.az e) hx λG i2 l=>OK ?_;let Y:IsPair G v p q:=l.extBut _ _ D.vc (S.extBut _ _ D.vz hv);refine OF$ PZ (s:={ s with heap:=G }) Y Z$ OF$ V6 (s:={ s with heap:=G }) Y λI J r=>?_;replace J:IsPair I v x q:=J;erw[OF$ V8$ OK$ OF$ OF$ Vy (show π _ _ (Φ (.ref d) >>= _) _ _ _ from ?_)];let K:∀e o,e≠z->e≠c->e≠v->s.heap.get? e=δ o->I.get? e=δ o:=λe o N f g w=>r.extBut _ _ g (l.extBut _ _ f$ S.extBut _ _ N w);refine OF$ qk (s:={ s with heap:=I }) (h2.kp λo e=>K _ _ D.dz D.cd.symm D.vd.symm e) (g2.kp λo e=>K _ _ D.bz D.bc D.bv e) hy λL i4 i=>OK ?_;let v4:IsPair L v x q:=i.extBut _ _ D.vd J;refine OF$ PZ (s:={ s with heap:=L }) v4 Z$ OF$ V6 (s:={ s with heap:=L }) v4 λm V j=>?_;replace V:IsPair m v x y:=V;refine OF$ V8$ OK$ OK$ OF$ PZ (s:={ s with heap:=m }) V Z$ OF$ SV ?_;let e5:m.objs.size=s.heap.objs.size:=by rw[j.1,i.1,r.1,l.1,S.1]
 let k5:∀e o,e≠z->e≠v->e≠c->e≠d->s.heap.get? e=δ o->m.get? e=δ o:=λe o N f g O w=>j.extBut _ _ f (i.extBut _ _ O$ K e o N g f w);let z5:IsZip m z u v .ellipsis:=j.extBut _ _ D.vz.symm (i.extBut _ _ D.dz.symm$ r.extBut _ _ D.vz.symm$ l.extBut _ _ D.cz.symm F);let j1:iU B m c a (k+1):=i2.kp λo e=>j.extBut _ _ D.vc.symm (i.extBut _ _ D.cd$ r.extBut _ _ D.vc.symm e);let j2:iU C m d b (k+1):=i4.kp λo e=>j.extBut _ _ D.vd.symm e;let lz:z < m.objs.size:=OP z5;erw[(show π _ _ (mI (.ref z) (.ref m.objs.size) >>= _) _ _ _ from OF ?_)];unfold mI;let z6:IsZip (m.push { cls:=.type "tuple",data:=.seq (ε [x,y]) }) z u v .ellipsis:=OH _ z5;erw[OF$ Se z6 N8 λm7 P R=>?_];replace P:IsZip m7 z u v (rawInt m.objs.size):=P;erw[Se P N8 λM t T=>?_];replace t:IsZip M z u v (rawInt m.objs.size):=t;let U:∀e o,e≠z->m.get? e=δ o->M.get? e=δ o:=λe o n w=>T.extBut _ _ n (R.extBut _ _ n$ OH _ w);let t8:IsPair M m.objs.size x y:=T.extBut _ _ (PV lz) (R.extBut _ _ (PV lz)$ OQ _ Z);let e8:M.objs.size=m.objs.size+1:=by rw[T.1,R.1,PM]
 rw[e5]at t t8 e8;erw[OK #[_,Z,OK ?_]];show Q (δ$ .ref m.objs.size) _;rw[e5];rwa[hQ M t (U _ _ D.vz V) (j1.kp λo e=>U _ o D.cz e) (j2.kp λo e=>U _ o D.dz e) t8 e8 λe o N f g O w=>U e o N (k5 e o N f g O w)]
def Hi{b2:Bool}{ys:Array η}{p q:η}{Q:xL η->ι->Prop}(C:A.handled=θ)(D:Aw z u v c d a b)
  (h:IsZip s.heap z u v .none) (F:IsPair s.heap u (.ref c) (.ref d)) (G:iU I s.heap c a k) (J:l7 I s.heap a L) (K:L[k]?=θ)
  (O:∀H,(∀e o,e≠z->e≠v->e≠c->e≠d->s.heap.get? e=δ o->H.get? e=δ o)->Q θ { s with heap:=H }):π (υ prog w) A (pyNext$ .ref z) Q E s:=by
 let g:s.TypeIs (.ref z) "zip":=#[_,h,Z];unfold pyNext;erw[OF$ SI$ Pr (name:=Str.ofString "__next__") g Rg$ Pp Rg g SG (show π _ _ (field (.ref z) 2 >>= _) _ _ _ from ?_)$ Su _];erw[OF$ Pg h Z (x:=.bool ν) Z (show π _ _ (field (.ref z) 3 >>= _) _ _ _ from OF$ Pg h Z (x:=.ref u) Z$ OF$ PZ F Z ?_)];erw[(show π _ _ (bx (.ref z) >>= _) _ _ _ from OF ?_)];unfold bx;erw[OF$ Pg h Z (x:=.none) Z$ OK ?_];simp only[Tg];erw[OF$ RQ$ OF$ Pg h Z (x:=.ref v) Z$ OF$ Se h N8 λm f S=>?_];replace f:IsZip m z u v .ellipsis:=f;erw[OF ?_];simp only[V2,We,Sa,Tj];erw[OF$ OF$ Vy (show π _ _ (Φ (.ref c) >>= _) _ _ _ from ?_)];refine OF$ Q1 (s:={ s with heap:=m }) (by simpa using C) (G.kp λo e=>S.extBut _ _ D.cz e) (J.kp λo e=>S.extBut _ _ D.az e) K λM e i j=>?_;let l:IsZip M z u v .ellipsis:=i _ _ D.cz.symm f;refine Se (s:={ s with heap:=M }) l N8 λn U r=>?_;let t:Shared.TypeIs { s with heap:=n } e "StopIteration":=by
  cases e with
  |ref x=>
   let#[o,y,B]:=j;let P:x≠z:=λw=>by subst w;let:=y.symm.trans l;cases this;injection B with w;rwa[absurd w Oa]
   rwa[#[o,r.extBut _ _ P y,B]]
  |_=>rwa[j]
 rwa[OF$ R4 (T:="StopIteration") (b:=μ) t Us$ OK$ O n λe o N V R W w=>r.extBut _ _ N (i _ _ R$ S.extBut _ _ N w)]
def Hj{b1 b2:Bool}{xs ys:Array η}{Q:η->ι->Prop}(J:l7 b1 s.heap a xs)(L:l7 b2 s.heap b ys)
  (h:∀H,IsZip H (s.heap.objs.size+4) (s.heap.objs.size+2) (s.heap.objs.size+3) .none->IsPair H (s.heap.objs.size+2) (.ref s.heap.objs.size) (.ref$ s.heap.objs.size+1)->
   IsPair H (s.heap.objs.size+3) .none .none->iU b1 H s.heap.objs.size a 0->iU b2 H (s.heap.objs.size+1) b 0->(∀e o,s.heap.get? e=δ o->H.get? e=δ o)->Q (.ref$ s.heap.objs.size+4) { s with heap:=H }):
  π (υ prog w) A (call (.type "zip") [.ref a,.ref b]) Q E s:=by
 refine VS (S:=λ_ R c=>c=s/\R (.ok$ .ret$ .ref$ s.heap.objs.size+4) { s with heap:=((((s.heap.push { cls:=.type (ie b1),data:=.fields (ε [.ref a,.int 0 0]) }).push { cls:=.type (ie b2),data:=.fields (ε [.ref b,.int 0 0]) }).push { cls:=.type "tuple",data:=.seq (ε [.ref s.heap.objs.size,.ref$ s.heap.objs.size+1]) }).push { cls:=.type "tuple",data:=.seq (ε [.none,.none]) }).push { cls:=.type "zip",data:=.fields (ε [.none,.bool ν,.bool ν,.ref$ s.heap.objs.size+2,.ref$ s.heap.objs.size+3]) } })
  PySem.F.called_zip Oa (PySem.F.typeCall_zip_2 _ _) (PySem.F.newCall_zip_2 _ _) (λO=>PySem.F.args_object_init_3 O _ _) PySem.F.entry_zip_new (.of_wp λp w' A' R c P=>?_) #[Z,?_]
 .let#[Z,q]:=P;let#[r,g,D,t,os]:=c;let u:=sub_zip;let T:l7 b1 (Shared.heap #[r,g,D,t,os]) a xs:=J;let _L:l7 b2 (Shared.heap #[r.push { cls:=.type (ie b1),data:=.fields (ε [.ref a,.int 0 0]) },g,D,t,os]) b ys:=L.kp λo e=>OH _ e;wp_walk using DA T,DA _L;erw[#[_,Z,?_]];simp only[PM]at q ⊢;rwa[q]
 .let z (h:de) (o:gs):(h.push o).objs.size=h.objs.size+1:=PM ..;generalize d:s.heap.push { cls:=.type (ie b1),data:=.fields (ε [.ref a,.int 0 0]) }=M;generalize f:M.push { cls:=.type (ie b2),data:=.fields (ε [.ref b,.int 0 0]) }=i;generalize j:i.push { cls:=.type "tuple",data:=.seq (ε [.ref s.heap.objs.size,.ref$ s.heap.objs.size+1]) }=k;generalize l:k.push { cls:=.type "tuple",data:=.seq (ε [.none,.none]) }=n;generalize v:n.push { cls:=.type "zip",data:=.fields (ε [.none,.bool ν,.bool ν,.ref$ s.heap.objs.size+2,.ref$ s.heap.objs.size+3]) }=m;let N:M.objs.size=s.heap.objs.size+1:=by rw[<- d,z]
  let x:i.objs.size=s.heap.objs.size+2:=by rw[<- f,z,N]
  let y:k.objs.size=s.heap.objs.size+3:=by rw[<- j,z,x]
  let U:n.objs.size=s.heap.objs.size+4:=by rw[<- l,z,y]
  let K:∀e o,n.get? e=δ o->m.get? e=δ o:=λe o w=>by rw[<- v];rwa[OH _ w]
  let B:∀e o,k.get? e=δ o->m.get? e=δ o:=λe o w=>K e o (by rw[<- l];rwa[OH _ w]);let C:∀e o,i.get? e=δ o->m.get? e=δ o:=λe o w=>B e o (by rw[<- j];rwa[OH _ w]);let G:∀e o,M.get? e=δ o->m.get? e=δ o:=λe o w=>C e o (by rw[<- f];rwa[OH _ w]);let V:∀e o,s.heap.get? e=δ o->m.get? e=δ o:=λe o w=>G e o (by rw[<- d];rwa[OH _ w]);let I:IsZip m (s.heap.objs.size+4) (s.heap.objs.size+2) (s.heap.objs.size+3) .none:=by rw[<- U,<- v];rwa[OQ _ Z]
  let W:IsPair m (s.heap.objs.size+3) .none .none:=K _ _ (by rw[<- y,<- l];rwa[OQ _ Z]);let X:IsPair m (s.heap.objs.size+2) (.ref s.heap.objs.size) (.ref$ s.heap.objs.size+1):=B _ _ (by rw[<- x,<- j];rwa[OQ _ Z]);let Y:m.get? (s.heap.objs.size+1)=δ { cls:=.type (ie b2),data:=.fields (ε [.ref b,.int 0 0]) }:=C _ _ (by rw[<- N,<- f];rwa[OQ _ Z]);let q1:m.get? s.heap.objs.size=δ { cls:=.type (ie b1),data:=.fields (ε [.ref a,.int 0 0]) }:=G _ _ (by rw[<- d];rwa[OQ _ Z]);erw[#[#[_,I,Z],h m I X W ?_ ?_ V]]
  .cases b1<;>rwa[#[_,q1,Z,Z]]
  .cases b2<;>rwa[#[_,Y,Z,Z]]
end
def C2(n a b:Nat)(h:a < n)(H:b < n):Aw (n+4) (n+2) (n+3) n (n+1) a b:=by erw[#[?_,?_,?_,?_,?_,?_,?_,?_,?_,?_,?_,?_,?_,?_,?_,?_,?_,?_]]<;>(show(_:Nat)≠_;omega)
section
variable {prog:ψ}{w:bF}{A:bU}{E:η->ι->Prop}
theorem Dh(h:l≠J):∀(n i:Nat) (s:ι) (Q:xD η->ι->Prop),s.heap.IsListIter J l i->s.heap.IsList l I->i+n<=I.size->
  (∀a,a.IsListIter J l (i+n)->fr J s.heap a->Q ((I.toList.drop i).take n) { s with heap:=a })->π (υ prog w) A (draw (.ref J) n) Q E s
 |0,i,s,Q,b,_,_,q=>show π _ _ (pure []) Q E s from OK (by simpa using q s.heap b (U3 ..))
 |n+1,i,s,Q,b,c,d,q=>by
  let H:i < I.size:=by omega
  erw[(show π _ _ (pyNext (.ref J) >>= _) Q E s from OF$ VM b c (x:=I[i]) (by simp [H]) λm j S=>?_)];erw[OF$ Pb$ Dh h n (i+1) _ _ j (c.extBut S.extBut h) N9 λf g k=>OK ?_];let e:=q f (by rw[show i+(n+1)=i+1+n by omega];rwa[g]) (S.trans k);rwa [show I.toList.drop i=I[i]::I.toList.drop (i+1) by simp [U2,H],List.take_succ_cons]at e
def CU{s:ι}{Q:xD η->ι->Prop}(f:A.handled=θ)(h:s.heap.IsList l i)(a:i.size=n)
  (q:∀c,nI s.heap.objs.size s.heap c->Q i.toList { s with heap:=c }):π (υ prog w) A (unpackItems (.ref l) n θ) Q E s:=by
 let H:l≠s.heap.objs.size:=by let#[o,g,_]:=h;rwa[OZ$ OP g]
 unfold unpackItems;erw[OF ?_];unfold notIterableAtAll;erw[OF$ RG h.typeIs slot_list_iter.lookup ?_];erw[OK ?_];simp only[O0,Rj];erw[OF$ Pb$ TN h ?_];let I:(s.heap.push { cls:=.type "list_iterator",data:=.fields (ε [.ref l,.int 0 0]) }).IsListIter s.heap.objs.size l 0:=#[_,OQ _ Z,Z,Z];erw[OF$ Pb$ Dh H n 0 _ _ I (h.push _) N9 λj J S=>?_];let k:(i.toList.drop 0).take n=i.toList:=by rw[Ug,RE (by simp [a])]
 rw[k,OU (by simp [a])];let L:j.IsList l i:=(h.push _).extBut S.extBut H;erw[OF$ Pb$ V0 f J L (by simp [a]) λm p=>?_];simp only[Option.isSome_none,O0,Rj];rwa[OK$ q m λb o d e=>p b o d (S.extBut b o d$ OH _ e)]
end
section
variable {X:Cx}{pos:Pos}
inductive ML(K:β)(n:Nat)(t:Av)(v:V)(c:St)(H:Hp)(Q:St->Hp->Prop):Prop
 |mk(a b:_)(_:v= .ref a)(_:aK K H a b)(_:ry b=n)(_:t b c H Q)
def ZS{E:xD dg}{k n:Nat}{t:Av}(g:X.calm=μ)(h:Ho X E t)
  (i:↥((assignEach E X.env).length=n)) (c:↥((assignEach E X.env).findIdx? (·.1)=θ)):PG X (.Tuple E k pos) (ML X.K n t):=by
 intro P s f H v u Q I r d;let#[a,x,j,l,m,d]:=d;subst j;cases r;let#[q,R,p,A]:=I.list l;rw[assign_Tuple];erw[OF$ Sj ?_];unfold unpack;rw[i,c];erw[OF$ Pb$ CU (I.ok.hd g) p.isList (by simp [<- m,R.length]) λw y=>?_];let z:au X P f H { s with heap:=w }:=I.kept (t':=s.toks) λb o e=>y b o (OZ$ OP e) e;rwa[h P _ f H x _ Q z (by simpa using R) d]
inductive yJ(K:β)(i j k:Nat)(D:bp)(f:St)(x:V)(b:Hp):Prop
 |mk(a c d e:_)(_:x= .ref a)(_:aC K b a [c,d,e])(_:D.nx (((f.set k (δ e)).set j (δ d)).set i (δ c)) b)
def DU(K:β)(t:TE)(i j k:Nat):TS:=λD a H=>t a H (yJ K i j k D a)
def BS{t e:dg}{T:TE}{x y z:ρ}{i j k:Nat}(n:X.calm=μ)(c:X.N.Nodup)(w:X.N[i]?=δ x)(A:X.N[j]?=δ y)(B:X.N[k]?=δ z)(L:uW X.env.scope x)(C:uW X.env.scope y)(E:uW X.env.scope z)(F:PE X e T)
  (G:X.fn x=μ\/X.env.scope.names.lookup x=δ .local:=by first |rwa[.inl Z] |rwa[.inr Z]) (J:X.fn y=μ\/X.env.scope.names.lookup y=δ .local:=by first |rwa[.inl Z] |rwa[.inr Z]) (M:X.fn z=μ\/X.env.scope.names.lookup z=δ .local:=by first |rwa[.inl Z] |rwa[.inr Z])
  (O:↥(swapsWithSole [t] e pos.line X.env=pure ν)) (P:↥(swappedStores [t] e X.env=pure (δ [x,y,z]))):PS X (.Assign [t] e pos) (DU X.K T i j k):=by
 intro p s f H D I h;rw[exec_Assign_arm];erw[OF$ Sj ?_];rw[O];erw[OF$ OK ?_];rw[OU Oa];erw[OF$ a8 (F p s f H _ I h) λv S d=>?_];let#[xv,g,l,R,a,v1,v2,v3,Q,V,q]:=d;rw[P];erw[OF$ OK ?_];subst Q;cases R;let#[W,r,Y,hz]:=l.tuple V;cases r with
 |cons q1 r=>
  cases r with
  |cons q2 r=>
   cases r with
   |cons q3 r=>
    cases r
    rename_i u U m
    unfold assignStores;erw[OF$ RQ$ OF$ wpAny_unpackItems_tuple (items:=(ε [u,U,m])) (I.ok.hd n) Y λh' hx=>?_];let I2:au X p f g { S with heap:=h' }:=l.kept (t':=S.toks) λb o e=>hx b o (OZ$ OP e) e;erw[OF ?_];show π _ _ (assignInOrder [λv=>bindName X.env z v,λv=>bindName X.env y v,λv=>bindName X.env x v] [m,U,u]) _ _ _;erw[OF$ Pb$ Vq$ zK I2 c B E q3 (λs2 I3=>?_) M];erw[OF$ Pb$ Vq$ zK I3 c A C q2 (λs3 I4=>?_) J];erw[OF$ Pb$ Vq$ zK I4 c w L q1 (λs4 I5=>?_) G];rwa[OK$ OK #[_,g,I5,q]]
end
def AT(l b:ζ)(I i:Array η)(n N:Nat)(D:xL ζ)(S:Array (xL η))(e:¬(!I.isEmpty&&fy (I.size+i.size))=μ)(W:I.size<=τ)(a:I.size+i.size<=τ+1):
  Meets (dw.«list.extend» #[[.ref l,.ref b],[]]) (λ_ R s=>s.heap.get? l=δ { cls:=.type "list",dict:=θ,data:=.seq I n,slots:=(ε []) }/\s.heap.get? b=δ #[.type "tuple",D,.seq i N,S]/\R (.ok$ .ret Ω) { s with heap:=s.heap.update l (γ λx=>x++i),toks:=s.toks }):=by
 erw[WI λp w A R s h=>?_];let#[f,g,d,t,os]:=s;let#[H,c,h]:=h;let F:=AutoSeq1.idx_int;let j:=AutoSeq1.sub_tuple_tuple;let k:=AutoSeq1.sub_list_list;let m:=AutoSeq1.sub_tuple_list;let o:=AutoSeq1.sub_list_tuple;let hz:(I++i).size<=τ+1:=by rw[Uv];rwa[a]
 wp_walk using (Ui H Z (hz:=W) (_hz':=hz)),Rv H,Rv c;rwa[#[_,Z,h]]
section
variable {X:Cx}
inductive lF(K:β)(x:V)(a:xD V)(H:Hp)(Q:VK):Prop
 |mk(l b c d:_)(_:x= .ref l)(_:a=[.ref b])(_:H l=δ (.lst c))(_:aC K H b d)(_:ry c+ry d<=τ)(_:Q .non (af H l (.lst (c++d))))
def Zh:LZ X "list.extend" (lF X.K):=by
 intro p s A H x V v U Q I g j h;let#[l,b,B,C,Z,Z,f,k,D,q]:=h;cases g;let#[u,Z,m]:=j.one;cases m;let#[z,a,n,r,E,e]:=I.lstM f;let#[i,R,P,F]:=I.tuple k;let o:=R.length;let d:a.toArray.size+i.toArray.size<=τ:=by rw[ON,ON];omega
 let c:¬(!a.toArray.isEmpty&&fy (a.toArray.size+i.toArray.size))=μ:=by rw[ig d,Uh];rwa[OX]
 obtain⟨⟨G,O,J,S⟩,t,w,N,y⟩:=P;cases w;cases y;erw[UC Wi #[_,e,Z] V5 (VX _ _) (AT l b a.toArray i.toArray n N O S c (by rw[ON];omega) N9) #[e,t,?_]];erw[#[.non,_,I.lset (its':=a++i) f e N8 (r.append R) (by rw[OL];rwa[N09]),Z,q]]
end
section
variable {prog:ψ}{w:bF}{A:bU}{E:η->ι->Prop}{s:ι}
def JB{R:Result->ι->Prop}{P:Nat->η->Prop}{St:Nat->ι->Prop}
  (W:WalksS prog w A.in1 I N j G n P St) (S:ζ) (H:¬S∈N) (c:xD ρ) (O:ry c=n) (Q:∀i v,P i v->∃x t,c[i]?=δ x/\v= .str x t) (d:∀L:xD ρ,L.Nodup->(∀x∈L,x∈c)->ry L+1 < scanBound):
  ∀(k i:Nat) (s:ι) (L:xD ρ),n - i=k->i<=n->St i s->dB prog w s.heap S L->(∀x,x∈L↔x∈c.take i)->ry L<=i->
   (∀a l,Moved (S::j) G s a->dB prog w a.heap S l->(∀x,x∈l↔x∈c)->ry l<=n->R (.ok$ .ret .none) a)->
   kw (υ prog w) A (.builtin "set.update.loop" #[[.ref S,.ref I],[]]) R s:=by
 let f:¬S∈j:=λz=>H (W.sub _ z);let sub:∀b∈j,b∈S::j:=λb z=>Pe _ z;intro k;induction k with
 |zero=>
  intro i s L T U st p q F r;let e:i=n:=by omega
  subst e;erw[Rq Ts ?_];rw[PY R6];show π _ A.in1 (pyNext (.ref I) >>= _) _ _ s;erw[OF$ W.done s _ _ st λa m=>?_];show π _ A.in1 (ret Ω) _ _ a;erw[OK$ r a L (m.mono sub) (p.at λo e=>m.heap S o f e) (λx=>?_) F];rw[q x,<- O,Py]
 |succ k V=>
  intro i s L T U st p q F r;let J:i < n:=by omega
  erw[Rq Ts ?_];rw[PY R6];show π _ A.in1 (pyNext (.ref I) >>= _) _ _ s;erw[OF$ W.item i s _ _ J st λv a X u m=>?_];let#[x,t,B,Z]:=Q i v X;show π _ A.in1 (ly [mT x t] (setAdd S$ .str x t) >>= _) _ _ a;erw[OF$ Pb ?_];let h:L.Nodup:=by let#[_,_,_,_,_,_,_,_,_,h,_]:=p;rwa[h]
  erw[Yx (p.at λo e=>m.heap S o f e) (d L h λx B=>P0 ((q x).mp B)) λb h' Y K S2 g=>?_];erw[OK #[RZ R6 _,V (i+1) _ _ N9 J (W.frame _ a _ _ u g λb d o e=>?_) S2 (λy=>?_) ?_ λC l M D q1 q2=>?_]]
  .rw[K.2 b (λz:b=S=>H (by rw[<- z];rwa[d]))];rwa[e]
  .let tk:c.take (i+1)=c.take i++[x]:=by rw[Sl,B];rfl
   rw[tk,Sz,Uo,<- q y];split
   .rename_i hm
    rwa[#[.inl,λz=>z.elim id λe=>e▸hm]]
   .rw[Sz,Uo]
  .split
   .omega
   .rw[OL,Sc];omega
  .erw[r C l (Moved.trans W.gtrans ((m.mono sub).then_heap g λb o d e=>?_) M) D q1 q2];rw[K.2 b (λz:b=S=>d (by rw[z];rwa[O5]))];rwa[e]
end
section
variable {prog:ψ}{w:bF}{A:bU}{E:η->ι->Prop}{s:ι}
set_option maxHeartbeats 3200000 in
def J5{Q:η->ι->Prop}
  (hh:A.handled=θ) (hl:s.heap.IsList l I) (hi:StrsAre I.toList n) (C:∀L:xD ρ,L.Nodup->(∀x∈L,x∈n)->ry L+1 < scanBound)
  (h:∀(a:de) (t:Nat) L,dB prog w a s.heap.objs.size L->(∀x,x∈L↔x∈n)->ry L<=I.size->
   (∀b o,b < s.heap.objs.size->s.heap.get? b=δ o->a.get? b=δ o)->s.toks<=t->Q (.ref s.heap.objs.size) { s with heap:=a,toks:=t }):
  π (υ prog w) A (call (.type "set") [.ref l]) Q E s:=by
 let#[c,tl,m1]:=PySem.F.called_set.mro;let m0:=PySem.F.called_set.made;let sb:=PySem.F.called_set.sub;erw[Vp$ Vc ?_];show π _ _ (callAny (.type "set") _) _ _ _;erw[OK #[Code.quiet_builtin _ N7,Rq PySem.F.entry_type_call ?_]];rw[Around.under_plain (weight_type_call_type "set" [.ref l] []) Z];let n1:=PySem.F.called_set.notType;let n2:=PySem.F.called_set.canCreate;let ct:=PySem.F.typeCall_set_1 (.ref l);repeat (any_goals (first |assumption |wp_step))
 refine Sw (Qx (.ref l) (E:=E) (G:=λv S=>v= .ref s.heap.objs.size/\S={ s with heap:=s.heap.push (bM w) }) #[Z,Z]) λr S D=>?_;cases r with
 |error e=>rwa[D]
 |ok fl=>
  cases fl with
  |ret o2=>
   let#[Z,Z]:=D;let J:(s.heap.push$ bM w).get? s.heap.objs.size=δ (bM w):=OQ _ Z;let hT:Shared.TypeIs { s with heap:=s.heap.push (bM w) } (.ref s.heap.objs.size) "set":=#[_,J,Z];let li:=PySem.F.called_set.init.lookup;let bi:=PySem.F.called_set.init.bind (.ref s.heap.objs.size);repeat (any_goals (first |assumption |wp_step))
   refine Sw (codeAny_call_builtin (R:=wants (λr d=>r= .none/\∃a t L,d={ s with heap:=a,toks:=t }/\dB prog w a s.heap.objs.size L/\(∀x,x∈L↔x∈n)/\ry L<=I.size/\
     (∀b o,b < s.heap.objs.size->s.heap.get? b=δ o->a.get? b=δ o)/\s.toks<=t) E) PySem.F.called_set.init.plain PySem.F.entry_set_init (check_set_init_1 hT ?_)) λp d H=>?_
   .let#[ol,q,u,nl,y]:=hl;let#[o1,g,K,O]:=ol;simp only at u y;subst u;subst y;let f:(s.heap.push$ bM w).get? l=δ { cls:=.type "list",dict:=g,data:=.seq I nl,slots:=O }:=OH _ q;let ns:=PySem.F.sub_list_set;let nf:=PySem.F.sub_list_frozenset;let ne:(eT "list"==eT "dict")=ν:=by decide
    let j:(s.heap.push$ bM w).IsList l I:=#[_,f,Z,nl,Z];unfold bM at J hT f j ⊢;unfold dw.«set.__init__» noKeywords Builtin.Frozenset.updateFrom;generalize M:pyIter=PI;wp_walk;subst M;erw[TN j ?_];erw[OF$ Vm ?_];let z:l < s.heap.objs.size:=OP q;let h3:A.in1.in1.in1.handled=θ:=by simp [hh]
    let N:l≠(s.heap.push$ bM w).objs.size:=by rw[PM];rwa[OZ$ RW z]
    let P:¬s.heap.objs.size∈[(s.heap.push$ bM w).objs.size,l]:=by rw[PM];simp only[RY,Pm,T6,not_or];rwa[#[OZ$ Rs _,PV z]]
    let B:ry n=I.size:=by rw[_L.StrsAre.len hi,Pa]
    refine JB ((Walks.list h3 _ l N I).toS) s.heap.objs.size P n B (λi v hv=>StrsAre.at' hi i v (by rw[Ru];rwa[hv])) C (I.size - 0) 0 _ [] N9 (OS _)
     #[#[_,OQ _ Z,Z,Z],j.push _] (Yy$ OH _ J) (λx=>by simp) (OM _) λs' L m T U V=>?_
    let#[a,g',d',W,X]:=s';let eg:g'=s.gens:=m.gens;let ed:d'=s.drawn:=m.drawn;let eo:X=s.os:=m.os;subst eg;subst ed;subst eo;show π _ _ _ _ _ _;erw[OK ?_];show π _ _ (ret Ω) _ _ _;erw[OK #[Z,a,W,L,Z,T,U,V,λb o C e=>?_,m.toks]];let b1:b≠s.heap.objs.size:=OZ C;let b2:b≠(s.heap.push$ bM w).objs.size:=by rw[PM];rwa[OZ$ RW C]
    rwa[m.heap b o (by simp only[RY,Pm,T6,not_or];rwa[#[b1,b2]])$ OH _$ OH _ e]
   .cases p with
    |error e=>rwa[H]
    |ok k=>
     cases k with
     |ret r=>
      let#[Z,a,t,L,Z,T,U,V,Y,q3]:=H;repeat (any_goals (first |assumption |wp_step))
      rwa[h _ _ _ T U V Y q3]
     |_=>rwa[H.elim]
  |_=>rwa[D.elim]
end
section
variable {X:Cx}
def q8(m:X.calm=μ):fu X (.type "set") (λg H Q=>∃(p:ζ) (S:xD ρ),g=[.ref p]/\aK X.K H p (S.map tz)/\(∀L:xD ρ,L.Nodup->(∀x∈L,x∈S)->ry L+1 < scanBound)/\
  ∀l L,H l=θ->L.Nodup->(∀x,x∈L↔x∈S)->Q (.ref l) (af H l$ Mb X.prog X.w l L)):=by
 intro P s B H g U Q I r h;let#[p,S,Z,n,t,q]:=h;let#[u,Z,R]:=gB r;cases R;let#[i,v,y,C]:=I.list n;let j:=qj v;let D:ry i=ry S:=(_L.StrsAre.len j).symm;erw[J5 (I.ok.hd m) y.isList (by simpa using j) t λc T L d z E k _=>?_];let a:L.Nodup:=by let#[_,_,_,_,_,_,_,_,_,a,_]:=d;rwa[a]
 let A:∀b o,s.heap.get? b=δ o->c.get? b=δ o:=λb o e=>k b o (OP e) e;obtain⟨o,f⟩:∃o,c.get? s.heap.objs.size=δ o:=let #[o,_,_,_,f,_]:=d;#[o,f]
 rwa[#[.ref s.heap.objs.size,_,I.laid A (OM _) (show a6 X.prog X.w _ c _ (Mb X.prog X.w s.heap.objs.size L) from #[d,#[o,f],λF G x e=>dB.at x e]),Z,q _ _ (I.hok.fresh$ OM _) a z]]
end
section
variable {X:Cx}{CX:sq}{k:Nat}{f C:ζ}{fd:bS}{ps:xD ρ}{sp:Sp}{dvs:xD V}{ds:xD η}{E:XK}{x m:ρ}{p pos apos:Pos}{e:dg}{es:xD dg}{t:TA}
structure uS(K:β)(C:ζ)(m:ρ)(f:ζ):Prop where
 rd:PySem.W.readsIn K C (.type "type")=μ
 ga:specialIn K (.ref C) "__getattribute__"=δ (δ$ .builtin "type.__getattribute__")
 at_:PySem.W.findCls K (.ref C) (.type "type") m=δ (.val$ .ref f)
 kp:fJ K (.ref f)=μ
def ZT{pl:Sem Bool}(j:Gl X x)(l:X.mg x=↑C)(M:uS X.K C m f)(F:ah X.prog X.w X.K X.mg X.base CX k f fd ps sp)(n:b6 k X.A)(q:aE X.K fd ps ds)(u:aG dvs ds)(v:eh CX X E)(y:PA X (e::es) t)
  (a:↥((x==("__debug__":ρ))=ν))
  (c:↥(Δ (e::es) X.env=(ν,eval e X.env)::Δ es X.env)) (d:↥((fx pos$ Δ es X.env).any (·.1)=ν))
  (z:↥(eval (.Call (.Attribute (.Name x p) m apos) (e::es) [] pos) X.env=(do
   let O <- eval (.Name x p) X.env
   standAt apos.atName
   let (f,first) <- ly [O] (getMethod O m pl)
   callWith pos f first (fx pos$ Δ (e::es) X.env) (backToKw pos$ keywordEach [] X.env)))):
  PE X (.Call (.Attribute (.Name x p) m apos) (e::es) [] pos) (ff sp dvs E t):=by
 intro P s g H Q I h;erw[TB (pl:=pl) (qc I j l ?_ a) z];erw[PySem.W.method_cls I.kIn M.ga$ PySem.W.cls_value I.kIn M.rd M.at_ Z ?_];let B:au X P g H { s with toks:=s.toks+1 }:=I.kept (h':=s.heap) λb o e=>e;erw[UD (h₀:=X.base) I.ok.mod.kin M.kp (a8 (y pos P _ g H _ B h) λU S #[G,J,i,r,D]=>#[i.kIn,?_]) c d];rwa[Xa F n q u v i r D]
end
abbrev gO(h:de)(z u v T:ζ)(f:Bool):Prop:=
 h.get? z=δ { cls:=.type "zip",dict:=θ,data:=.fields (ε [rawInt T,.bool f,.bool ν,.ref u,.ref v]),slots:=(ε []) }
section
variable {prog:ψ}{w:bF}{A:bU}{E:η->ι->Prop}{s:ι}
def uM{Q:xL gs->ι->Prop}(h:Q (s.heap.get? a) s):π M A (loadIfAlive a) Q E s:=λ_ _ _=>h
def Ie{Q:Bool->ι->Prop}(H:gO s.heap z u v T f)(a:∃o,s.heap.get? T=δ o)
  (q:∀h,gO h z u v T μ->nI z s.heap h->h.objs.size=s.heap.objs.size->Q ν { s with heap:=h }):π (υ prog w) A (bx$ .ref z) Q E s:=by
 unfold bx;erw[OF$ Pg H Z (x:=rawInt T) Z ?_];show π _ _ (loadIfAlive ((T:Int).toNat) >>= _) _ _ s;erw[OF$ uM ?_];let#[o,c]:=a;rw[PQ,c];simp only[Vv,O0,Rj];erw[OF$ Pg H Z (x:=.bool f) Z ?_];cases f with
 |true=>simp only[Rr,O0,Rj];rwa[OF$ OK$ OK$ q s.heap H (λb o _ e=>e) Z]
 |false=>rw[OT Oa];erw[OF$ Se H N8 λh d S=>OK (q h d S.extBut S.1)]
def CZ{Q:xL η->ι->Prop}(D:Aw z u v c d a b)
  (g:gO s.heap z u v T f) (p:∃o,s.heap.get? T=δ o) (q:IsPair s.heap u (.ref c) (.ref d)) (r:iU B s.heap c a k) (t:iU l s.heap d b k) (G:l7 B s.heap a C) (F:l7 l s.heap b Y) (I:C[k]?=δ x) (J:Y[k]?=δ y)
  (L:∀h,gO h z u v T μ->iU B h c a (k+1)->iU l h d b (k+1)->IsPair h s.heap.objs.size x y->h.objs.size=s.heap.objs.size+1->
   (∀e o,e≠z->e≠c->e≠d->s.heap.get? e=δ o->h.get? e=δ o)->Q (δ$ .ref s.heap.objs.size) { s with heap:=h }):π (υ prog w) A (pyNext$ .ref z) Q E s:=by
 let H:s.TypeIs (.ref z) "zip":=#[_,g,Z];unfold pyNext;erw[OF$ SI$ Pr (name:=Str.ofString "__next__") H Rg$ Pp Rg H SG (show π _ _ (field (.ref z) 2 >>= _) _ _ _ from ?_)$ Su _];erw[OF$ Pg g Z (x:=.bool ν) Z (show π _ _ (field (.ref z) 3 >>= _) _ _ _ from OF$ Pg g Z (x:=.ref u) Z$ OF$ PZ q Z ?_)];erw[(show π _ _ (bx (.ref z) >>= _) _ _ _ from OF$ Ie g p λO P i n=>?_)];simp only[O0,Rj];erw[OF ?_];simp only[VI,Sa,Tj];erw[OF$ OF$ Pb (show π _ _ (Φ (.ref c) >>= _) _ _ _ from ?_)];refine OF$ qk (s:={ s with heap:=O }) (r.kp λo e=>i _ _ D.cz e) (G.kp λo e=>i _ _ D.az e) I λM R j=>OK (OK ?_);erw[OF$ OF$ Pb (show π _ _ (Φ (.ref d) >>= _) _ _ _ from ?_)];let K:∀e o,e≠z->e≠c->s.heap.get? e=δ o->M.get? e=δ o:=λe o n U w=>j.extBut _ _ U (i _ _ n w);refine OF$ qk (s:={ s with heap:=M }) (t.kp λo e=>K _ _ D.dz D.cd.symm e) (F.kp λo e=>K _ _ D.bz D.bc e) J λm V S=>OK (OK$ OK ?_);show π _ _ (newTuple [x,y] >>= _) _ _ _;erw[OF$ SV$ OK #[_,Z,OK ?_]];let N:m.objs.size=s.heap.objs.size:=by rw[S.1,j.1];rwa[n]
 let W:gO m z u v T μ:=S.extBut _ _ D.dz.symm (j.extBut _ _ D.cz.symm P);show Q (δ$ .ref m.objs.size) _;rw[N];erw[L _ (OH _ W) (R.kp λo e=>OH _ (S.extBut _ _ D.cd e)) (V.kp λo e=>OH _ e) (by rw[<- N];rwa[OQ _ Z]) (by rw[PM,N]) λe o X a2 a3 w=>OH _ (S.extBut _ _ a3$ K _ _ X a2 w)]
def Hh{b2:Bool}{ys:Array η}{Q:xL η->ι->Prop}(j:A.handled=θ)(D:Aw z u v c d a b)
  (H:gO s.heap z u v T f) (l:∃o,s.heap.get? T=δ o) (m:IsPair s.heap u (.ref c) (.ref d)) (p:iU B s.heap c a k) (G:l7 B s.heap a q) (r:q[k]?=θ)
  (t:∀i,(∀e o,e≠z->e≠c->e≠d->s.heap.get? e=δ o->i.get? e=δ o)->Q θ { s with heap:=i }):π (υ prog w) A (pyNext$ .ref z) Q E s:=by
 let h:s.TypeIs (.ref z) "zip":=#[_,H,Z];unfold pyNext;erw[OF$ SI$ Pr (name:=Str.ofString "__next__") h Rg$ Pp Rg h SG (show π _ _ (field (.ref z) 2 >>= _) _ _ _ from ?_)$ Su _];erw[OF$ Pg H Z (x:=.bool ν) Z (show π _ _ (field (.ref z) 3 >>= _) _ _ _ from OF$ Pg H Z (x:=.ref u) Z$ OF$ PZ m Z ?_)];erw[(show π _ _ (bx (.ref z) >>= _) _ _ _ from OF$ Ie H l λM F g n=>?_)];simp only[O0,Rj];erw[OF ?_];simp only[VI,Sa,Tj];erw[OF$ OF$ Pb (show π _ _ (Φ (.ref c) >>= _) _ _ _ from ?_)];refine OF$ Q1 (s:={ s with heap:=M }) (by simpa using j) (p.kp λo e=>g _ _ D.cz e) (G.kp λo e=>g _ _ D.az e) r λy e S C=>?_;rwa[OF$ R4 (T:="StopIteration") (b:=μ) C Us$ OK$ t y λe o n N I w=>S _ _ N (g _ _ n w)]
end
def JP:typeLookup (.type "zip") "__getattr__"=pure θ:=by rw[Rp,PL];kernel_rfl
def YB:typeLookup (.type "zip") "keys"=pure θ:=by rw[Rp,PL];kernel_rfl
def XI:entryFor table "zip.__getattribute__"=δ dw.«object.__getattribute__»:=
 Ut (id':="object.__getattribute__") (by kernel_rfl) N7 N7 (by kernel_rfl)
def Qp(a:ζ)(x:Array η)(S:Array (xL η))(u:Tok):
  Meets (dw.«object.__getattribute__» #[[.ref a,.str "keys" u],[]]) (λA R s=>s.heap.get? a=δ { cls:=.type "zip",dict:=θ,data:=.fields x,slots:=S }/\raisesAttr (.ref a) "keys" A R s):=
 WI λp w A R s H=>by
  let#[c,g,d,t,os]:=s;let#[e,H]:=H;let f:(#[c,g,d,t,os]:ι).TypeIs (.ref a) "zip":=#[_,e,Z];let b:=YB;let h:(["__module__","__name__","__qualname__","__doc__","__annotations__"]:xD ρ).contains "keys"=ν:=by decide+kernel
  unfold dw.«object.__getattribute__»;repeat (any_goals (first |assumption |wp_step))
  try simp only[h,O0,Rj]
  repeat (any_goals (first |assumption |wp_step))
  rwa[wpAny_raiseAttrError H.1 H.2$ attrMsg_fits N7 (by size_fits)]
section
variable {prog:ψ}{w:bF}{A:bU}{E:η->ι->Prop}{s:ι}
def Bh{Q:xL η->ι->Prop}(f:s.heap.get? a=δ { cls:=.type "zip",dict:=θ,data:=.fields x,slots:=j })(k:A.handled=θ)
  (h:∀c T,(∀b o,s.heap.get? b=δ o->c.get? b=δ o)->Q θ { s with heap:=c,toks:=T }):π (υ prog w) A (getAttr? (.ref a) "keys") Q E s:=by
 let#[l,g,d,T,os]:=s;let i:∀t,(#[l,g,d,t,os]:ι).TypeIs (.ref a) "zip":=λ_=>#[_,f,Z];let m:=sub_AttributeError;let n:=lu.lookup;let p:=lu.bind (.ref a);let q:=JP;unfold getAttr? getAttrBy? getAttrBy;repeat (any_goals (first |assumption |rwa[i _] | ((with_reducible show π _ _ (call (Value.builtin "zip.__getattribute__") _ _) _ _ _);erw[UC lu (i _) XI (PySem.F.args_zip_getattribute_2 _ _) (Qp a x j _) #[f,by simpa using k,λc t e H=>?_]]) |wp_step))
 let#[r,u,v]:=H.there;show π _ _ (getattributeRaised _ _ _ _ _ _ _) _ _ _;unfold getattributeRaised;repeat (any_goals (first |assumption |wp_step))
 rwa[h _ _ H.keeps]
def D8(h:de)(z u v c d a b Dd:ζ)(x y:Array η)(i:Nat):Prop:=
 ((IsZip h z u v .none/\∃p q,IsPair h v p q)\/∃T f o,gO h z u v T f/\h.get? T=δ o/\T≠z/\T≠c/\T≠d/\T≠Dd)/\IsPair h u (.ref c) (.ref d)/\iU ν h c a i/\iU ν h d b i/\l7 ν h a x/\l7 ν h b y
def C3{Dd:ζ}{Q:xL η->ι->Prop}(D:Aw z u v c d a b)(l:Dd < s.heap.objs.size)(S:D8 s.heap z u v c d a b Dd J Y k)(L:J[k]?=δ x)(M:Y[k]?=δ y)
  (N:∀h,D8 h z u v c d a b Dd J Y (k+1)->IsPair h s.heap.objs.size x y->h.objs.size=s.heap.objs.size+1->(∀e o,e≠z->e≠v->e≠c->e≠d->s.heap.get? e=δ o->h.get? e=δ o)->Q (δ$ .ref s.heap.objs.size) { s with heap:=h }):π (υ prog w) A (pyNext$ .ref z) Q E s:=by
 let#[H,g,j,m,G,i]:=S;let#[oc,n,_]:=j.ob;let#[od,r,_]:=m.ob;rcases H with ⟨H,p,q,U⟩ | ⟨T,f,o,H,O,t,P,R,V⟩
 .erw[C1 D H g U j m G i L M λh B v1 I C t F K=>N h #[.inr #[s.heap.objs.size,ν,_,B,t,PV$ OP H,PV$ OP n,PV$ OP r,PV l],K _ _ D.uz D.uv D.uc D.ud g,I,C,G.kp λo e=>K _ _ D.az D.av D.ac D.ad e,i.kp λo e=>K _ _ D.bz D.bv D.bc D.bd e] t F K]
 .erw[CZ D H #[o,O] g j m G i L M λh B I C W F K=>N h #[.inr #[T,μ,o,B,K _ _ t P R O,t,P,R,V],K _ _ D.uz D.uc D.ud g,I,C,G.kp λo e=>K _ _ D.az D.ac D.ad e,i.kp λo e=>K _ _ D.bz D.bc D.bd e] W F λe o X n2 n3 n4 w=>K e o X n3 n4 w]
def Hk{Dd:ζ}{Q:xL η->ι->Prop}(g:A.handled=θ)(D:Aw z u v c d a b)(n:D8 s.heap z u v c d a b Dd x ys k)(i:x[k]?=θ)
  (j:∀H,(∀e o,e≠z->e≠v->e≠c->e≠d->s.heap.get? e=δ o->H.get? e=δ o)->Q θ { s with heap:=H }):π (υ prog w) A (pyNext$ .ref z) Q E s:=by
 let#[h,l,m,B,G,C]:=n;rcases h with ⟨h,p,q,F⟩ | ⟨T,f,o,h,r,I,J,L,M⟩
 .rwa[Hi (b2:=ν) (p:=p) (q:=q) (ys:=ys) g D h l m G i j]
 .rwa[Hh (b2:=ν) (ys:=ys) g D h #[o,r] l m G i λH K=>j H λe o N O t y w=>K e o N t y w]
structure Mp(D z u v c d a b:ζ):Prop where
 z:D≠z
 u:D≠u
 v:D≠v
 c:D≠c
 d:D≠d
 a:D≠a
 b:D≠b
def D8.keep{h j:de}{Dd:ζ}(F:Mp Dd z u v c d a b)(k:∀e o,e≠Dd->h.get? e=δ o->j.get? e=δ o)(st:D8 h z u v c d a b Dd x y i):D8 j z u v c d a b Dd x y i:=by
 let#[H,l,m,n,G,r]:=st;erw[#[?_,k _ _ F.u.symm l,m.kp λo e=>k _ _ F.c.symm e,n.kp λo e=>k _ _ F.d.symm e,G.kp λo e=>k _ _ F.a.symm e,r.kp λo e=>k _ _ F.b.symm e]];rcases H with ⟨H,p,q,B⟩ | ⟨T,f,o,H,g,C,D,I,t⟩
 .rwa[.inl #[k _ _ F.z.symm H,p,q,k _ _ F.v.symm B]]
 .rwa[.inr #[T,f,o,k _ _ F.z.symm H,k _ _ t g,C,D,I,t]]
def Qq{K:Type}[DecidableEq K]{knd:KeyKind prog w K}{R:Result->ι->Prop}{Dd:ζ}{x:Array η}(X:A.handled=θ)(D:Aw z u v c d a b)(F:Mp Dd z u v c d a b)(m:xD (K×η))(Y:ry m=x.size)(h0:x.size<=τ)
  (hP:∀(i:Nat),i < x.size->∃f V k,x[i]?=δ f/\ys[i]?=δ V/\knd.is k f=μ/\m[i]?=δ (k,V)):
  ∀(j i:Nat) (s:ι) (n:Int),x.size - i=j->i<=x.size->D8 s.heap z u v c d a b Dd x ys i->s.heap.DictOf knd Dd (merged []$ m.take i)->
   (∀h T,(∀e o,e≠Dd->e≠z->e≠v->e≠c->e≠d->s.heap.get? e=δ o->h.get? e=δ o)->h.DictOf knd Dd (merged [] m)->R (.ok$ .ret .none) { s with heap:=h,toks:=T })->
   kw (υ prog w) A (.builtin "dict.update.loop" #[[.ref Dd,.ref z,.int n 0,.none],[]]) R s:=by
 intro j;induction j with
 |zero=>
  intro i s n hj hi st q C;let e:i=x.size:=by omega
  subst e;erw[Rq JY ?_];rw[PY zT];show π _ A.in1 (pyNext (.ref z) >>= _) _ _ s;erw[OF$ Hk (by simpa using X) D st N8 λh g=>?_];show π _ A.in1 (Builtin.Dict.addKeywords Dd [] >>= λ_=>ret Ω) _ _ { s with heap:=h };erw[OF ?_];unfold Builtin.Dict.addKeywords;erw[OK$ OK$ C h s.toks (λe o _ N t y B w=>g e o N t y B w) ?_];rw[<- Y,Py]at q;let#[o,es,ep,ho,r]:=q;rwa[#[o,es,ep,g _ _ F.z F.v F.c F.d ho,r]]
 |succ j ih=>
  intro i s n hj hi st q C;let M:i < x.size:=by omega
  let#[f,V,k,hx,hy,O,hm]:=hP i M;erw[Rq JY ?_];rw[PY zT];show π _ A.in1 (pyNext (.ref z) >>= _) _ _ s;let#[oD,G,I,H,rD]:=id q;let L:Dd < s.heap.objs.size:=OP H;erw[OF$ C3 D L st hx hy λl S P N g=>?_];let hb:Shared.TypeIs { s with heap:=l } (.ref s.heap.objs.size) "tuple":=#[_,P,Z];let J:l.DictOf knd Dd (merged []$ m.take i):=#[oD,G,I,g _ _ F.z F.v F.c F.d H,rD];dsimp only;erw[OF$ Pb ?_];erw[OF$ wpAny_tryCatch ?_];unfold Builtin.Dict.pairItems;erw[OF$ RM hb ?_];rw[OT Oa];erw[OF$ PZ P Z$ OK ?_];show π _ A.in1 (ly [f,V]$ dictSet Dd f V) _ _ { s with heap:=l };unfold dictSet;erw[Pb$ Pb$ OF$ knd.pyHash O ?_];let Q:(merged ([]:xD (K×η))$ m.take i).length<=i:=by let:=WP ([]:xD (K×η)) (m.take i);rw[Pf]at this;simp only[UH]at this;omega
  refine wpAny_dictSetHashed_pairs (s:={ s with heap:=l,toks:=s.toks+1 }) O J (λh p sb=>?_) N9;rw[<- merged_take_succ [] m i (k,V) hm]at p;let U:∀e o,e≠Dd->l.get? e=δ o->h.get? e=δ o:=λe o ne w=>(sb.2 e ne).trans w;erw[OK #[RZ zT _,ih (i+1) _ (n+1) N9 M (S.keep F U) p λh2 T k2 d2=>C h2 T (λe o W N t y B w=>k2 e o W N t y B (U _ _ W$ g e o N t y B w)) d2]]
def QD{K:Type}[DecidableEq K]{knd:KeyKind prog w K}{more:xD (K×η)}{Q:η->ι->Prop}(N:A.handled=θ)(D:Aw z u v c d a b)
  (j:IsZip s.heap z u v .none) (P:IsPair s.heap u (.ref c) (.ref d)) (m:∃p q,IsPair s.heap v p q) (U:iU ν s.heap c a 0) (V:iU ν s.heap d b 0) (W:l7 ν s.heap a x) (X:l7 ν s.heap b ys)
  (hn:ry more=x.size) (n:x.size<=τ) (hP:∀(i:Nat),i < x.size->∃Y vu k,x[i]?=δ Y/\ys[i]?=δ vu/\knd.is k Y=μ/\more[i]?=δ (k,vu))
  (h:∀l t,l.DictOf knd s.heap.objs.size (merged [] more)->(∀e o,e≠z->e≠v->e≠c->e≠d->s.heap.get? e=δ o->l.get? e=δ o)->Q (.ref s.heap.objs.size) { s with heap:=l,toks:=t }):
  π (υ prog w) A (call (.type "dict") [.ref z]) Q E s:=by
 refine callType_codes (Q₁:=λO S=>O= .ref s.heap.objs.size/\S={ s with heap:=s.heap.push { cls:=.type "dict",data:=.dict (ε []) } }) PySem.F.kt_called_dict (PySem.F.kt_typeCall_dict_1 _) PySem.F.entry_dict_init (kt_code_dict_new _ #[Z,Z]) ?_;rintro O S ⟨rfl,rfl⟩;let f:(s.heap.push { cls:=.type "dict",data:=.dict (ε []) }).DictOf knd s.heap.objs.size []:=Vl s.heap;erw[#[f.typeIs,PySem.F.args_dict_init_2 _ _,?_]];unfold dw.«dict.__init__»;erw[OF ?_];unfold Builtin.Dict.selfAndRest;erw[OF$ wpAny_notOrdered_dict f.typeIs ?_];show π _ _ (pure (s.heap.objs.size,[Θ z])) _ _ _;erw[OK ?_];show π _ _ (Builtin.Dict.updateFrom "dict.__init__" s.heap.objs.size (.ref z) [] .none) _ _ _;unfold Builtin.Dict.updateFrom;generalize hH:s.heap.push { cls:=.type "dict",data:=.dict (ε []) }=H at f ⊢;let G:∀b o,s.heap.get? b=δ o->H.get? b=δ o:=λb o e=>by rw[<- hH];rwa[OH _ e]
 erw[OF$ RM #[_,G _ _ j,Z] ?_];rw[OT Oa];refine OF$ Bh (s:={ s with heap:=H }) (G _ _ j) (by simpa using N) λM t k1=>?_;simp only[Vw,Tg];erw[OF$ RQ ?_];let g:∀b o,s.heap.get? b=δ o->M.get? b=δ o:=λb o e=>k1 _ _ (G _ _ e);refine OF$ wpAny_pyIter_zip (s:={ s with heap:=M,toks:=t }) (g _ _ j) ?_;let#[oD,eD,y,B,rD]:=f;let#[p,q,m]:=m;let#[oc,C,_]:=U.ob;let#[od,I,_]:=V.ob;let#[oa,J,_]:=id W;let#[ob,L,_]:=id X;let F:Mp s.heap.objs.size z u v c d a b:=#[PV$ OP j,PV$ OP P,PV$ OP m,PV$ OP C,PV$ OP I,PV$ OP J,PV$ OP L];refine OK #[RZ zT _,Sw (Qq (knd:=knd) (A:=A.in1) (R:=λr s'=>r= .ok (.ret .none)/\Q (.ref s.heap.objs.size) s') (by simpa using N) D F more hn n hP x.size 0 { s with heap:=M,toks:=t } 0 Z (OS _)
  #[.inl #[g _ _ j,p,q,g _ _ m],g _ _ P,U.kp λo e=>g _ _ e,V.kp λo e=>g _ _ e,W.kp λo e=>g _ _ e,X.kp λo e=>g _ _ e] #[oD,eD,y,k1 _ _ B,rD] λl T k2 d2=>#[Z,?_]) λr s' q=>?_]
 .rwa[h l T d2 λe o n1 n2 n3 n4 w=>k2 e o (OZ$ OP w) n1 n2 n3 n4 (g _ _ w)]
 .let#[Z,q]:=q;rwa[#[Z,q]]
end
section
variable {X:Cx}{e1 e2:dg}{ta:TA}{p p2 pos pos2:Pos}
inductive LK(K:β)(Q:VK)(e:xD V)(c:Hp):Prop
 |mk(a b:ζ)(d:xD cg)(f:xD V)(_:e=[.ref a,.ref b])(_:aC K c a (d.map kV))(_:aC K c b f)(_:ry d=ry f)(_:∀l,c l=θ->Q (.ref l) (af c l (.dK (dR [] (d.zip f)))))
def NP(K:β)(ta:TA):TE:=λa H Q=>ta a H (LK K Q)
theorem ZU{P:ψ}{w:bF}:∀{K:xD cg} {U:xD η},aG (K.map kV) U->∀(i:Nat) (k:cg),K[i]?=δ k->∃u,U[i]?=δ u/\(be P w).is k u=μ
 | [],_,_,i,k,h=>by simp at h
 |k0::K,_,.cons (b:=u) h t,0,k,e=>by
  let E:k0=k:=by simpa using e
  subst E;rwa[#[u,Z,QJ h]]
 |k0::K,_,.cons h t,i+1,k,e=>by simpa using ZU (P:=P) (w:=w) t i k (by simpa using e)
theorem wu:∀{K:xD cg} {y:xD V} {u:xD η},aG y u->KV (K.zip y) (K.zip u)
 | [],_,_,_=>by simp only[List.zip_nil_left];rwa[.nil]
 |_::_,_,_,.nil=>by simp only[List.zip_nil_right];rwa[.nil]
 |k::K,_,_,.cons h t=>.cons #[Z,h] (wu t)
def ZV(m:Gl X "dict")(n:X.mg "dict"=θ)(t:Gl X "zip")(v:X.mg "zip"=θ)(N:X.calm=μ)(O:PA X [e1,e2] ta)
  (T:↥(Δ [e1,e2] X.env=(ν,eval e1 X.env)::Δ [e2] X.env)) (U:↥((fx pos2$ Δ [e2] X.env).any (·.1)=ν))
  (f:↥(Δ [Expr.Call (.Name "zip" p2) [e1,e2] [] pos2] X.env=(ν,eval (.Call (.Name "zip" p2) [e1,e2] [] pos2) X.env)::Δ [] X.env)) (x:↥((fx pos$ Δ [] X.env).any (·.1)=ν)):
  PE X (.Call (.Name "dict" p) [.Call (.Name "zip" p2) [e1,e2] [] pos2] [] pos) (NP X.K ta):=by
 intro P s V H Q I h;erw[P6$ zU I m n PyProof.Rows.boot_dict ?_];erw[Px ?_ f x];rw[f];show π _ _ (spliced ((ν,eval _ X.env)::fx pos (Δ [] X.env))) _ _ s;erw[RJ ?_];erw[P6$ zU I t v PyProof.Rows.boot_zip ?_];erw[Px (a8 (O pos2 P s V H _ I h) λus S z=>?_) T U];let#[vs,H1,d,W,Y]:=z;let#[a,b,c,ys,e,gx,gy,hl,q]:=Y;subst e;cases W with
 |cons r rr=>
  cases rr with
  |cons r' y=>
   cases y;cases r;cases r';let#[A,F,G,z1]:=d.tuple gx;let#[j,R,C,z2]:=d.tuple gy;let l1:=F.length;let l2:=R.length;rw[OJ]at l1 z1;let la:a < S.heap.objs.size:=by let#[o,D,_]:=G;rwa[OP D]
   let lb:b < S.heap.objs.size:=by let#[o,D,_]:=C;rwa[OP D]
   erw[Hj (b1:=ν) (b2:=ν) (xs:=A.toArray) (ys:=j.toArray) G C λE J u' v' i1 i2 k=>?_];erw[Sd ?_];let Dz:=C2 S.heap.objs.size a b la lb;refine QD (s:={ S with heap:=E }) (knd:=be X.prog X.w) (more:=c.zip j) (d.ok.hd N) Dz J u' #[_,_,v'] i1 i2 (l7.kp (b:=ν) G λo e=>k _ _ e) (l7.kp (b:=ν) C λo e=>k _ _ e) (by rw[UG,ON];omega) (by rw[ON];omega) (λi hi=>?_) λh2 tk dd k2=>?_
   .rw[ON]at hi;let L:i < ry c:=by omega
    let M:i < ry j:=by omega
    let#[u,hu,ku]:=ZU F i _ (OG L);erw[#[u,j[i],c[i],by simpa using hu,by simp [M],ku,?_]];rw[U1];rwa[#[OG L,OG M]]
   .let g:KV (dR []$ c.zip ys) (merged []$ c.zip j):=KV.merge (wu R) .nil;let zl:(dR []$ c.zip ys).length<=τ:=by rw[g.length];let:=WP ([]:xD (cg×η)) (c.zip j);rw[UG]at this;simp only[UH]at this;omega
    let k3:∀e o,S.heap.get? e=δ o->h2.get? e=δ o:=λe o w=>by let l:=OP w;rwa[k2 e o (OZ$ O3 l$ So _ _) (OZ$ O3 l$ So _ _) (OZ l) (OZ$ O3 l$ So _ _)$ k _ _ w]
    let B:S.heap.objs.size<=E.objs.size:=RX (Rm (So _ 4)$ OP J);rwa[#[.ref E.objs.size,_,d.laid k3 B$ YK zl (beq_eq_false_iff_ne.mpr$ Pk$ OZ$ O3 d.big B) g dd,Z,q _$ d.hok.fresh B]]
end
section
variable {X:Cx}{st:cc}{ss:xD cc}{e:dg}{es:xD dg}
def NO:TS:=λ_ _ _=>False
def xE:nJ X ss NO:=λ_ _ _ _ _ _ h=>False.elim h
end
end _L
namespace _L
open PySem PySem.Spec PyProof.Rows PySem.SeqAt
inductive Lb(K:β)(x y:V)(H:Hp)(Q:VK):Prop
 |mk(a b d e:_)(_:x= .ref a)(_:y= .ref b)(_:aC K H a d)(_:aC K H b e)(_:(d.all dF=μ/\e.all dF=μ/\Q (.bl (vJ d e)) H)\/∃(w:ρ) (c:ζ) (zs:xD V) (u:ρ) (i:Int),d=[.str w,.ref c]/\aC K H c zs/\e=[.str u,.int i]/\Q (.bl ν) H)
def FK{X:Cx}(d:X.A.units+1 < cLine):fQ X (compareOp .Eq) (Lb X.K):=by
 intro p s m H x y v U Q I f g h;obtain⟨a,b,n,Y,rfl,rfl,k,l,h | ⟨w,c,M,u,i,rfl,o,rfl,q⟩⟩:=h
 .rwa[FJ (Sf d) p s m H _ _ v U Q I f g #[a,b,n,Y,Z,Z,k,l,h.1,h.2.1,h.2.2]]
 cases f;cases g;let#[N,r,P,_]:=I.tuple k;let#[O,R,t,_]:=I.tuple l;let#[S,V,z,_]:=I.tuple o;cases r with
 |cons B r=>
  cases r with
  |cons C r=>
   cases r;cases R with
   |cons D R=>
    cases R with
    |cons E R=>
     cases R;let#[T,Z]:=B;cases C;let#[F,Z]:=D;let#[G,Z]:=E;erw[eq_tupleAt (e:=λj=>if j=0 then w==u else ν) (show s.heap.IsTuple a _ from P) (show s.heap.IsTuple b _ from t) (Sf d) (λj J L=>?_) ?_]
     .match j,J,L with
      |0,_,_=>rwa[WL w T u F]
      |1,_,_=>rwa[Wt i G (show s.heap.IsTuple c _ from z) (by simpa [Around.in1,Around.units] using d)]
     .let e:((dn$ min 2 2).all (λj=>if j=0 then w==u else ν)&&(2:Nat)==2)=ν:=by show((if 0=0 then w==u else ν)&&((if 1=0 then w==u else ν)&&μ)&&μ)=ν;simp
      rwa[#[.bl ν,H,I,P' rz e,q]]
end _L
namespace _L
open PySem PySem.Spec PyProof.Rows
def YC(l:ζ)(i:Array η)(n:Nat)(D:xL ζ)(S:Array (xL η)):
  Meets (dw.«enumerate.__new__» #[[.type "enumerate",.ref l],[]]) (λ_ R s=>s.heap.get? l=δ { cls:=.type "tuple",dict:=D,data:=.seq i n,slots:=S }/\
   R (.ok$ .ret$ .ref (s.heap.push { cls:=.type "tuple_iterator",data:=.fields (ε [.ref l,.int 0 0]) }).objs.size)
    { s with heap:=(s.heap.push { cls:=.type "tuple_iterator",data:=.fields (ε [.ref l,.int 0 0]) }).push { cls:=.type "enumerate",data:=.fields (ε [.none,.bool ν,.ref s.heap.objs.size,rawInt 0,.none,.none]) } }):=
 .of_wp λp w A R s h=>by
  let#[e,g,d,t,os]:=s;let#[H,h]:=h;let b:=sub_enumerate;let a:Heap.IsTuple (Shared.heap #[e,g,d,t,os]) l i:=#[_,H,Z,n,Z];wp_walk using Rv H;erw[wpAny_stack_any λst=>OK ?_];split
  .rename_i c _ _ _ _ _
   cases (c==eT "enumerate")
   .wp_walk using Rv H,SN a;rwa[#[_,Z,h]]
   .wp_walk using Rv H,SN a;rwa[#[_,Z,h]]
  .wp_walk using Rv H,SN a;rwa[#[_,Z,h]]
section
variable {prog:ψ}{w:bF}{A:bU}{E:η->ι->Prop}{s:ι}
def Zi{Q:η->ι->Prop}(j:s.heap.IsTuple l i)
  (h:∀H,IsEnum H (s.heap.objs.size+1) s.heap.objs.size 0 .none->H.IsTupleIter s.heap.objs.size l 0->(∀b o,s.heap.get? b=δ o->H.get? b=δ o)->Q (.ref$ s.heap.objs.size+1) { s with heap:=H }):
  π (υ prog w) A (call (.type "enumerate") [.ref l]) Q E s:=by
 obtain⟨⟨c,d,D,S⟩,k,a,n,e⟩:=j;replace a:c= .type "tuple":=a;replace e:D= .seq i n:=e;subst a e;erw[VS PySem.F.called_enumerate Oa (PySem.F.typeCall_enumerate_1 _) (PySem.F.newCall_enumerate_1 _) (λO=>Tc O _) PySem.F.entry_enumerate_new (YC l i n d S) #[k,?_]];let f:(s.heap.push { cls:=.type "tuple_iterator",data:=.fields (ε [.ref l,.int 0 0]) }).objs.size=s.heap.objs.size+1:=PM ..;show _/\_;rw[f];let g:IsEnum ((s.heap.push { cls:=.type "tuple_iterator",data:=.fields (ε [.ref l,.int 0 0]) }).push { cls:=.type "enumerate",data:=.fields (ε [.none,.bool ν,.ref s.heap.objs.size,rawInt 0,.none,.none]) }) (s.heap.objs.size+1) s.heap.objs.size 0 .none:=by let:=OQ (s.heap.push { cls:=.type "tuple_iterator",data:=.fields (ε [.ref l,.int 0 0]) }) (o:={ cls:=.type "enumerate",data:=.fields (ε [.none,.bool ν,.ref s.heap.objs.size,rawInt 0,.none,.none]) }) Z;rw[f]at this;rwa[this]
 rwa[#[#[_,g,Z],h _ g #[_,OH _$ OQ _ Z,Z,Z] λb o x=>OH _ (OH _ x)]]
def Aa{c:Type}{Q:c->ι->Prop}(d:A.handled=θ)
  (h:∀H (e:ζ),(∀b o,s.heap.get? b=δ o->H.get? b=δ o)->Shared.TypeIs { s with heap:=H } (.ref e) "StopIteration"->E (.ref e) { s with heap:=H }):
  π (υ prog w) A (do raiseNew (<- newExc (.type "StopIteration") []):Sem c) Q E s:=by
 erw[OF ?_];simp only[newExc,newTuple];erw[OF$ Pu ?_ (by size_fits)];erw[OF (m:=firstArgMember _ _)$ TQ (a:=Ω) ?_ ?_]
 .first |rfl | (simp only[firstArgMember];rfl)
 erw[Pu ?_ (by size_fits)];simp only[raiseNew];erw[OF$ wpAny_handled ?_];rw[d];erw[OF$ OK$ wpAny_throw$ h _ _ (λb o e=>OH _ (OH _ e)) ?_];rwa[#[_,OQ _ Z,Z]]
def Qa{J T:ζ}{i:Nat}{I:Array η}{Q:η->ι->Prop}(g:A.handled=θ)(H:s.heap.IsTupleIter J T i)(j:s.heap.IsTuple T I)(l:I[i]?=θ)
  (q:∀h (e:ζ),nI J s.heap h->Shared.TypeIs { s with heap:=h } (.ref e) "StopIteration"->E (.ref e) { s with heap:=h }):π (υ prog w) A (Φ$ .ref J) Q E s:=by
 let#[o,a,p,c]:=id H;let#[O,d,_,N,f]:=j;unfold Φ;erw[OF$ Pr (name:=Str.ofString "__next__") H.typeIs P9$ Pp P9 H.typeIs Sx (show π _ _ (field (.ref J) 0 >>= _) _ _ s from ?_)$ Sr _];erw[OF$ Pg a c (x:=.ref T) Z (show π _ _ (if (Θ T==Ω)=μ then _ else _) _ _ s from ?_)];rw[OU (show ¬((Θ T==Ω)=μ) from OX)];erw[(show π _ _ (field (.ref J) 1 >>= _) _ _ s from OF$ Pg a c (x:=.int i 0) Z (show π _ _ (seqItems? (.ref T) >>= _) _ _ s from OF$ PZ d f ?_))];simp only[PQ,l];erw[OF$ RQ$ OF$ PU a c N8 ?_];erw[Aa (by simpa using g) λh e k t=>q h e (λb o m n=>k b o ?_) t];rwa[(O6 _ _$ Pk m).trans n]
def sT(m:A.handled=θ)(a l:ζ)(d:l≠a)(I:Array η):
  Draws prog w A a [a,l] I.size (λi v=>I[i]?=δ v) (λi h=>h.IsTupleIter a l i/\h.IsTuple l I) where
 live:=λ_ _ st=>let #[o,H,_]:=st.1;#[o,H]
 frame:=λ_ _ _ st g=>#[st.1.at λo e=>g a N8 o e,let #[o,H,r]:=st.2;#[o,g l N8 o H,r]]
 item:=λi s Q E j st n=>K9 st.1 st.2 (x:=I[i]) (by simp [j]) λf b c=>n _ f s.toks (by simp [j]) #[b,let #[o,H,r]:=st.2;#[o,c.extBut l o d H,r]] c
 done:=λs Q E st p=>Qa m st.1 st.2 N8 λf e k t=>p f e k t
def Zj(c:A.handled=θ)(a l:ζ)(I:Array η)(i:Nat)(d:I[i]?=θ):
  Draws prog w A a [a,l] i (λ_ _=>True) (λj h=>j=i/\h.IsTupleIter a l i/\h.IsTuple l I) where
 live:=λ_ _ st=>let #[o,H,_]:=st.2.1;#[o,H]
 frame:=λ_ _ _ st b=>#[st.1,st.2.1.at λo e=>b a N8 o e,let #[o,H,r]:=st.2.2;#[o,b l N8 o H,r]]
 item:=λj s Q E f st n=>absurd st.1 (OZ f)
 done:=λs Q E st g=>Qa c st.2.1 st.2.2 d λm e k t=>g m e k t
end
def D2(K:β)(a:ζ):It:=
 #[λi H=>∃X x,aC K H a X/\X[i]?=δ x,λi H x h=>∃p v,x= .ref p/\H p=θ/\h=af H p (.tup [.int i,v])/\∀X,aC K H a X->X[i]?=δ v,λi H=>∃X,aC K H a X/\ry X<=i]
def Zk{P:ψ}{K:β}(a e g:ζ)(r:e≠g):oQ P w K (.Tuple e0 kx tp) (D2 K a) [e,g] e (λi h=>(∃O,IsEnum h e g i O)/\h.IsTupleIter g a i) where
 mem:=by simp
 obj:=λi h st b hb=>by
  obtain⟨⟨O,j⟩,⟨o,ei,c,d⟩⟩:=st;rcases Ξ.mp hb with rfl |hb
  .rwa[#[_,j,λv z=>by cases (show Data.fields _=Data.cell v from z)]]
  .let q:b=g:=by simpa using hb
   subst q;exact#[o,ei,λv z=>by rw[d]at z;cases z]
 keep:=λi h A st k=>#[let #[O,j]:=st.1;#[O,k e N8 _ j],st.2.at λo q=>k g N8 o q]
 item:=by
  intro X Q S T U i f s J H E I L st W;subst Q S T;obtain⟨⟨O,j⟩,l⟩:=st;let#[xs,x,M,N]:=W;let#[m,R,p,hz]:=I.tuple M;let#[u,hu,ru]:=R.get N;let Y:e < s.heap.objs.size:=OP j;let l0:g < s.heap.objs.size:=by let#[_,q,_]:=l;rwa[OP q]
  let h0:a≠g:=λz=>by rw[z]at p;let#[o1,e1,c1,_]:=l;let#[o2,B,c2,_]:=p;rw[e1]at B;cases B;rwa[absurd (c1.symm.trans c2) Oa]
  let h1:e∉[g,a]:=λz=>by
   rcases Ξ.mp z with z |z
   .rwa[r z]
   .rw[χ.mp z]at j;let#[o2,B,c2,_]:=p;unfold IsEnum at j;rw[j]at B;cases B;rwa[absurd (show eT "enumerate"=eT "tuple" from c2) Oa]
  erw[wpAny_pyNext_enum_itemD (sT (by simpa using I.ok.hd U) g a h0 m.toArray) j #[l,p] (by let:=R.length;let:=(ξ.mp N).1;simp;omega) r h1 λx' A t C ho y hT h4 hk=>#[_,Z,?_]];let D:=y.1;let ex:u=x':=by
   let h2:m.toArray[i]?=δ u:=by simpa using hu
   rw[h2]at C;rwa[PR C]
  subst ex;let hn:H s.heap.objs.size=θ:=I.hok.fresh (OM _);let I1:au X f J H { s with heap:=A,toks:=t+1 }:=I.turnedN L λb o hb q=>hk b o (λz=>hb (by simp [z])) (λz=>hb (by simp [z])) q;let r2:aG [tT i,x] [ks i t,u]:=.cons #[_,Z] (.cons ru .nil);let I2:au X f J (af H s.heap.objs.size$ .tup [.int i,x]) { s with heap:=A,toks:=t+1 }:=
   I1.track (I.fpOk (OM _) hn) I.sz #[by show 2<=τ;decide,_,r2,_,hT,Z,_,Z]
  let F:∀b∈[e,g],h9 X f (af H s.heap.objs.size$ .tup [.int i,x]) b:=λb hb=>by
   let#[f0,f1]:=L b hb;erw[#[?_,f1]];rw[jh]
   .rwa[f0]
   .rcases Ξ.mp hb with rfl |hb
    .rwa[OZ Y]
    .let q:b=g:=by simpa using hb
     subst q;rwa[OZ l0]
  refine wpAny_letOwnedTupleGo_enum (s:={ s with heap:=A,toks:=t+1 }) ho λG h3 n=>?_;replace n:fr e A G:=n;let I3:au X f J (af H s.heap.objs.size$ .tup [.int i,x]) { s with heap:=G,toks:=t+1 }:=I2.turnedN F λb o hb q=>(n.2 b λz=>hb (by simp [z])).trans q;refine#[.ref s.heap.objs.size,_,I3,Z,#[_,x,Z,hn,Z,λys hy=>by rw[I.tuple_inj hy M];rwa[N]],#[#[u,by simpa using h3],D.at λo q=>(n.2 g r.symm).trans q],λb hb=>(F b hb).1]
 done:=by intro X Q S T U i f s J H E I L st W;subst Q S T;obtain⟨⟨O,j⟩,l⟩:=st;let#[xs,M,N]:=W;let#[m,R,p,hz]:=I.tuple M;let hl:=R.length;erw[wpAny_pyNext_enum_endD (Zj (by simpa using I.ok.hd U) g a m.toArray i (by simp;omega)) j #[Z,l,p] λA eb=>#[Z,?_]];exact I.turnedN (t':=s.toks) L λb o hb q=>eb b o (λz=>hb (by simp [z])) q
 self:=λ_ _ _ _ _ st h=>by obtain⟨⟨O,j⟩,_⟩:=st;rwa[WC j h]
section
variable {X:Cx}{elts:xD dg}{kx:Nat}{tp:Pos}
inductive pR(K:β)(R:It->Hp->Prop)(c:xD V)(b:Hp):Prop
 |mk(a:_)(_:c=[.ref a])(_:∃xs,aC K b a xs)(_:R (D2 K a) b)
def Ey(K:β)(t:TA):TI:=λa H R=>t a H (pR K R)
def KN(g:Gl X "enumerate")(j:X.mg "enumerate"=θ)(k:PA X [a] t)(m:↥(Δ [a] X.env=[(ν,eval a X.env)])):PI X (.Tuple elts kx tp) (.Call (.Name "enumerate" p) [a] [] c) (Ey X.K t):=by
 intro P s n H R I h;erw[Call_$ zU I g j PyProof.Rows.boot_enumerate$ Px (a8 (k c P s n H _ I h) λU S z=>?_) m Z];let#[V,o,i,u,Q]:=z;obtain⟨l,e,⟨A,v⟩,q⟩:=Q;subst e;cases u with
 |cons r w=>
  cases w;cases r;let#[x,B,p,C]:=i.tuple v;erw[Zi p λD f d y=>?_];erw[WC f ?_];erw[#[S.heap.objs.size+1,[S.heap.objs.size+1,S.heap.objs.size],_,_,o,Z,i.kept (t':=S.toks) y,Zk l _ _$ PV$ Rs _,#[#[_,f],d],λb hb=>?_,q]];rcases Ξ.mp hb with rfl |hb
  .rwa[i.fpOk (Rk _)$ i.hok.fresh$ Rk _]
  .let e:b=S.heap.objs.size:=by simpa using hb
   subst e;rwa[i.fpOk (OM _)$ i.hok.fresh$ OM _]
end
def q9{K:β}{xs:xD V}{g:TG}{t:TS}{D:bp}(Pv:Nat->St->Hp->Prop)(j:Pv 0 b H)(k:∀i b H,i<=ry xs->Pv i b H->aC K H a xs)
  (l:∀E:bp,E.rt=D.rt->∀i x p b H,xs[i]?=δ x->H p=θ->(∀c e,Pv (i+1) c e->E.nx c e)->∀G:Prop,((g (.ref p) b (af H p$ .tup [.int i,x]) λf n=>t E f n)->G)->Pv i b H->G) (o:∀b H,Pv xs.length b H->D.nx b H):sH (D2 K a) g t D b H:=by
 erw[#[λi m b H=>m=ry xs - i/\i<=ry xs/\Pv i b H,#[xs.length,N8,OS _,j],?_]];rintro i m b H ⟨rfl,s,p⟩;let q:=k i b H s p;by_cases d:i < ry xs
 .erw[.inr #[#[xs,xs[i],q,OG d],Pv$ i+1,λc e P=>#[ry xs - (i+1),N09,Z,d,P],λx e y=>?_]];let#[r,v,Z,u,Z,w]:=y;exact l { D with nx:=Pv (i+1),ct:=Pv (i+1),bk:=D.nx } Z i v r b H (w xs q) u (λ_ _ h=>h) _ (λz=>z) p
 .rwa[.inl #[#[xs,q,N9],o _ _ (by rw[show ry xs=i by omega];rwa[p])]]
abbrev NG(K:β)(i j:Nat):TG:=sY K 2 (dZ (bH i)$ dZ (bH j) vW)
def IH{t:St}(h:ry t=2):∃a b,t=[a,b]:=by
 cases t with
 |nil=>cases h
 |cons a r=>
  cases r with
  |nil=>cases h
  |cons b R=>
   cases R with
   |nil=>rwa[#[a,b,Z]]
   |cons _ _=>cases h
def YD{K:β}{X:xD V}{t:TE}{n:xD V->Hp->Prop}(f:Nat->V)(u:ry X<=τ)(b:aK K H a X)
  (p:∀(i:Nat) (x:V),X[i]?=δ x->∃q y z,x= .ref q/\aC K H q [y,z]/\∀Q:VK,Q (f i) H->t (δ y::δ z::c) H Q) (r:n ((dn X.length).map f) H):
  fe (Ae K a) 2 c (NG K 0 1) nD t n H:=by
 erw[#[λi m o d=>m=ry X - i/\i<=ry X/\o=(dn i).map f/\d=H,#[X.length,N8,OS _,N8,Z],?_]];rintro i m o d ⟨rfl,w,rfl,rfl⟩;by_cases h:i < ry X
 .erw[.inr #[#[X,X[i],b,OG h],?_,λY g=>Y=(dn$ i+1).map f/\g=d,λY g #[P,s]=>#[ry X - (i+1),N9,Z,h,P,s],λv g T j y=>?_]]
  .rw[OJ,SK];omega
  let#[e,y]:=y;subst e;let#[q,A,B,Z,k,l]:=p i v (y X b);let#[C,D,Z]:=IH j;erw[#[q,_,Z,k,Z,_,_,Z,_,_,Z,Z,#[[δ _,δ _],Z,Z],l _ #[?_,Z]]];rw[List.range_succ,O4];rfl
 .let e:i=ry X:=by omega
  subst e;rwa[.inl #[#[X,b,OM _],r]]
end _L
namespace _L
open PySem PySem.Spec PyProof.Rows PySem.SeqAt PySem.W
def gI:xD Int->xD Int->Bool
 | [],[]=>ν
 | [],_::_=>μ
 |_::_,[]=>ν
 |a::p,b::q=>if a=b then gI p q else decide (a < b)
theorem Jq:∀{p q:xD Int},gI p q=μ->gI q p=ν
 | [],[],h=>by cases h
 | [],_::_,_=>rfl
 |_::_,[],h=>by cases h
 |a::p,b::q,h=>by
  let h:(if a=b then gI p q else decide (a < b))=μ:=h;show(if b=a then gI q p else decide (b < a))=ν;by_cases e:a=b
  .rw[OT e]at h;rw[OT e.symm];rwa[Jq h]
  .rw[OU e]at h;rw[OU$ Pk e];let:=Pw h;rwa[OR N9]
section
variable {prog:ψ}{w:bF}{A:bU}{E:η->ι->Prop}{s:ι}{Q:Bool->ι->Prop}
def ui(f:Bool)(h:Q (decide$ a < b) s):π (υ prog w) A (oneLt' f (.int a t)$ .int b u) Q E s:=by
 cases f with
 |true=>rwa[oneLt_int h]
 |false=>rwa[kat_one _ _ (lt_int h)]
theorem X2:∀{p q:xD Int} {U v:xD η},aG (p.map tT) U->aG (q.map tT) v->∀i,f=decide (ry p < ry q)->Q (gI p q) s->KatLex prog w A b f Q (U.zip v) i s
 | [],[],_,_,.nil,.nil,_,e,h | [],_::_,_,_,.nil,.cons _ _,_,e,h |_::_,[],_,_,.cons _ _,.nil,_,e,h=>by subst e;rwa[h]
 |x::p,y::q,_,_,.cons #[t,c] r,.cons #[u,d] R,i,e,h=>by
  subst c;subst d;let h:Q (if x=y then gI p q else decide (x < y)) s:=h;erw[kat_cons$ WN x t y u prog w _ _ ?_];by_cases H:x=y
  .rw[OT H]at h;rw[beq_iff_eq.mpr H];erw[kat_yes$ X2 r R (i+1) ?_ h];rw[e];show decide (ry p+1 < ry q+1)=_;by_cases a:ry p < ry q
   .rw[OY a,OY N9]
   .rw[OR a,OR N9]
  .rw[OU H]at h;rw[beq_eq_false_iff_ne.mpr H];rwa[kat_no$ ui _ h]
def Db(h:de)(v:η)(p:xD Int):Prop:=∃a o u n,v= .ref a/\h.get? a=δ o/\o.cls= .type "tuple"/\o.data= .seq u n/\aG (p.map tT) u.toList
def LP(c:Db s.heap x p)(d:Db s.heap y q)(h:Q (gI p q) s):π (υ prog w) A (keyLt' (tuples' b) x y) Q E s:=by let#[a,o,U,n,Z,e,_,f,H]:=c;let#[i,O,u,N,Z,K,_,g,k]:=d;erw[kat_lt e f K g$ X2 H k 0 ?_ h];let l:=H.length;let L:=k.length;rw[OJ]at l L;rw[<- Pa,<- Pa,<- l,<- L]
def cn(l:Nat->Nat->Bool)(n:Nat){b:Type}(R:b->Prop):KasT b->Prop
 | .ret a=>R a
 | .ask i j k=>i < n/\j < n/\cn l n R (k (l i j))
theorem cn.bind{b c:Type}{R:b->Prop}{S:c->Prop}{f:b->KasT c}(H:∀a,R a->cn l n S (f a)):∀{t:KasT b},cn l n R t->cn l n S (t.bind f)
 | .ret _,h=>H _ h
 | .ask _ _ _,z=>by let#[d,e,g]:=z;rwa[#[d,e,cn.bind H g]]
theorem cn.wp{l:Nat->Nat->Bool}{n:Nat}{b:Type}{R:b->Prop}{c:Nat->Nat->(Bool->ι->Prop)->ι->Prop}(H:∀i j (C:Bool->ι->Prop),i < n->j < n->C (l i j) s->c i j C s){G:b->ι->Prop}(d:∀a,R a->G a s):∀{t:KasT b},cn l n R t->t.kasWp c G s
 | .ret _,h=>d _ h
 | .ask i j _,z=>by let#[e,f,g]:=z;rwa[H i j _ e f (cn.wp H d g)]
theorem ZW:∀{vs:xD η} {ps:xD (xD Int)},ry vs=ry ps->(∀(i:Nat) (v:η) (p:xD Int),vs[i]?=δ v->ps[i]?=δ p->Db h v p/\p≠[])->∃F:xD η,ry F=ry vs/\(∀f∈F,∃i t,f= .int i t)/\KatTups h vs F
 | [],[],_,_=>#[[],Z,λ_ z=>(nomatch z),trivial]
 | [],_::_,e,_ |_::_,[],e,_=>by cases e
 |v::vs,p::ps,e,k=>by
  let#[F,g,j,l]:=ZW (vs:=vs) (ps:=ps) (by simpa using e) λi v p b c=>k (i+1) v p (by simpa using b) (by simpa using c);obtain⟨⟨a,o,U,n,rfl,b,c,m,H⟩,q⟩:=k 0 v p Z Z;cases p with
  |nil=>rwa[absurd Z q]
  |cons i p=>
   cases d:U.toList with
   |nil=>rw[d]at H;cases H
   |cons u r=>
    rw[d]at H;cases H with
    |cons R y=>
     let#[t,Z]:=(show ∃t,u=ks i t from R);let x:U[0]?=δ (ks i t):=by rw[<- Ru,d];rfl
     exact#[ks i t::F,by simp [g],λf hf=>by
      rcases Ξ.mp hf with rfl |hf
      .rwa[#[_,_,Z]]
      .rwa[j f hf],KatTups.cons b c m x l]
def Zl{V:xD η}{d:xD (xD Int)}{P:Fin->ι->Prop}(u:s.heap.get? a=δ (seqObj "list" V.toArray n))(I:ry V=ry d)(N:2<=ry V)(y:ry V < 64)
  (O:∀(i:Nat) (v:η) (p:xD Int),V[i]?=δ v->d[i]?=δ p->Db s.heap v p/\p≠[]/\v≠ .ref a) {R:Array Nat->Prop} (U:cn (λi j=>gI (d.getD i []) (d.getD j [])) d.length R (kas_sort d.length))
  (h:∀p,R p->P (.done$ .ret .none) { s with heap:=sortedHeap s.heap a V (p.toList.map λi=>V.getD i Ω).toArray }):
  π (υ prog w) A (dw.«list.sort» #[[.ref a],[]]) P E s:=by
 rw[Va];let la:a < s.heap.objs.size:=OP u;erw[OF$ VP u Z ?_];erw[OF$ Tf u Z ?_];obtain⟨g,J⟩:∃g,(s.heap.update a$ γ λ_=>(ε [])).get? a=δ (seqObj "list" (ε []) g):=#[_,Vb u (λ_=>(ε []))];erw[OF$ TR J Z ?_];erw[OF$ SV ?_ (by show ry V<=_;rw[Sb];omega)];erw[OF$ SH ?_];erw[Pb ?_];let K:(((s.heap.update a$ γ λ_=>(ε [])).push$ seqObj "tuple" V.toArray 0).push$ seqObj "list" (ε []) 0).get? a=δ (seqObj "list" (ε []) g):=OH _ (OH _ J);let k:∀c v,c≠a->s.heap.get? c=δ v->(((s.heap.update a$ γ λ_=>(ε [])).push$ seqObj "tuple" V.toArray 0).push$ seqObj "list" (ε []) 0).get? c=δ v:=λc v W e=>
  OH _ (OH _ (by rw[VE _ _ _ _ W];rwa[e]))
 show π (υ prog w) A _ P E { s with heap:=((s.heap.update a$ γ λ_=>(ε [])).push$ seqObj "tuple" V.toArray 0).push (seqObj "list" (ε []) 0) };dsimp only;let H:∀(i:Nat) (v:η) (p:xD Int),V[i]?=δ v->d[i]?=δ p->Db (((s.heap.update a$ γ λ_=>(ε [])).push$ seqObj "tuple" V.toArray 0).push$ seqObj "list" (ε []) 0) v p/\p≠[]:=λi v p B x=>by obtain⟨⟨b,o,X,m,rfl,Y,b2,b3,b4⟩,l,D⟩:=O i v p B x;rwa[#[#[b,o,X,m,Z,k _ _ (λz=>D (by rw[z])) Y,b2,b3,b4],l]]
 let#[fs,f1,f2,f3]:=ZW I H;let q:¬V.toArray.size < 2:=by rw[ON];omega
 rw[OU q,OU q];erw[OF$ kat_kind (T:=.type "int") f3 N9 (λf hf=>?_) Oa ?_]
 .let#[i,t,Z]:=f2 f hf;rwa[Wo Z]
 refine OF (P5 (kat_run (Q:=λS r=>r={ s with heap:=((s.heap.update a$ γ λ_=>(ε [])).push$ seqObj "tuple" V.toArray 0).push (seqObj "list" (ε []) 0) }/\∃p,R p/\(arrOf S).map (·.2)=(p.toList.map λi=>V.getD i Ω).toArray/\failedOf S=θ/\(arrOf S).size=ry V)
  (G:=λp r=>r={ s with heap:=((s.heap.update a$ γ λ_=>(ε [])).push$ seqObj "tuple" V.toArray 0).push (seqObj "list" (ε []) 0) }/\R p) Z N y (λp S r B x a3 L=>#[L.1,p,L.2,?_,a3,?_]) (cn.wp (n:=d.length) (R:=R) (λi j C F hj hC=>?_) (λp l=>#[Z,l]) (by rw[I];rwa[U]))) ?_ λ_ _ e=>e)
 .rw[kat_snds Z x]
 .rw[x,Wj,B]
 .let M:∀i,i < ry d->Db (((s.heap.update a$ γ λ_=>(ε [])).push$ seqObj "tuple" V.toArray 0).push$ seqObj "list" (ε []) 0) (V.getD i Ω) (d.getD i []):=λi F=>by
   let g:V[i]?=δ (V.getD i Ω):=by rw[Pl,OG (by omega:i < ry V)];rfl
   let e2:d[i]?=δ (d.getD i []):=by rw[Pl,OG F];rfl
   rwa[(H i _ _ g e2).1]
  exact LP (M i F) (M j hj) hC
 rintro ⟨⟨⟩,S⟩ r ⟨rfl,p,l,q1,q2,q3⟩;dsimp only;erw[OF$ TR K Z ?_];erw[OF$ Tf K Z ?_ (hsz2:=by rw[Wj,q3,Sb];omega)];rw[q2];simp only[Rr,O0,Rj];erw[OK ?_];rw[q1];rwa[h p l]
end
section
variable {prog:ψ}{w:bF}{A:bU}{E:η->ι->Prop}{s:ι}
def Zm{P:Fin->ι->Prop}(H:s.heap.get? a=δ (seqObj "list" ([]:xD η).toArray n))
  (h:P (.done$ .ret .none) { s with heap:=sortedHeap s.heap a ([]:xD η) (ε []) }):π (υ prog w) A (dw.«list.sort» #[[.ref a],[]]) P E s:=by
 rw[Va];erw[OF$ VP H Z ?_];erw[OF$ Tf H Z ?_];obtain⟨e,b⟩:∃e,(s.heap.update a$ γ λ_=>(ε [])).get? a=δ (seqObj "list" (ε []) e):=#[_,Vb H (λ_=>(ε []))];erw[OF$ TR b Z ?_];erw[OF$ SV ?_];erw[OF$ SH ?_];erw[Pb ?_];let g:(((s.heap.update a$ γ λ_=>(ε [])).push$ seqObj "tuple" ([]:xD η).toArray 0).push$ seqObj "list" (ε []) 0).get? a=δ (seqObj "list" (ε []) e):=OH _ (OH _ b);show π (υ prog w) A _ P E { s with heap:=((s.heap.update a$ γ λ_=>(ε [])).push$ seqObj "tuple" ([]:xD η).toArray 0).push (seqObj "list" (ε []) 0) };dsimp only;let S:([]:xD η).toArray.size < 2:=by show 0 < 2;decide
 rw[OT S,OT S];erw[OF$ OK ?_];rw[VT];erw[OF$ OK ?_];dsimp only;erw[OF$ TR g Z ?_];let c:(arrOf$ SortSt.mk' general' (([]:xD η).toArray.zip ([]:xD η).toArray) (ε []) 7 θ).map (·.2)=(ε []):=by show(([]:xD η).toArray.zip ([]:xD η).toArray).map (·.2)=(ε []);simp
 rw[c];erw[OF$ Tf g Z ?_ (hsz2:=by show 0<=τ+1;omega)];simp only[Rr,O0,Rj];rwa[OK h]
def CH{vs:xD η}{ps:xD (xD Int)}{Q:η->ι->Prop}(q:s.heap.IsList l vs.toArray)(H:ry vs=ry ps)(r:2<=ry vs)(b:ry vs < 64)
  (t:∀(i:Nat) (v:η) (p:xD Int),vs[i]?=δ v->ps[i]?=δ p->Db s.heap v p/\p≠[]) {R:Array Nat->Prop} (u:cn (λi j=>gI (ps.getD i []) (ps.getD j [])) ps.length R (kas_sort ps.length))
  (h:∀p,R p->Q (.ref$ s.heap.objs.size+1) { s with heap:=sortedAll s.heap vs (p.toList.map λi=>vs.getD i Ω).toArray }):π (υ prog w) A (call (.builtin "sorted") [.ref l]) Q E s:=by
 erw[Sn U4 UM UN (UO _) ?_];unfold dw.«sorted»;erw[OF (m:=checkCount "sorted" 1 1 _)$ OK ?_];erw[OF$ VR q ?_ (by rw[Sb];omega)];erw[OF$ SH ?_ (by rw[Sb];omega)];let f:((s.heap.push$ seqObj "list" (ε []) 0).update s.heap.objs.size$ γ (·++vs.toArray)).objs.size=s.heap.objs.size+1:=by rw[UB,Vr]
 let g:(((s.heap.push$ seqObj "list" (ε []) 0).update s.heap.objs.size$ γ (·++vs.toArray)).push$ seqObj "list" vs.toArray 0).get? (s.heap.objs.size+1)=δ (seqObj "list" vs.toArray 0):=by rw[<- f];rwa[OQ _ Z]
 let k:∀c v,s.heap.get? c=δ v->(((s.heap.push$ seqObj "list" (ε []) 0).update s.heap.objs.size$ γ (·++vs.toArray)).push$ seqObj "list" vs.toArray 0).get? c=δ v:=λc v e=>
  OH _ (by rw[VE _ _ _ _$ OZ$ OP e];rwa[OH _ e])
 show π _ _ _ _ _ { s with heap:=((s.heap.push$ seqObj "list" (ε []) 0).update s.heap.objs.size$ γ (·++vs.toArray)).push (seqObj "list" vs.toArray 0) };rw[f];erw[OF$ Pb$ Pp Ur #[_,g,Z] Uk (Zl g H r b (λi v p x y=>?_) u λp d=>#[_,Z,?_]) (Uu _)]
 .obtain⟨⟨a,o,U,n,rfl,B,C,D,F⟩,d⟩:=t i v p x y;exact#[#[a,o,U,n,Z,k _ _ B,C,D,F],d,λz=>by injection z with z;rwa[absurd z$ OZ$ RW$ OP B]]
 .rwa[OK #[_,Z,h p d]]
def CF{Q:η->ι->Prop}(H:s.heap.IsList l ([]:xD η).toArray)
  (h:Q (.ref$ s.heap.objs.size+1) { s with heap:=sortedAll s.heap [] (ε []) }):π (υ prog w) A (call (.builtin "sorted") [.ref l]) Q E s:=by
 erw[Sn U4 UM UN (UO _) ?_];unfold dw.«sorted»;erw[OF (m:=checkCount "sorted" 1 1 _)$ OK ?_];erw[OF$ VR H ?_];erw[OF$ SH ?_];let z:((s.heap.push$ seqObj "list" (ε []) 0).update s.heap.objs.size$ γ (·++([]:xD η).toArray)).objs.size=s.heap.objs.size+1:=by rw[UB,Vr]
 let g:(((s.heap.push$ seqObj "list" (ε []) 0).update s.heap.objs.size$ γ (·++([]:xD η).toArray)).push$ seqObj "list" ([]:xD η).toArray 0).get? (s.heap.objs.size+1)=δ (seqObj "list" ([]:xD η).toArray 0):=by rw[<- z];rwa[OQ _ Z]
 show π _ _ _ _ _ { s with heap:=((s.heap.push$ seqObj "list" (ε []) 0).update s.heap.objs.size$ γ (·++([]:xD η).toArray)).push (seqObj "list" ([]:xD η).toArray 0) };rw[z];erw[OF$ Pb$ Pp Ur #[_,g,Z] Uk (Zm g #[_,Z,?_]) (Uu _)];rwa[OK #[_,Z,h]]
end
section
variable {X:Cx}
def Hd(I:au X b f H s){p:xD Int}(h:H a=δ (.tup$ p.map tT)):Db s.heap (.ref a) p:=by let#[i,r,P,_]:=I.tuple (aC.of (K:=X.K) h);let#[o,c,d,n,e]:=P;rwa[#[a,o,i.toArray,n,Z,c,d,e,r]]
end
end _L
namespace _L
open PySem PySem.W PySem.Spec PyProof.Rows
theorem cn.weak{c:Type}{R S:c->Prop}(h:∀a,R a->S a):∀{t:KasT c},cn l n R t->cn l n S t
 | .ret _,k=>h _ k
 | .ask _ _ _,z=>by let#[a,b,k]:=z;rwa[#[a,b,cn.weak h k]]
def X3{a:Array Nat}{u v i:Nat}(b:u < a.size)(c:v < a.size):(a.swapIfInBounds u v).getD i 0=if i=v then a.getD u 0 else if i=u then a.getD v 0 else a.getD i 0:=by
 unfold Array.swapIfInBounds;rw[dif_pos b,dif_pos c];simp only[Array.getD_eq_getD_getElem?,Array.getElem?_swap];by_cases h:v=i<;>by_cases H:u=i
 .subst h;subst H;simp [b]
 .subst h;let E:¬v=u:=λe=>H e.symm;simp [b,c,H,E]
 .subst H;let d:¬u=v:=λe=>h e.symm;simp [b,c,h,d]
 .let d:¬i=v:=λe=>h e.symm;let E:¬i=u:=λe=>H e.symm;simp [b,c,h,H,d,E]
theorem Qb(a:Array Nat)(k:Nat)(c:k < a.size):∀(d:Nat),d<=k->∀i,(bubble a k d).getD i 0=if i=k - d then a.getD k 0 else if k - d < i/\i<=k then a.getD (i - 1) 0 else a.getD i 0
 |0,_,i=>by
  show a.getD i 0=_;by_cases e:i=k - 0
  .rw[OT e,e,Ti]
  .rw[OU e,OU N9]
 |d+1,f,i=>by
  let I:=Qb a k c d N9;rw[bubble_succ,X3 (by rw[bubble_size];omega) (by rw[bubble_size];rwa[N09]),I,I,I];by_cases H:i=k - d - 1
  .rw[OT H,OT Z,OT N09]
  .rw[OU H,OU (show ¬i=k - (d+1) by rwa[N09])];by_cases h:i=k - d
   .rw[OT h,OU N9,OU N09,OT N09];congr 1;rwa[N09]
   .rw[OU h,OU h];by_cases b:k - d < i/\i<=k
    .rw[OT b,OT N09]
    .rw[OU b,OU N9]
theorem Qc(a:Array Nat)(k:Nat)(c:k<=a.size):∀(d:Nat),2*d<=k->∀i,(mirror a 0 k d).getD i 0=if i < d\/(k - d<=i/\i < k) then a.getD (k - 1 - i) 0 else a.getD i 0
 |0,_,i=>by show a.getD i 0=_;rw[OU N9]
 |d+1,e,i=>by
  let I:=Qc a k c d N9;rw[mirror_succ,X3 (by rw[mirror_size];omega) (by rw[mirror_size];rwa[N09]),I,I,I];by_cases h:i=k - 1 - d
  .rw[OT h,OU N9,OT N9];congr 1;rwa[N09]
  .rw[OU h];by_cases H:i=0+d
   .rw[OT H,OU N9,OT N9];congr 1;omega
   .rw[OU H];by_cases b:i < d\/(k - d<=i/\i < k)
    .rw[OT b,OT N09]
    .rw[OU b,OU N9]
def ZX{a:Array Nat}{k:Nat}(b:k<=a.size)(i:Nat):(kas_rev a 0 k).getD i 0=if i < k then a.getD (k - 1 - i) 0 else a.getD i 0:=by
 unfold kas_rev;rw[Qc a k b _ N9];by_cases h:i < k
 .rw[OT h];by_cases H:i < (k - 0) / 2\/(k - (k - 0) / 2<=i/\i < k)
  .rw[OT H]
  .rw[OU H];congr 1;omega
 .rw[OU h,OU N9]
structure Nk(lt:Nat->Nat->Bool)(n:Nat):Prop where
 tot:∀i j,i < n->j < n->i≠j->lt i j=ν->lt j i=μ
 tr:∀i j k,i < n->j < n->k < n->lt i j=μ->lt j k=μ->lt i k=μ
 asy:∀i j,i < n->j < n->lt i j=μ->lt j i=ν
structure nG(n:Nat)(p:Array Nat):Prop where
 z:p.size=n
 m:∀i,i < n->p.getD i 0 < n
 inj:∀i j,i < n->j < n->p.getD i 0=p.getD j 0->i=j
 pm:p.toList.Perm (dn n)
def gM(l:Nat->Nat->Bool)(p:Array Nat)(m:Nat):Prop:=∀i,i+1 < m->l (p.getD i 0) (p.getD (i+1) 0)=μ
def su(l:Nat->Nat->Bool)(p:Array Nat)(m:Nat):Prop:=∀i,i+1 < m->l (p.getD (i+1) 0) (p.getD i 0)=μ
def DT{n:Nat}{p:Array Nat}(h:p.toList.Perm (dn n)):nG n p:=by
 let a:p.size=n:=by let:=h.length_eq;simpa using this
 let N:p.toList.Nodup:=h.nodup_iff.mpr List.nodup_range;let g:∀i (H:i < n),p.getD i 0=p.toList[i]'(by simpa using (by omega:i < p.size)):=λi H=>by simp [Array.getD,show i < p.size by omega]
 erw[#[a,λi H=>?_,λi j H b e=>?_,h]]
 .rw[g i H];let:=h.mem_iff.mp (Sm (l:=p.toList) (n:=i) (by simpa using (by omega:i < p.size)));simpa using this
 .rw[g i H,g j b]at e;let L:i < ry p.toList:=by simpa using (by omega:i < p.size)
  let c:j < ry p.toList:=by simpa using (by omega:j < p.size)
  rwa[(Tq L N).mp (by rw[OG L,OG c,e])]
def nG.of{n:Nat}{p q:Array Nat}(h:nG n p)(k:q.Perm p):nG n q:=DT (k.toList.trans h.pm)
section
variable {lt:Nat->Nat->Bool}{n:Nat}(O:Nk lt n)
include O
theorem va{p:Array Nat}(h:nG n p){m:Nat}(b:m<=n)(a:gM lt p m):∀(d i:Nat),i+d+1 < m->lt (p.getD i 0) (p.getD (i+d+1) 0)=μ
 |0,i,H=>a i H
 |d+1,i,H=>O.tr _ _ _ (h.m _ N9) (h.m _ N9) (h.m _ N9) (va h b a d i N9) (a (i+d+1) N09)
def J8{p:Array Nat}(h:nG n p){m:Nat}(H:m<=n)(a:gM lt p m){i j:Nat}(b:i < j)(c:j < m):lt (p.getD i 0) (p.getD j 0)=μ:=by let z:=va O h H a (j - i - 1) i N09;rw[show i+(j - i - 1)+1=j by rwa[N09]]at z;rwa[z]
theorem xp{p:Array Nat}(h:nG n p):∀f m,1<=m->m+f<=n->gM lt p m->cn lt n (λr=>m<=r/\r<=m+f/\gM lt p r/\(r < m+f->lt (p.getD r 0) (p.getD (r - 1) 0)=μ)) (kas_asc p f m)
 |0,m,b,d,a=>#[OM _,OM _,a,λz=>absurd z N9]
 |f+1,m,b,d,a=>by
  erw[#[h.m _ N9,h.m _ N9,?_]];by_cases c:lt (p.getD m 0) (p.getD (m - 1) 0)=μ
  .rw[c];rwa[#[OM _,N9,a,λ_=>c]]
  .let C:lt (p.getD m 0) (p.getD (m - 1) 0)=ν:=by simpa using c
   rw[C];let t:=O.tot _ _ (h.m m N9) (h.m (m - 1) N9) (λe=>by let:=h.inj _ _ N9 N9 e;omega) C;let A:gM lt p (m+1):=λi g=>by
    by_cases e:i+1 < m
    .rwa[a i e]
    .rw[show i=m - 1 by omega,show m - 1+1=m by omega];rwa[t]
   rwa[cn.weak (λr H=>#[N09,N09,H.2.2.1,λz=>H.2.2.2 N09])$ xp h f (m+1) N9 N9 A]
theorem xq{p:Array Nat}(h:nG n p):∀f m,2<=m->m+f=n->su lt p m->cn lt n (λr:Array Nat×Nat×Nat=>r.1=p/\r.2.2=0/\m<=r.2.1/\r.2.1<=n/\su lt p r.2.1) (kas_desc f p m 0)
 |0,m,b,d,a=>#[Z,Z,OM _,(by show m<=n;omega),a]
 |f+1,m,b,d,a=>by
  erw[#[h.m _ N9,h.m _ N9,?_]];by_cases c:lt (p.getD m 0) (p.getD (m - 1) 0)=μ
  .rw[c];let A:su lt p (m+1):=λi g=>by
    by_cases e:i+1 < m
    .rwa[a i e]
    .rw[show i=m - 1 by omega,show m - 1+1=m by omega];rwa[c]
   rwa[cn.weak (λr H=>#[H.1,H.2.1,Nat.le_of_succ_le H.2.2.1,H.2.2.2])$ xq h f (m+1) N9 N9 A]
  .let C:lt (p.getD m 0) (p.getD (m - 1) 0)=ν:=by simpa using c
   rw[C];let t:=O.tot _ _ (h.m m N9) (h.m (m - 1) N9) (λe=>by let:=h.inj _ _ N9 N9 e;omega) C;erw[#[h.m _ N9,h.m _ N9,?_]];rw[t];rwa[#[Z,Z,OM _,(by show m<=n;omega),a]]
def FR{p:Array Nat}(h:nG n p){k:Nat}(c:1<=k)(H:k<=n)(a:su lt p k):cn lt n (λr:Nat×Array Nat=>nG n r.2/\1<=r.1/\r.1<=n/\gM lt r.2 r.1) (kas_tail3 k n p):=by
 let b:nG n (kas_rev p 0 k):=h.of (mirror_perm _ _ _ _);let A:gM lt (kas_rev p 0 k) k:=λi d=>by rw[ZX (by rw[h.z];rwa[H]),ZX (by rw[h.z];rwa[H]),OT N9,OT d];let z:=a (k - 1 - (i+1)) N09;rw[show k - 1 - (i+1)+1=k - 1 - i by omega]at z;rwa[z]
 erw[cn.bind (R:=λr=>k<=r/\r<=k+(n - k)/\gM lt (kas_rev p 0 k) r/\(r < k+(n - k)->lt ((kas_rev p 0 k).getD r 0) ((kas_rev p 0 k).getD (r - 1) 0)=μ)) (λr e=>?_)$ xp O b _ _ c N9 A];rwa[#[b,by show 1<=r;rwa[N09],by show r<=n;rwa[N09],e.2.2.1]]
def BM{p:Array Nat}(h:nG n p)(k:1<=n):cn lt n (λr:Nat×Array Nat=>nG n r.2/\1<=r.1/\r.1<=n/\gM lt r.2 r.1) (kas_count n p):=by
 erw[cn.bind (R:=λr=>1<=r/\r<=1+(n - 1)/\gM lt p r/\(r < 1+(n - 1)->lt (p.getD r 0) (p.getD (r - 1) 0)=μ)) (λr H=>?_)$ xp O h _ _ (OM 1) N09 (λi a=>absurd a N9)];by_cases e:r=n
 .rw[OT (by simp [e])];rwa[#[h,H.1,N9,H.2.2.1]]
 .rw[OU (by simp [e])];by_cases g:r > 1
  .rw[OT g];erw[#[h.m _ N9,h.m _ N09,?_]];rw[J8 O h N09 H.2.2.1 (show 0 < r - 1 by rwa[N09]) N09];rwa[#[h,H.1,N09,H.2.2.1]]
  .rw[OU g];let b:r=1:=by rwa[N09]
   subst b;let d:su lt p 2:=λi a=>by rw[show i=0 by omega];rwa[H.2.2.2 N9]
   erw[cn.bind (R:=λr:Array Nat×Nat×Nat=>r.1=p/\r.2.2=0/\2<=r.2.1/\r.2.1<=n/\su lt p r.2.1) (λr H=>?_)$ xq O h _ _ (OM 2) N9 d];let#[E,c,l,f,j]:=H;rw[c,OU$ PX 0,E];rwa[FR O h N9 f j]
theorem Xs{p:Array Nat}(h:nG n p){k:Nat}(H:k < n)(a:gM lt p k):∀f l r,l<=r->r<=k->r - l<=f->(∀i,i < l->lt (p.getD i 0) (p.getD k 0)=μ)->(∀i,r<=i->i < k->lt (p.getD k 0) (p.getD i 0)=μ)->
  cn lt n (λq=>q<=k/\(∀i,i < q->lt (p.getD i 0) (p.getD k 0)=μ)/\∀i,q<=i->i < k->lt (p.getD k 0) (p.getD i 0)=μ) (kas_place p k f l r)
 |0,l,r,u,s,v,b,d=>#[N9,b,λi j=>d i N9]
 |f+1,l,r,u,s,v,b,d=>by
  unfold kas_place;by_cases g:l≥r
  .rw[OT g];rwa[#[N9,b,λi j=>d i N9]]
  .rw[OU g];erw[#[h.m _ N09,h.m _ N9,?_]];by_cases c:lt (p.getD k 0) (p.getD ((l+r) / 2) 0)=μ
   .show cn lt n _ (if lt (p.getD k 0) (p.getD ((l+r) / 2) 0)=μ then _ else _);rw[OT c];erw[Xs h H a f l ((l+r) / 2) N9 N9 N09 b λi j o=>?_];by_cases e:i=(l+r) / 2
    .rw[e];rwa[c]
    .rwa[O.tr _ _ _ (h.m _ H) (h.m _ N9) (h.m _ N9) c$ J8 O h N9 a N9 o]
   .let C:lt (p.getD k 0) (p.getD ((l+r) / 2) 0)=ν:=by simpa using c
    show cn lt n _ (if lt (p.getD k 0) (p.getD ((l+r) / 2) 0)=μ then _ else _);rw[OU c];let t:=O.tot _ _ (h.m k H) (h.m ((l+r) / 2) N9) (λe=>by let:=h.inj _ _ H N9 e;omega) C;erw[Xs h H a f ((l+r) / 2+1) r N9 s N09 (λi j=>?_) d];by_cases e:i=(l+r) / 2
    .rw[e];rwa[t]
    .rwa[O.tr _ _ _ (h.m _ N9) (h.m _ N9) (h.m _ H) (J8 O h N9 a (show i < (l+r) / 2 by omega) N9) t]
theorem DI:∀f {p:Array Nat} (_:nG n p) k,1<=k->k+f=n->gM lt p k->cn lt n (λq=>nG n q/\gM lt q n) (kas_bin f p k)
 |0,p,h,k,d,e,a=>#[h,by rw[<- e];rwa[a]]
 |f+1,p,h,k,d,e,a=>by
  erw[cn.bind (R:=λq=>q<=k/\(∀i,i < q->lt (p.getD i 0) (p.getD k 0)=μ)/\∀i,q<=i->i < k->lt (p.getD k 0) (p.getD i 0)=μ) (λl j=>?_)$ Xs O h N9 a k 0 k (OS _) (OM _) N9 (λi H=>absurd H N9) (λi H m=>absurd H N9)];let#[lk,L,o]:=j;erw[DI f (h.of$ bubble_perm _ _ _) (k+1) N9 N9 λi H=>?_];let g:=Qb p k (by rw[h.z];omega) (k - l) N9;rw[g,g];by_cases c:i=k - (k - l)
  .rw[OT c,OU N9,OT N9,show i+1 - 1=i by omega];rwa[o i N9 N9]
  .rw[OU c];by_cases C:k - (k - l) < i/\i<=k
   .rw[OT C,OU N9,OT N9,show i+1 - 1=i - 1+1 by omega];rwa[a (i - 1) N9]
   .rw[OU C];by_cases b:i+1=k - (k - l)
    .rw[OT b];rwa[L i N9]
    .rw[OU b,OU N9];rwa[a i N9]
def FQ(b:1<=n):cn lt n (λq=>nG n q/\gM lt q n) (kas_sort n):=by
 erw[cn.bind (R:=λr:Nat×Array Nat=>nG n r.2/\1<=r.1/\r.1<=n/\gM lt r.2 r.1) (λr c=>?_)$ BM O (p:=ε (dn n)) (DT N8) b];let#[h,a,d,H]:=c;by_cases g:r.1 < n
 .rw[OT g,Nat.max_eq_left a];rwa[DI O _ h _ a N9 H]
 .rw[OU g];rwa[#[h,by rw[show r.1=n by omega]at H;rwa[H]]]
end
theorem ZY:∀{p q:xD Int},p≠q->gI p q=ν->gI q p=μ
 | [],[],h,_=>absurd Z h
 | [],_::_,_,z=>by cases z
 |_::_,[],_,_=>rfl
 |a::p,b::q,h,z=>by
  let z:(if a=b then gI p q else decide (a < b))=ν:=z;show(if b=a then gI q p else decide (b < a))=μ;by_cases e:a=b
  .rw[OT e]at z;rw[OT e.symm];rwa[ZY (λw=>h (by rw[e,w])) z]
  .rw[OU e]at z;rw[OU$ Pk e];let:=Ta z;rwa[OY N9]
theorem wD:∀{p q r:xD Int},gI p q=μ->gI q r=μ->gI p r=μ
 | [],[],_,h,_=>by cases h
 | [],_::_,[],_,k=>by cases k
 | [],_::_,_::_,_,_=>rfl
 |_::_,[],_,h,_=>by cases h
 |_::_,_::_,[],_,k=>by cases k
 |a::p,b::q,c::r,h,k=>by
  let h:(if a=b then gI p q else decide (a < b))=μ:=h;let k:(if b=c then gI q r else decide (b < c))=μ:=k;show(if a=c then gI p r else decide (a < c))=μ;by_cases e:a=b
  .rw[OT e]at h;by_cases E:b=c
   .rw[OT E]at k;rw[OT$ e.trans E];rwa[wD h k]
   .rw[OU E]at k;rw[OU N9];let:=Pw k;rwa[OY N9]
  .rw[OU e]at h;let h:=Pw h;by_cases E:b=c
   .rw[OU N9];rwa[OY N9]
   .rw[OU E]at k;let k:=Pw k;rw[OU N9];rwa[OY N9]
def vY{p:xD (xD Int)}(n:p.Nodup){i j:Nat}(h:i < ry p)(H:j < ry p)(e:p.getD i []=p.getD j []):i=j:=by rw[Pl,Pl,OG h,OG H]at e;rwa[(Tq h n).mp (by rw[OG h,OG H];rwa[P' δ e])]
def xo{p:xD (xD Int)}(N:p.Nodup):Nk (λi j=>gI (p.getD i []) (p.getD j [])) p.length:=
 #[λi j H c n h=>ZY (λe=>n (vY N H c e)) h,λi j k _ _ _ a b=>wD a b,λi j _ _ a=>Jq a]
def Qr(p:xD (xD Int)):(dn p.length).map (λi=>p.getD i [])=p:=by
 erw[VU λi=>?_];rw[O2];by_cases h:i < ry p
 .rw[List.getElem?_range h,OG h];show δ (p.getD i [])=_;rw[Pl,OG h];rfl
 .rw[PJ (by rw[SK];omega),PJ N9];rfl
def u7{a b:xD (xD Int)}(c:a.Pairwise λx y=>gI x y=μ)(d:b.Pairwise λx y=>gI x y=μ)(h:a.Perm b):a=b:=
 h.eq_of_pairwise (λx y _ _ e H=>by rw[Jq e]at H;cases H) c d
section
variable {X:Cx}
def Gf(K:β):xD V->Hp->VK->Prop:=λc H Q=>∃(l:ζ) (b:xD V) (P:xD (xD Int)),c=[.ref l]/\aK K H l b/\ry b=ry P/\ry b < 64/\(∀(i:Nat) (v:V) (p:xD Int),b[i]?=δ v->P[i]?=δ p->∃a:ζ,v= .ref a/\H a=δ (.tup$ p.map tT)/\p≠[])/\P.Nodup/\
 ∀(r:ζ) (w:xD V) (q:xD (xD Int)),H r=θ->q.Perm P->(q.Pairwise λx y=>gI x y=μ)->ry w=ry q->(∀(i:Nat) (v:V) (p:xD Int),w[i]?=δ v->q[i]?=δ p->∃a:ζ,v= .ref a/\H a=δ (.tup$ p.map tT)/\p≠[])->Q (.ref r) (af H r$ .lst w)
def qo:fu X (.builtin "sorted") (Gf X.K):=by
 intro C s σ H xs us Q I r h;let#[l,vs,ps,Z,hl,J,M,N,nd,k]:=h;let#[u,Z,rx]:=gB r;cases rx;let#[b,R,P,_]:=I.list hl;let L:=R.length;let f:∀(o:xD η) (W:xD V) (t:xD (xD Int)),aG W o->ry W < 64->t.Perm ps->(t.Pairwise λx y=>gI x y=μ)->ry W=ry t->(∀(i:Nat) (v:V) (p:xD Int),W[i]?=δ v->t[i]?=δ p->∃a:ζ,v= .ref a/\H a=δ (.tup$ p.map tT)/\p≠[])->EP X C σ Q (.ref$ s.heap.objs.size+1) { s with heap:=sortedAll s.heap b o.toArray }:=λo W t rw lw g1 g2 g3 g4=>by let#[c,hc]:=sortedAll_at s.heap b o.toArray;rwa[#[.ref$ s.heap.objs.size+1,_,I.laid (t':=s.toks) (λ_ _ e=>sortedAll_old e) (Rk _) (show a6 X.prog X.w _ _ _ (.lst W) from #[by rw[Sb];omega,o,c,rw,hc]),Z,k _ W t (I.hok.fresh$ Rk _) g1 g2 g3 g4]]
 let pk:∀i,i < ry vs->∃v u,vs[i]?=δ v/\b[i]?=δ u/\aJ v u:=λi d=>by let#[u',D,A]:=R.get (OG d);rwa[#[_,u',OG d,D,A]]
 by_cases F:2<=ry b
 .erw[CH (vs:=b) (ps:=ps) P.isList N9 F N9 (λi v p G O=>?_) (FQ (xo nd) N9) λp T=>?_]
  .let d:i < ry vs:=by let:=(ξ.mp G).1;omega
   let#[v',u',D,A,U]:=pk i d;rw[G]at A;cases A;let#[a,ea,ha,hn]:=N i v' p D O;subst ea;cases U;rwa[#[Hd I ha,hn]]
  .let#[S,Y]:=T;let n:∀x∈p.toList,x < ry ps:=λx B=>by simpa using S.pm.mem_iff.mp B
   erw[f _ (p.toList.map λi=>vs.getD i .non) (p.toList.map λi=>ps.getD i []) ?_ (by rw[OJ,Pa,S.z];omega) ?_ ?_ (by rw[OJ,OJ]) (λi v q e1 e2=>?_)]
   .generalize p.toList=l at n;clear f;induction l with
    |nil=>rwa[.nil]
    |cons i l ih=>have d:=n i O5;let#[v,u,D,A,U]:=pk i N9;erw[.cons ?_$ ih λx B=>n x (Pe _ B)];show aJ (vs.getD i V.non) (b.getD i Ω);rw[Pl,Pl,D,A];rwa[U]
   .let z:=S.pm.map (λi=>ps.getD i []);rw[Qr]at z;rwa[z]
   .rw[U0];intro i j d hj h0;rw[OJ,Pa,S.z]at d hj;let z:=J8 (xo nd) S (OM _) Y h0 hj;let g:∀(m:Nat) (n:m < ry ps) (h1:m < (p.toList.map λi=>ps.getD i []).length),(p.toList.map λi=>ps.getD i [])[m]'h1=ps.getD (p.getD m 0) []:=λm n h1=>by rw[List.getElem_map];congr 1;simp [Array.getD,show m < p.size by rw[S.z];rwa[n]]
    rw[g i d,g j hj];rwa[z]
   .rw[O2]at e1 e2;let#[x,B,Z]:=cv.mp e1;rw[B]at e2;cases e2;let h3:=n x (Pd B);let G:vs[x]?=δ (vs.getD x .non):=by rw[Pl,OG N9];rfl
    let O:ps[x]?=δ (ps.getD x []):=by rw[Pl,OG h3];rfl
    rwa[N x _ _ G O]
 .match b,R,P,L,f,F with
  | [],R,P,L,f,_=>have e:ps=[]:=List.length_eq_zero_iff.mp (by rw[<- J];rwa[L]);erw[CF (by simpa using P.isList)$ f [] [] [] .nil Oa (by rw[e]) .nil Z (λi v p h=>by simp at h)]
  | [v],R,P,L,f,_=>
   let l1:ry ps=1:=by rw[<- J];rwa[L]
   erw[CG (by simpa using P.isList)$ f [v] vs ps R M (Rx _) ?_ J N]
   match ps,l1 with
   | [x],_=>rwa[List.pairwise_singleton _ _]
  |v1::v2::E,R,P,L,f,F=>rwa[absurd (by show 2<=ry E+2;omega) F]
end
end _L
namespace _L
open PySem PySem.Spec PyProof.Rows
def yR(K:β)(A:ζ)(t:Mw)(b:TS):TS:=λD a H=>t D (λx C d _ h=>mroIn K C (.ref A)=δ μ/\∀T,h T=θ->b D a (af (af h T$ iH T) x$ i6 C d T x)) a H
section
variable {X:Cx}{st a₀ b₀:cc}{as bs:xD cc}{tb:Mw}{ta tc:TS}{ca cb:ρ}{np np' hp hp' pos:Pos}{A B:ζ}
def ZZ(a:X.stack=X.env::X.outer)(J:X.env.frame=δ X.env.locals)(hb:Np X st tb)(hg:Gl X ca)(hm:X.mg ca=↑A)(hA:clsIn X.K A≠θ)(tA:typeIn X.K (.ref A)=δ (.type "type"))(mA:mroIn X.K A (.type "BaseException")=δ μ)
  (hs:∀e,nJ (X.mark e λ_ _=>False) (a₀::as) ta) (L:↥((ca==("__debug__":ρ))=ν)):
  PS X (.Try [st] [.ExceptHandler (δ$ .Name ca np) θ (a₀::as) hp] [] [] pos) (yR X.K A tb ta):=by
 intro p s M H D I h;erw[wpAny_Try_except$ UW$ P5 (hb p s M H D _ I h) (λf b q=>?_) λe b q=>?_]
 .cases f with
  |next=>rwa[SJ (SJ q)]
  |ret v |brk |cont=>rwa[q]
 let#[x,C,d,T,N,Z,l,Y,hT,m,q]:=q;obtain⟨⟨ox,vs,h1,h2,h3,h4,O,h6⟩,_⟩:=l.hok x _ Y;obtain⟨⟨oT,G,t1,t2,t3⟩,_⟩:=l.hok T _ hT;let o:=(ab.mp h6).1;let P:X.A.frames=δ (X.env::X.outer):=by rw[<- a];rwa[l.ok.frames]
 let R:b.heap.FunFrames X.base (X.env::X.outer):=by rw[<- a];rwa[l.stack]
 erw[QX (base:=X.base) P R J h1 O h6 m t1 t2 t3 λg2 Nd=>?_];let u:(fX T b.heap).get? x=δ ox:=(O6 _ _ m).trans h1;refine EG (s:={ b with heap:=g2 }) Nd u O o λg3 U=>?_;let#[t,hn,E,i]:=(l.cleared hT t1 t2 t3).noted (C:=C) (d:=d) (t':=b.toks) Y u h2 h4 O o (by unfold mj;rw[a];rwa[U]);let i:au X p M (af (af N t$ iH t) x$ i6 C d t x) { b with heap:=g3 }:=i;obtain⟨⟨o1,v0,k1,k2,k3,k4,k5,k6⟩,_⟩:=i.hok x _ jc;let F:af (af N t$ iH t) x (i6 C d t x) t=δ (iH t):=by rw[jh E,jc]
 obtain⟨⟨o2,t0,u1,u2,u3⟩,_⟩:=i.hok t _ F;let g:∀{E':η->ι->Prop} {c:cc} {V:xD cc} {G:TS} {hp:Pos},(∀e,nJ (X.mark e λ_ _=>False) (c::V) G)->G D M (af (af N t$ iH t) x$ i6 C d t x)->kw (υ X.prog X.w) (X.A.mark$ ↑x) (Code.handlers (.ref x) [.ExceptHandler θ θ (c::V) hp] X.env) (λr S=>match r with | .ok f=>SP X p D f S | .error y=>cameBackBy (υ X.prog X.w) X.A X.env E' y S) { b with heap:=g3 }:=by
  intro E' c V G hp hz qz;erw[codeAny_handlers_suite ?_];unfold setFlight;erw[OF$ Pg k1 k5 k6 ?_];rw[OT (show(Θ t != Ω)=μ from by simp)];erw[PU u1 u2 (ab.mp u3).1 ?_];let I4:=i.cleared F u1 u2 u3;erw[P5 (hz (.ref x) p _ _ _ D (I4.mark (.ref x) λ_ _=>False) qz) (λf s6 Q=>?_) λ_ _ z=>z.elim];cases f with
  |next |brk |cont=>let#[j,W,k,n]:=Q;rwa[#[_,_,k.unmark I.ok,n]]
  |ret v=>let#[y,j,W,k,rv,n]:=Q;rwa[#[y,_,_,k.unmark I.ok,rv,n]]
 let#[mC,q]:=q;erw[wpAny_handleBy_cons (codeAny_handlers_test ?_) nofun];erw[qc (i.mark (.ref x) λ_ _=>False) hg hm ?_ L];erw[Qv i.kIn k1 k2 hA tA mA mC _ _ _ _ (λ_ _ e=>e) ?_];rwa[g hs$ q t hn]
end
end _L
namespace _L
open PySem PySem.Spec PyProof.Rows
def b6.m(r:b6 k A)(h:j<=k:=by omega):b6 j A:=r.mono h
def bQ{N P:xD ρ}{s:hJ}(a:↥(s.kind=.function))(b:↥(s.isCoroutine=ν))(c:↥(s.isGenerator=ν))(d:autoParam N.Nodup N7._auto_1)(e:↥(N.take (ry P)=P))(f:autoParam (∀x∈P,s.names.lookup x=δ .local \/ s.names.lookup x=δ .cell) N7._auto_1)(g:autoParam (∀y∈s.names,y.2≠.free) N7._auto_1):aj N P s:=#[a,b,c,d,e,f,g]
def oU{N:xD ρ}{s t:hJ}{M:xD ρ}{i:xD Nat}(a:autoParam (∀y∈t.names,y.2≠.cell) N7._auto_1)(b:↥(t.kind=.function))(c:autoParam (∀y∈t.names,y.2=.local->t.names.lookup y.1=δ .local) N7._auto_1)(d:autoParam (∀y∈t.names,y.2=.free->s.names.lookup y.1=δ .cell) N7._auto_1)(e:autoParam (M.drop n=i.map (λi=>N.getD i Str.empty)) N7._auto_1)(f:↥(ry M=n+ry i))(g:autoParam (∀j∈i,t.names.lookup (N.getD j Str.empty)=δ .free) N7._auto_1):bo N s t M n i:=#[a,b,c,d,e,f,g]
end _L
local macro_rules|`(tactic|left)=>`(tactic|try refine let s:=_;(?_:(_:_L.TS) _ s _))
local macro_rules|`(tactic|sleep $n)=>do{let f (i:Nat):=Lean.mkIdent (.num `t i);let mut t←`((?_:_L.eQ _ $(f 1) _ _ _));let m:=n.getNat;for i in[1:m+1]do{t←if i==m then `(let $(f i):ident:=_;$t) else `(let $(f i):ident:=_L.eQ _ $(f (i+1));$t)};`(tactic|refine $t)}
local macro_rules|`(tactic|symm)=>do{let g:=Lean.mkIdent `ℊ;`(tactic|first|with_reducible refine (?_:$g)|refine let $g:ident:Prop:=_;(?_:$g)|skip)}
local macro_rules|`(tactic|right)=>do{let g:=Lean.mkIdent `ℊ;`(tactic|try unfold $g)}
local macro_rules|`(tactic|obtain $p:rcasesPat:=$t)=>`(tactic|(refine _L.aW λG k=>?_;rcases $t:term with $p:rcasesPat<;>(refine k ?_;clear k)))
local macro_rules|`(⇑$n)=>do{let i:=Lean.mkIdent;`(_L.ah $(i `P) $(i `w) $(i `K) $(i `mg) $(i `base) _L.aH $n)}
namespace _K
open PySem PySem.Spec PyProof.Rows _L
abbrev z0z:xD ρ:=["_law_box_here","_law_wide"]
abbrev z1z:xD ρ:=["term"]
abbrev z2z:xD ρ:=["_law_box_here"]
abbrev z3z:xD ρ:=["statement","behind"]
abbrev z4z:xD ρ:=["statement"]
abbrev z5z:xD ρ:=["_law_box_here","_law_names_here","_law_heads","_law_spare","_law_deep"]
abbrev z6z:xD ρ:=["self","parts","cells","most"]
abbrev z7z:xD ρ:=["self","statement","behind"]
abbrev z8z:xD ρ:=["part","n","held"]
abbrev z9z:xD ρ:=["path","what"]
abbrev z10z:xD ρ:=["term","held"]
abbrev z11z:xD ρ:=["self","deed","deep"]
abbrev z12z:xD ρ:=["_law_box_here","_law_names_here","_law_deep"]
abbrev z13z:xD ρ:=["self","body","behind"]
abbrev z14z:xD ρ:=["self","part","args","deep"]
abbrev z15z:xD ρ:=["self","path","old","deep"]
abbrev z16z:xD ρ:=["_law_chain","_law_at"]
abbrev z17z:xD ρ:=["body","behind"]
abbrev z18z:xD ρ:=["_law_box_here","_law_a","_law_b"]
abbrev z19z:xD ρ:=["_law_old","_law_new","_law_old_at","_law_new_at","_law_found_here"]
abbrev z20z:xD ρ:=["name","params","body"]
abbrev z21z:xD ρ:=["_law_box_here","_law_f","_law_inner_here","_law_w"]
abbrev z22z:xD ρ:=["_law_parts","_law_book_here","_law_cells_here"]
abbrev z23z:xD ρ:=["self","statement","place","behind"]
abbrev z24z:xD ρ:=["sign","left","right"]
abbrev z25z:xD ρ:=["self","cells","most"]
abbrev z26z:xD ρ:=["self","path","old","deed","deep"]
abbrev z27z:xD ρ:=["_law_box_here","_law_total"]
abbrev z28z:xD ρ:=["_law_box_here","_law_names_here"]
abbrev z29z:xD ρ:=["parts","f","args","cells","most"]
abbrev z30z:xD ρ:=["parts","old","cells","most"]
abbrev z31z:xD ρ:=["_law_j","_law_old","_law_step"]
abbrev z32z:xD ρ:=["_law_parts","_law_f","_law_args","_law_cells_here"]
abbrev z33z:xD ρ:=["_law_box_here","_law_total","_law_letters","_law_wide","_law_spot_here","_law_signs","_law_first","_law_form","_law_found_here","_law_k","_law_one","_law_word","_law_some","_law_odd"]
abbrev z34z:xD ρ:=["_law_k","_law_box_here","_law_letters"]
abbrev z35z:xD ρ:=["_law_j","_law_box_here","_law_letters"]
abbrev z36z:xD ρ:=["num","var","op","go","ask","back","chain","sets","iff","ends","calls","reads","gives"]
abbrev z37z:xD ρ:=["_law_one","_law_box_here","_law_names_here"]
abbrev z38z:xD ρ:=["_law_box_here","_law_total","_law_room"]
abbrev z39z:xD ρ:=["_law_box_here","_law_f","_law_g","_law_w"]
abbrev z40z:xD ρ:=["_law_old","_law_new","_law_old_at","_law_new_at","_law_found_here","_law_mark","_law_k","_law_step","_law_path","_law_j","_law_some","_law_lenders","_law_calls","_law_pair","_law_both"]
abbrev z41z:xD ρ:=["_law_box_here","_law_names_here","_law_heads","_law_spare","_law_deep","_law_kind","_law_x","_law_f","_law_params","_law_body_here"]
abbrev z42z:xD ρ:=["_law_box_here","_law_f","_law_inner_here","_law_w","_law_n","_law_i","_law_s","_law_x","_law_y","_law_body_here","_law_spot_here","_law_start","_law_loop"]
abbrev z43z:xD ρ:=["_law_box_here","_law_f","_law_inner_here","_law_w","_law_n","_law_i","_law_s","_law_x","_law_y","_law_spot_here","_law_body_here","_law_kept","_law_some","_law_start","_law_loop"]
abbrev z44z:xD ρ:=["_law_box_here","_law_program","_law_total","_law_f","_law_params","_law_body_here"]
abbrev z45z:xD ρ:=["_law_parts","_law_book_here","_law_cells_here","_law_due","_law_told","_law_laid_so"]
variable {P:ψ}{w:bF}{K:β}{mg:ρ->xL η}{base:de}
def bV(i:Nat):cc:=PySem.Challenge.pw_againbook_k38_one_cell_changed.main.body.getD i (.Pass #[0,0,0,0])
abbrev Gk:cc:=bV 60
abbrev yc:cc:=bV 61
abbrev lH:cc:=bV 63
def aI(p:ζ)(H h:Hp):Prop:=∀b o,b≠p->H b=δ o->h b=δ o
def aI.refl:aI p H H:=λ_ _ _ h=>h
def aI.trans(a:aI p H d)(b:aI p d e):aI p H e:=λc o n h=>b c o n (a c o n h)
def aI.of_eq{H a:Hp}(h:∀b,b≠p->a b=H b):aI p H a:=λb o n e=>by rw[h b n];rwa[e]
def aI.upd_new{o:HO}(a:aI p H h)(n:h r=θ):aI p H (af h r o):=λb u N e=>by let q:=a b u N e;rw[jh$ jk q n];rwa[q]
def aI.upd_own(a:aI p H h)(n:H r=θ):aI p H (af h r o):=λb u N e=>by rw[jh$ jk e n];rwa[a b u N e]
structure ax(H:Hp)(p:ζ):Prop where
 ob:∃a b:Int,0<=a/\1<=b/\b<=2147483646/\H p=δ (.lst [.int a,.int b])
def ax.eq{c:Hp}(B:ax H p)(e:c p=H p):ax c p:=by let#[a,b,d,f,g,h]:=B.ob;rwa[#[a,b,d,f,g,by rw[e];rwa[h]]]
def ax.upd_new{o:HO}(B:ax H p)(n:H r=θ):ax (af H r o) p:=by let#[a,b,c,d,e,h]:=B.ob;rwa[B.eq (by rw[jh$ jk h n])]
def ax.ne(B:ax H p)(n:H r=θ):r≠p:=by let#[a,b,c,d,e,h]:=B.ob;rwa[Pk$ jk h n]
inductive bg(c:xD V)(H:Hp)(Q:VK)(a:XK):Prop
 |mk(p:ζ)(w:Int)(_:c=[.ref p,.int w])(_:ax H p)(_:0 < w)(_:w<=1000000000000000000)(_:∀(d:Int) (H':Hp),0<=d->d < w->ax H' p->(∀b,b≠p->H' b=H b)->Q (.int d) H')
inductive rQ(K:β)(e:xD V)(H:Hp)(Q:VK)(c:XK):Prop
 |mk(a:ζ)(d:xD Int)(k:Int)(_:e=[.ref a,.int k])(_:aK K H a (d.map tT))(_:0<=k)(_:k < 1000)(_:∀(r:ζ) (H':Hp),H r=θ->ax H' r->(∀b,b≠r->H' b=H b)->Q (.ref r) H')
def sj:(10:Int) ^ (18:Int).toNat=1000000000000000000:=by decide
def wn{ns:xD Int}{k:Int}(H:0<=k)(a:k < (ns.length:Int)):∃v:Int,eW (ns.map tT) k=δ (.int v):=by
 let h:k.toNat < ry ns:=by omega
 let e:k=((k.toNat:Nat):Int):=by omega
 let q:eW (ns.map tT) ((k.toNat:Nat):Int)=δ (.int ns[k.toNat]):=jG (by rw[O2,OG h];rfl);rw[<- e]at q;rwa[#[_,q]]
structure Cl(P:ψ)(w:bF)(K:β)(mg:ρ->xL η)(base:de)(L:Nat)(f:ζ)(fd:bS)(ps:xD ρ)(sp:Sp)(py:ρ):Prop where
 g:⇑L f fd ps sp
 b:aE K fd ps []
 k:fJ K (.ref f)=μ
 m:mg py=↑f
def Cl.e{X:Cx}{e:dg}(c:Cl X.prog X.w X.K X.mg X.base L f o q s a)(i:b6 L X.A)(j:PA X (e::E) t)(l:↥(Gl X a))(h:↥((a==("__debug__":ρ))=ν))(n:↥(Δ (e::E) X.env=(ν,eval e X.env)::Δ E X.env))(H:↥((fx d$ Δ E X.env).any (·.1)=ν)):PE X (.Call (.Name a p) (e::E) [] d) (ff s [] E0 t):=kC c.g i l c.m c.k c.b .nil bY j h n H
def jw{X:Cx}(h:PE X a t):PE X (.Subscript a (.Constant (.int i) j p) b) (fg (dh X.K) t$ tC$ .int i):=jq jC h jf λ_ _=>Z
def jA{X:Cx}{p:Pos}(i:Nat)(h:X.N.Nodup)(H:PE X e t)(b:↥(X.N[i]?=δ x))(c:uW X.env.scope x:=by rwa[ω Z])(d:↥(swapsWith e (δ$ .Name x a) p.line X.env=pure ν))(f:autoParam (X.fn x=μ\/X.env.scope.names.lookup x=δ .local) Wx._auto_1):PS X (.Assign [.Name x a] e p) (eK t$ bH i):=kX h b c H d f
def jr{K:β}{H:Hp}{Q:VK}(h:H p=δ (.tup x))(a:eW x n=δ v)(q:Q v H)(e:↥(b[i]?=δ (↑p))):fg (dh K) (bn i) (tC$ .int n) b H Q:=#[_,e,p,x,n,v,Z,Z,aC.of h,a,q]
def j8{X:Cx}(h:PE X a t):PT X (.Compare a [.Eq] [.Constant (.str x) j p] b) (mz$ fg K' t$ tC$ .str x):=jz qr h jm Z
def zr{X:Cx}(h:PE X a t):PT X (.Compare a [.Eq] [.Constant (.int x) j p] b) (mz$ fg K' t$ tC$ .int x):=jz qr h jf Z
def lJ:aj ["_law_box_here","_law_wide","_law_digit","_law_one","_law_mixed"] z0z (ae yc):=bQ
def By(F:xb K "_law_take" yc f x):⇑1 f x z0z bg:=by
 erw[F.ok lJ λC A o s H V Q E z h=>?_]
 let#[p,W,Z,B,d,g,q]:=h;let#[a,b,l,i,j,e]:=B.ob;refine#[_,jd (jy (jz JQ (jq ju (pv 0) jf) jf$ aF _)
   (jd (jA 2 lJ.nd$ jv zj (jq ju (pv 0) jf)$ pv 1)
   (jd (zu (jv KJ (jq ju (pv 0) jf)$ pv 1)$ qS (pv 0) jf zL)
   (jg$ jo$ pv 2))) jp)
  (jd (jA 3 lJ.nd$ jv zj (jv zF (jq ju (pv 0) jf) jf) jf)
  (jd (zu (jv jY (jv zj (jv jY (jv zF (pv 3) jf) jf) jf) jf)$ qS (pv 0) jf zL)
  (jd (jA 4 lJ.nd$ jv KJ (jv jY (jv zF (pv 3) jf)$ jq ju (pv 0) jf) jf)
  (jd (jy (jz JQ (pv 1) (jv Ku jf jf)$ aF _) (jg$ jA 4 lJ.nd$ jv zF (pv 4)$ pv 4) jp)
  (jg$ jo$ jv zj (pv 4)$ pv 1))))),?_]
 erw[#[_,Z,p,_,_,_,Z,Z,aK.of e,Z,_,_,Z,Z,_,Z,?_]];erw[cp (λc=>?_) (λc=>?_)]
 .let D:(0:Int) < a:=Pw c;erw[#[_,Z,p,_,_,_,Z,Z,aK.of e,Z,_,Z,_,_,Z,Z,d,?_]];erw[#[_,Z,p,_,_,_,Z,Z,aK.of e,Z,_,Z,_,_,Z,Z,#[d,g],_,Z,p,_,_,0,Z,Z,e,Z,_,Z,?_]];erw[q (a % W) _ (P7 _ N9) (PH _ d) #[a / W,b,Wr l N9,i,j,jc] λb n=>jh n]
 .let I:0<=b*69621 % 2147483647:=P7 _ Oa;let J:b*69621 % 2147483647 < 2147483647:=PH _ Oa;erw[#[_,Z,p,_,_,_,Z,Z,aK.of e,Z,_,_,Z,Z,.inr #[Oa,Oa],_,_,Z,Z,(by show(0:Int) < 2147483647;decide),?_]];erw[#[_,Z,_,_,Z,Z,.inr #[Oa,Oa],_,_,Z,Z,_,_,Z,Z,(by show(0:Int) < 2147483646;decide),_,_,Z,Z,_,Z,p,_,_,1,Z,Z,e,Z,?_]];generalize m:b*69621 % 2147483647=one at*;let N:0<=(one*48271+30103) % 2147483646:=P7 _ Oa;let L:(one*48271+30103) % 2147483646 < 2147483646:=PH _ Oa;generalize r:(one*48271+30103) % 2147483646=t at*;erw[#[_,Z,_,_,Z,Z,.inr #[Oa,Oa],_,Z,p,_,_,_,Z,Z,aK.of jc,Z,_,_,Z,Z,_,_,Z,Z,#[Oa,Oa],?_]];let X:0<=(one*2147483647+(t+1)) / 8191:=by omega
  let O:(one*2147483647+(t+1)) / 8191 < 18446744073709551616:=by omega
  generalize u:(one*2147483647+(t+1)) / 8191=M at*;erw[#[_,Z,_,_,Z,Z,#[Oa,Oa,Oa],_,_,Z,Z,_,Z,?_]];let v:ax (af H p$ .lst [.int a,.int$ t+1]) p:=#[a,t+1,l,N9,N9,jc];erw[cp (λy=>?_) (λy=>?_)]
  .erw[#[_,Z,_,Z,_,_,Z,Z,.inl #[N09,N09],?_]];erw[#[_,Z,_,Z,_,_,Z,Z,d,?_]];rwa[q _ _ (P7 _ N9) (PH _ d) v λb n=>jh n]
  .erw[#[_,Z,_,Z,_,_,Z,Z,d,?_]];rwa[q _ _ (P7 _ N9) (PH _ d) v λb n=>jh n]
def nX:aj ["_law_script","_law_k","_law_cell","_law_seed"] ["_law_script","_law_k"] (ae Gk):=bQ
def Fi(F:xb K "_law_box" Gk f I)(m:mg "len"=θ)(M:mg "int"=θ):⇑1 f I ["_law_script","_law_k"] (rQ K):=by
 erw[F.ok nX λJ A o s H W Q E X h=>?_]
 let#[a,ns,k,Z,d,i,L,q]:=h;refine#[_,jd (jA 2 nX.nd$ jv jY (jv zF jf$ pv 1) jf)
  (jd (jy (jz QI (pv 1) (jO jK Z m Pz$ ja (pv 0) jb)$ aF _)
   (jg$ jA 2 nX.nd$ jq ju (pv 0) (pv 1))
   (jg (jy (jz JQ (jO jK Z m Pz$ ja (pv 0) jb) jf$ aF _)
    (jg$ jA 2 nX.nd$ jv jY (pv 2)$ jv zF (jv zj (jq ju (pv 0) (jv zj (pv 1)$ jO jK Z m Pz$ ja (pv 0) jb)) jf) jf) jp)))
  (jd (jA 3 nX.nd$ jv jY (jv zj (jv jY (jv zF (jv zj (pv 2) jf) jf)$ jv zF jf$ pv 1) jf) jf)
  (jg$ jo$ jF$ ja (jv zF (pv 2)$ jJ qI Z M Wc$ ja (zS xk (pv 2) (jv Ku jf jf)$ aF _) jb)$ ja (pv 3) jb))),?_]
 let e:(ns.map tT).length=ry ns:=OJ _;let T:∀c:Int,∃v:V,∃x:Int,v= .int x/\1<=x/\x<=2147483646/\v= .int ((c % 2147483629*48271+40692*k) % 2147483646+1):=λc=>by let N:0<=(c % 2147483629*48271+40692*k) % 2147483646:=P7 _ Oa;let O:(c % 2147483629*48271+40692*k) % 2147483646 < 2147483646:=PH _ Oa;rwa[#[_,_,Z,N9,N9,Z]]
 let j:∀(c:Int) (r:ζ),H r=θ->Q (.ref r) (af H r$ .lst [.int$ c*(if decide ((10:Int) ^ (18:Int).toNat<=c)=μ then 1 else 0),.int ((c % 2147483629*48271+40692*k) % 2147483646+1)]):=λc r R=>by
  erw[q r _ R #[_,_,?_,?_,?_,jc] λb n=>jh n]
  .rw[sj];by_cases h:(1000000000000000000:Int)<=c
   .rw[OY h,OT Z];omega
   .rw[OR h,OU OX];omega
  .let N:0<=(c % 2147483629*48271+40692*k) % 2147483646:=P7 _ Oa;omega
  .let O:(c % 2147483629*48271+40692*k) % 2147483646 < 2147483646:=PH _ Oa;omega
 let B:∀c:Int,Al c (if decide ((10:Int) ^ (18:Int).toNat<=c)=μ then 1 else 0):=λc=>.inr (by split<;>decide);erw[ai λF0 u=>#[_,Z,_,_,Z,Z,.inl #[Oa,Oa],_,_,Z,Z,u _ _ ?_]];erw[ai λS y=>?_];let l:∀c:Int,S [↑a,δ$ .int k,δ$ .int c,θ] H:=λc=>y _ _ (ai λF2 U=>#[_,Z,_,_,Z,Z,(by show(0:Int) < 2147483629;decide),_,_,Z,Z,.inr #[Oa,Oa],_,Z,_,_,Z,Z,.inl #[Oa,Oa],_,_,Z,Z,_,_,Z,Z,(by show(0:Int) < 2147483646;decide),_,_,Z,Z,U _ _ (#[_,Z,_,Z,_,_,Z,Z,#[Oa,Oa,Oa],_,_,Z,Z,.inr #[_,Z,_,_,Z,Z,B c,_,Z,cj,j c]])]);erw[pU λG g=>#[_,Z,_,Z,a,_,Z,.inl d,_,_,Z,Z,_,Z,g _ _ ?_]];erw[cp (λc=>?_) (λc=>?_)]
 .let C:k < (((ns.map tT).length:Nat):Int):=Pw c;rw[e]at C;let#[v,p]:=wn (ns:=ns) i C;rwa[#[_,Z,_,Z,a,_,_,_,Z,Z,d,p,l v]]
 .let C:¬k < (((ns.map tT).length:Nat):Int):=Ta (mS.mpr c);rw[e]at C;erw[pU λG g=>#[_,Z,a,_,Z,.inl d,_,_,Z,Z,_,Z,g _ _ ?_]];erw[cp (λz=>?_) (λz=>?_)]
  .let D:(0:Int) < (((ns.map tT).length:Nat):Int):=Pw z;let#[v,p]:=wn (ns:=ns) (k:=k % (((ns.map tT).length:Nat):Int)) (P7 _ N9) (by let:=PH k D;rw[e]at this;rw[e];rwa[this]);rwa[#[_,Z,_,Z,_,Z,_,Z,a,_,Z,.inl d,_,_,Z,Z,D,a,_,_,_,Z,Z,d,p,_,_,Z,Z,(by show(0:Int) < 2147483629;decide),_,_,Z,Z,.inr #[Oa,Oa],_,_,Z,Z,l _]]
  .rwa[l _]
def pG(i j:ρ):(i++j).length=i.length+j.length:=by show(i.cps++j.cps).size=i.cps.size+j.cps.size;rwa[Uv]
def zM:1000000<=τ:=by rw[Sb];decide
def aq{H:Hp}{o:HO}(h:H b=δ u)(n:H r=θ):af H r o b=δ u:=by rw[jh$ jk h n];rwa[h]
def yG{z:ρ}{k:Int}(H:0<=k)(a:k < (z.length:Int)):∃c:Nat,eW z.cps.toList k=δ c:=by
 let b:ry z.cps.toList=z.length:=Pa;let h:k.toNat < ry z.cps.toList:=by omega
 let e:k=((k.toNat:Nat):Int):=by omega
 let q:eW z.cps.toList ((k.toNat:Nat):Int)=δ z.cps.toList[k.toNat]:=jG (OG h);rw[<- e]at q;rwa[#[_,q]]
def Ky{ys:xD ρ}{k:Int}(H:0<=k)(a:k < (ys.length:Int)):∃y∈ys,eW (ys.map tz) k=δ (.str y):=by
 let h:k.toNat < ry ys:=by omega
 let e:k=((k.toNat:Nat):Int):=by omega
 let q:eW (ys.map tz) ((k.toNat:Nat):Int)=δ (.str ys[k.toNat]):=jG (by rw[O2,OG h];rfl);rw[<- e]at q;rwa[#[_,Sm h,q]]
def bK(s:xD ρ)(lo h:xL Int):xD ρ:=(s.drop$ HT.sIx s.length 0 lo).take (HT.sIx s.length s.length h - HT.sIx s.length 0 lo)
def zN(s:xD ρ)(lo h:xL Int):aT (s.map tz) lo h=(bK s lo h).map tz:=by unfold aT bK;rw[OJ,SX,WA]
def zY{lo:xL Int}(h:y∈bK s lo H):y∈s:=Vx (P0 h)
def qA(s:xD ρ)(lo h:xL Int):(bK s lo h).length<=ry s:=by unfold bK;rw[Pf,Ry];omega
theorem Jg:∀{ys:xD ρ},(∀y∈ys,y.length<=1)->(ys.map (·.length)).sum<=ry ys
 | [],_=>OM _
 |y::r,h=>by let a:=h y O5;let b:=Jg (ys:=r) λz H=>h z (Pe _ H);rw[Rl,List.sum_cons,Ph];omega
def Jh{z:ρ}{ys:xD ρ}(H:z.length=0)(h:∀y∈ys,y.length<=1):(Txt.join z ys).length<=ry ys:=by show(Builtin.Str.glued z ys).length<=_;rw[size_glued,H,Nat.mul_zero,Y'];rwa[Jg h]
def d9:ρ:="abcdefghijklmnopqrstuvwxyz"
def JZ:d9.length=26:=by decide+kernel
def tH(d:Int)(k:Nat):Nat:=97+((d+5*(0+(k:Int))) % 26).toNat
def A6(H:i < 20)(a:j < 20)(h:tH d i=tH d j):i=j:=by unfold tH at h;omega
def EJ(H:0<=k)(a:k < 26)(h:eW d9.cps.toList k=δ c):c=97+k.toNat:=by
 let q:∀m:Fin 26,eW d9.cps.toList (m.val:Int)=δ (97+m.val):=by decide+kernel
 let e:=q #[k.toNat,N9];let E:((k.toNat:Nat):Int)=k:=by omega
 dsimp only at e;rw[E,h]at e;injection e
def Sh(A S:ρ)(d:Int)(c:Nat)(w:ρ):Prop:=if d=2 then ∃R:ρ,w=R++#[(ε [c])] else w=A++#[(ε [c])]++S\/w=A++#[(ε [c])]++S++"z"\/w="qqqqqqq"++#[(ε [c])]
def kO(a b:ρ):(a++b).cps.toList=a.cps.toList++b.cps.toList:=by show(a.cps++b.cps).toList=_;rwa[Array.toList_append]
def X4{R:ρ}(h:R++(#[(ε [c])]:ρ)=r++#[(ε [C])]):c=C:=by let e:=P' (mU ∘ Str.cps) h;let e:(R++(#[(ε [c])]:ρ)).cps.toList=(r++(#[(ε [C])]:ρ)).cps.toList:=e;rw[kO,kO]at e;let:=List.append_inj_right' e Z;injection this
def Be{S:ρ}(h:A++(#[(ε [c])]:ρ)++S=A++#[(ε [C])]++S):c=C:=by let e:=P' (mU ∘ Str.cps) h;let e:(A++(#[(ε [c])]:ρ)++S).cps.toList=(A++(#[(ε [C])]:ρ)++S).cps.toList:=e;rw[kO,kO,kO,kO]at e;let:=Vg (Tt e);injection this
def Lu{A S : ρ}{d : Int}{c C : Nat}{w : ρ}(i : A.length + S.length <= 5)(h : Sh A S d c w)(H : Sh A S d C w) : c = C := by
  unfold Sh at h H;let l : ∀ c : Nat, (#[(ε [c])] : ρ).length = 1 :=λ_ => Z;let L : (Str.ofString "z").length = 1 := by decide +kernel
  let f : (Str.ofString "qqqqqqq").length = 7 := by decide +kernel
  split at h
  · rename_i a
    rw [OT a] at H;obtain ⟨R, rfl⟩ := h;obtain ⟨r, e⟩ := H;rwa[X4 e]
  · rename_i a
    rw [OU a] at H;rcases h with rfl | rfl | rfl <;> rcases H with e | e | e
    · rwa[Be e]
    all_goals first
      | rwa[X4 e]
      | (have g := P' Str.length e
         simp only [pG, l, L, f] at g;omega)
      | skip
    let E := P' (mU ∘ Str.cps) e;let E : (A ++ (#[(ε [c])] : ρ) ++ S ++ ("z" : ρ)).cps.toList = (A ++ (#[(ε [C])] : ρ) ++ S ++ ("z" : ρ)).cps.toList := E;rw [kO, kO (A ++ _ ++ S)] at E;let b := Tt E;rw [kO, kO, kO, kO] at b;let := Vg (Tt b);injection this
def X5{y:xD ρ}:y.Nodup↔∀i j:Nat,i < j->j < ry y->y[i]?≠y[j]?:=by
 unfold List.Nodup;rw[U0];erw[#[λh i j H a e=>?_,λh i j b a H e=>h i j H a ?_]]
 .rw[OG (by omega:i < ry y),OG a]at e;injection e with e;rwa[h i j N9 a H e]
 .rw[OG b,OG a,e]
def yz{A S:ρ}{d D:Int}{Y:xD ρ}(b:A.length+S.length<=5)(g:Y.length<=20)(h:∀j y,Y[j]?=δ y->Sh A S D (tH d j) y):Y.Nodup:=by rw[X5];intro i j c H e;let a:=h i _ (OG (by omega:i < ry Y));let f:=h j _ (OG H);rw[OG (by omega:i < ry Y),OG H]at e;injection e with e;rw[e]at a;let:=A6 N9 N9 (Lu b a f);omega
def tQ{y:xD ρ}(h:y.Nodup)(b:a∉y):(y.set n a).Nodup:=by
 rw[X5]at h ⊢;intro i j H c e;rw[T4]at c;by_cases d:n=i
 .rw[d,SM N9,RV N9]at e;rwa[b$ Pd e.symm]
 .by_cases f:n=j
  .rw[f,SM N09,RV N9]at e;rwa[b$ Pd e]
  .rw[RV d,RV f]at e;rwa[h i j H c e]
def Bk{y:xD ρ}(h:pV (.str a) (y.map tz)=ν):a∉y:=λm=>by unfold pV at h;rw[VV]at h;rwa[h (.str a) (dr.mpr #[a,m,Z]) (by simp [oG])]
def AH{ss:xD ρ}{d1 d2:Int}(h:ry ss=(1+d1).toNat)(a:0<=d2)(b:d2 < 1+d1):(bK ss θ$ δ d2).length+(bK ss (δ$ d2+1) θ).length<=d1.toNat:=by
 obtain⟨k,rfl⟩:∃k:Nat,d2=k:=#[d2.toNat,(VJ a).symm];obtain⟨n,rfl⟩:∃n:Nat,d1=n:=#[d1.toNat,(VJ N9).symm];let H:k<=n:=by omega
 let h:ry ss=n+1:=by rw[h];omega
 unfold bK;rw[show((k:Int)+1)=((k+1:Nat):Int) from Z,HT.sIx_nat,HT.sIx_nat,Pf,Pf,Ry,h,RS$ Rz H,RS$ Nat.le_succ_of_le H];erw[O1 (Nat.add_le_add (T7 _ _)$ T7 _ _) ?_];show k - 0+(n+1 - (k+1))<=n;rw[Ti,Nat.add_sub_add_right,VF H];rwa[OM _]
def M0{S:ρ}:Sh A S d c ("qqqqqqq"++#[(ε [c])]):=by
 unfold Sh;split
 .rwa[#[_,Z]]
 .rwa[.inr$ .inr Z]
def M1{A S:ρ}{d:Int}{c:Nat}{w:ρ}(h:if d=2 then ∃R:ρ,w=R++#[(ε [c])] else w=A++#[(ε [c])]++S\/w=A++#[(ε [c])]++S++"z"):Sh A S d c w:=by
 unfold Sh;split at h
 .rename_i e;rw[OT e];rwa[h]
 .rename_i e;rw[OU e];rwa[h.elim .inl λz=>.inr (.inl z)]
def pre(s:xD ρ)(d:Int):ρ:=Txt.join "" (bK s θ$ δ d)
def gZ(s:xD ρ)(d:Int):ρ:=Txt.join "" (bK s (δ$ d+1) θ)
inductive iz(b:xD V)(H:Hp)(Q:VK)(a:XK):Prop
 |mk(p:ζ)(n:Int)(_:b=[.ref p,.int n])(_:ax H p)(_:1<=n)(_:n<=20)(_:∀(r:ζ) (ys:xD ρ) (H':Hp),H r=θ->H' r=δ (.lst (ys.map tz))->(ys.length:Int)=n->(∀y∈ys,y.length<=20)/\ys.Nodup->ax H' p->aI p H H'->Q (.ref r) H')
def bq:aj z33z z27z (ae lH):=bQ
def QE:hJ:=#[.function,[(".0",.local),("_law_k",.local),("_law_take",.globalImplicit),("_law_box_here",.free),("_law_letters",.free)],ν,ν,[]]
def Zn:(z34z:xD ρ).Nodup:=by decide+kernel
def Zo:bo z33z (ae lH) QE z34z 1 [0,2]:=oU
def QF:hJ:=#[.function,[(".0",.local),("_law_j",.local),("_law_take",.globalImplicit),("_law_box_here",.free),("_law_letters",.free)],ν,ν,[]]
def Zp:(z35z:xD ρ).Nodup:=by decide+kernel
def Zq:bo z33z (ae lH) QF z35z 1 [0,2]:=oU
def Jy{p:ζ}{Q:xD V->Hp->Prop}(o:n<=20)(B:ax f p)
  (q:∀(S:xD ρ) (H:Hp),ry S=n->(∀s∈S,s.length<=1)->ax H p->(∀b,b≠p->H b=f b)->Q (S.map tz) H):
  fe (uV 0 n) 1 [↑p,δ$ .str d9] (bH 0) nD (fg BW (bn 2)$ ff bg [] E0$ ap (bn 1)$ ap (tC$ .int 26) aZ) Q f:=by
 refine Yt (λi y H=>∃S:xD ρ,y=S.map tz/\ry S=i/\(∀s∈S,s.length<=1)/\ax H p/\∀b,b≠p->H b=f b)
  #[[],Z,Z,(λ_ h=>nomatch h),B,λ_ _=>Z] (O1 o Oa) (λi y H #[S,e,l,_]=>by rw[e,OJ,l];rwa[OM _]) ?_ ?_
 .intro i y H x a;let#[S,Z,g,j,m,E]:=a;erw[#[_,Z,_,Z,p,26,Z,m,Oa,Oa,λd A D r t u=>?_]];let#[c,v]:=yG (z:=d9) D (by rw[JZ];rwa[r]);erw[#[_,_,c,Z,Z,Oa,v,S++[#[(ε [c])]],by rw[O4];rfl,by rw[OL,g];rfl,λs hs=>?_,t,λb N=>(u b N).trans (E b N)]];rcases bm.mp hs with hs |hs
  .rwa[j s hs]
  .rw[χ.mp hs];rwa[OM 1]
 .intro y H a;let#[S,Z,g,j,m,E]:=a;rwa[q S H g j m E]
def Rw(p g r:ζ)(n d D b e:Int)(i c:Nat)(s y:xD ρ)(H:Hp)(L:Nat)(Z:ρ->Prop):_L.St->Hp->Prop:=λa h=>∃W:ρ,(W.length<=L/\Z W)/\
 a=[↑p,δ$ .int n,δ$ .str d9,δ$ .int (1+d),δ$ .int D,↑g,δ$ .int b,δ$ .int e,↑r,δ$ .int (0+(i:Int)),δ$ .str #[(ε [c])],δ$ .str W,θ,θ]/\
 h g=δ (.lst$ s.map tz)/\h r=δ (.lst$ y.map tz)/\ax h p/\aI p H h
def Rf(p r:ζ)(n:Int)(H:Hp):_L.St->Hp->Prop:=λa h=>a[8]?=δ (↑r)/\∃Y:xD ρ,h r=δ (.lst$ Y.map tz)/\(Y.length:Int)=n/\((∀y∈Y,y.length<=20)/\Y.Nodup)/\ax h p/\aI p H h
def Q2(Y:xD ρ):(Y.map tz).all dF=μ:=by rw[Tz];intro v h;let#[y,_,Z]:=dr.mp h;rfl
def yx(Y:xD ρ)(j:Nat)(y:ρ):(Y.map tz).set j (tz y)=(Y.set j y).map tz:=(WJ ..).symm
inductive NI(p g r:ζ)(n b c d e:Int)(v:xD ρ)(H:Hp)(i:Nat)(x:_L.St)(a:Hp):Prop
 |mk(s t u:xL V)(w:xD ρ)(f:x=[↑p,δ (.int n),δ (.str d9),δ (.int (1+b)),δ (.int c),↑g,δ (.int d),δ (.int e),↑r,s,t,u,θ,θ])(h:a g=δ (.lst (v.map tz)))(k:a r=δ (.lst (w.map tz)))(l:ry w=i)(m:(∀y∈w,y.length<=20)/\∀j y,w[j]?=δ y->Sh (pre v c) (gZ v c) e (tH d j) y)(o:ax a p)(q:aI p H a)
def wX(F:xb K "_law_names" lH f fd)(GT:⇑1 fT f4 z0z bg)(x:aE K f4 z0z [])(C:fJ K (.ref fT)=μ)
  (M:mg "_law_take"=↑fT) (mr:mg "range"=θ):⇑2 f fd z27z iz:=by
 erw[F.ok bq λc1 A o1 s H vs Q E D h=>?_]
 symm;let#[p,n,Z,B,a4,a5,q]:=h;erw[#[_,(@jd _ _ _ _ _ (@kX _ _ (2) _ _ _ _ bq.nd Z (fz Z) (@jm _ _ _ _) N6$ .inl Z)$ @jd _ _ _ _ _ (@kX _ _ (3) _ _ _ _ bq.nd Z (ω Z) (@jv _ _ _ _ _ _ _ _ jY (@jf _ _ _ _)$ @kC _ _ _ _ _ _ _ _ _ _ _ _ _ _ _ _ GT D Z M C x .nil bY (@ja _ _ _ _ _ (@pv _ 0 _ _ N6 (.inr$ .inl Z) Oa Oa) (@ja _ _ _ _ _ (@jf _ _ _ _) (@jb _) N6) N6) Oa N6 N6) N6$ .inl Z)$ @jd _ _ _ _ _ (@kX _ _ (4) _ _ _ _ bq.nd Z (ω Z) (@kC _ _ _ _ _ _ _ _ _ _ _ _ _ _ _ _ GT D Z M C x .nil bY (@ja _ _ _ _ _ (@pv _ 0 _ _ N6 (.inr$ .inl Z) Oa Oa) (@ja _ _ _ _ _ (@pv _ 3 _ _ N6 (.inl Z) Oa Oa) (@jb _) N6) N6) Oa N6 N6) N6$ .inl Z)$ @jd _ _ _ _ _ (@qG _ _ _ _ _ _ _ _ _ _ (5) (z34z) (1) ([0,2]) _ _ _ _ bq.nd Z (ω Z) Z (@zd _ _ _ _ _ _ Z mr (@ja _ _ _ _ _ (@pv _ 3 _ _ N6 (by first |rwa[ω Z] |rwa[fz (ω Z)] |rwa[fz$ fz Z]) Oa Oa) (@jb _) N6) N6) Zo (λ_ _ _ _ _=>(@jx _ _ (0) _ Zn Z (ω Z) (by first |rwa[.inl Z] |rwa[.inr Z]))) (λ_ _ _ _ _=>(@zH _)) (λ_ _ _ _ _=>(@jq _ _ _ _ _ _ _ Kv (@pv _ 2 _ _ N6 (by first |rwa[ω Z] |rwa[fz (ω Z)] |rwa[fz$ fz Z]) Oa Oa) (@kC _ _ _ _ _ _ _ _ _ _ _ _ _ _ _ _ GT D Z M C x .nil bY (@ja _ _ _ _ _ (@pv _ 1 _ _ N6 (by first |rwa[ω Z] |rwa[fz (ω Z)] |rwa[fz$ fz Z]) Oa Oa) (@ja _ _ _ _ _ (@jf _ _ _ _) (@jb _) N6) N6) Oa N6 N6) (λ_ _=>Z))) N6 (by first |rwa[.inl Z] |rwa[.inr Z]) (by intro _;rfl))$ @jd _ _ _ _ _ (@kX _ _ (6) _ _ _ _ bq.nd Z (ω Z) (@kC _ _ _ _ _ _ _ _ _ _ _ _ _ _ _ _ GT D Z M C x .nil bY (@ja _ _ _ _ _ (@pv _ 0 _ _ N6 (.inr$ .inl Z) Oa Oa) (@ja _ _ _ _ _ (@jf _ _ _ _) (@jb _) N6) N6) Oa N6 N6) N6$ .inl Z)$ @jd _ _ _ _ _ (@kX _ _ (7) _ _ _ _ bq.nd Z (ω Z) (@kC _ _ _ _ _ _ _ _ _ _ _ _ _ _ _ _ GT D Z M C x .nil bY (@ja _ _ _ _ _ (@pv _ 0 _ _ N6 (.inr$ .inl Z) Oa Oa) (@ja _ _ _ _ _ (@jf _ _ _ _) (@jb _) N6) N6) Oa N6 N6) N6$ .inl Z)$ @jd _ _ _ _ _ (@kX _ _ (8) _ _ _ _ bq.nd Z (ω Z) (@jF _ _ _ _$ @jb _) N6$ .inl Z)$ @jd _ _ _ _ _ (@kf _ _ _ _ _ _ _ _ Po Z (@zd _ _ _ _ _ _ Z mr (@ja _ _ _ _ _ (@pv _ 1 _ _ N6 (.inl Z) Oa Oa) (@jb _) N6) N6) (@jx _ _ (9) _ bq.nd Z (ω Z)$ .inl Z) (@jd _ _ _ _ _ (@kX _ _ (10) _ _ _ _ bq.nd Z (ω Z) (@jq _ _ _ _ _ _ _ Kv (@pv _ 2 _ _ N6 (.inr$ .inl Z) Oa Oa) (@jv _ _ _ _ _ _ _ _ zj (@jv _ _ _ _ _ _ _ _ jY (@pv _ 6 _ _ N6 (.inl Z) Oa Oa)$ @jv _ _ _ _ _ _ _ _ zF (@jf _ _ _ _)$ @pv _ 9 _ _ N6 (.inl Z) Oa Oa)$ @jf _ _ _ _) (λ_ _=>Z)) N6$ .inl Z)$ @jd _ _ _ _ _ (@kc _ _ _$ @kX _ _ (11) _ _ _ _ bq.nd Z (ω Z) (@jv _ _ _ _ _ _ _ _ zQ (@jv _ _ _ _ _ _ _ _ zQ (@jZ _ _ _ _ _ _ _ _ _ _ _ _ Tw TF TC Xq (@jm _ _ _ _) (@ja _ _ _ _ _ (@jI _ _ _ _ _ _ _ _ _ _ km (@pv _ 5 _ _ N6 (.inl Z) Oa Oa) (@jT _)$ @jH _ _ _$ @pv _ 4 _ _ N6 (.inl Z) Oa Oa) (@jb _) N6) N6 N6 N6 N6 N6)$ @pv _ 10 _ _ N6 (.inl Z) Oa Oa)$ @jZ _ _ _ _ _ _ _ _ _ _ _ _ Tw TF TC Xq (@jm _ _ _ _) (@ja _ _ _ _ _ (@jI _ _ _ _ _ _ _ _ _ _ km (@pv _ 5 _ _ N6 (.inl Z) Oa Oa) (@jH _ _ _$ @jv _ _ _ _ _ _ _ _ jY (@pv _ 4 _ _ N6 (.inl Z) Oa Oa)$ @jf _ _ _ _)$ @jT _) (@jb _) N6) N6 N6 N6 N6 N6) N6$ .inl Z)$ @jd _ _ _ _ _ (@kc _ _ _$ @jy _ _ _ _ _ _ _ _ (@PW.pt _ _ _$ @qR _ _ _ _ _ _ _ (zr$ @pv _ 7 _ _ N6 (.inl Z) Oa Oa)$ @qd _ _ _ _$ zr$ @jv _ _ _ _ _ _ _ _ zj (@pv _ 9 _ _ N6 (.inl Z) Oa Oa)$ @jf _ _ _ _) (@jg _ _ _$ @kX _ _ (11) _ _ _ _ bq.nd Z (ω Z) (@jv _ _ _ _ _ _ _ _ zQ (@pv _ 11 _ _ N6 (.inl Z) Oa Oa)$ @jm _ _ _ _) N6$ .inl Z)$ @jp _)$ @jd _ _ _ _ _ (@kc _ _ _$ @jy _ _ _ _ _ _ _ _ (zr$ @pv _ 7 _ _ N6 (.inl Z) Oa Oa) (@jg _ _ _$ @kX _ _ (11) _ _ _ _ bq.nd Z (ω Z) (@jv _ _ _ _ _ _ _ _ zQ (@jZ _ _ _ _ _ _ _ _ _ _ _ _ Tw TF TC Xq (@jm _ _ _ _) (@ja _ _ _ _ _ (@zn _ _ _ _ _ _ _ (z35z) (1) ([0,2]) _ _ _ _ Z (@zd _ _ _ _ _ _ Z mr (@ja _ _ _ _ _ (@kC _ _ _ _ _ _ _ _ _ _ _ _ _ _ _ _ GT D Z M C x .nil bY (@ja _ _ _ _ _ (@pv _ 0 _ _ N6 (by first |rwa[ω Z] |rwa[fz (ω Z)] |rwa[fz$ fz Z]) Oa Oa) (@ja _ _ _ _ _ (@jf _ _ _ _) (@jb _) N6) N6) Oa N6 N6) (@jb _) N6) N6) Zq (λ_ _ _ _ _=>(@jx _ _ (0) _ Zp Z (ω Z) (by first |rwa[.inl Z] |rwa[.inr Z]))) (λ_ _ _ _ _=>(@zH _)) (λ_ _ _ _ _=>(@jq _ _ _ _ _ _ _ Kv (@pv _ 2 _ _ N6 (by first |rwa[ω Z] |rwa[fz (ω Z)] |rwa[fz$ fz Z]) Oa Oa) (@kC _ _ _ _ _ _ _ _ _ _ _ _ _ _ _ _ GT D Z M C x .nil bY (@ja _ _ _ _ _ (@pv _ 1 _ _ N6 (by first |rwa[ω Z] |rwa[fz (ω Z)] |rwa[fz$ fz Z]) Oa Oa) (@ja _ _ _ _ _ (@jf _ _ _ _) (@jb _) N6) N6) Oa N6 N6) (λ_ _=>Z))) (by intro _;rfl)) (@jb _) N6) N6 N6 N6 N6 N6)$ @pv _ 10 _ _ N6 (.inl Z) Oa Oa) N6$ .inl Z)$ @jp _)$ @jd _ _ _ _ _ (@kc _ _ _$ @jy _ _ _ _ _ _ _ _ (@jz _ _ _ _ _ _ _ _ zC (@pv _ 11 _ _ N6 (.inl Z) Oa Oa) (@ji _ _ _ _ _$ @Xr _ _ N6) Z) (@jg _ _ _$ @kX _ _ (11) _ _ _ _ bq.nd Z (ω Z) (@jv _ _ _ _ _ _ _ _ zQ (@jm _ _ _ _)$ @pv _ 10 _ _ N6 (.inl Z) Oa Oa) N6$ .inl Z)$ @jp _)$ @jg _ _ _$ @jL _ _ _ _ (@jZ _ _ _ _ _ _ _ _ _ _ _ _ OV O8 O7 jQ (@pv _ 8 _ _ N6 (.inl Z) Oa Oa) (@ja _ _ _ _ _ (@pv _ 11 _ _ N6 (.inl Z) Oa Oa) (@jb _) N6) N6 N6 N6 N6 N6) N6) (by intro _;rfl))$ @jd _ _ _ _ _ (@kc _ _ _$ @jy _ _ _ _ _ _ _ _ (@jz _ _ _ _ _ _ _ _ qr (@kC _ _ _ _ _ _ _ _ _ _ _ _ _ _ _ _ GT D Z M C x .nil bY (@ja _ _ _ _ _ (@pv _ 0 _ _ N6 (.inr$ .inl Z) Oa Oa) (@ja _ _ _ _ _ (@jf _ _ _ _) (@jb _) N6) N6) Oa N6 N6) (@jf _ _ _ _)$ aF _) (@jd _ _ _ _ _ (@kX _ _ (12) _ _ _ _ bq.nd Z (ω Z) (@jF _ _ _ _$ @Xr _ _ N6) N6$ .inl Z)$ @jd _ _ _ _ _ (@kX _ _ (13) _ _ _ _ bq.nd Z (ω Z) (@jq _ _ _ _ _ _ _ ju (@pv _ 12 _ _ N6 (.inl Z) Oa Oa) (@kC _ _ _ _ _ _ _ _ _ _ _ _ _ _ _ _ GT D Z M C x .nil bY (@ja _ _ _ _ _ (@pv _ 0 _ _ N6 (.inr$ .inl Z) Oa Oa) (@ja _ _ _ _ _ (@jf _ _ _ _) (@jb _) N6) N6) Oa N6 N6) (λ_ _=>Z)) N6$ .inl Z)$ @jg _ _ _$ @jy _ _ _ _ _ _ _ _ (@jz _ _ _ _ _ _ _ _ Jt (@pv _ 13 _ _ N6 (.inl Z) Oa Oa) (@pv _ 8 _ _ N6 (.inl Z) Oa Oa) Z) (@jg _ _ _$ @zu _ _ _ _ _ _ (@pv _ 13 _ _ N6 (.inl Z) Oa Oa) (@qS _ _ _ _ _ _ _ (@pv _ 8 _ _ N6 (.inl Z) Oa Oa) (@kC _ _ _ _ _ _ _ _ _ _ _ _ _ _ _ _ GT D Z M C x .nil bY (@ja _ _ _ _ _ (@pv _ 0 _ _ N6 (.inr$ .inl Z) Oa Oa) (@ja _ _ _ _ _ (@pv _ 1 _ _ N6 (.inl Z) Oa Oa) (@jb _) N6) N6) Oa N6 N6) zL (by intro _;rfl)) N6 N6 N6)$ @jp _)$ @jp _)$ @jg _ _ _$ @jo _ _ _ _$ @pv _ 8 _ _ N6 (.inl Z) Oa Oa),?_]];sleep 9;erw[gY λE0 f0=>f0 _ _ ?_];erw[gY λG a=>#[_,Z,p,6,Z,B,Oa,Oa,λd1 H1 a' b0 U e1=>#[_,_,Z,Z,a _ _ ?_]]];erw[gY λE2 f2=>#[_,Z,_,Z,p,_,Z,U,N9,N9,λd2 H2 b1 b2 B2 e2=>f2 _ _ ?_]];erw[gY λG a=>#[_,Z,_,Z,N9,N9,?_]];erw[Jy (p:=p) N9 B2 λss H3 a3 e B3 e3 g hg=>a _ _ ?_];left;let k3:aI p H H3:=(aI.of_eq e1).trans ((aI.of_eq e2).trans$ aI.of_eq e3);let v:g≠p:=B3.ne hg;erw[gY λG a=>#[_,Z,p,26,Z,B3.upd_new hg,Oa,Oa,λW H4 b3 b4 B4 e4=>a _ _ ?_]];erw[gY λE2 f2=>#[_,Z,p,3,Z,B4,Oa,Oa,λI H5 b5 b7 B5 e5=>f2 _ _ ?_]];let h2:H5 g=δ (.lst$ ss.map tz):=by rw[e5 g v,e4 g v];rwa[jc]
 let k5:aI p H H5:=(k3.upd_new hg).trans ((aI.of_eq e4).trans$ aI.of_eq e5);erw[gY λG a=>#[Oa,λr u=>a _ _ ?_]];left;let m:r≠p:=B5.ne u;let h4:g≠r:=jk h2 u;let n3:H g=θ:=by
  cases z:H g with
  |none=>rfl
  |some o=>have:=k3 g o v z;rw[hg]at this;symm;cases this
 let X:H r=θ:=by
  cases z:H r with
  |none=>rfl
  |some o=>have:=k5 r o m z;rw[u]at this;symm;cases this
 let b8:=zM;erw[gY λG a=>eX λJ j=>#[_,Z,_,Z,N9,N9,j _ _ ?_]];erw[zc (lo:=0) (NI p g r n d1 d2 W I ss H) #[θ,θ,θ,[],Z,aq h2 u,jc,Z,#[(λ_ h=>nomatch h),(λ_ _ h=>nomatch h)],B5.upd_new u,k5.upd_new u] ?_ ?_]
 .intro E0 _ i σ H' hi fE Gq T b;symm;let#[ok,oo,ow,ys,Z,L,Y,h0,d,B',k']:=b;left;symm;let#[c,hc]:=yG (z:=d9) (k:=(W+5*(0+(i:Int))) % 26) (P7 _ Oa) (by rw[JZ];rwa[PH _ Oa]);erw[T ?_];show eQ (eK _ _) _ E0 _ _;sleep 5;erw[gY λG a=>#[_,Z,_,Z,_,Z,_,_,Z,Z,.inl #[Oa,Oa],_,_,Z,Z,_,_,Z,Z,(by show(0:Int) < 26;decide),_,_,c,Z,Z,Oa,hc,a _ _ ?_]];left;let b9:(#[(ε [c])]:ρ).length=1:=rfl;let h5:c=tH W i:=EJ (P7 _ Oa) (PH _ Oa) hc;erw[gY λG a=>eN (Rw p g r n d1 d2 W I i c ss ys H 13 (·=pre ss d2++#[(ε [c])]++gZ ss d2)) (λE2 _ t=>?_) λO H1 b=>?_]
  .clear a fE;erw[#[Z,_,Z,_,Z,_,Z,g,_,Z,aK.of L,λs1 n1=>?_]];let z1:=Jg (ys:=bK ss θ (δ d2)) λy d=>e y (zY d);let z2:=qA ss θ (δ d2);erw[#[_,s1,bK ss θ$ δ d2,Z,Z,aK.of (by rw[jc,zN]),Oa,N9,?_]];let j1:=Jh (z:="") (ys:=bK ss θ (δ d2)) N7 λy d=>e y (zY d);erw[#[_,Z,_,_,Z,Z,N9,?_]];erw[#[Z,_,Z,_,Z,_,_,Z,Z,_,Z,g,_,Z,aK.of$ aq L n1,λs2 n2=>?_]];let z3:=Jg (ys:=bK ss (δ$ d2+1) θ) λy d=>e y (zY d);let z4:=qA ss (δ$ d2+1) θ;erw[#[_,s2,bK ss (δ$ d2+1) θ,Z,Z,aK.of (by rw[jc,zN]),Oa,N9,?_]];let j2:=Jh (z:="") (ys:=bK ss (δ$ d2+1) θ) N7 λy d=>e y (zY d);erw[#[_,_,Z,Z,by rw[pG];omega,?_]];rwa[t _ _ #[_,#[by show(Txt.join ("":ρ) (bK ss θ$ δ d2)++(#[(ε [c])]:ρ)++Txt.join ("":ρ) (bK ss (δ$ d2+1) θ)).length<=13;rw[pG,pG];omega,Z],Z,aq (aq L n1) n2,aq (aq Y n1) n2,(B'.upd_new n1).upd_new n2,(k'.upd_new n1).upd_new n2]]
  symm;obtain⟨w1,⟨b',z1⟩,rfl,g1,r1,U,k1⟩:=b;erw[a _ _ ?_];left;erw[gY λG a=>eN (Rw p g r n d1 d2 W I i c ss ys H 14 (λw=>w=pre ss d2++#[(ε [c])]++gZ ss d2\/w=pre ss d2++#[(ε [c])]++gZ ss d2++"z")) (λE2 _ t=>?_) λO H2 b=>?_]
  .clear a fE;erw[#[_,Z,Z,_,Z,?_]];erw[cp (λS=>?_) (λS=>?_)]
   .erw[#[_,Z,_,_,Z,Z,(by show(0:Int) < 2;decide),Z,_,Z,?_]];erw[cp (λcb=>?_) (λcb=>?_)]
    .let hz:(Str.ofString "z").length=1:=by decide+kernel
     erw[#[_,Z,_,_,Z,Z,by rw[hz];omega,?_]];rwa[t _ _ #[_,#[by rw[pG,hz];omega,.inr (by rw[z1])],Z,g1,r1,U,k1]]
    .rwa[t _ _ #[w1,#[N9,.inl z1],Z,g1,r1,U,k1]]
   .rwa[nP$ t _ _ #[w1,#[N9,.inl z1],Z,g1,r1,U,k1]]
  symm;obtain⟨w2,⟨c2,z2⟩,rfl,g2,r2,B2,k2⟩:=b;erw[a _ _ ?_];left;erw[gY λG a=>eN (Rw p g r n d1 d2 W I i c ss ys H 14 (λw=>if I=2 then ∃R:ρ,w=R++#[(ε [c])] else w=pre ss d2++#[(ε [c])]++gZ ss d2\/w=pre ss d2++#[(ε [c])]++gZ ss d2++"z")) (λE2 _ t=>?_) λO H3 b=>?_]
  .clear a fE;erw[#[_,Z,Z,_,Z,?_]];erw[cp (λS=>?_) (λS=>?_)]
   .erw[#[Z,_,Z,p,8,Z,B2,Oa,Oa,λd6 H6 d0 d3 B6 e6=>?_]];erw[#[_,Z,N9,N9,?_]];erw[Jy (p:=p) N9 B6 λtt H7 c3 h3 B7 e7 g7 n7=>?_];let jt:=Jh (z:="") (ys:=tt) N7 h3;let zt:=Jg h3;erw[#[_,g7,tt,Z,Z,aK.of jc,Oa,N9,?_]];erw[#[_,Z,_,_,Z,Z,N9,?_]];let g8:H7 g=δ (.lst$ ss.map tz):=by rw[e7 g v,e6 g v];rwa[g2]
    let r8:H7 r=δ (.lst$ ys.map tz):=by rw[e7 r m,e6 r m];rwa[r2]
    let e5:I=2:=by injection Pw S
    rwa[t _ _ #[_,#[by rw[pG];omega,(OT e5).mpr #[_,Z]],Z,aq g8 n7,aq r8 n7,B7.upd_new n7,(k2.trans ((aI.of_eq e6).trans$ aI.of_eq e7)).upd_new n7]]
   .let e5:I≠2:=λz=>S (by rw[z];rwa[OY Z]);rwa[t _ _ #[w2,#[N09,(OU e5).mpr z2],Z,g2,r2,B2,k2]]
  symm;obtain⟨w3,⟨c4,z3⟩,rfl,g3,r3,B3,k3⟩:=b;erw[a _ _ ?_];left;erw[gY λG a=>eN (Rw p g r n d1 d2 W I i c ss ys H 14$ Sh (pre ss d2) (gZ ss d2) I c) (λE2 _ t=>?_) λO H4 b=>?_]
  .clear a fE;erw[#[_,Z,Oa,λt0 N=>?_]];erw[#[t0,_,Z,.inr$ aC.of jc,Z,sV N6,_,Z,?_]];erw[cp (λS=>?_) (λS=>?_)]
   .let hq:(Str.ofString "qqqqqqq").length=7:=by decide+kernel
    erw[#[_,Z,_,_,Z,Z,by rw[hq];omega,?_]];rwa[t _ _ #[_,#[by rw[pG,hq];omega,M0],Z,aq g3 N,aq r3 N,B3.upd_new N,k3.upd_new N]]
   .rwa[t _ _ #[w3,#[N9,M1 z3],Z,aq g3 N,aq r3 N,B3.upd_new N,k3.upd_new N]]
  symm;obtain⟨w4,⟨c5,z4⟩,rfl,g4,r4,B4,k4⟩:=b;erw[a _ _ ?_];left;erw[#[_,Z,.inl #[Z,_,aK.of r4],_,Z,r,_,_,Z,Z,r4,by rw[OJ];omega,?_]];erw[fE _ _ #[_,_,_,ys++[w4],Z,by rw[jh h4];rwa[g4],by rw[jc,O4];rfl,by rw[OL,h0];rfl,#[λy hm=>?_,λj y hj=>?_],B4.eq$ jh$ Pk m,k4.upd_own X]]
  .symm;rcases bm.mp hm with hm |hm
   .rwa[d.1 y hm]
   .right;rw[χ.mp hm];omega
  .symm;by_cases h6:j < ry ys
   .rw[RP h6]at hj;rwa[d.2 j y hj]
   .let lj:=(ξ.mp hj).1;rw[OL,Sc]at lj;let ej:j=ry ys:=by omega
    rw[ej,RL$ OM _,TX]at hj;injection hj with hj;right;rw[<- hj,ej,h0,<- h5];rwa[z4]
 .intro σ H' b;symm;let#[ok,oo,ow,ys,Z,L,Y,h0,d,B',k']:=b;let h1:(ys.length:Int)=n:=by omega
  let f5:=AH (ss:=ss) (d1:=d1) (d2:=d2) N09 N09 N09;let j1:(pre ss d2).length<=_:=Jh (z:="") (ys:=bK ss θ (δ d2)) N7 λy d=>e y (zY d);let j2:(gZ ss d2).length<=_:=Jh (z:="") (ys:=bK ss (δ$ d2+1) θ) N7 λy d=>e y (zY d);let nd:=yz N9 N9 d.2;let d:=d.1;erw[a _ _ ?_];left;erw[ai λF1 a=>eN (Rf p r n H) (λE2 _ t=>?_) λO H1 b=>?_]
  .clear a;left;erw[pU λG' g'=>#[_,Z,p,6,Z,B',Oa,Oa,λd6 H6 d0 d3 B6 e6=>#[Z,_,Z,g' _ _ ?_]]];let r6:H6 r=δ (.lst$ ys.map tz):=by rw[e6 r m];rwa[Y]
   let k6:aI p H H6:=k'.trans (aI.of_eq e6);erw[cp (λS=>?_) (λS=>?_)]
   .sleep 2;erw[gY λE3 f3=>#[Oa,λt0 N=>f3 _ _ ?_]];left;let t1:t0≠p:=B6.ne N;erw[gY λE4 f3=>#[_,Z,_,Z,p,13,Z,B6.upd_new N,Oa,Oa,λd7 H7 d' a0 B7 e7=>?_]];let t7:H7 t0=δ (.lst ((z36z:xD ρ).map tz)):=((e7 t0 t1).trans jc).trans (P' (λl=>δ (HO.lst l)) N7);let r7:H7 r=δ (.lst$ ys.map tz):=by rw[e7 r m];rwa[aq r6 N]
    let k7:aI p H H7:=(k6.upd_new N).trans (aI.of_eq e7);symm;let#[od,h7,h8]:=Ky (ys:=(z36z:xD ρ)) d' (by simpa using a0);erw[#[t0,_,_,_,Z,Z,aK.of t7,h8,f3 _ _ ?_]];left;let h':od.length<=20:=by
     let:∀y∈(z36z:xD ρ),y.length<=20:=by decide+kernel
     rwa[this od h7]
    erw[pU λG' g'=>#[_,Z,_,Z,r,_,Z,.inl$ aK.of r7,Z,Q2 _,_,Z,g' _ _ ?_]];erw[cp (λcb=>?_) (λcb=>?_)]
    .erw[#[_,Z,_,Z,_,Z,_,Z,p,n,Z,B7,N9,N9,λd8 H8 a1 c6 B8 e8=>?_]];let r8:H8 r=δ (.lst$ ys.map tz):=by rw[e8 r m];rwa[r7]
     let k8:aI p H H8:=k7.trans (aI.of_eq e8);erw[#[r,_,d8,d8.toNat,Z,Z,r8,?_,?_]]
     .unfold oX;rw[OT a1,OJ,OT N9]
     erw[t _ _ #[Z,ys.set d8.toNat od,by rw[jc,yx],by rw[T4];rwa[h1],#[λy hm=>?_,tQ nd$ Bk (by let c0:(!pV (.str od) (ys.map tz))=μ:=cb;rw[VY]at c0;rwa[c0])],B8.eq$ jh$ Pk m,k8.upd_own X]];symm;rcases List.mem_or_eq_of_mem_set hm with hm |hm
     .rwa[d y hm]
     .right;rw[hm];rwa[h']
    .rwa[t _ _ #[Z,ys,r7,h1,#[d,nd],B7,k7]]
   .rwa[t _ _ #[Z,ys,r6,h1,#[d,nd],B6,k6]]
  symm;let#[a2,y0,r1,l1,y1,U,k1]:=b;erw[a _ _ ?_];left;rwa[#[_,a2,q r y0 H1 X r1 l1 y1 U k1]]
def am(H h:Hp):Prop:=∀b x,H b=δ (.tup x)->h b=δ (.tup x)
def aa.tm(a:aa H c):am H c:=λb x h=>a b _ h
def je{H:Hp}{o:HO}(n:H p=θ):aa H (af H p o):=λb u e=>aq e n
def c8{b:Bool}{A B:Prop}(h:b=μ)(x:A):if b=μ then A else B:=by rw[OT h];rwa[x]
def aY{b:Bool}{A B:Prop}(h:b=ν)(x:B):if b=μ then A else B:=by rw[h,OU OX];rwa[x]
def aL:τ=16777216:=by rw[Sb]
def ax.same(B:ax H p)(s:aa H c):ax c p:=by let#[a,b,d,e,f,h]:=B.ob;rwa[#[a,b,d,e,f,s _ _ h]]
def aI.of_same(s:aa H h):aI p H h:=λb o _ e=>s _ _ e
def aI.tm(k:aI p H h)(B:ax H p):am H h:=λb x e=>by let#[a,c,_,_,_,f]:=B.ob;rwa[k b _ (jM e f (by intro w;cases w)) e]
def aI.none(k:aI p H h)(B:ax h p)(n:h r=θ):H r=θ:=by
 cases z:H r with
 |none=>rfl
 |some o=>have:=k _ _ (B.ne n) z;rw[n]at this;cases this
def Q3{K:β}{a:ζ}{xs:xD V}{t:TE}{Q:xD V->Hp->Prop}(u:ry xs<=τ)(Pv:Nat->xD V->Hp->Prop)(l:Pv 0 [] H)
  (n:∀i Y h,Pv i Y h->aK K h a xs/\ry Y<=i) (o:∀i x Y h,xs[i]?=δ x->Pv i Y h->t (δ x::d) h λy c=>Pv (i+1) (Y++[y]) c) (q:∀Y h,Pv xs.length Y h->Q Y h):
  fe (Ae K a) 1 d (bH 0) nD t Q H:=by
 erw[#[λi m Y h=>m=ry xs - i/\i<=ry xs/\Pv i Y h,#[xs.length,N8,OS _,l],?_]];intro i m Y h f;let#[Z,z,p]:=f;let#[g,A]:=n i Y h p;by_cases b:i < ry xs
 .erw[.inr #[#[xs,xs[i],g,OG b],N9,Pv$ i+1,λr c s=>#[ry xs - (i+1),N9,Z,b,s],λv c T j y=>?_]];let#[e,y]:=y;subst e;let#[w,Z]:=tG j;rwa[#[#[[δ _],Z,Z],o i v Y c (y xs g) p]]
 .let e:i=ry xs:=by omega
  subst e;rwa[.inl #[#[xs,g,OM _],q Y h p]]
def qJ{K:β}{xs:xD V}{t:TE}{Q:xD V->Hp->Prop}(u:ry xs<=τ)(Pv:Nat->xD V->Hp->Prop)(l:Pv 0 [] H)
  (n:∀i Y h,Pv i Y h->aC K h a xs/\ry Y<=i) (o:∀i x Y h,xs[i]?=δ x->Pv i Y h->t (δ x::d) h λy c=>Pv (i+1) (Y++[y]) c) (q:∀Y h,Pv xs.length Y h->Q Y h):
  fe (Ap K a) 1 d (bH 0) nD t Q H:=by
 erw[#[λi m Y h=>m=ry xs - i/\i<=ry xs/\Pv i Y h,#[xs.length,N8,OS _,l],?_]];intro i m Y h f;let#[Z,z,p]:=f;let#[g,A]:=n i Y h p;by_cases b:i < ry xs
 .erw[.inr #[#[xs,xs[i],g,OG b],N9,Pv$ i+1,λr c s=>#[ry xs - (i+1),N9,Z,b,s],λv c T j y=>?_]];let#[e,y]:=y;subst e;let#[w,Z]:=tG j;rwa[#[#[[δ _],Z,Z],o i v Y c (y xs g) p]]
 .let e:i=ry xs:=by omega
  subst e;rwa[.inl #[#[xs,g,OM _],q Y h p]]
abbrev mW:cc:=bV 62
abbrev rF:cc:=bV 64
inductive Tm where
 |num (n:Int) |var (x:ρ) |op (i:Nat) (a b:Tm)
def Tm.depth:Tm->Nat
 | .num _ | .var _=>0
 | .op _ a b=>max a.depth b.depth+1
def ni:ρ:="+-*/<="
def yy:ni.length=6:=by decide+kernel
def MZ(i:Nat):ρ:=#[(ε [ni.cps.toList.getD i 0])]
def GK(H:0<=d)(a:d < 6):eW ni.cps.toList d=δ (ni.cps.toList.getD d.toNat 0):=by
 let b:ry ni.cps.toList=6:=by decide+kernel
 let h:d.toNat < ry ni.cps.toList:=by omega
 let e:d=((d.toNat:Nat):Int):=by omega
 let q:eW ni.cps.toList ((d.toNat:Nat):Int)=δ (ni.cps.toList.getD d.toNat 0):=jG (by rw[Pl,OG h];rfl);rw[<- e]at q;rwa[q]
def Tm.Good(y:xD ρ):Tm->Prop
 | .num n=>0<=n/\n < 1000000000000000000
 | .var x=>x∈y
 | .op i a b=>i < 6/\a.Good y/\b.Good y
def bJ(H:Hp):Tm->ζ->Prop
 | .num n,p=>H p=δ (.tup [.str "num",.int n])
 | .var x,p=>H p=δ (.tup [.str "var",.str x])
 | .op i a b,p=>∃q r,H p=δ (.tup [.str "op",.str (MZ i),.ref q,.ref r])/\bJ H a q/\bJ H b r
theorem bJ.mono{H a:Hp}(h:∀b x,H b=δ (.tup x)->a b=δ (.tup x)):∀{t:Tm} {p:ζ},bJ H t p->bJ a t p
 | .num _,_,e | .var _,_,e=>h _ _ e
 | .op _ _ _,_,z=>by let#[q,r,e,E,c]:=z;rwa[#[q,r,h _ _ e,bJ.mono h E,bJ.mono h c]]
def bJ.same(h:aa H a)(e:bJ H t p):bJ a t p:=e.mono λb x z=>h b _ z
def bJ.but(B:ax H p)(k:aI p H h)(e:bJ H t a):bJ h t a:=e.mono λb X z=>by let#[x,y,_,_,_,d]:=B.ob;rwa[k b _ (jM z d (by intro q;cases q)) z]
def bJ.new{H:Hp}{o:HO}(n:H r=θ)(e:bJ H t a):bJ (af H r o) t a:=e.mono λb x z=>aq z n
inductive iX(c:xD V)(H:Hp)(Q:VK)(a:XK):Prop
 |mk(p:ζ)(_:c=[.ref p])(_:ax H p)(_:∀(d:Int) (H':Hp),0<=d->d < 1000000000000000000->ax H' p->(∀b,b≠p->H' b=H b)->Q (.int d) H')
inductive dD(n:Nat)(b:xD V)(H:Hp)(Q:VK)(a:XK):Prop
 |mk(p g:ζ)(d:Int)(c:xD ρ)(_:b=[.ref p,.ref g,.int d])(_:ax H p)(_:H g=δ (.lst (c.map tz)))(_:1<=ry c)(_:c.length<=20)(_:0<=d)(_:d < (n:Int))(_:∀(r:ζ) (T:Tm) (H':Hp),bJ H' T r->(T.depth:Int)<=d->T.Good c->ax H' p->aI p H H'->Q (.ref r) H')
def qx{Y:xD ρ}(B:ax H p)(h:H g=δ (.lst$ Y.map tz)):g≠p:=by
 let#[x,y,_,_,_,b]:=B.ob;erw[jM h b λz=>?_];injection z with z
 match Y,z with
 |a::r,z=>injection z with c _;cases c
def yo:aj z2z z2z (ae mW):=bQ
def ue(F:xb K "_law_number" mW f t)(C:Cl P w K mg base 1 I u z0z bg "_law_take"):⇑2 f t z2z iX:=by
 erw[F.ok yo (λx A o s H v Q E a h=>?_)]
 let#[p,Z,B,q]:=h;erw[#[_,(jd (jy (zr$ C.e a$ ja (pv 0)$ ja jf jb) (jg$ jo$ C.e a$ ja (pv 0)$ ja (jv Ku jf jf) jb) jp)$ jg$ jo$ C.e a$ ja (pv 0)$ ja jf jb),?_]];erw[#[_,Z,p,4,Z,B,Oa,Oa,λL M y G m r=>#[Z,_,Z,?_]]];erw[cp (λc=>?_) (λc=>?_)]
 .erw[#[_,Z,_,_,Z,Z,#[Oa,Oa,Oa],p,_,Z,m,Oa,Oa,λD g d i j k=>?_]];let z:=sj;rwa[q D g d N9 j λb n=>(k b n).trans (r b n)]
 .erw[#[_,Z,p,9,Z,m,Oa,Oa,λD g d i j k=>?_]];rwa[q D g d N9 j λb n=>(k b n).trans (r b n)]
def pF:aj ["_law_box_here","_law_names_here","_law_deep","_law_kind","_law_one"] z12z (ae rF):=bQ
def Bz(F:xb K "_law_term" rF f fd)(cF:Cl P w K mg base (n+2) f fd z12z (dD n) "_law_term")(S:Cl P w K mg base 1 fT f0 z0z bg "_law_take")(cN:Cl P w K mg base 2 fN f2 z2z iX "_law_number")(ml:mg "len"=θ):⇑(n+3) f fd z12z (dD$ n+1):=by
 erw[F.ok pF λc0 A T s H vs Q E u h=>?_]
 symm;let#[p,g,d,ys,Z,B,hg,v,x,h1,h2,q]:=h;erw[#[_,(jd (jA 3 pF.nd$ S.e u.m$ ja (pv 0)$ ja jf jb)$ jd (kc$ jy (PW.pt$ Kl (jz QI (pv 3) jf$ aF _)$ qQ$ PW.pt$ qR (jz JQ (pv 3) jf$ aF _)$ qd$ zr$ pv 2) (jg$ jo$ ji$ ja jm$ ja (cN.e u.m$ ja (pv 0) jb) jb) jp)$ jd (jy (jz QI (pv 3) jf$ aF _) (jg$ jo$ ji$ ja jm$ ja (jq ju (pv 1) (S.e u.m$ ja (pv 0)$ ja (jO jK Z ml Pz$ ja (pv 1) jb) jb)) jb) jp)$ jd (jA 4 pF.nd$ cF.e u$ ja (pv 0)$ ja (pv 1)$ ja (jv zi (pv 2) jf) jb)$ jg$ jo$ ji$ ja jm$ ja (jq Kv jm (S.e u.m$ ja (pv 0)$ ja jf jb))$ ja (pv 4)$ ja (cF.e u$ ja (pv 0)$ ja (pv 1)$ ja (jv zi (pv 2) jf) jb) jb),?_]];let b0:=zM;let j:g≠p:=qx B hg;sleep 4;erw[ai λF1 l=>#[_,Z,p,6,Z,B,Oa,Oa,λM O k0 k1 R e1=>l _ _ ?_]];left;let k:O g=δ (.lst$ ys.map tz):=by rw[e1 g j];rwa[hg]
 let U:aI p H O:=aI.of_eq e1;let num:∀(D:Int) (a:Hp) (r:ζ),0<=D->D < 1000000000000000000->ax a p->(∀b,b≠p->a b=O b)->a r=θ->Q (.ref r) (af a r$ .tup [.str "num",.int D]):=λD a r C I i o N=>
  q r (.num D) _ jc (by show((0:Nat):Int)<=d;rwa[N09]) #[C,I] (i.upd_new N) ((U.trans$ aI.of_eq o).upd_new N)
 erw[ai λF1 l=>eN (λJ H'=>J=[↑p,↑g,δ$ .int d,δ$ .int M,θ]/\H'=O/\(M<=3\/d≠0)) (λE2 eR fm=>?_) λJ H' W=>?_]
 .clear l;left;erw[pU λG' G=>#[_,Z,_,_,Z,Z,_,Z,?_]];erw[cp (λc=>?_) (λc=>?_)]
  .erw[G _ _$ nQ ?_];show iG _ E2 _ _;unfold iG;rw[eR];rwa[#[_,Z,p,Z,R,λD a C I i o=>#[cj,λr N=>num D a r C I i o N]]]
  erw[#[_,Z,_,_,Z,Z,_,Z,?_]];erw[cp (λc2=>?_) (λc2=>?_)]
  .erw[#[_,Z,Z,_,Z,G _ _ ?_]];erw[cp (λc3=>?_) (λc3=>?_)]
   .show iG _ E2 _ _;unfold iG;rw[eR];rwa[#[_,Z,p,Z,R,λD a C I i o=>#[cj,λr N=>num D a r C I i o N]]]
   .rwa[fm _ _ #[Z,Z,.inr λz=>c3 (by rw[z];rfl)]]
  .let c1:¬(3:Int) < M:=Ta (mS.mpr c2);rwa[G _ _$ nP$ fm _ _ #[Z,Z,.inl N9]]
 symm;let#[Z,eH,hk]:=W;right;rw[eH];erw[l _ _ ?_];left;erw[ai λF1 l=>pU λG' G=>#[_,Z,_,_,Z,Z,_,Z,G _ _ ?_]];erw[cp (λc=>?_) (λc=>l _ _ ?_)]
 .-- a variable
  erw[#[_,Z,_,Z,_,Z,g,_,Z,.inl$ aK.of k,p,_,Z,R,by rw[OJ];omega,by rw[OJ];omega,λD a X L i o=>?_]];rw[OJ]at L;symm;let#[y,hy,Y]:=Ky (ys:=ys) X L;let t:a g=δ (.lst$ ys.map tz):=by rw[o g j];rwa[k]
  erw[#[g,_,_,_,Z,Z,aK.of t,Y,cj,λr N=>?_]];rwa[q r (.var y) _ jc (by show((0:Nat):Int)<=d;omega) hy (i.upd_new N) ((U.trans$ aI.of_eq o).upd_new N)]
 .let c':¬M < (4:Int):=Ta (mS.mpr c);let hd:d≠0:=hk.resolve_left N9;erw[#[_,Z,_,Z,_,Z,_,_,Z,Z,p,g,d - 1,ys,Z,R,k,v,x,N9,N9,λr1 T1 a t1 d3 g0 i k2=>?_]];let t:a g=δ (.lst$ ys.map tz):=k2 g _ j k;erw[#[_,Z,p,6,Z,i,Oa,Oa,λs3 H3 s0 s1 B3 e3=>?_]];let h0:H3 g=δ (.lst$ ys.map tz):=by rw[e3 g j];rwa[t]
  let k3:aI p a H3:=aI.of_eq e3;erw[#[ni,_,_,Z,Z,(by rw[yy];omega),GK s0 s1,?_]];erw[#[_,Z,_,Z,_,Z,_,Z,_,_,Z,Z,p,g,d - 1,ys,Z,B3,h0,v,x,N9,N9,λr2 T2 H4 t2 d4 g1 B4 k4=>?_]];erw[#[sg,λr N=>?_]];let t0:bJ H4 T1 r1:=(t1.but i k3).but B3 k4;erw[q r (.op s3.toNat T1 T2) _ #[r1,r2,jc,t0.new N,t2.new N] ?_ #[N9,g0,g1] (B4.upd_new N) (((U.trans k2).trans$ k3.trans k4).upd_new N)];show((max T1.depth T2.depth+1:Nat):Int)<=d;omega
def Bj:⇑2 f e z12z (dD 0):=by
 let n:∀v H Q E,¬dD 0 v H Q E:=λv H Q E h=>by let#[p,g,d,y,_,_,_,_,_,i,b,_]:=h;let c:d < ((0:Nat):Int):=b;omega
 rwa[#[λv H Q E h=>absurd h (n v H Q E),λA o s H a u v Q E _ _ _ _ h=>absurd h (n v H Q E)]]
theorem DX(F:xb K "_law_term" rF f a)(b:aE K a z12z [])(m:mg "_law_term"=↑f)(c:Cl P w K mg base 1 g d z0z bg "_law_take")(C:Cl P w K mg base 2 h e z2z iX "_law_number")(M:mg "len"=θ):
  ∀n:Nat,⇑(n+2) f a z12z (dD n)
 |0=>Bj
 |n+1=>Bz F #[(DX F b m c C M n),b,F.kp,m] c C M
end _K
namespace _K
open PySem PySem.Spec PyProof.Rows _L
variable {P:ψ}{w:bF}{K:β}{mg:ρ->xL η}{base:de}
local macro_rules|`(‹$n›)=>do{let i:=Lean.mkIdent;`(_K.Cl $(i `P) $(i `w) $(i `K) $(i `mg) $(i `base) $n)}
def Tm.vars:Tm->xD ρ
 | .num _=>[]
 | .var x=>[x]
 | .op _ a b=>a.vars++b.vars
theorem kE:∀{t:Tm},t.Good y->∀x∈t.vars,x∈y
 | .num _,_,_,h=>nomatch h
 | .var _,g,_,h=>by rw[χ.mp h];rwa[g]
 | .op _ _ _,g,_,h=>(bm.mp h).elim (kE g.2.1 _) (kE g.2.2 _)
theorem kj:∀{l m:xD ρ},l.Nodup->(∀x∈l,x∈m)->ry l<=ry m
 | [],_,_,_=>OS _
 |x::l,m,n,h=>by rw[Wf]at n;let H:=h x O5;let q:=kj (l:=l) (m:=m.erase x) n.2 λy a=>(List.mem_erase_of_ne (λe=>n.1 (by rw[<- e];rwa[a]))).mpr (h y$ Pe _ a);rw[List.length_erase_of_mem H]at q;let:0 < ry m:=List.length_pos_of_mem H;rw[Ph];omega
theorem Qd:∀{l m:xD ρ},l.Nodup->m.Nodup->(∀x,x∈l↔x∈m)->l.Perm m
 | [],[],_,_,_=>.nil
 | [],y::m,_,_,h=>absurd ((h y).mpr O5) N8
 |x::l,m,n,N,h=>by
  rw[Wf]at n;let a:x∈m:=(h x).mp O5;erw[(List.Perm.cons x$ Qd n.2 (N.erase x) λy=>?_).trans (List.perm_cons_erase a).symm];rw[N.mem_erase_iff];constructor
  .intro H;rwa[#[λe=>n.1 (by rw[<- e];rwa[H]),(h y).mp$ Pe _ H]]
  .rintro ⟨b,H⟩;rwa[(Ξ.mp ((h y).mpr H)).resolve_left b]
theorem Q4:∀{p:ρ} {l:xD ρ},risingS p l=μ->(p::l).Pairwise λa b=>a.cps.toList<=b.cps.toList
 |p,[],_=>by simp
 |p,x::r,h=>by
  let H:(!ltCps x.cps.toList p.cps.toList&&risingS x r)=μ:=h;rw[Rc]at H;let i:=Q4 H.2;let c:p.cps.toList<=x.cps.toList:=by let z:=H.1;rw[ltCps_eq]at z;simpa using z
  rw[rb]at i ⊢;erw[#[λy hy=>?_,rb.mpr i]];rcases Ξ.mp hy with rfl |hy
  .rwa[c]
  .rwa[List.le_trans c$ i.1 y hy]
def Q5(h:sortedS l=μ):l.Pairwise λa b=>a.cps.toList<=b.cps.toList:=by
 cases l with
 |nil=>rwa[.nil]
 |cons x r=>rwa[Q4 h]
def YE{l:xD ρ}(p:l.Perm m)(h:sortedS l=μ)(H:sortedS m=μ):l=m:=by erw[List.Perm.eq_of_pairwise (λa b _ _ x y=>?_) (Q5 h) (Q5 H) p];let e:=List.le_antisymm x y;cases a;cases b;rwa[P' Str.mk$ Array.toList_inj.mp e]
inductive Lf where
 |rd (x:ρ) (t:ζ) (T:Tm)
 |st (x:ρ) (t:ζ) (T:Tm)
 |wr (t u:ζ) (T U:Tm)
 |cl (x f:ρ) (q:ζ) (ts:xD (ζ×Tm))
 |gv (t:ζ) (T:Tm)
def Aq(H:Hp):Lf->xD V->Prop
 | .rd x t T,v=>v=[.str "read",.str x,.ref t]/\bJ H T t
 | .st x t T,v=>v=[.str "set",.str x,.ref t]/\bJ H T t
 | .wr t u T U,v=>v=[.str "write",.ref t,.ref u]/\bJ H T t/\bJ H U u
 | .cl x f q a,v=>v=[.str "call",.str x,.str f,.ref q]/\H q=δ (.tup (a.map λc=>vr c.1))/\∀c∈a,bJ H c.2 c.1
 | .gv t T,v=>v=[.str "give",.ref t]/\bJ H T t
def Aq.mono(k:am H a)(h:Aq H l v):Aq a l v:=by
 cases l with
 |rd x t T |st x t T |gv t T=>rwa[#[h.1,h.2.mono k]]
 |wr t u T U=>rwa[#[h.1,h.2.1.mono k,h.2.2.mono k]]
 |cl x f q d=>rwa[#[h.1,k _ _ h.2.1,λc b=>(h.2.2 c b).mono k]]
inductive Bd where
 |nil
 |lf (p:ζ) (l:Lf) (r:Bd)
 |ite (p t:ζ) (T:Tm) (a b r:Bd)
 |loop (p t:ζ) (T:Tm) (a r:Bd)
def Bd.app:Bd->Bd->Bd
 | .nil,s=>s
 | .lf p l r,s=>.lf p l (r.app s)
 | .ite p t T a b r,s=>.ite p t T a b (r.app s)
 | .loop p t T a r,s=>.loop p t T a (r.app s)
def Bd.size:Bd->Nat
 | .nil=>0
 | .lf _ _ r=>r.size+1
 | .ite _ _ _ a b r=>a.size+b.size+r.size+1
 | .loop _ _ _ a r=>a.size+r.size+1
def Bd.dep:Bd->Nat
 | .nil=>0
 | .lf _ _ r=>r.dep
 | .ite _ _ _ a b r=>max (max a.dep b.dep+1) r.dep
 | .loop _ _ _ a r=>max (a.dep+1) r.dep
def dY(y:xD ρ)(T:Tm):Prop:=T.Good y/\T.depth < 6
def Lf.Ok(y:xD ρ):Lf->Prop
 | .rd x _ T | .st x _ T=>x∈y/\dY y T
 | .wr _ _ T U=>dY y T/\dY y U
 | .cl x _ _ t=>x∈y/\ry t<=6/\∀c∈t,dY y c.2
 | .gv _ T=>dY y T
def Bd.Ok(y:xD ρ):Bd->Prop
 | .nil=>True
 | .lf _ l r=>l.Ok y/\r.Ok y
 | .ite _ _ T a b r=>dY y T/\a.Ok y/\b.Ok y/\r.Ok y
 | .loop _ _ T a r=>dY y T/\a.Ok y/\r.Ok y
abbrev lD:=xD (ρ×Nat)
def Lf.Cs(F:lD):Lf->Prop
 | .cl _ f _ t=>(f,t.length)∈F
 |_=>True
def Bd.Cs(F:lD):Bd->Prop
 | .nil=>True
 | .lf _ l r=>l.Cs F/\r.Cs F
 | .ite _ _ _ a b r=>a.Cs F/\b.Cs F/\r.Cs F
 | .loop _ _ _ a r=>a.Cs F/\r.Cs F
theorem Kz{F:lD}:∀{a b:Bd},a.Cs F->b.Cs F->(a.app b).Cs F
 | .nil,_,_,h=>h
 | .lf _ _ _,_,h,k=>#[h.1,Kz h.2 k]
 | .ite _ _ _ _ _ _,_,h,k=>#[h.1,h.2.1,Kz h.2.2 k]
 | .loop _ _ _ _ _,_,h,k=>#[h.1,Kz h.2 k]
theorem kG{F:lD}(k:∀f∈F,f∈G):∀{a:Bd},a.Cs F->a.Cs G
 | .nil,_=>trivial
 | .lf _ l _,h=>#[by cases l<;>first |rwa[k _ h.1] |trivial,kG k h.2]
 | .ite _ _ _ _ _ _,h=>#[kG k h.1,kG k h.2.1,kG k h.2.2]
 | .loop _ _ _ _ _,h=>#[kG k h.1,kG k h.2]
def Lf.calls:Lf->lD
 | .cl _ f _ t=>[(f,t.length)]
 |_=>[]
def Bd.calls:Bd->lD
 | .nil=>[]
 | .lf _ l r=>l.calls++r.calls
 | .ite _ _ _ a b r=>a.calls++(b.calls++r.calls)
 | .loop _ _ _ a r=>a.calls++r.calls
theorem zO:∀b:Bd,b.Cs b.calls
 | .nil=>trivial
 | .lf _ l r=>#[by cases l<;>first |rwa[mB _ List.mem_cons_self] |trivial,kG (λ_ h=>im _ h) (zO r)]
 | .ite _ _ _ a b r=>#[kG (λ_ h=>mB _ h) (zO a),kG (λ_ h=>im _ (mB _ h)) (zO b),kG (λ_ h=>im _ (im _ h)) (zO r)]
 | .loop _ _ _ a r=>#[kG (λ_ h=>mB _ h) (zO a),kG (λ_ h=>im _ h) (zO r)]
theorem zP{F:lD}:∀{b:Bd},b.Cs F->∀f∈b.calls,f∈F
 | .nil,_,_,h=>nomatch h
 | .lf _ l r,k,f,h=>(bm.mp h).elim (λh=>by cases l<;>first | (rw[χ.mp h];rwa[k.1]) |rwa[nomatch h]) (zP k.2 f)
 | .ite _ _ _ a b r,k,f,h=>(bm.mp h).elim (zP k.1 f) λh=>(bm.mp h).elim (zP k.2.1 f) (zP k.2.2 f)
 | .loop _ _ _ a r,k,f,h=>(bm.mp h).elim (zP k.1 f) (zP k.2 f)
theorem j6:∀(a b:Bd),(a.app b).size=a.size+b.size
 | .nil,b=>by show b.size=0+b.size;omega
 | .lf _ _ r,b=>by let:=j6 r b;show(r.app b).size+1=r.size+1+b.size;omega
 | .ite _ _ _ x y r,b=>by let:=j6 r b;show x.size+y.size+(r.app b).size+1=x.size+y.size+r.size+1+b.size;omega
 | .loop _ _ _ x r,b=>by let:=j6 r b;show x.size+(r.app b).size+1=x.size+r.size+1+b.size;omega
theorem zz:∀(a b:Bd),(a.app b).dep=max a.dep b.dep
 | .nil,b=>(Nat.zero_max b.dep).symm
 | .lf _ _ r,b=>zz r b
 | .ite _ _ _ x y r,b | .loop _ _ _ x r,b=>by show max _ (r.app b).dep=max (max _ r.dep) b.dep;rw[zz r b,WH]
theorem KA:∀{a b:Bd},a.Ok y->b.Ok y->(a.app b).Ok y
 | .nil,_,_,h=>h
 | .lf _ _ _,_,g,h=>#[g.1,KA g.2 h]
 | .ite _ _ _ _ _ _,_,g,h=>#[g.1,g.2.1,g.2.2.1,KA g.2.2.2 h]
 | .loop _ _ _ _ _,_,g,h=>#[g.1,g.2.1,KA g.2.2 h]
inductive eLi(H:Hp)(p t:ζ)(T:Tm)(a b R:xD V->Prop)(x:xD V):Prop|mk(q Q A B y:_)(_:x= .ref p::y)(_:H p=δ (.tup [.str "if",.ref t,.ref q,.ref Q]))(_:bJ H T t)(_:H q=δ (.tup A))(_:H Q=δ (.tup B))(_:a A)(_:b B)(_:R y)
inductive eLl(H:Hp)(p t:ζ)(T:Tm)(a R:xD V->Prop)(x:xD V):Prop|mk(q A y:_)(_:x= .ref p::y)(_:H p=δ (.tup [.str "while",.ref t,.ref q]))(_:bJ H T t)(_:H q=δ (.tup A))(_:a A)(_:R y)
def eL(H:Hp):Bd->xD V->Prop
 | .nil,x=>x=[]
 | .lf p l r,x=>∃v y,x= .ref p::y/\H p=δ (.tup v)/\Aq H l v/\eL H r y
 | .ite p t T a b r,x=>eLi H p t T (eL H a) (eL H b) (eL H r) x
 | .loop p t T a r,x=>eLl H p t T (eL H a) (eL H r) x
def eL.mono(k:am H m):∀{x:xD V},eL H a x->eL m a x:=by
 induction a with
 |nil=>rwa[λh=>h]
 |lf p l r n=>rintro x ⟨v,y,e,c,d,f⟩;rwa[#[v,y,e,k _ _ c,d.mono k,n f]]
 |ite p t T a b r i o I=>rintro x ⟨q,Q,A,B,y,e,c,g,d,f,j,s,u⟩;rwa[#[q,Q,A,B,y,e,k _ _ c,g.mono k,k _ _ d,k _ _ f,i j,o s,I u]]
 |loop p t T a r i I=>rintro x ⟨q,A,y,e,c,g,d,f,j⟩;rwa[#[q,A,y,e,k _ _ c,g.mono k,k _ _ d,i f,I j]]
def eL.app(k:eL H b y):∀{x:xD V},eL H a x->eL H (a.app b) (x++y):=by
 induction a with
 |nil=>intro x h;let e:x=[]:=h;rw[e];rwa[k]
 |lf p l r I=>rintro x ⟨v,z,e,c,d,f⟩;rwa[#[v,z++y,by rw[e];rfl,c,d,I f]]
 |ite p t T a b r _ _ i=>rintro x ⟨q,Q,A,B,z,e,c,g,d,f,j,m,n⟩;rwa[#[q,Q,A,B,z++y,by rw[e];rfl,c,g,d,f,j,m,i n]]
 |loop p t T a r _ i=>rintro x ⟨q,A,z,e,c,g,d,f,j⟩;rwa[#[q,A,z++y,by rw[e];rfl,c,g,d,f,i j]]
def eL.len{a:Bd}:∀{xs:xD V},eL H a xs->ry xs<=a.size:=by
 induction a with
 |nil=>intro xs h;let e:xs=[]:=h;rw[e];rwa[OM 0]
 |lf p l r I=>rintro xs ⟨v,y,e,d,f,c⟩;rw[e];rwa[Rz (I c)]
 |ite p t T a b r _ _ i=>rintro xs ⟨q,Q,A,B,y,e,d,j,f,c,g,m,k⟩;rw[e];rwa[Rz (O1 (i k) (Wn _ _))]
 |loop p t T a r _ i=>rintro xs ⟨q,A,y,e,d,j,f,c,g⟩;rw[e];rwa[Rz (O1 (i g) (Wn _ _))]
inductive i8(H:Hp):V->Bd->Prop
 |lf (p:ζ) (l:Lf) (vs:xD V) (h1:H p=δ (.tup vs)) (h2:Aq H l vs):i8 H (.ref p) (.lf p l .nil)
 |ite (p t:ζ) (T:Tm) (a b:Bd) (qa qb:ζ) (as bs:xD V) (h1:H p=δ (.tup [.str "if",.ref t,.ref qa,.ref qb])) (h0:bJ H T t) (h2:H qa=δ (.tup as)) (h3:H qb=δ (.tup bs)) (h4:eL H a as) (h5:eL H b bs):i8 H (.ref p) (.ite p t T a b .nil)
 |loop (p t:ζ) (T:Tm) (a:Bd) (qa:ζ) (as:xD V) (h1:H p=δ (.tup [.str "while",.ref t,.ref qa])) (h0:bJ H T t) (h2:H qa=δ (.tup as)) (h3:eL H a as):i8 H (.ref p) (.loop p t T a .nil)
def i8.bd(h:i8 H v s):eL H s [v]:=by
 cases h with
 |lf p l V c d=>rwa[#[V,[],Z,c,d,Z]]
 |ite p t T a b q Q A B c e d f g i=>rwa[#[q,Q,A,B,[],Z,c,e,d,f,g,i,Z]]
 |loop p t T a q A c e d f=>rwa[#[q,A,[],Z,c,e,d,f,Z]]
def i8.mono(k:am H g)(h:i8 H v s):i8 g v s:=by
 cases h with
 |lf p l V c d=>rwa[.lf p l V (k _ _ c) (d.mono k)]
 |ite p t T a b q Q A B c e d f i j=>rwa[.ite p t T a b q Q A B (k _ _ c) (e.mono k) (k _ _ d) (k _ _ f) (i.mono k) (j.mono k)]
 |loop p t T a q A c e d f=>rwa[.loop p t T a q A (k _ _ c) (e.mono k) (k _ _ d) (f.mono k)]
def eL.last:∀{x:xD V},eL H a x->x=[]/\a= .nil\/∃z v b s,x=z++[v]/\a=b.app s/\eL H b z/\i8 H v s:=by
 induction a with
 |nil=>rwa[λh=>.inl #[h,Z]]
 |lf p l r i=>
  rintro x ⟨u,y,e,f,g,n⟩;rcases i n with ⟨E,d⟩ | ⟨z,v,b,s,E,d,j,k⟩
  .rwa[.inr #[[],.ref p,.nil,.lf p l .nil,by rw[e,E];rfl,by rw[d];rfl,Z,.lf p l u f g]]
  .rwa[.inr #[.ref p::z,v,.lf p l b,s,by rw[e,E];rfl,by rw[d];rfl,#[u,z,Z,f,g,j],k]]
 |ite p t T a b r _ _ i=>
  rintro x ⟨q,Q,A,B,y,e,f,m,g,n,G,C,o⟩;rcases i o with ⟨E,d⟩ | ⟨z,v,c,s,E,d,j,k⟩
  .rwa[.inr #[[],.ref p,.nil,.ite p t T a b .nil,by rw[e,E];rfl,by rw[d];rfl,Z,.ite p t T a b q Q A B f m g n G C]]
  .rwa[.inr #[.ref p::z,v,.ite p t T a b c,s,by rw[e,E];rfl,by rw[d];rfl,#[q,Q,A,B,z,Z,f,m,g,n,G,C,j],k]]
 |loop p t T a r _ i=>
  rintro x ⟨q,A,y,e,f,m,g,G,o⟩;rcases i o with ⟨E,d⟩ | ⟨z,v,c,s,E,d,j,k⟩
  .rwa[.inr #[[],.ref p,.nil,.loop p t T a .nil,by rw[e,E];rfl,by rw[d];rfl,Z,.loop p t T a q A f m g G]]
  .rwa[.inr #[.ref p::z,v,.loop p t T a c,s,by rw[e,E];rfl,by rw[d];rfl,#[q,A,z,Z,f,m,g,G,j],k]]
theorem zW:∀{a b:Bd},(a.app b).Ok y->a.Ok y/\b.Ok y
 | .nil,_,h=>#[trivial,h]
 | .lf _ _ _,_,h=>#[#[h.1,(zW h.2).1],(zW h.2).2]
 | .ite _ _ _ _ _ _,_,h=>#[#[h.1,h.2.1,h.2.2.1,(zW h.2.2.2).1],(zW h.2.2.2).2]
 | .loop _ _ _ _ _,_,h=>#[#[h.1,h.2.1,(zW h.2.2).1],(zW h.2.2).2]
structure Nm(ss:xD ρ)(M:ρ->Prop):Prop where
 nd:ss.Nodup
 so:sortedS ss=μ
 mem:∀x,x∈ss↔M x
def Nm.uniq(h:Nm a M)(g:Nm s M):a=s:=YE (Qd h.nd g.nd λx=>(h.mem x).trans (g.mem x).symm) h.so g.so
open Classical in
def canon(M:ρ->Prop):xD ρ:=if h:∃s,Nm s M then Classical.choose h else []
def Nm.canon(h:Nm s M):s=canon M:=by let e:∃s,Nm s M:=#[s,h];unfold _K.canon;rw[dif_pos e];rwa[h.uniq$ Classical.choose_spec e]
def Nm.len{s y:xD ρ}{M:ρ->Prop}(h:Nm s M)(H:∀x,M x->x∈y):ry s<=ry y:=kj h.nd λx a=>H x ((h.mem x).mp a)
def Lf.use(M:ρ->Prop):Lf->ρ->Prop
 | .rd x _ T,y | .st x _ T,y=>(M y/\y≠x)\/y∈T.vars
 | .wr _ _ T U,y=>M y\/y∈T.vars\/y∈U.vars
 | .cl x _ _ t,y=>(M y/\y≠x)\/∃c∈t,y∈c.2.vars
 | .gv _ T,y=>y∈T.vars
def Bd.use:Bd->(ρ->Prop)->ρ->Prop
 | .nil,M=>M
 | .lf _ l r,M=>l.use (r.use M)
 | .ite _ _ T a b r,M=>λy=>(a.use (r.use M) y\/b.use (r.use M) y)\/y∈T.vars
 | .loop _ _ T a r,M=>λy=>(a.use (λ_=>False) y\/r.use M y)\/y∈T.vars
theorem J9:∀(a b:Bd) (M:ρ->Prop),(a.app b).use M=a.use (b.use M)
 | .nil,_,_=>rfl
 | .lf _ l r,b,M=>by show l.use ((r.app b).use M)=l.use (r.use (b.use M));rw[J9 r b M]
 | .ite _ _ T x y r,b,M=>by show(λz=>(x.use ((r.app b).use M) z\/y.use ((r.app b).use M) z)\/z∈T.vars)=λz=>(x.use (r.use (b.use M)) z\/y.use (r.use (b.use M)) z)\/z∈T.vars;rw[J9 r b M]
 | .loop _ _ T x r,b,M=>by show(λz=>(x.use (λ_=>False) z\/(r.app b).use M z)\/z∈T.vars)=λz=>(x.use (λ_=>False) z\/r.use (b.use M) z)\/z∈T.vars;rw[J9 r b M]
def Lf.use_in{M:ρ->Prop}{l:Lf}(h:l.Ok Y)(a:∀x,M x->x∈Y):∀y,l.use M y->y∈Y:=by
 intro y H;cases l with
 |rd x t T |st x t T=>rwa[H.elim (λz=>a y z.1) (kE h.2.1 y)]
 |wr t u T U=>rwa[H.elim (a y) λz=>z.elim (kE h.1.1 y) (kE h.2.1 y)]
 |cl x f q d=>rwa[H.elim (λz=>a y z.1) λ#[c,b,z]=>kE (h.2.2 c b).1 y z]
 |gv t T=>rwa[kE h.1 y H]
theorem Bd.use_in:∀{b:Bd} {M:ρ->Prop},b.Ok Y->(∀x,M x->x∈Y)->∀y,b.use M y->y∈Y
 | .nil,_,_,H,y,c=>H y c
 | .lf _ l r,_,h,H,y,c=>Lf.use_in h.1 (Bd.use_in h.2 H) y c
 | .ite _ _ T a b r,_,h,H,y,c=>c.elim (λz=>z.elim (Bd.use_in h.2.1 (Bd.use_in h.2.2.2 H) y) (Bd.use_in h.2.2.1 (Bd.use_in h.2.2.2 H) y)) (kE h.1.1 y)
 | .loop _ _ T a r,_,h,H,y,c=>c.elim (λz=>z.elim (Bd.use_in h.2.1 (λ_ w=>w.elim) y) (Bd.use_in h.2.2 H y)) (kE h.1.1 y)
abbrev gq:cc:=bV 14
abbrev Gs:cc:=bV 44
abbrev yd:cc:=bV 45
abbrev Cp:cc:=bV 46
abbrev Co:cc:=bV 47
inductive dW(n:Nat)(c:xD V)(H:Hp)(Q:VK)(b:XK):Prop
 |mk(a:ζ)(T:Tm)(d:xD ρ)(_:c=[.ref a])(_:bJ H T a)(_:T.depth < n)(_:T.Good d)(_:ry d<=21)(_:∀(r:ζ) (ss:xD ρ) (H':Hp),H r=θ->H' r=δ (.lst (ss.map tz))->ss.Nodup->(∀x,x∈ss↔x∈T.vars)->sortedS ss=μ->aa H H'->Q (.ref r) H')
def yn:aj z1z z1z (ae gq):=bQ
def Bu{f:ζ}{o:bS}(F:xb K "names_in" gq f o){n:Nat}(C:‹n+1› f o z1z (dW n) "names_in")(M:mg "set"=θ)(p:mg "sorted"=θ):⇑(n+2) f o z1z (dW$ n+1):=by
 erw[F.ok yn (λc0 A O s H vs Q E v h=>?_)]
 let#[a,T,Y,Z,t,dp,g,j,q]:=h;erw[#[_,(jd (jy (j8$ jw$ pv 0) (jg$ jo$ jF jb) jp)$ jd (jy (j8$ jw$ pv 0) (jg$ jo$ jF$ ja (jw$ pv 0) jb) jp)$ jg$ jo$ jO (qm Z) Z p Th$ ja (jJ (q8 Z) Z M boot_set$ ja (jv zG (C.e v$ ja (jw$ pv 0) jb)$ C.e v$ ja (jw$ pv 0) jb) jb) jb),?_]];cases T with
 |num m=>have b:H a=δ (.tup [.str "num",.int m]):=t;erw[(jr b Z #[Z,_,Z,c8 N7 ?_])];rwa[#[Oa,λr N=>q r [] _ N jc Uf (λx=>UV) Z (je N)]]
 |var x=>have b:H a=δ (.tup [.str "var",.str x]):=t;erw[(jr b Z #[Z,_,Z,aY N7 ?_])];erw[(jr b Z #[Z,_,Z,c8 N7 ?_])];rwa[(jr b Z #[iZ,λr N=>q r [x] _ N jc N8 (λy=>UV) Z (je N)])]
 |op i B D=>let#[p1,p2,b,h1,h2]:=t;let d0:max B.depth D.depth+1 < n+1:=dp;erw[(jr b Z #[Z,_,Z,aY N7 ?_])];erw[(jr b Z #[Z,_,Z,aY N7 ?_])];erw[(jr b Z #[p1,B,Y,Z,h1,N9,g.2.1,j,λr1 S H1 n1 e1 d1 G o1 u=>?_])];erw[(jr (u _ _ b) Z #[p2,D,Y,Z,h2.same u,N9,g.2.2,j,λr2 k H2 n2 e2 d2 I o2 J=>?_])];let l1:ry S<=21:=O1 (kj d1 λx d=>kE g.2.1 x ((G x).mp d)) j;let l2:ry k<=21:=O1 (kj d2 λx d=>kE g.2.2 x ((I x).mp d)) j;let b0:=zM;erw[#[r1,r2,_,_,Z,Z,J _ _ e1,e2,(by rw[OJ,OJ];omega),λc nc=>?_]];erw[#[c,S++k,Z,aK.of (by rw[jc,O4]),(λL nd hs=>Rm (Rz$ kj nd hs) (by rw[OL];show ry S+ry k+1 < 4096;omega)),λl L nl dL R=>?_]];let lL:=kj dL λx d=>(R x).mp d;rw[OL]at lL;erw[#[l,L,Z,jc,N9,λz ss U W dz oz=>?_]];let X:aa H (af (af H2 c$ .lst$ S.map tz++k.map tz) l$ Mb P w l L):=(u.trans J).trans ((je nc).trans$ je nl);erw[q z ss _ (X.free U) jc (W.nodup_iff.mpr dz) (λx=>?_) oz$ X.trans$ je U];rw[W.mem_iff,R x,Sz,G x,I x];rwa[bm.symm]
def Bi:⇑1 f d z1z (dW 0):=by
 let n:∀v H Q E,¬dW 0 v H Q E:=λv H Q E h=>by let#[a,T,y,_,_,c,_]:=h;rwa[absurd c$ Td _]
 rwa[#[λv H Q E h=>absurd h (n v H Q E),λA o s H b u v Q E _ _ _ _ h=>absurd h (n v H Q E)]]
theorem DG(F:xb K "names_in" gq f a)(b:aE K a z1z [])(c:mg "names_in"=↑f)(m:mg "set"=θ)(M:mg "sorted"=θ):
  ∀n:Nat,⇑(n+1) f a z1z (dW n)
 |0=>Bi
 |n+1=>Bu F #[(DG F b c m M n),b,F.kp,c] m M
def Lf.own:Lf->xD (ζ×Tm)
 | .rd _ t T | .st _ t T=>[(t,T)]
 | .wr t u T U=>[(t,T),(u,U)]
 | .cl _ _ _ a=>a
 | .gv t T=>[(t,T)]
def Bd.own:Bd->xD (ζ×Tm)
 | .nil=>[]
 | .lf _ l _=>l.own
 | .ite _ t T _ _ _ | .loop _ t T _ _=>[(t,T)]
def rT(c:ζ×Tm):V:=.ref c.1
inductive on(b:xD V)(H:Hp)(Q:VK)(a:XK):Prop
 |mk(v:V)(s:Bd)(_:b=[v])(_:i8 H v s)(_:∀(r:ζ) (H':Hp),H' r=δ (.tup (s.own.map rT))->aa H H'->Q (.ref r) H')
def Z0:aT (a::b::r) (δ 1) (δ 2)=[b]:=by
 unfold aT;let e:(1:Int)=((1:Nat):Int):=rfl;let E:(2:Int)=((2:Nat):Int):=rfl;rw[E,e,HT.sIx_nat,HT.sIx_nat,Ph,Ph];let c:min 1 (ry r+1+1)=1:=by omega
 let d:min 2 (ry r+1+1) - 1=1:=by omega
 rw[c,d];rfl
def DP:aj ["statement","word"] z4z (ae Gs):=bQ
def Ft{f:ζ}{j:bS}(F:xb K "own_terms" Gs f j):⇑1 f j z4z on:=by
 erw[F.ok DP λC A o s H V Q E d h=>?_]
 let#[v,st,Z,m,q]:=h;erw[#[_,(jd (jA 1 DP.nd$ jw$ pv 0)$ jd (jy (jz zC (pv 1) (ji$ ja jm$ ja jm jb) Z) (jg$ jo$ jI j9 (pv 0) (jH jf) jT) jp)$ jd (jy (j8$ pv 1) (jg$ jo$ jI j9 (pv 0) (jH jf) jT) jp)$ jd (jy (j8$ pv 1) (jg$ jo$ jw$ pv 0) jp)$ jg$ jo$ jI j9 (pv 0) (jH jf)$ jH jf),?_]];cases m with
 |lf p l V c g=>
  cases l with
  |rd x t T |st x t T=>let#[Z,i]:=g;erw[(jr c Z #[_,Z,cj,λl n=>#[l,_,Z,.inr$ aC.of jc,Z,Z,_,Z,c8 N7 ?_]])];rwa[#[_,Z,_,Z,p,_,Z,aq c n,λr e d s=>q r e d ((je n).trans s)]]
  |wr t u T U=>let#[Z,i,L]:=g;erw[(jr c Z #[_,Z,cj,λl n=>#[l,_,Z,.inr$ aC.of jc,Z,Z,_,Z,aY N7 ?_]])];erw[#[_,Z,Z,_,Z,c8 N7 ?_]];rwa[#[_,Z,_,Z,p,_,Z,aq c n,λr e d s=>q r e d ((je n).trans s)]]
  |cl x M y N=>let#[Z,z,i]:=g;erw[(jr c Z #[_,Z,cj,λl n=>#[l,_,Z,.inr$ aC.of jc,Z,Z,_,Z,aY N7 ?_]])];erw[#[_,Z,Z,_,Z,aY N7 ?_]];erw[#[_,Z,Z,_,Z,c8 N7 ?_]];rwa[(jr (aq c n) Z$ q y _ (aq z n)$ je n)]
  |gv t T=>let#[Z,i]:=g;erw[(jr c Z #[_,Z,cj,λl n=>#[l,_,Z,.inr$ aC.of jc,Z,Z,_,Z,aY N7 ?_]])];erw[#[_,Z,Z,_,Z,aY N7 ?_]];erw[#[_,Z,Z,_,Z,aY N7 ?_]];rwa[#[_,Z,_,Z,_,Z,p,_,Z,aq c n,λr e d s=>q r e (by rw[Z0]at d;rwa[d]) ((je n).trans s)]]
 |ite p t T a b B O D R c G g I S W |loop p t T a B D c G g I=>erw[(jr c Z #[_,Z,cj,λl n=>#[l,_,Z,.inr$ aC.of jc,Z,Z,_,Z,aY N7 ?_]])];erw[#[_,Z,Z,_,Z,aY N7 ?_]];erw[#[_,Z,Z,_,Z,aY N7 ?_]];rwa[#[_,Z,_,Z,_,Z,p,_,Z,aq c n,λr e d s=>q r e (by rw[Z0]at d;rwa[d]) ((je n).trans s)]]
def Qe{K:β}{a:ζ}{Y:xD ρ}{t:TT}{T:TE}{q:xD V->Hp->Prop}{b:_L.St}{H:Hp}(f:ρ->Bool)(L:ry Y<=1000)(A:H a=δ (.lst$ Y.map tz))
  (B:∀y g (Q:Bool->Hp->Prop),y∈Y->aa H g->(∀j,aa g j->Q (f y) j)->t (δ (.str y)::b) g Q)
  (C:∀y g (Q:VK),y∈Y->Q (.str y) g->T (δ (.str y)::b) g Q) (D:∀c,aa H c->q ((Y.filter f).map tz) c):fe (Ae K a) 1 b (bH 0) t T q H:=by
 let F:=zM;erw[#[λi m n c=>m=ry Y - i/\i<=ry Y/\n=((Y.take i).filter f).map tz/\aa H c,#[Y.length,N8,OS _,N8,aa.refl H],?_]];rintro i m n c ⟨rfl,M,rfl,k⟩;let d:aK K c a (Y.map tz):=aK.of (k _ _ A);by_cases h:i < ry Y
 .let o:(Y.map tz)[i]?=δ (.str Y[i]):=by rw[O2,OG h];rfl
  erw[.inr #[#[_,_,d,o],?_,λz j=>z=((Y.take$ i+1).filter f).map tz/\aa H j,λz j #[G,I]=>#[ry Y - (i+1),N9,Z,h,G,I],λv j N l y=>?_]]
  .rw[OJ];let:=Uc f (Y.take i);rw[Pf]at this;omega
  let#[e,y]:=y;subst e;let p:=y _ d;rw[o]at p;cases p;let#[w,Z]:=tG l;let r:Y[i]∈Y:=Sm h;let s:Y.take (i+1)=Y.take i++[Y[i]]:=by rw[Rb,OG h];rfl
  erw[#[#[[δ _],Z,Z],B Y[i] _ _ r k λJ u=>?_]];cases x:f Y[i] with
  |true=>
   erw[c8 Z$ C Y[i] J _ r #[?_,k.trans u]];rw[s,Tk,O4];let E:[Y[i]].filter f=[Y[i]]:=by simp [x]
   rw[E];rfl
  |false=>
   erw[aY Z #[?_,k.trans u]];rw[s,Tk,O4];let E:[Y[i]].filter f=[]:=by simp [x]
   rw[E];simp
 .let e:i=ry Y:=by omega
  subst e;erw[.inl #[#[_,d,N8],?_]];rw[RE$ OM _];rwa[D c k]
def Lf.bt(M:ρ->Prop):Lf->ρ->Prop
 | .rd x _ _,y | .st x _ _,y=>M y/\y≠x
 | .wr _ _ _ _,y=>M y
 | .cl x _ _ _,y=>M y/\y≠x
 | .gv _ _,_=>False
def Bd.bt(M:ρ->Prop):Bd->ρ->Prop
 | .nil,y=>M y
 | .lf _ l _,y=>l.bt M y
 | .ite _ _ _ a b _,y=>a.use M y\/b.use M y
 | .loop _ _ _ a _,y=>a.use (λ_=>False) y\/M y
def yZ(h:i8 H v s)(M:ρ->Prop)(y:ρ):s.use M y↔s.bt M y\/∃c∈s.own,y∈c.2.vars:=by
 cases h with
 |lf p l V _ _=>
  cases l with
  |rd x t T |st x t T=>rwa[#[λz=>z.elim .inl λw=>.inr #[_,χ.mpr Z,w],λz=>z.elim .inl λ#[c,hc,w]=>.inr (by rw[χ.mp hc]at w;rwa[w])]]
  |wr t u T U=>
   erw[#[λz=>z.elim .inl λw=>.inr (w.elim (λw=>#[_,O5 ..,w]) λw=>#[_,Pe _$ χ.mpr Z,w]),λz=>z.elim .inl λ#[c,hc,w]=>.inr ?_]];rcases Ξ.mp hc with e |hc
   .rw[e]at w;rwa[.inl w]
   .rw[χ.mp hc]at w;rwa[.inr w]
  |cl x f q d=>rwa[UV]
  |gv t T=>rwa[#[λw=>.inr #[_,χ.mpr Z,w],λz=>z.elim False.elim λ#[c,hc,w]=>by rw[χ.mp hc]at w;rwa[w]]]
 |ite p t T a b Q g A B _ _ _ _ _ _ |loop p t T a Q A _ _ _ _=>rwa[#[λz=>z.elim .inl λw=>.inr #[_,χ.mpr Z,w],λz=>z.elim .inl λ#[c,hc,w]=>.inr (by rw[χ.mp hc]at w;rwa[w])]]
structure NL(H:Hp)(g:ζ)(ss:xD ρ)(M:ρ->Prop)(ys:xD ρ):Prop where
 at':H g=δ (.lst$ ss.map tz)
 nm:Nm ss M
 sub:∀x,M x->x∈ys
 y20:ry ys<=21
def NL.len{H:Hp}{g:ζ}{s:xD ρ}{M:ρ->Prop}{y:xD ρ}(h:NL H g s M y):ry s<=21:=O1 (h.nm.len h.sub) h.y20
def NL.same(h:NL H g a M y)(s:aa H b):NL b g a M y:=#[s _ _ h.at',h.nm,h.sub,h.y20]
structure NU(H:Hp)(g:ζ)(ss:xD ρ)(M:ρ->Prop)(ys:xD ρ):Prop where
 at':H g=δ (.lst$ ss.map tz)
 nd:ss.Nodup
 mem:∀x,x∈ss↔M x
 sub:∀x,M x->x∈ys
 y20:ry ys<=21
def NL.nu(h:NL H g s M y):NU H g s M y:=#[h.at',h.nm.nd,h.nm.mem,h.sub,h.y20]
inductive yC(n:Nat)(c:xD V)(H:Hp)(Q:VK)(a:XK):Prop
 |mk(v:V)(g:ζ)(s:Bd)(b:xD ρ)(M:ρ->Prop)(d:xD ρ)(_:c=[v,.ref g])(_:i8 H v s)(_:NL H g b M d)(_:s.Ok d)(_:s.dep < n+1)(_:s.size<=10000000)(_:∀(r:ζ) (zs:xD ρ) (H':Hp),H' r=δ (.lst (zs.map tz))->(∀y,y∈zs↔s.bt M y)->ry zs<=50->aa H H'->Q (.ref r) H')
inductive iB(n:Nat)(c:xD V)(H:Hp)(Q:VK)(a:XK):Prop
 |mk(v:V)(g:ζ)(s:Bd)(b:xD ρ)(M:ρ->Prop)(d:xD ρ)(_:c=[v,.ref g])(_:i8 H v s)(_:NL H g b M d)(_:s.Ok d)(_:s.dep < n+1)(_:s.size<=10000000)(_:∀(r:ζ) (zs:xD ρ) (H':Hp),H r=θ->NL H' r zs (s.use M) d->aa H H'->Q (.ref r) H')
inductive lX(n:Nat)(e:xD V)(H:Hp)(Q:VK)(c:XK):Prop
 |mk(a g:ζ)(b:Bd)(f:xD V)(d:xD ρ)(M:ρ->Prop)(h:xD ρ)(_:e=[.ref a,.ref g])(_:H a=δ (.tup f))(_:eL H b f)(_:NU H g d M h)(_:b.Ok h)(_:b.dep < n)(_:b.size<=10000000)(_:∀(r:ζ) (zs:xD ρ) (H':Hp),H r=θ->NL H' r zs (b.use M) h->aa H H'->Q (.ref r) H')
def Nm.empty:Nm [] (λ_=>False):=#[Uf,Z,λx=>#[λh=>absurd h Pm,False.elim]]
def DR:aj ["statement","behind","word"] z3z (ae yd):=bQ
def yw:hJ:=#[.function,[(".0",.local),("name",.local),("statement",.free)],ν,ν,[]]
def IJ:(["name","statement"]:xD ρ).Nodup:=by decide+kernel
def Ih:bo ["statement","behind","word"] (ae yd) yw ["name","statement"] 1 [0]:=oU
def wZ{L n:Nat}(F:xb K "used_behind_terms" yd f fd)(J:‹L› fA f0 z17z (lX n) "used_ahead"):⇑(L+1) f fd z3z (yC n):=by
 erw[F.ok DR λc0 A O s H vs Q E R h=>?_]
 let#[v,g,st,G,M,Y,Z,hs,c,W,hd,hz,q]:=h;erw[#[_,(jd (jA 2 DR.nd$ jw$ pv 0)$ jd (jy (jz zC (pv 2) (ji$ ja jm$ ja jm$ ja jm jb) Z) (jg$ jo$ @zn _ _ _ _ _ _ _ (["name","statement"]) (1) ([0]) _ _ _ _ Z (zw$ pv 1) Ih (λ_ _ _ _ _=>(jx (i:=0) IJ Z$ ω Z)) (λ_ _ _ _ _=>(@Kw _ _ _$ jz QH (pv 0) (jq (r:=dh K) jC (pv 1) jf)$ aF _)) (λ_ _ _ _ _=>(pv 0)) (by intro _;rfl)) jp)$ jd (jy (j8$ pv 2) (jg$ jo$ jv zG (J.e R.m$ ja (jw$ pv 0)$ ja (pv 1) jb)$ J.e R.m$ ja (jw$ pv 0)$ ja (pv 1) jb) jp)$ jd (jy (j8$ pv 2) (jg$ jo$ jv zG (J.e R.m$ ja (jw$ pv 0)$ ja (jF jb) jb)$ pv 1) jp)$ jd (jy (j8$ pv 2) (jg$ jo$ jF jb) jp)$ jg$ jo$ pv 1),?_]];let g0:=c.len;cases hs with
 |lf p l vs d B=>
  cases l with
  |rd x t T |st x t T=>
   let#[Z,X]:=B;erw[(jr d Z #[_,Z,iF,λl N=>#[l,_,Z,.inr$ aC.of jc,Z,Z,_,Z,c8 N7 ?_]])];let S:aa H (af H l$ .tup [.str "set",.str "read",.str "call"]):=je N;erw[#[_,Z,g,Z,#[_,aK.of$ S _ _ c.at'],Qe (λy=>!decide (tz y=tz x)) N9 (S _ _ c.at') (λy I Q' hy k C=>?_) (λy I Q' hy C=>#[_,Z,C]) λH' k r j=>?_]]
   .rwa[#[_,Z,jr (k _ _$ S _ _ d) Z #[Z,_,Z,C _$ aa.refl _]]]
   .erw[q r _ _ jc (λy=>?_) (O1 (Uc ..) N9) ((S.trans k).trans$ je j)];rw[Wg,c.nm.mem y];rwa[and_congr_right λ_=>by simp]
  |wr t u T U=>let#[Z,X,hU]:=B;erw[(jr d Z #[_,Z,iF,λl N=>#[l,_,Z,.inr$ aC.of jc,Z,Z,_,Z,aY N7 ?_]])];erw[#[_,Z,Z,_,Z,aY N7 ?_]];erw[#[_,Z,Z,_,Z,aY N7 ?_]];erw[#[_,Z,Z,_,Z,aY N7 ?_]];rwa[#[_,Z,q g G _ (aq c.at' N) c.nm.mem N9$ je N]]
  |cl x f' q' ts=>
   let#[Z,h8,X]:=B;erw[(jr d Z #[_,Z,iF,λl N=>#[l,_,Z,.inr$ aC.of jc,Z,Z,_,Z,c8 N7 ?_]])];let S:aa H (af H l$ .tup [.str "set",.str "read",.str "call"]):=je N;erw[#[_,Z,g,Z,#[_,aK.of$ S _ _ c.at'],Qe (λy=>!decide (tz y=tz x)) N9 (S _ _ c.at') (λy I Q' hy k C=>?_) (λy I Q' hy C=>#[_,Z,C]) λH' k r j=>?_]]
   .rwa[#[_,Z,jr (k _ _$ S _ _ d) Z #[Z,_,Z,C _$ aa.refl _]]]
   .erw[q r _ _ jc (λy=>?_) (O1 (Uc ..) N9) ((S.trans k).trans$ je j)];rw[Wg,c.nm.mem y];rwa[and_congr_right λ_=>by simp]
  |gv t T=>let#[Z,X]:=B;erw[(jr d Z #[_,Z,iF,λl N=>#[l,_,Z,.inr$ aC.of jc,Z,Z,_,Z,aY N7 ?_]])];erw[#[_,Z,Z,_,Z,aY N7 ?_]];erw[#[_,Z,Z,_,Z,aY N7 ?_]];erw[#[_,Z,Z,_,Z,c8 N7 ?_]];rwa[#[g9,λr j=>q r [] _ jc (λy=>#[λh=>absurd h Pm,λh=>(show False from h).elim]) (OS _) ((je N).trans$ je j)]]
 |ite p t T a b qa qb as bs d h0 B h3 h4 h5=>erw[(jr d Z #[_,Z,iF,λl N=>#[l,_,Z,.inr$ aC.of jc,Z,Z,_,Z,aY N7 ?_]])];erw[#[_,Z,Z,_,Z,c8 N7 ?_]];let S:aa H (af H l$ .tup [.str "set",.str "read",.str "call"]):=je N;let h6:max (max a.dep b.dep+1) 0 < n+1:=hd;let h7:a.size+b.size+0+1<=10000000:=hz;erw[(jr (S _ _ d) Z #[_,Z,qa,g,a,as,G,M,Y,Z,S _ _ B,h4.mono$ aa.tm S,(c.same S).nu,W.2.1,N9,N9,λr1 z1 I _ D k1=>?_])];let z:=S.trans k1;erw[(jr (z _ _ d) Z #[_,Z,qb,g,b,bs,G,M,Y,Z,z _ _ h3,h5.mono$ aa.tm z,(c.same z).nu,W.2.2.1,N9,N9,λr2 z2 H2 _ n2 k2=>?_])];let l1:=D.len;let l2:=n2.len;let b0:=zM;erw[#[r1,r2,_,_,Z,Z,k2 _ _ D.at',n2.at',by rw[OJ,OJ];omega,λr j=>q r (z1++z2) _ (by rw[jc,O4]) (λy=>?_) (by rw[OL];omega) ((z.trans k2).trans$ je j)]];rw[Sz,D.nm.mem y,n2.nm.mem y];rwa[UV]
 |loop p t T a qa as d h0 B h3=>erw[(jr d Z #[_,Z,iF,λl N=>#[l,_,Z,.inr$ aC.of jc,Z,Z,_,Z,aY N7 ?_]])];erw[#[_,Z,Z,_,Z,aY N7 ?_]];erw[#[_,Z,Z,_,Z,c8 N7 ?_]];let S:aa H (af H l$ .tup [.str "set",.str "read",.str "call"]):=je N;let h6:max (a.dep+1) 0 < n+1:=hd;let h7:a.size+0+1<=10000000:=hz;erw[(jr (S _ _ d) Z #[g9,λe ne=>?_])];let z:=S.trans (je (o:=.lst []) ne);erw[#[qa,e,a,as,[],λ_=>False,Y,Z,z _ _ B,h3.mono$ aa.tm z,(NL.nu #[jc,Nm.empty,λ_ w=>w.elim,c.y20]),W.2.1,N9,N9,λr1 z1 I _ D k1=>?_]];let l1:=D.len;let s3:=z.trans k1;let b0:=zM;erw[#[_,Z,r1,g,_,_,Z,Z,D.at',s3 _ _ c.at',by rw[OJ,OJ];omega,λr j=>q r (z1++G) _ (by rw[jc,O4]) (λy=>?_) (by rw[OL];omega) (s3.trans$ je j)]];rw[Sz,D.nm.mem y,c.nm.mem y];rwa[UV]
def FN(h:i8 H v s):∀c∈s.own,bJ H c.2 c.1:=by
 cases h with
 |lf p l V _ d=>
  cases l with
  |rd x t T |st x t T |gv t T=>intro c hc;rw[χ.mp hc];rwa[d.2]
  |wr t u T U=>
   intro c hc;rcases Ξ.mp hc with e |hc
   .rw[e];rwa[d.2.1]
   .rw[χ.mp hc];rwa[d.2.2]
  |cl x f q i=>rwa[d.2.2]
 |ite p t T a b Q j A B _ g _ _ _ _ |loop p t T a Q A _ g _ _=>intro c hc;rw[χ.mp hc];rwa[g]
def FP(h:i8 H v s)(o:s.Ok y):ry s.own<=100/\∀c∈s.own,dY y c.2:=by
 let one:∀(t:ζ) (T:Tm),dY y T->[(t,T)].length<=100/\∀c∈[(t,T)],dY y c.2:=λt T h=>#[by show 1<=100;omega,λc hc=>by rw[χ.mp hc];rwa[h]];cases h with
 |lf p l V _ g=>
  cases l with
  |rd x t T |st x t T=>rwa[one t T o.1.2]
  |wr t u T U=>
   erw[#[by show 2<=100;omega,λc hc=>?_]];rcases Ξ.mp hc with e |hc
   .rw[e];rwa[o.1.1]
   .rw[χ.mp hc];rwa[o.1.2]
  |cl x f q i=>rwa[#[O1 o.1.2.1 Oa,o.1.2.2]]
  |gv t T=>rwa[one t T o.1]
 |ite p t T a b Q j A B _ d _ _ _ _ |loop p t T a Q A _ d _ _=>rwa[one t T o.1]
theorem app_assoc:∀(a b c:Bd),(a.app b).app c=a.app (b.app c)
 | .nil,_,_=>rfl
 | .lf p l r,b,c=>by show Bd.lf p l ((r.app b).app c)=_;rw[app_assoc r b c];rfl
 | .ite p t T x y r,b,c=>by show Bd.ite p t T x y ((r.app b).app c)=_;rw[app_assoc r b c];rfl
 | .loop p t T x r,b,c=>by show Bd.loop p t T x ((r.app b).app c)=_;rw[app_assoc r b c];rfl
theorem app_nil:∀(a:Bd),a.app .nil=a
 | .nil=>rfl
 | .lf p l r=>by show Bd.lf p l (r.app .nil)=_;rw[app_nil r]
 | .ite p t T x y r=>by show Bd.ite p t T x y (r.app .nil)=_;rw[app_nil r]
 | .loop p t T x r=>by show Bd.loop p t T x (r.app .nil)=_;rw[app_nil r]
inductive OI(v:V)(g r k:ζ)(s:Bd)(M:ρ->Prop)(b:Hp)(i:Nat)(n:_L.St)(a:Hp):Prop
 |mk(l:xL V)(m:xD ρ)(d:n=[δ v,↑g,↑k,l])(e:a k=δ (.lst (m.map tz)))(f:∀y,y∈m↔s.bt M y\/∃c∈s.own.take i,y∈c.2.vars)(h:ry m<=50+21*i)(j:aI k b a)
def yt:aj ["statement","behind","names","term"] z3z (ae Cp):=bQ
def xg{L:Nat}(F:xb K "used_ahead_of" Cp f fd)(cB:‹L+9› fB f0 z3z (yC n) "used_behind_terms")(cO:‹1› fO f2 z4z on "own_terms")(cN:‹7› fN f3 z1z (dW 6) "names_in")(m0:mg "list"=θ)(m2:mg "set"=θ)(m3:mg "sorted"=θ):⇑(L+10) f fd z3z (iB n):=by
 erw[F.ok yt λc0 A o1 s H vs Q E t h=>?_]
 let#[v,g,st,ss,M,Y,Z,j,u,U,hd,hz,q]:=h;erw[#[_,(jd (jA 2 yt.nd$ jJ Ju Z m0 boot_list$ ja (cB.e t.m$ ja (pv 0)$ ja (pv 1) jb) jb)$ jd (kf Po Z (z9$ cO.e t.m$ ja (pv 0) jb) (jx (i:=3) yt.nd Z$ ω Z)$ jg$ jL$ jZ OV Ri Rh zD (pv 2)$ ja (cN.e t.m$ ja (pv 3) jb) jb)$ jg$ jo$ jO (qm Z) Z m3 Th$ ja (jJ (q8 Z) Z m2 boot_set$ ja (pv 2) jb) jb),?_]];erw[ai λF1 C=>#[_,Z,_,Z,v,g,st,ss,M,Y,Z,j,u,U,hd,hz,λr1 G H1 e1 m1 l1 k1=>#[r1,_,Z,.inl$ aK.of e1,λN I=>C _ _ ?_]]];let s2:aa H (af H1 N$ .lst$ G.map tz):=k1.trans (je I);let J:=j.mono (aa.tm s2);let#[o2,O]:=FP j U;let a:af H1 N (.lst$ G.map tz) N=δ (.lst$ G.map tz):=jc;let h0:H N=θ:=k1.free I;generalize af H1 N (.lst$ G.map tz)=H2 at s2 J a;erw[ai λF1 C=>?_];erw[eX λF kF=>#[_,Z,v,st,Z,J,λr H3 t W=>#[r,Z,#[_,aC.of t],kF _ _ ?_]]];let r0:r≠N:=jM t (W _ _ a) nofun;let s3:=s2.trans W;let b0:=zM;erw[Jp (K:=K) (xs:=st.own.map rT) (OI v g r N st M H3) #[_,G,Z,W _ _ a,λy=>?_,N09,aI.refl] (λi σ H' hi h=>?_) ?_ (λσ H' h=>C _ _ ?_)]
 .rw[m1 y];rwa[#[.inl,λz=>z.elim (λw=>w) λ#[c,p,_]=>absurd p Pm]]
 .let#[_,_,_,_,_,_,k]:=h;rwa[aC.of$ k _ _ r0 t]
 .clear C;intro E _ i x σ H4 B fE Gq D h;let#[o3,X,Z,h1,R,h3,k4]:=h;rw[O2]at B;cases p:st.own[i]? with
  |none=>rw[p]at B;cases B
  |some c=>
   rw[p]at B;cases B;erw[D ?_];let cm:=Pd p;let hi:i < ry st.own:=by
    rcases TY i st.own.length with z |z
    .rwa[z]
    .rw[PJ z]at p;cases p
   let tm:am H3 H4:=λb xs e=>k4 b _ (jM e (W _ _ a) nofun) e;show si _ E [δ v,↑g,↑N,δ$ .ref c.1] H4;erw[#[_,Z,.inl #[Z,_,aK.of h1],_,Z,c.1,c.2,Y,Z,((FN j c cm).mono$ aa.tm s3).mono tm,(O c cm).2,(O c cm).1,u.y20,λr5 s5 H5 n5 e5 d5 m5 o5 k5=>?_]];let l5:ry s5<=21:=O1 (kj d5 λx B=>kE (O c cm).1 x ((m5 x).mp B)) u.y20;erw[#[N,r5,_,_,Z,Z,k5 _ _ h1,e5,by rw[OJ,OJ];omega,fE _ _ #[_,X++s5,Z,by rw[jc,O4],λy=>?_,by rw[OL];omega,λb o nb e=>?_]]]
   .rw[Sz,R y,m5 y,Rb,p];erw[#[λz=>z.elim (λz=>z.elim .inl λ#[d,hd,w]=>.inr #[d,Ro _ hd,w]) λw=>.inr #[c,O9 _$ χ.mpr Z,w],λz=>z.elim (λw=>.inl (.inl w)) λ#[d,hd,w]=>?_]];rcases bm.mp hd with hd |hd
    .rwa[.inl$ .inr #[d,hd,w]]
    .let ed:d=c:=χ.mp hd;rw[ed]at w;rwa[.inr w]
   .rw[jh nb];rwa[k5 _ _$ k4 b o nb e]
 .let#[o3,X,Z,h1,R,h3,k4]:=h;rw[OJ]at R h3;let s4:aa H H':=λb o e=>k4 b o (jk e h0) (s3 _ _ e);erw[#[_,Z,N,X,Z,aK.of h1,(λL nd j=>Rm (Rz$ kj nd j) (by show ry X+1 < 4096;omega)),λl L S h4 hm=>?_]];let sub:∀y∈L,y∈Y:=λy hy=>Bd.use_in U u.sub y ((yZ j M y).mpr (by let:=(R y).mp ((hm y).mp hy);rwa [Py]at this));let lL:=O1 (kj h4 sub) u.y20;erw[#[l,L,Z,jc,N9,λr' s0 T pm nd so=>?_]];erw[q r' s0 _ ((s4.trans$ je S).free T) #[jc,#[pm.nodup_iff.mpr nd,so,λy=>?_],Bd.use_in U u.sub,u.y20] ((s4.trans$ je S).trans$ je T)];rw[pm.mem_iff,hm y,R y,yZ j M y,Py]
def none_of(s:aa H h)(n:h r=θ):H r=θ:=by
 cases z:H r with
 |none=>rfl
 |some o=>have:=s _ _ z;rw[n]at this;cases this
inductive UI(a g:ζ)(b:Bd)(p:xD V)(M:ρ->Prop)(q:xD ρ)(H:Hp)(i:Nat)(s:_L.St)(d:Hp):Prop
 |mk(m:ζ)(o:xL V)(c n:Bd)(r:xD ρ)(e:s=[↑a,↑g,↑m,o])(f:b=c.app n)(h:eL H c (p.take (ry p - i)))(j:NL d m r (n.use M) q)(k:aa H d)(l:H m=θ)
def rM:aj ["body","behind","names","statement"] z17z (ae Co):=bQ
def FF{L:Nat}(F:xb K "used_ahead" Co f fd)(cU:‹L+10› fU f0 z3z (iB n) "used_ahead_of")(J:mg "sorted"=θ)(N:mg "reversed"=θ):⇑(L+11) f fd z17z (lX$ n+1):=by
 erw[F.ok rM λc0 A O s H vs Q E hr h=>?_]
 let#[a,g,b,xs,R,M,Y,Z,ha,hb,d,ho,hd,hz,q]:=h;erw[#[_,(jd (jA 2 rM.nd$ jO XD Z J Th$ ja (pv 1) jb)$ jd (kf Po Z (@xA _ _ _ _ _ _ _ Z N VB (pv 0) Oa Oa N6 N6) (jx (i:=3) rM.nd Z$ ω Z)$ jg$ jA 2 rM.nd$ cU.e hr.m$ ja (pv 3)$ ja (pv 2) jb)$ jg$ jo$ pv 2),?_]];let g0:ry R<=21:=O1 (kj d.nd λx o=>d.sub x ((d.mem x).mp o)) d.y20;let b0:=aL;erw[ai λF1 t=>#[_,Z,g,R,Z,aK.of d.at',N9,λl c nl pm so=>t _ _ ?_]];let T:Nm c M:=#[pm.nodup_iff.mpr d.nd,so,λx=>pm.mem_iff.trans (d.mem x)];let U:aa H (af H l$ .lst$ c.map tz):=je nl;let u:NL (af H l$ .lst$ c.map tz) l c M Y:=#[jc,T,d.sub,d.y20];generalize af H l (.lst$ c.map tz)=H1 at U u;let xl:=hb.len;erw[ai λF1 t=>?_];erw[eX λF kF=>#[_,Z,a,xs,Z,aC.of$ U _ _ ha,kF _ _ ?_]];erw[X1 (K:=K) (xs:=xs) (UI a g b xs M Y H) #[l,_,b,.nil,c,Z,(app_nil b).symm,by rw[Ti,Py];rwa[hb],u,U,nl] (λi σ H' hi h=>?_) ?_ (λσ H' h=>t _ _ ?_)]
 .let#[_,_,_,_,_,_,_,_,_,k,_]:=h;rwa[aC.of$ k _ _ ha]
 .clear t;intro E _ i x σ H2 o fE Gq p h;let#[I,o3,pre,gZ,W,Z,j,y,X,B,n2]:=h;let hi:i < ry xs:=by
   rcases TY i xs.length with z |z
   .rwa[z]
   .rw[PJ (by simpa using z)]at o;cases o
  rw[SR hi]at o;let et:xs.take (ry xs - i)=xs.take (ry xs - (i+1))++[x]:=by
   let C:ry xs - i=(ry xs - 1 - i)+1:=by omega
   let e2:ry xs - (i+1)=ry xs - 1 - i:=by omega
   rw[C,e2,Rb,o];rfl
  rw[et]at y;rcases y.last with ⟨e,_⟩ | ⟨ws,v,D,S,C,e2,h4,h5⟩
  .rwa[absurd e N8]
  let#[ew,ev]:=V3 C Z;cases ev;subst e2;let h0:=zW (j▸ho);let G:=zW h0.1;let a1:b.dep=max (D.app S).dep gZ.dep:=by rw[j,zz]
  let a2:(D.app S).dep=max D.dep S.dep:=zz ..;let h6:S.dep<=b.dep:=by rw[a1,a2];rwa[O1 (SW ..)$ Te ..]
  let h7:S.size<=b.size:=by rw[j,j6,j6];omega
  erw[p ?_];show eK _ _ E [↑a,↑g,↑I,δ x] H2;erw[#[_,Z,_,Z,x,I,S,W,gZ.use M,Y,Z,h5.mono$ aa.tm B,X,G.2,N9,N9,λr z H3 nr n3 k3=>fE _ _ #[r,_,D,S.app gZ,z,Z,by rw[j,app_assoc],?_,by rw[J9];rwa[n3],B.trans k3,none_of B nr]]];rw[ew];rwa[h4]
 .let#[I,o3,pre,gZ,W,Z,j,y,X,B,n2]:=h;rw[TX]at y;let ep:pre= .nil:=by
   rcases y.last with ⟨_,e⟩ | ⟨ws,v,D,S,C,_⟩
   .rwa[e]
   .rwa[absurd C N8]
  rw[ep]at j;erw[#[_,Z,q I W H' n2 ?_ B]];rw[j];rwa[X]
def EY:⇑k f e z17z (lX 0):=by
 let n:∀v H Q E,¬lX 0 v H Q E:=λv H Q E h=>by let#[a,g,b,x,S,M,y,_,_,_,_,_,d,_]:=h;rwa[absurd d$ Td _]
 rwa[#[λv H Q E h=>absurd h (n v H Q E),λA o s H c u v Q E _ _ _ _ h=>absurd h (n v H Q E)]]
theorem LQ(F:xb K "used_ahead" Co f e)(FB:xb K "used_behind_terms" yd r g)(d:xb K "used_ahead_of" Cp o b)
  (B:aE K e z17z []) (i:mg "used_ahead"=↑f) (j:aE K g z3z []) (k:mg "used_behind_terms"=↑r) (p:aE K b z3z []) (q:mg "used_ahead_of"=↑o) (C:‹1› u s z4z on "own_terms") (l:‹7› v t z1z (dW 6) "names_in") (M:mg "list"=θ) (a:mg "set"=θ) (m:mg "sorted"=θ) (c:mg "reversed"=θ):
  ∀n:Nat,⇑(3*n+8) f e z17z (lX n)/\⇑(3*n+10) o b z3z (iB n)
 |0=>by let h:⇑8 f e z17z (lX 0):=EY;let H:=wZ (L:=8) (n:=0) FB #[h,B,F.kp,i];rwa[#[h,xg (L:=0) d #[H,j,FB.kp,k] C l M a m]]
 |n+1=>by
  let I:=(LQ F FB d B i j k p q C l M a m c n).2;let h:=FF (L:=3*n) F #[I,p,d.kp,q] m c;let E:3*n+11=3*(n+1)+8:=by omega
  rw[E]at h;let H:=wZ (L:=3*(n+1)+8) (n:=n+1) FB #[h,B,F.kp,i];rwa[#[h,xg (L:=3*(n+1)) d #[H,j,FB.kp,k] C l M a m]]
abbrev Gj:cc:=bV 49
abbrev xW:cc:=bV 52
abbrev xS:cc:=bV 53
abbrev mZ:cc:=bV 54
abbrev xY:cc:=bV 55
def Lf.cut:Lf->Nat
 | .st _ _ _ | .gv _ _=>0
 |_=>1
def Bd.cuts:Bd->Nat
 | .nil=>0
 | .lf _ l r=>l.cut+r.cuts
 | .ite _ _ _ a b r=>1+a.cuts+b.cuts+r.cuts
 | .loop _ _ _ a r=>1+a.cuts+r.cuts
def Bd.inn:Bd->Bd
 | .ite _ _ _ a b _=>a.app b
 | .loop _ _ _ a _=>a
 |_=>.nil
theorem zZ:∀(a b:Bd),(a.app b).cuts=a.cuts+b.cuts
 | .nil,b=>by show b.cuts=0+b.cuts;omega
 | .lf _ l r,b=>by let:=zZ r b;show l.cut+(r.app b).cuts=l.cut+r.cuts+b.cuts;omega
 | .ite _ _ _ x y r,b=>by let:=zZ r b;show 1+x.cuts+y.cuts+(r.app b).cuts=1+x.cuts+y.cuts+r.cuts+b.cuts;omega
 | .loop _ _ _ x r,b=>by let:=zZ r b;show 1+x.cuts+(r.app b).cuts=1+x.cuts+r.cuts+b.cuts;omega
inductive n9(b:xD V)(H:Hp)(Q:VK)(a:XK):Prop
 |mk(v:V)(s:Bd)(_:b=[v])(_:i8 H v s)(_:s.size<=10000000)(_:∀(r:ζ) (xs:xD V) (H':Hp),H' r=δ (.tup xs)->eL H' s.inn xs->aa H H'->Q (.ref r) H')
inductive iO(d:xD V)(H:Hp)(Q:VK)(c:XK):Prop
 |mk(a:ζ)(b:Bd)(e:xD V)(_:d=[.ref a])(_:H a=δ (.tup e))(_:eL H b e)(_:b.size<=10000000)(_:∀H',aa H H'->Q (.int (b.cuts:Int)) H')
def Lj:aj z4z z4z (ae Gj):=bQ
def Fh(F:xb K "bodies_in" Gj f y):⇑1 f y z4z n9:=by
 erw[F.ok Lj λC A o s H V Q E j h=>?_]
 let#[v,st,Z,z,B,q]:=h;erw[#[_,(jd (jy (j8$ jw$ pv 0) (jg$ jo$ jv jU (jw$ pv 0)$ jw$ pv 0) jp)$ jd (jy (j8$ jw$ pv 0) (jg$ jo$ jw$ pv 0) jp)$ jg$ jo$ ji jb),?_]];let D:=aL;cases z with
 |lf p l V c d=>
  cases l with
  |rd x t T |st x t T |wr t u T U |cl x f R S |gv t T=>let#[Z,_]:=d;erw[(jr c Z #[Z,_,Z,aY N7 ?_])];erw[(jr c Z #[Z,_,Z,aY N7 ?_])];rwa[#[g9,λr N=>q r [] _ jc Z (je N)]]
 |ite p t T a b e G g I c J d i m n=>erw[(jr c Z #[Z,_,Z,c8 N7 ?_])];let L:a.size+b.size+0+1<=10000000:=B;let W:=m.len;let X:=n.len;rwa[(jr c Z$ jr c Z #[e,G,g,I,Z,Z,d,i,N9,λr M j s=>q r _ M j ((n.mono$ aa.tm s).app$ m.mono$ aa.tm s) s])]
 |loop p t T a e g c J d i=>erw[(jr c Z #[Z,_,Z,aY N7 ?_])];erw[(jr c Z #[Z,_,Z,c8 N7 ?_])];rwa[(jr c Z$ q e g H d i$ aa.refl H)]
def CM(h:i8 H v s):s.inn.size < s.size/\∃(p:ζ) (w:ρ) (r:xD V),v= .ref p/\H p=δ (.tup (.str w::r))/\s.cuts=(if pV (.str w) [.str "set",.str "give"]=μ then 0 else 1)+s.inn.cuts:=by
 cases h with
 |lf p l i c d=>
  erw[#[Nat.zero_lt_succ _,?_]];cases l with
  |rd x t T |wr t u T U |cl x f Q j=>let#[Z,_]:=d;rwa[#[p,_,_,Z,c,by rw[OU N7];rfl]]
  |st x t T |gv t T=>let#[Z,_]:=d;rwa[#[p,_,_,Z,c,by rw[OT N7];rfl]]
 |ite p t T a b q k A B c e d g m n=>erw[#[by show(a.app b).size < a.size+b.size+0+1;rw[j6];omega,p,_,_,Z,c,?_]];rw[OU N7];show 1+a.cuts+b.cuts+0=1+(a.app b).cuts;rw[zZ];omega
 |loop p t T a q A c e d g=>erw[#[by show a.size < a.size+0+1;omega,p,_,_,Z,c,?_]];rw[OU N7];show 1+a.cuts+0=1+a.cuts;omega
def dQ:eW (v::y) 0=δ v:=jG (j:=0) Z
inductive MI(a n:ζ)(b:Bd)(H:Hp)(m:Nat)(p:_L.St)(c:Hp):Prop
 |mk(l:xL V)(W:Bd)(o:xD V)(k:Nat)(d:m=W.size)(e:p=[↑a,δ (.int (k:Int)),↑n,l])(f:c n=δ (.lst o))(g:eL c W o)(h:k+W.cuts=b.cuts)(i:W.size<=10000000)(j:aI n H c)
def lI:aj ["body","many","todo","statement"] ["body"] (ae xW):=bQ
def Bt(F:xb K "many_cuts" xW f fd)(cB:‹1› fB f0 z4z n9 "bodies_in")(m0:mg "list"=θ):⇑2 f fd ["body"] iO:=by
 erw[F.ok lI λc0 A o1 s H vs Q E hr h=>?_]
 let#[a,b,xs,Z,ha,hb,hz,q]:=h;erw[#[_,(jd (jA 1 lI.nd jf)$ jd (jA 2 lI.nd$ jJ Ju Z m0 boot_list$ ja (pv 0) jb)$ jd (KI Po (@xG _ _ _ (pv 2) (λ_=>Z))$ jd (jA 3 lI.nd$ FY OV PySem.F.slot_list_pop PySem.F.type_list_pop EN$ pv 2)$ jd (kc$ jy (jz Jt (jw$ pv 3) (ji$ ja jm$ ja jm jb) Z) (jg$ Gb (i:=1) lI.nd Z (ω Z) jf EA) jp)$ jg$ jL$ jZ OV Ri Rh Zh (pv 2)$ ja (cB.e hr.m$ ja (pv 3) jb) jb)$ jg$ jo$ pv 1),?_]];let b0:=aL;erw[ai λU d=>d _ _ ?_];erw[ai λU d=>#[_,Z,a,_,Z,.inr$ aC.of ha,λt C=>d _ _ ?_]];let s0:aa H (af H t$ .lst xs):=je C;erw[ai λU d=>?_];erw[pI (MI a t b H) b.size #[_,b,xs,0,Z,Z,jc,hb.mono$ aa.tm s0,N9,hz,λc o N e=>s0 _ _ e] ?_];intro m σ D E _ fE F X Y Gq y h;let#[o3,W,zs,k,Z,Z,x,h2,h3,h4,h5]:=h;erw[y #[_,Z,!zs.isEmpty,.inl #[zs,aK.of x,Z],?_]];rcases h2.last with ⟨e1,e2⟩ | ⟨g,v,B,n,e1,e2,g1,g2⟩
 .rw[e1];erw[Y _$ d _ _ #[_,Z,?_]];rw[e2]at h3;let e3:k=b.cuts:=by let:k+0=b.cuts:=h3;rwa[N09]
  rw[e3];rwa[q _ λc o e=>h5 c o (jk e C) e]
 .rw[e1];let ne:(!(g++[v]).isEmpty)=μ:=by cases g<;>rfl
  rw[ne];erw[X _ ?_];let h6:W.size=B.size+n.size:=by rw[e2,j6]
  let h7:W.cuts=B.cuts+n.cuts:=by rw[e2,zZ]
  let#[h8,p,w',r,Z,hp,hc]:=CM g2;rw[e1]at x;erw[ai λU d=>#[_,Z,.inl #[Z,_,aK.of x],t,_,.ref p,Z,Z,x,N8,d _ _ ?_]];rw[List.dropLast_concat];let T:am D (af D t$ .lst g):=λc ys e=>by rw[jh$ jM e x nofun];rwa[e]
  let t2:af D t (.lst g) t=δ (.lst g):=jc;let u:=g1.mono T;let I:=g2.mono T;let J:=T _ _ hp;let k2:aI t H (af D t$ .lst g):=λc o N e=>by rw[jh N];rwa[h5 c o N e]
  generalize af D t (.lst g)=H2 at t2 u I J k2;let R:∀(j:Nat) (H3:Hp),aa H2 H3->j+B.cuts+n.inn.cuts=b.cuts->si (M4 K "list" (lF K) (bn 2)$ ap (ff n9 [] E0$ ap (bn 3) aZ) aZ) E [↑a,δ$ .int (j:Int),↑t,↑p] H3:=λj H3 L hk=>by
   let g0:=I.mono (aa.tm L);erw[#[_,Z,.inl #[Z,_,aK.of$ L _ _ t2],_,Z,.ref p,n,Z,g0,N9,λr' ys H4 h0 hy s4=>?_]];let S:=L.trans s4;let l1:=u.len;let l2:=hy.len;erw[#[t,r',g,ys,Z,Z,S _ _ t2,aC.of h0,N9,fE (B.app n.inn).size _ _ (by rw[j6];omega) #[_,B.app n.inn,g++ys,j,Z,Z,jc,?_,by rw[zZ];omega,by rw[j6];omega,λc o N e=>?_]]]
   .let M:am H4 (af H4 t$ .lst$ g++ys):=λc z0 e=>by rw[jh$ jM e (S _ _ t2) nofun];rwa[e]
    rwa[(hy.mono M).app ((u.mono$ aa.tm S).mono M)]
   .rw[jh N];rwa[S _ _$ k2 c o N e]
  erw[ai λU d=>eN (λO H'=>∃j:Nat,O=[↑a,δ$ .int (j:Int),↑t,↑p]/\aa H2 H'/\j+B.cuts+n.inn.cuts=b.cuts) (λE2 _ fm=>?_) λO H' h=>?_]
  .clear d fE;erw[oW λG X Y=>(jr J dQ #[cj,λl nl=>#[l,_,Z,.inr$ aC.of jc,Z,Z,_,Z,?_]])];cases hv:pV (.str w') [.str "set",.str "give"] with
   |true=>rw[hv,OT Z]at hc;rwa[Y _$ fm _ _ #[k,Z,je nl,N9]]
   |false=>rw[hv,OU OX]at hc;erw[X _ #[_,Z,_,_,Z,Z,fm _ _ #[k+1,?_,je nl,N9]]];show [_,δ$ tT ((k:Int)+1),_,_]=[_,δ$ tT ((k+1:Nat):Int),_,_];rfl
  .let#[j,Z,L,hk]:=h;rwa[d _ _$ R j H' L hk]
inductive LX where
 |go (n:Int) |give (t:ζ)
structure Wy where
 sets:xD (ρ×ζ)
 goal:LX
inductive Dd where
 |st (p:ζ) |ask (t:ζ)
structure Ct where
 M:ρ->Prop
 d:Dd
 ws:xD Wy
structure Pc where
 M:ρ->Prop
 w:Wy
inductive aRt(H:Hp)(l:Tr)(W:V->xD V->Prop)(x:V):Prop|mk(_:l.isL=μ)(a X:_)(_:x= .ref a)(_:H a=δ (.tup X))(_:W .non X)
inductive aRc(h t:Tr)(W R:V->xD V->Prop)(X:xD V):Prop|mk(_:h.isL=ν)(_:t.isL=μ)(y Y:_)(_:X=y::Y)(_:W y [])(_:R .non Y)
def aR(H:Hp):Tr->V->xD V->Prop
 | .lf v,x,_=>x=v/\NN v=μ
 | .tp l,x,_=>aRt H l (aR H l) x
 | .nil,_,X=>X=[]
 | .cons h t,_,X=>aRc h t (aR H h) (aR H t) X
def aR.mono(k:am H d):∀{t:Tr} {x:V} {X:xD V},aR H t x X->aR d t x X:=by
 intro t;induction t with
 |lf v |nil=>rwa[λh=>h]
 |tp l f=>rintro x X ⟨h,a,Y,e,b,c⟩;rwa[#[h,a,Y,e,k _ _ b,f c]]
 |cons h t i I=>rintro x X ⟨E,g,y,Y,e,b,c⟩;rwa[#[E,g,y,Y,e,i b,I c]]
def aD:xD Tr->Tr
 | []=>.nil
 |t::T=>.cons t (aD T)
def Q6:∀t:xD Tr,(aD t).isL=μ
 | [] |_::_=>rfl
def ay(t:xD Tr):Tr:=.tp (aD t)
def aM(x:ρ):Tr:=.lf (.str x)
def ur(a:ζ):Tr:=.lf (.ref a)
def ar(n:Int):Tr:=.lf (.int n)
section
variable {H:Hp}
def jB:aR H (aD []) .non []:=rfl
def jl{t:Tr}(h:t.isL=ν)(a:aR H t y [])(b:aR H (aD T) .non Y):aR H (aD (t::T)) .non (y::Y):=#[h,Q6 T,y,Y,Z,a,b]
def jE(h:H a=δ (.tup x))(b:aR H (aD t) .non x):aR H (ay t) (.ref a) []:=#[Q6 t,a,x,Z,h,b]
def jS:aR H (aM x) (.str x) []:=#[Z,Z]
def JC:aR H (ur a) (.ref a) []:=#[Z,Z]
def jV:aR H (ar n) (.int n) []:=#[Z,Z]
theorem Ka(a:aR H (aD s) .non Y):∀{T:xD Tr} {x:xD V},aR H (aD T) .non x->aR H (aD$ T++s) .non (x++Y)
 | [],x,h=>by let e:x=[]:=h;rw[e];rwa[a]
 |t::T,x,h=>by let#[E,_,y,z,e,b,c]:=h;rw[e];rwa[jl E b (Ka a c)]
theorem zo:∀{T:xD Tr} {x:xD V},aR H (aD T) .non x->ry x=ry T
 | [],x,h=>by let e:x=[]:=h;rw[e];rfl
 |t::T,x,h=>by let#[_,_,y,z,e,_,a]:=h;rw[e,Ph,Ph,zo a]
theorem X6:∀(S:xD ρ),aR H (aD$ S.map aM) .non (S.map tz)
 | []=>rfl
 |s::S=>jl Z jS (X6 S)
theorem Z1:∀{T:xD Tr} {x:xD V},aR H (aD T) .non x->aR H (aD T.reverse) .non x.reverse
 | [],x,h=>by let e:x=[]:=h;rw[e];rfl
 |t::T,x,h=>by let#[E,_,y,z,e,a,b]:=h;rw[e,Tp,Tp];rwa[Ka (jl E a jB)$ Z1 b]
theorem qT:∀{T:xD Tr} {X:xD V},aR H (aD T) .non X->∀(i:Nat) (x:V),X[i]?=δ x->∃t,T[i]?=δ t/\aR H t x []
 | [],X,h,i,x,a=>by let e:X=[]:=h;rw[e]at a;simp at a
 |t::T,X,h,0,x,a=>by let#[_,_,y,z,e,b,c]:=h;rw[e]at a;cases a;rwa[#[t,Z,b]]
 |t::T,X,h,i+1,x,a=>by let#[_,_,y,z,e,b,c]:=h;rw[e]at a;simpa using qT c i x (by simpa using a)
end
def setT(s:ρ×ζ):Tr:=ay [aM s.1,ur s.2]
def AY:LX->Tr
 | .go n=>ay [aM "go",ar n]
 | .give t=>ay [aM "give",ur t]
def i7(w:Wy):Tr:=ay [ay$ w.sets.map setT,AY w.goal]
def Me:Dd->Tr
 | .st p=>ur p
 | .ask t=>ay [aM "ask",ur t]
def Ii(c:Ct):Tr:=ay [ay ((canon c.M).map aM),Me c.d,ay$ c.ws.map i7]
def Ew(g:LX):(AY g).isL=ν:=by cases g<;>rfl
def Il(d:Dd):(Me d).isL=ν:=by cases d<;>rfl
inductive oF(H:Hp)(p:Pc)(v:V)(g:ζ)(y:xD ρ):Prop|mk(r s W:_)(_:v= .ref r)(_:H r=δ (.tup [.ref g,W]))(_:NL H g s p.M y)(_:aR H (i7 p.w) W [])
def oF.same(h:oF H p v g y)(s:aa H a):oF a p v g y:=by let#[r,S,W,e,b,c,d]:=h;rwa[#[r,S,W,e,s _ _ b,c.same s,d.mono$ aa.tm s]]
def oF.but(h:oF H p v g y)(k:aI f H c)(d:H f=δ (.lst C))(n:g≠f):oF c p v g y:=by let#[r,s,W,e,i,a,j]:=h;let t:am H c:=λb x e=>k b _ (jM e d nofun) e;rwa[#[r,s,W,e,t _ _ i,#[k _ _ n a.at',a.nm,a.sub,a.y20],j.mono t]]
def Lf.isCut:Lf->Bool
 | .st _ _ _ | .gv _ _=>ν
 |_=>μ
def Bd.deed:Bd->Dd
 | .lf p _ _=>.st p
 | .ite _ t _ _ _ _ | .loop _ t _ _ _=>.ask t
 | .nil=>.st 0
inductive lN(b:xD V)(H:Hp)(Q:VK)(a:XK):Prop
 |mk(v:V)(s:Bd)(_:b=[v])(_:i8 H v s)(_:∀(d:V) (H':Hp),aR H' (Me s.deed) d []->aa H H'->Q d H')
inductive iA(b:xD V)(H:Hp)(Q:VK)(a:XK):Prop
 |mk(t:ζ)(T:Tm)(c:xD ρ)(_:b=[.ref t])(_:bJ H T t)(_:dY c T)(_:ry c<=21)(_:∀(v:V) (g:ζ) (H':Hp),oF H' #[λx=>x∈T.vars,#[[],.give t]] v g c->H g=θ->aa H H'->Q v H')
inductive rW(K:β)(c:xD V)(H:Hp)(Q:VK)(b:XK):Prop
 |mk(a:ζ)(_:c=[.ref a])(_:aC K H a [.str "num",.int 0])(_:∀(r:ζ),H r=θ->Q (.ref r) (af H r (.lst [])))
inductive rX(K:β)(b:xD V)(H:Hp)(Q:VK)(a:XK):Prop
 |mk(t:ζ)(c:xD ρ)(_:b=[.ref t])(_:aC K H t [.str "num",.int 0])(_:ry c<=21)(_:∀(v:V) (g:ζ) (H':Hp),oF H' #[λx=>x∈(Tm.num 0).vars,#[[],.give t]] v g c->H g=θ->aa H H'->Q v H')
open Classical in
def lK(x:ρ)(t:ζ)(p:Pc):Wy:=if p.M x then #[(x,t)::p.w.sets,p.w.goal] else p.w
inductive lU(d:xD V)(H:Hp)(Q:VK)(a:XK):Prop
 |mk(v b:V)(p t:ζ)(x:ρ)(T:Tm)(c:Pc)(g:ζ)(e:xD ρ)(_:d=[v,b])(_:i8 H v (.lf p (.st x t T) .nil))(_:oF H c b g e)(_:x∈e)(_:dY e T)(_:ry c.w.sets<=10000000)(_:∀(v':V) (g':ζ) (H':Hp),oF H' #[(Lf.st x t T).use c.M,lK x t c] v' g' e->H g'=θ->aa H H'->Q v' H')
def Gy:aj z4z z4z (ae xS):=bQ
def Bp(F:xb K "deed_of" xS f e):⇑1 f e z4z lN:=by
 erw[F.ok Gy λC A o s H V Q E z h=>?_]
 let#[v,st,Z,g,q]:=h;erw[#[_,(jd (jy (jz zC (jw$ pv 0) (ji$ ja jm$ ja jm jb) Z) (jg$ jo$ ji$ ja jm$ ja (jw$ pv 0) jb) jp)$ jg$ jo$ pv 0),?_]];cases g with
 |lf p l V c d=>
  cases l with
  |rd x t T |st x t T |wr t u T U |cl x f B D |gv t T=>let#[Z,_]:=d;erw[(jr c Z #[cj,λl n=>#[l,_,Z,.inr$ aC.of jc,Z,Z,_,Z,aY N7 ?_]])];rwa[#[_,Z,q _ _ JC$ je n]]
 |ite p t T a b i I j J c m d y L M |loop p t T a i j c m d y=>erw[(jr c Z #[cj,λl n=>#[l,_,Z,.inr$ aC.of jc,Z,Z,_,Z,c8 N7 ?_]])];erw[(jr (aq c n) Z #[cj,λr N=>?_])];rwa[q _ _ (jE jc$ jl Z jS$ jl Z JC jB) ((je n).trans$ je N)]
def Fs{fN:ζ}{fdN:bS}(F:xb K "names_in" gq f b)(c:‹n+1› f b z1z (dW n) "names_in")(m:mg "set"=θ)(M:mg "sorted"=θ):⇑(n+2) f b z1z (rW K):=by
 erw[F.ok yn (λC A o s H v Q E d h=>?_)]
 let#[a,Z,g,q]:=h;erw[#[_,(jd (jy (j8$ jw$ pv 0) (jg$ jo$ jF jb) jp)$ jd (jy (j8$ jw$ pv 0) (jg$ jo$ jF$ ja (jw$ pv 0) jb) jp)$ jg$ jo$ jO (qm Z) Z M Th$ ja (jJ (q8 Z) Z m boot_set$ ja (jv zG (c.e d$ ja (jw$ pv 0) jb)$ c.e d$ ja (jw$ pv 0) jb) jb) jb),?_]];erw[#[_,Z,a,_,_,_,Z,Z,g,Z,Z,_,Z,c8 N7 ?_]];rwa[#[g9,λr N=>q r N]]
def rK:aj z1z z1z (ae mZ):=bQ
def wY(F:xb K "place_of_give" mZ f d)(C:‹7› U i z1z (dW 6) "names_in"):⇑8 f d z1z iA:=by
 erw[F.ok rK λj A o s H V Q E l h=>?_]
 let#[t,T,y,Z,p,O,b,q]:=h;erw[#[_,(jg$ jo$ ji$ ja (C.e l.m$ ja (pv 0) jb)$ ja (ji$ ja (ji jb)$ ja (ji$ ja jm$ ja (pv 0) jb) jb) jb),?_]];erw[#[_,Z,t,T,y,Z,p,O.2,O.1,b,λg v a z B D M G I=>?_]];let J:NL a g v (λx=>x∈T.vars) y:=#[B,#[D,G,M],kE O.1,b];erw[#[g9,λe L=>#[_,Z,cj,λu c=>#[cj,λx N=>#[cj,λr n=>?_]]]]];let S:aa a (af (af (af (af a e$ .tup []) u$ .tup [.str "give",.ref t]) x$ .tup [.ref e,.ref u]) r$ .tup [.ref g,.ref x]):=(((je L).trans$ je c).trans$ je N).trans (je n);erw[q _ g _ #[r,_,.ref x,Z,jc,J.same S,?_] z (I.trans S)];rwa[jE (aq jc n)$ jl Z (jE (aq (aq (aq jc c) N) n) jB)$ jl Z (jE (aq (aq jc N) n)$ jl Z jS$ jl Z JC jB) jB]
def Fv(F:xb K "place_of_give" mZ f j)(C:‹7› G l z1z (rW K) "names_in"):⇑8 f j z1z (rX K):=by
 erw[F.ok rK λp A o s H V Q E v h=>?_]
 let#[t,y,Z,z,B,q]:=h;erw[#[_,(jg$ jo$ ji$ ja (C.e v.m$ ja (pv 0) jb)$ ja (ji$ ja (ji jb)$ ja (ji$ ja jm$ ja (pv 0) jb) jb) jb),?_]];erw[#[_,Z,t,Z,z,λg a=>?_]];let b:aa H (af H g$ .lst []):=je a;let c:NL (af H g$ .lst []) g [] (λx=>x∈(Tm.num 0).vars) y:=#[jc,#[Uf,Z,λx=>UV],λx h=>absurd h Pm,B];generalize af H g (.lst [])=d at b c;erw[#[g9,λe D=>#[_,Z,cj,λu i=>#[cj,λx N=>#[cj,λr n=>?_]]]]];let S:aa d (af (af (af (af d e$ .tup []) u$ .tup [.str "give",.ref t]) x$ .tup [.ref e,.ref u]) r$ .tup [.ref g,.ref x]):=(((je D).trans$ je i).trans$ je N).trans (je n);erw[q _ g _ #[r,_,.ref x,Z,jc,c.same S,?_] a (b.trans S)];rwa[jE (aq jc n)$ jl Z (jE (aq (aq (aq jc i) N) n) jB)$ jl Z (jE (aq (aq jc N) n)$ jl Z jS$ jl Z JC jB) jB]
def AZ{Y:xD ρ}:pV (.str x) (Y.map tz)=decide (x∈Y):=by
 by_cases h:x∈Y
 .rw[OY h];unfold pV;rw[V4];rwa[#[.str x,dr.mpr #[x,h,Z],by simp [oG]]]
 .rw[OR h];unfold pV;rw[VZ];intro z;rw[V4]at z;let#[v,a,e]:=z;let#[y,H,Z]:=dr.mp a;let E:x=y\/y=x:=by
   first
    |rwa[.inl (by simpa [oG] using e)]
    |rwa[.inr (by simpa [oG] using e)]
  rcases E with rfl |rfl
  .rwa[h H]
  .rwa[h H]
def Hg{H:Hp}{w:Wy}{v:V}(h:aR H (i7 w) v []):∃(W s:ζ) (S:xD V) (y:V),v= .ref W/\H W=δ (.tup [.ref s,y])/\H s=δ (.tup S)/\aR H (aD$ w.sets.map setT) .non S/\aR H (AY w.goal) y []:=by obtain⟨_,W,x,rfl,a,_,_,l,b,e,⟨_,s,S,c,d,f⟩,_,_,g,Y,E,i,j⟩:=h;let k:Y=[]:=j;rw[k]at E;rw[E]at e;rw[e,c]at a;rwa[#[W,s,S,g,Z,a,d,f,i]]
def pE:aj ["statement","behind","way"] z3z (ae xY):=bQ
def Bw(F:xb K "place_of_set" xY f fd)(cU:‹10› fU f0 z3z (iB 0) "used_ahead_of"):⇑11 f fd z3z lU:=by
 erw[F.ok pE λc0 A O s H vs Q E hr h=>?_]
 let#[v,bv,p,t,x,T,C,g,Y,Z,X,hp,hx,ok,hl,q]:=h;erw[#[_,(jd (jA 2 pE.nd$ jw$ pv 1)$ jd (kc$ jy (jz zC (jw$ pv 0) (jw$ pv 1) Z) (jg$ jA 2 pE.nd$ ji$ ja (jv jU (ji$ ja (jI j9 (pv 0) (jH jf) jT) jb)$ jw$ pv 2)$ ja (jw$ pv 2) jb) jp)$ jg$ jo$ ji$ ja (cU.e hr.m$ ja (pv 0)$ ja (jw$ pv 1) jb)$ ja (pv 2) jb),?_]];let b0:=aL;let#[r,ss,wv,Z,b,B,hW]:=hp;let h0:=X;cases X with
 |lf _ _ vs h1 h2=>
  let#[Z,hT]:=h2;let#[wa,sa,sx,y,Z,i,D,j,hy]:=Hg hW;erw[ai λF1 d=>(jr b Z$ d _ _ ?_)];let sl:=zo j;rw[OJ]at sl;erw[ai λF1 d=>eN (λl I=>∃W:V,l=[↑p,↑r,δ W]/\aR I (i7$ lK x t C) W []/\aa H I) (λE2 _ fm=>?_) λl I h=>?_]
  .clear d;erw[oW λG kT kF=>(jr h1 Z$ jr b Z #[g,_,Z,.inl$ aK.of B.at',Z,Q2 _,_,Z,?_])];rw[AZ];by_cases a:x∈ss
   .rw[OY a];erw[kT _ #[_,Z,_,Z,p,_,Z,h1,λs1 H1 J k1=>#[iZ,λu nu=>?_]]];let L:=k1.trans (je (o:=.tup [.ref s1]) nu);erw[(jr (L _ _ i) Z #[u,sa,_,_,Z,Z,jc,L _ _ D,by show 1+ry sx<=_;omega,λc H2 hc z=>?_])];let R:=L.trans z;erw[(jr (R _ _ i) Z #[cj,λnw n=>fm _ _ #[.ref nw,Z,?_,R.trans$ je n]])];let tm:=aa.tm (R.trans$ je (o:=.tup [.ref c,y]) n);unfold lK;rw[OT ((B.nm.mem x).mp a)];erw[jE jc$ jl Z (jE (aq hc n)$ jl Z ?_$ j.mono tm)$ jl (Ew _) (hy.mono tm) jB];rwa[jE (aq (z _ _$ aq J nu) n)$ jl Z jS$ jl Z JC jB]
   .rw[OR a];erw[kF _$ fm _ _ #[_,Z,?_,aa.refl _]];unfold lK;rw[OU λw=>a ((B.nm.mem x).mpr w)];rwa[hW]
  .let#[W,Z,S,k]:=h;erw[d _ _ ?_];erw[#[_,Z,jr (k _ _ b) Z #[.ref p,g,.lf p (.st x t T) .nil,ss,C.M,Y,Z,h0.mono$ aa.tm k,B.same k,#[#[hx,ok],trivial],(by show 0 < 1;decide),(by show 0+1<=10000000;decide),λg' zs H3 n3 N3 z=>?_]]];erw[#[_,Z,cj,λr' N=>q _ g' _ #[r',zs,W,Z,jc,N3.same$ je N,S.mono$ aa.tm$ z.trans$ je N] (k.free n3) ((k.trans z).trans$ je N)]]
abbrev Cc:cc:=bX (bV 56) 1
abbrev Ck:cc:=bX (bV 56) 2
abbrev Cd:cc:=bX (bV 56) 3
abbrev Cq:cc:=bX (bV 56) 4
abbrev xT:cc:=bX (bV 56) 0
def pL(m:Int)(p:ζ)(l:Lf)(q:Pc×xD Ct):Pc×xD Ct:=match l with
 | .gv t T=>(#[λx=>x∈T.vars,#[[],.give t]],q.2)
 | .st x t T=>(#[(Lf.st x t T).use q.1.M,lK x t q.1],q.2)
 | .rd x t T=>(#[(Lf.rd x t T).use q.1.M,#[[],.go (m - (q.2.length:Int) - 1)]],q.2++[#[(Lf.rd x t T).use q.1.M,.st p,[q.1.w]]])
 | .wr t u T U=>(#[(Lf.wr t u T U).use q.1.M,#[[],.go (m - (q.2.length:Int) - 1)]],q.2++[#[(Lf.wr t u T U).use q.1.M,.st p,[q.1.w]]])
 | .cl x f a b=>(#[(Lf.cl x f a b).use q.1.M,#[[],.go (m - (q.2.length:Int) - 1)]],q.2++[#[(Lf.cl x f a b).use q.1.M,.st p,[q.1.w]]])
def pB(m:Int):Bd->Pc->xD Ct->Pc×xD Ct
 | .nil,c,f=>(c,f)
 | .lf p l r,c,f=>pL m p l (pB m r c f)
 | .ite p t T a b r,c,f=>
  let q:=pB m r c f
  let o:=pB m b q.1 q.2
  let s:=pB m a q.1 o.2
  (#[(Bd.ite p t T a b .nil).use q.1.M,#[[],.go$ m - (q.2.length:Int) - ((Bd.ite p t T a b .nil).cuts:Int)]],s.2++[#[(Bd.ite p t T a b .nil).use q.1.M,.ask t,[s.1.w,o.1.w]]])
 | .loop p t T a r,c,f=>
  let q:=pB m r c f
  let d:Pc:=#[(Bd.loop p t T a .nil).use q.1.M,#[[],.go$ m - (q.2.length:Int) - ((Bd.loop p t T a .nil).cuts:Int)]]
  let s:=pB m a d q.2
  (d,s.2++[#[(Bd.loop p t T a .nil).use q.1.M,.ask t,[s.1.w,q.1.w]]])
theorem KB(m:Int):∀(a b:Bd) (c:Pc) (f:xD Ct),pB m (a.app b) c f=pB m a (pB m b c f).1 (pB m b c f).2
 | .nil,_,_,_=>rfl
 | .lf p l r,b,c,f=>by show pL m p l (pB m (r.app b) c f)=pL m p l (pB m r _ _);rw[KB m r b c f]
 | .ite p t T x y r,b,c,f=>by let e:=KB m r b c f;show pB m (.ite p t T x y$ r.app b) c f=_;unfold pB;rw[e]
 | .loop p t T x r,b,c,f=>by let e:=KB m r b c f;show pB m (.loop p t T x$ r.app b) c f=_;unfold pB;rw[e]
theorem kn(m:Int):∀(b:Bd) (c:Pc) (F:xD Ct),(pB m b c F).2.length=ry F+b.cuts
 | .nil,_,_=>rfl
 | .lf p l r,c,F=>by
  let e:=kn m r c F;show(pL m p l$ pB m r c F).2.length=ry F+(l.cut+r.cuts);cases l with
  |rd x t T |wr t u T U |cl x f a d=>show((pB m r c F).2++[_]).length=ry F+(1+r.cuts);rw[OL,e];show _+1=_;omega
  |st x t T |gv t T=>show(pB m r c F).2.length=ry F+(0+r.cuts);omega
 | .ite p t T x y r,c,F=>by let e:=kn m r c F;show((pB m x _ (pB m y _ _).2).2++[_]).length=_;rw[OL,kn m x,kn m y,e];show _+1=ry F+(1+x.cuts+y.cuts+r.cuts);omega
 | .loop p t T x r,c,F=>by let e:=kn m r c F;show((pB m x _ _).2++[_]).length=_;rw[OL,kn m x,e];show _+1=ry F+(1+x.cuts+r.cuts);omega
def X7(x:ρ)(t:ζ)(p:Pc):(lK x t p).sets.length<=ry p.w.sets+1:=by
 unfold lK;split
 .rwa[OM _]
 .rwa[Rk _]
theorem Z2(m:Int):∀(b:Bd) (a:Pc) (f:xD Ct),(pB m b a f).1.w.sets.length<=ry a.w.sets+b.size
 | .nil,_,_=>OM _
 | .lf p l r,a,f=>by
  let e:=Z2 m r a f;show(pL m p l$ pB m r a f).1.w.sets.length<=ry a.w.sets+(r.size+1);cases l with
  |st x t T=>have:=X7 x t (pB m r a f).1;show(lK x t (pB m r a f).1).sets.length<=_;omega
  |_=>rwa[OS _]
 | .ite p t T x y r,a,f | .loop p t T x r,a,f=>OS _
theorem kP:∀b:Bd,b.cuts<=b.size
 | .nil=>OM _
 | .lf _ l r=>by
  let:=kP r;let h:l.cut<=1:=by cases l<;>first |rwa[OM _] |rwa[OS _]
  show l.cut+r.cuts<=r.size+1;omega
 | .ite _ _ _ a b r=>by let:=kP a;let:=kP b;let:=kP r;show 1+a.cuts+b.cuts+r.cuts<=a.size+b.size+r.size+1;omega
 | .loop _ _ _ a r=>by let:=kP a;let:=kP r;show 1+a.cuts+r.cuts<=a.size+r.size+1;omega
structure CK(K:β)(C:ζ):Prop where
 cl:uO K C
 nm:a9 K C "many"
 nf:a9 K C "found"
structure Cg(H:Hp)(C ia dx fa:ζ)(m:Int)(cts:xD Ct)(cs:xD V):Prop where
 ins:H ia=δ (.ins C dx [("many",.int m),("found",.ref fa)])
 fd:H fa=δ (.lst cs)
 tr:aR H (aD$ cts.map Ii) .non cs
def Cg.same(h:Cg H C i d f m c a)(s:aa H b):Cg b C i d f m c a:=#[s _ _ h.ins,s _ _ h.fd,h.tr.mono$ aa.tm s]
def Cg.len(h:Cg H C i d f m c a):ry a=ry c:=by rw[zo h.tr,OJ]
def Cg.tm(h:Cg H C i d f m c g)(k:aI f H a):am H a:=λb x e=>k b _ (jM e h.fd nofun) e
structure Ao(H:Hp)(C ia dx fa:ζ)(m:Int)(cts:xD Ct)(cs:xD V)(pc:Pc)(bv:V)(g:ζ)(ys:xD ρ)(b:Bd):Prop where
 c:Cg H C ia dx fa m cts cs
 p:oF H pc bv g ys
 ng:g≠fa
 ok:b.Ok ys
 sz:ry cts+ry pc.w.sets+b.size<=10000000
def uX(H:Hp)(C i d f:ζ)(m:Int)(y:xD ρ)(q:Pc×xD Ct)(Q:VK):Prop:=∀(v:V) (g:ζ) (c:xD V) (h:Hp),oF h q.1 v g y->g≠f->Cg h C i d f m q.2 c->aI f H h->Q v h
inductive oq(C:ζ)(n:Nat)(l:xD V)(H:Hp)(Q:VK)(c:XK):Prop
 |mk(j h i a g:ζ)(m:Int)(d:xD Ct)(f o:xD V)(k:Pc)(e:V)(p:xD ρ)(b:Bd)(_:l=[.ref j,.ref a,e])(_:Ao H C j h i m d f k e g p b)(_:H a=δ (.tup o))(_:eL H b o)(_:b.dep < n)(_:uX H C j h i m p (pB m b k d) Q)
inductive GP(C:ζ)(n:Nat)(j:xD V)(H:Hp)(Q:VK)(a:XK):Prop
 |mk(h e f g:ζ)(m:Int)(b:xD Ct)(d:xD V)(i:Pc)(v c:V)(k:xD ρ)(s:Bd)(_:j=[.ref h,v,c])(_:Ao H C h e f m b d i c g k s)(_:i8 H v s)(_:s.dep < n+1)(_:uX H C h e f m k (pB m s i b) Q)
def Bd.isCut:Bd->Bool
 | .lf _ l _=>l.isCut
 | .nil=>ν
 |_=>μ
inductive CJ(C:ζ)(n:Nat)(j:xD V)(H:Hp)(Q:VK)(a:XK):Prop
 |mk(h e f g:ζ)(m:Int)(b:xD Ct)(d:xD V)(i:Pc)(v c:V)(k:xD ρ)(s:Bd)(_:j=[.ref h,v,c])(_:Ao H C h e f m b d i c g k s)(_:i8 H v s)(_:s.dep < n+1)(_:s.isCut=μ)(_:uX H C h e f m k (pB m s i b) Q)
def iS(m:Int)(c:Pc)(p:Pc)(f:xD Ct):Bd->xD Wy×xD Ct
 | .ite _ _ _ a b _=>([(pB m a p (pB m b p f).2).1.w,(pB m b p f).1.w],(pB m a p (pB m b p f).2).2)
 | .loop _ _ _ a _=>([(pB m a c f).1.w,p.w],(pB m a c f).2)
 |_=>([p.w],f)
inductive GQ(C:ζ)(n:Nat)(o:xD V)(H:Hp)(Q:VK)(a:XK):Prop
 |mk(i e f g h:ζ)(m:Int)(b:xD Ct)(d:xD V)(j k:Pc)(v c l:V)(p:xD ρ)(s:Bd)(_:o=[.ref i,v,l,c])(_:Ao H C i e f m b d j c g p s)(_:oF H k l h p)(_:h≠f)(_:k.w.sets=[])(_:i8 H v s)(_:s.dep < n+1)(_:∀(wv:V) (cs':xD V) (H':Hp),aR H' (ay ((iS m k j b s).1.map i7)) wv []->Cg H' C i e f m (iS m k j b s).2 cs'->aI f H H'->Q wv H')
def YL(h:i8 H v s)(g:s.isCut=μ)(m:Int)(c:Pc)(F:xD Ct):
  pB m s c F=(#[s.use c.M,#[[],.go$ m - (F.length:Int) - (s.cuts:Int)]],(iS m #[s.use c.M,#[[],.go$ m - (F.length:Int) - (s.cuts:Int)]] c F s).2++[#[s.use c.M,s.deed,(iS m #[s.use c.M,#[[],.go$ m - (F.length:Int) - (s.cuts:Int)]] c F s).1]]):=by
 cases h with
 |lf p l V d e=>
  cases l with
  |rd x t T |wr t u T U |cl x f a k=>rfl
  |st x t T |gv t T=>cases g
 |ite p t T a b q Q A B d i e j n o |loop p t T a q A d i e j=>rfl
def y8(h:oF H p v g y):∃(r:ζ) (W:V),v= .ref r/\H r=δ (.tup [.ref g,W])/\aR H (i7 p.w) W []:=by let#[r,s,W,e,a,c,b]:=h;rwa[#[r,W,e,a,b]]
def Lq:aj ["self","statement","place","behind","other"] z23z (ae Cq):=bQ
def IV(F:aS K "ways_of" "Cutting.ways_of" Cq f fd)(X:CK K C)(GB:⇑(4*n+31) fB f0 z13z (oq C n))(bB:aE K f0 z13z [])(hB:bj K C "place_of_body" fB):⇑(4*n+32) f fd z23z (GQ C n):=by
 erw[F.ok Lq λc3 A o1 s H vs Q E hr h=>?_]
 let#[i,D,R,g,g2,m,d,S,y,pl,v,bv,G,Y,st,Z,I,h6,n0,h7,hs,hd,q]:=h;erw[#[_,(jd (jy (j8$ jw$ pv 1) (jd (jA 4 Lq.nd$ kh (pv 0) X.cl hB GB hr.m bB .nil bY$ ja (jw$ pv 1)$ ja (pv 3) jb)$ jg$ jo$ ji$ ja (jq jC (kh (pv 0) X.cl hB GB hr.m bB .nil bY$ ja (jw$ pv 1)$ ja (pv 3) jb) jf)$ ja (jw$ pv 4) jb) jp)$ jd (jy (j8$ jw$ pv 1) (jg$ jo$ ji$ ja (jq jC (kh (pv 0) X.cl hB GB hr.m bB .nil bY$ ja (jw$ pv 1)$ ja (pv 2) jb) jf)$ ja (jw$ pv 3) jb) jp)$ jg$ jo$ ji$ ja (jw$ pv 3) jb),?_]];let b0:=aL;let#[br,bw,Z,J,L]:=y8 I.p;cases hs with
 |lf p l vs e M=>
  let f2:iG (cQ$ ap (fg (dh K) (bn 3)$ tC$ tT 1) aZ) { nx:=λx H'=>Q V.non H',rt:=Q } [↑i,↑p,δ G,↑br,θ] H:=by erw[(jr J Z #[iZ,λr N=>q (.ref r) S _ (jE jc$ jl Z (L.mono$ aa.tm$ je N) jB) (I.c.same$ je N) (aI.of_same$ je N)])]
  cases l with
  |rd x t T |st x t T |wr t u T U |cl x f q2 ts |gv t T=>let#[Z,_]:=M;erw[(jr e Z #[Z,_,Z,aY N7 ?_])];erw[(jr e Z #[Z,_,Z,aY N7 ?_])];rwa[f2]
 |ite p t T a b qa qb as bs e h0 M h3 h4 h5=>erw[(jr e Z #[Z,_,Z,c8 N7 ?_])];let h8:max (max a.dep b.dep+1) 0 < n+1:=hd;let hz:ry d+ry y.w.sets+(a.size+b.size+0+1)<=10000000:=I.sz;let W:=I.ok;erw[ai λF1 f1=>#[_,Z,i,D,_,Z,I.c.ins,Z,jr e Z #[_,Z,i,D,R,qb,g,m,d,S,bs,y,.ref br,Y,b,Z,#[I.c,I.p,I.ng,W.2.2.1,N9],h3,h5,N9,λv1 g1 j H1 p1 n1 O z=>f1 _ _ ?_]]];let B:=I.c.tm z;let lc:=kn m b y d;let cb:=kP b;erw[#[_,Z,i,D,_,Z,O.ins,Z,jr (B _ _ e) Z #[_,Z,i,D,R,qa,g,m,_,j,as,y,.ref br,Y,a,Z,#[O,I.p.but z I.c.fd I.ng,I.ng,W.2.1,N9],B _ _ M,h4.mono B,N9,λv2 g2 c0 H2 p2 n2 c2 k2=>?_]]];let#[r2,w2,Z,h',a0]:=y8 p2;let#[r1,w1,Z,k,o]:=y8 (p1.but k2 O.fd n1);erw[#[r2,_,_,_,Z,Z,aC.of h',Z,jr k Z #[cj,λr N=>q (.ref r) c0 _ (jE jc$ jl Z (a0.mono$ aa.tm$ je N)$ jl Z (o.mono$ aa.tm$ je N) jB) (c2.same$ je N) ((z.trans k2).trans$ aI.of_same$ je N)]]]
 |loop p t T a qa as e h0 M h3=>erw[(jr e Z #[Z,_,Z,aY N7 ?_])];erw[(jr e Z #[Z,_,Z,c8 N7 ?_])];let h8:max (a.dep+1) 0 < n+1:=hd;let hz:ry d+ry y.w.sets+(a.size+0+1)<=10000000:=I.sz;let W:=I.ok;erw[#[_,Z,i,D,_,Z,I.c.ins,Z,jr e Z #[_,Z,i,D,R,qa,g2,m,d,S,as,pl,G,Y,a,Z,#[I.c,h6,n0,W.2.1,by rw[h7];show ry d+0+a.size<=_;omega],M,h3,N9,λv1 g1 j H1 p1 n1 O z=>?_]]];let#[r1,w1,Z,k,o]:=y8 p1;let B:=I.c.tm z;erw[#[r1,_,_,_,Z,Z,aC.of k,Z,jr (B _ _ J) Z #[cj,λr N=>q (.ref r) j _ (jE jc$ jl Z (o.mono$ aa.tm$ je N)$ jl Z ((L.mono B).mono$ aa.tm$ je N) jB) (O.same$ je N) (z.trans$ aI.of_same$ je N)]]]
def yf:aj ["self","statement","behind","n","names","place","ways"] z7z (ae Cd):=bQ
def IR(F:aS K "place_of_cut" "Cutting.place_of_cut" Cd f fd)(y:CK K C)(h7:n<=7)(GW:⇑(4*n+32) fW f0 z23z (GQ C n))(bW:aE K f0 z23z [])(hW:bj K C "ways_of" fW)(cM:‹2› fM f2 ["body"] iO "many_cuts")(cU:‹31› fU f3 z3z (iB 7) "used_ahead_of")(cD:‹1› fD f4 z4z lN "deed_of")(ml:mg "len"=θ)(m0:mg "tuple"=θ):⇑(4*n+33) f fd z7z (CJ C n):=by
 erw[F.ok yf λc0 A o1 s H vs Q E Y h=>?_]
 symm;let#[z,L,l,g,m,a,cs,j,v,bv,ys,st,Z,I,B,hd,hc,q]:=h;erw[#[_,(jd (jA 3 yf.nd$ jv zi (jv zi (kY (pv 0) Z)$ jO jK Z ml Pz$ ja (kY (pv 0) Z) jb)$ cM.e Y.m$ ja (ji$ ja (pv 1) jb) jb)$ jd (jA 4 yf.nd$ cU.e Y.m$ ja (pv 1)$ ja (jw$ pv 2) jb)$ jd (jA 5 yf.nd$ ji$ ja (pv 4)$ ja (ji$ ja (ji jb)$ ja (ji$ ja jm$ ja (pv 3) jb) jb) jb)$ jd (jA 6 yf.nd$ kh (pv 0) y.cl hW GW Y.m bW .nil bY$ ja (pv 1)$ ja (pv 5)$ ja (pv 2) jb)$ jd (jL$ jZ OV O8 O7 jQ (kY (pv 0) Z)$ ja (ji$ ja (jJ jN Z m0 RI$ ja (pv 4) jb)$ ja (cD.e Y.m$ ja (pv 1) jb)$ ja (pv 6) jb) jb)$ jg$ jo$ pv 5),?_]];let b0:=aL;symm;let#[br,ss,bw,Z,h0,hN,h1]:=id I.p;let hz:=I.sz;let lc:=I.c.len;sleep 5;erw[ai λF1 i=>#[_,Z,z,C,L,_,_,Z,I.c.ins,y.cl,y.nm,Z,_,Z,z,C,L,_,_,Z,I.c.ins,y.cl,y.nf,Z,l,_,Z,.inl$ aK.of I.c.fd,_,_,Z,Z,_,Z,iZ,λu nu=>?_]];let s1:aa H (af H u$ .tup [v]):=je nu;erw[#[u,st,_,Z,jc,(B.mono$ aa.tm s1).bd,N9,λH1 k1=>#[_,_,Z,Z,i _ _ ?_]]];let S:=s1.trans k1;rw[lc];erw[ai λF1 i=>#[_,Z,jr (S _ _ h0) Z #[v,g,st,ss,j.M,ys,Z,B.mono$ aa.tm S,hN.same S,I.ok,N9,N9,λG zs H2 n2 N2 k2=>i _ _ ?_]]];left;let s3:=S.trans k2;let N:G≠l:=λe=>by rw[e,S _ _ I.c.fd]at n2;cases n2
 erw[ai λF1 i=>#[_,Z,g9,λe ne=>#[_,Z,cj,λU O=>#[cj,λx nx=>#[cj,λr nr=>i _ _ ?_]]]]];left;let s4:aa H2 (af (af (af (af H2 e$ .tup []) U$ .tup [.str "go",.int$ m - (a.length:Int) - (st.cuts:Int)]) x$ .tup [.ref e,.ref U]) r$ .tup [.ref G,.ref x]):=(((je ne).trans$ je O).trans$ je nx).trans (je nr);let P4:oF (af (af (af (af H2 e$ .tup []) U$ .tup [.str "go",.int$ m - (a.length:Int) - (st.cuts:Int)]) x$ .tup [.ref e,.ref U]) r$ .tup [.ref G,.ref x]) #[st.use j.M,#[[],.go$ m - (a.length:Int) - (st.cuts:Int)]] (.ref r) G ys:=
  #[r,zs,.ref x,Z,jc,N2.same s4,jE (aq jc nr)$ jl Z (jE (aq (aq (aq jc O) nx) nr) jB)$ jl Z (jE (aq (aq jc nx) nr)$ jl Z jS$ jl Z jV jB) jB]
 generalize af (af (af (af H2 e$ .tup []) U$ .tup [.str "go",.int$ m - (a.length:Int) - (st.cuts:Int)]) x$ .tup [.ref e,.ref U]) r (.tup [.ref G,.ref x])=H4 at s4 P4;let R:=s3.trans s4;let c5:=I.c.same R;erw[ai λF1 i=>#[_,Z,z,L,_,Z,c5.ins,Z,_,Z,_,Z,_,Z,z,L,l,g,G,m,a,cs,j,_,v,.ref br,.ref r,ys,st,Z,#[c5,I.p.same R,I.ng,I.ok,I.sz],P4,N,Z,B.mono$ aa.tm R,hd,λwv D H6 w6 c6 k6=>i _ _ ?_]];left;let t0:=c5.tm k6;let p6:=P4.but k6 c5.fd N;let z6:H6 G=δ (.lst$ zs.map tz):=k6 _ _ N (s4 _ _ N2.at');let ez:=N2.nm.canon;let l6:=c6.len;let lw:(iS m #[st.use j.M,#[[],.go$ m - (a.length:Int) - (st.cuts:Int)]] j a st).2.length+1=ry a+st.cuts:=by let:=kn m st j a;rw[YL B hc m j a,OL]at this;rwa[this]
 let cl:=kP st;erw[ai λF1 i=>#[_,Z,z,C,L,_,_,Z,c6.ins,y.cl,y.nf,Z,.inl #[Z,_,aK.of c6.fd],_,Z,G,_,Z,.inl #[aK.of z6,λnt n0=>?_]]];let s7:aa H6 (af H6 nt$ .tup$ zs.map tz):=je n0;erw[#[_,Z,v,st,Z,((B.mono$ aa.tm R).mono t0).mono$ aa.tm s7,λd H8 d8 k8=>#[_,Z,iF,λW J=>?_]]];let X:=(s7.trans k8).trans (je (o:=.tup [.ref nt,d,wv]) J);let t:=c6.same X;erw[#[l,D,_,Z,Z,t.fd,N9,i _ _ ?_]];left;let T9:aR (af H8 W$ .tup [.ref nt,d,wv]) (Ii #[st.use j.M,st.deed,(iS m #[st.use j.M,#[[],.go$ m - (a.length:Int) - (st.cuts:Int)]] j a st).1]) (.ref W) []:=by erw[jE jc$ jl Z (jE (aq (k8 _ _ jc) J) ?_)$ jl (Il _) (d8.mono$ aa.tm$ je J)$ jl Z (w6.mono$ aa.tm X) jB];rw[<- ez];rwa[X6 zs]
 let p9:=p6.same X;generalize af H8 W (.tup [.ref nt,d,wv])=H9 at X t T9 p9;let k:aI l H9 (af H9 l$ .lst$ D++[.ref W]):=λb o nb e=>by rw[jh nb];rwa[e]
 let T:=t.tm k;let n1:z≠l:=λe=>by let:=t.ins;rw[e,t.fd]at this;cases this
 erw[#[_,Z,q (.ref r) G (D++[.ref W]) _ ?_ N ?_ (λb o nb e=>k b o nb (X _ _$ k6 b o nb$ R _ _ e))]]
 .rw[YL B hc m j a];rwa[p9.but k t.fd N]
 .rw[YL B hc m j a];erw[#[k _ _ n1 t.ins,jc,?_]];rw[O4];rwa[Ka (jl Z (T9.mono T) jB)$ t.tr.mono T]
inductive BI(C u j s a:ζ)(m:Int)(c:xD Ct)(x:Pc)(f:V)(z:xD ρ)(b:Bd)(y:xD V)(H:Hp)(i:Nat)(A:_L.St)(e:Hp):Prop
 |mk(d t:Bd)(v:V)(g:ζ)(h:xD V)(w:xL V)(k:A=[↑u,↑a,δ f,δ v,w])(l:b=d.app t)(n:eL H d (y.take (ry y - i)))(o:oF e (pB m t x c).1 v g z)(p:g≠s)(q:Cg e C u j s m (pB m t x c).2 h)(r:aI s H e)
theorem Kb(m:Int):∀(b:Bd) (c:Pc) (F:xD Ct),(pB m b c F).2.length+(pB m b c F).1.w.sets.length<=ry F+ry c.w.sets+b.size
 | .nil,_,_=>OM _
 | .lf p l r,c,F=>by
  let e:=Kb m r c F;show(pL m p l$ pB m r c F).2.length+(pL m p l$ pB m r c F).1.w.sets.length<=ry F+ry c.w.sets+(r.size+1);cases l with
  |st x t T=>have:=X7 x t (pB m r c F).1;show(pB m r c F).2.length+(lK x t (pB m r c F).1).sets.length<=_;omega
  |gv t T=>show(pB m r c F).2.length+0<=_;omega
  |rd x t T |wr t u T U |cl x f a d=>show((pB m r c F).2++[_]).length+0<=_;rw[OL];show _+1+0<=_;omega
 | .ite p t T x y r,c,F=>by let e:=Kb m r c F;let h:=kP x;let H:=kP y;show((pB m x _ (pB m y _ _).2).2++[_]).length+0<=ry F+ry c.w.sets+(x.size+y.size+r.size+1);rw[OL,kn m x,kn m y];show _+1+0<=_;omega
 | .loop p t T x r,c,F=>by let e:=Kb m r c F;let h:=kP x;show((pB m x _ _).2++[_]).length+0<=ry F+ry c.w.sets+(x.size+r.size+1);rw[OL,kn m x];show _+1+0<=_;omega
def MY:aj z7z z7z (ae Ck):=bQ
def IU(F:aS K "place_of" "Cutting.place_of" Ck f fd)(ck:CK K C)(GC:⇑(4*n+33) fC D z7z (CJ C n))(bC:aE K D z7z [])(hC:bj K C "place_of_cut" fC)(cG:‹8› fG f0 z1z iA "place_of_give")(cS:‹11› fS f1 z3z lU "place_of_set"):⇑(4*n+34) f fd z7z (GP C n):=by
 erw[F.ok MY λc0 A O s H vs Q E G h=>?_]
 let#[r,J,fa,g,m,j,z,L,v,B,y,st,Z,I,M,hd,q]:=h;erw[#[_,(jd (jy (j8$ jw$ pv 1) (jg$ jo$ cG.e G.m$ ja (jw$ pv 1) jb) jp)$ jd (jy (j8$ jw$ pv 1) (jg$ jo$ cS.e G.m$ ja (pv 1)$ ja (pv 2) jb) jp)$ jg$ jo$ kh (pv 0) ck.cl hC GC G.m bC .nil bY$ ja (pv 1)$ ja (pv 2) jb),?_]];let hz:=I.sz;let R:=M;let i:st.isCut=μ->iG (yM C "place_of_cut" (CJ C n) [] E0 (bn 0)$ ap (bn 1)$ ap (bn 2) aZ) { nx:=λx k=>Q V.non k,rt:=Q } [↑r,δ v,δ B] H:=λhc=>
  #[_,Z,r,J,_,Z,I.c.ins,Z,_,Z,_,Z,r,J,fa,g,m,j,z,L,v,B,y,st,Z,I,M,hd,hc,q]
 cases M with
 |lf p l vs d o=>
  cases l with
  |rd x t T |wr t u T U |cl x f q2 ts=>let#[Z,_]:=o;erw[(jr d Z #[Z,_,Z,aY N7 ?_])];erw[(jr d Z #[Z,_,Z,aY N7 ?_])];rwa[i Z]
  |gv t T=>
   let#[Z,hT]:=o;erw[(jr d Z #[Z,_,Z,c8 N7 ?_])];let Y:ry y<=21:=by let#[_,_,_,_,_,hN,_]:=I.p;rwa[hN.y20]
   rwa[(jr d Z #[t,T,y,Z,hT,I.ok.1,Y,λW X k p' N S=>q W X z k p' (λe=>by rw[e,I.c.fd]at N;cases N) (I.c.same S) (aI.of_same S)])]
  |st x t T=>let#[Z,hT]:=o;erw[(jr d Z #[Z,_,Z,aY N7 ?_])];erw[(jr d Z #[Z,_,Z,c8 N7 ?_])];rwa[#[_,Z,_,Z,.ref p,B,p,t,x,T,L,g,y,Z,R,I.p,I.ok.1.1,I.ok.1.2,N9,λW X k p' N S=>q W X z k p' (λe=>by rw[e,I.c.fd]at N;cases N) (I.c.same S) (aI.of_same S)]]
 |ite p t T a b qa qb as bs d h0 o h3 h4 h5 |loop p t T a qa as d h0 o h3=>erw[(jr d Z #[Z,_,Z,aY N7 ?_])];erw[(jr d Z #[Z,_,Z,aY N7 ?_])];rwa[i Z]
def Cw:aj ["self","body","behind","place","statement"] z13z (ae Cc):=bQ
def IQ(F:aS K "place_of_body" "Cutting.place_of_body" Cc f fd)(ck:CK K C)(GO:⇑(4*n+34) fO T z7z (GP C n))(bO:aE K T z7z [])(hO:bj K C "place_of" fO)(R:mg "reversed"=θ):⇑(4*n+35) f fd z13z (oq C$ n+1):=by
 erw[F.ok Cw λc1 A U s H vs Q E hr h=>?_]
 let#[r,J,V,a,g,m,d,cs,xs,l,L,Y,b,Z,I,ha,hb,hd,q]:=h;erw[#[_,(jd (jA 3 Cw.nd$ pv 2)$ jd (kf Po Z (@xA _ _ _ _ _ _ _ Z R VB (pv 1) Oa Oa N6 N6) (jx (i:=4) Cw.nd Z$ ω Z)$ jg$ jA 3 Cw.nd$ kh (pv 0) ck.cl hO GO hr.m bO .nil bY$ ja (pv 4)$ ja (pv 3) jb)$ jg$ jo$ pv 3),?_]];let b0:=aL;let hz:=I.sz;let xl:=hb.len;erw[ai λF1 u=>#[_,Z,u _ _ ?_]];erw[ai λF1 u=>?_];erw[eX λF kF=>#[_,Z,a,xs,Z,aC.of ha,kF _ _ ?_]];erw[X1 (K:=K) (xs:=xs) (BI C r J V a m d l L Y b xs H) #[b,.nil,L,g,cs,_,Z,(app_nil b).symm,by rw[Ti,Py];rwa[hb],I.p,I.ng,I.c,aI.refl] (λi σ H' hi h=>?_) ?_ (λσ H' h=>u _ _ ?_)]
 .let#[_,_,_,_,_,_,_,_,_,_,_,_,k]:=h;rwa[aC.of$ I.c.tm k _ _ ha]
 .clear u;intro E _ i x σ H2 M fE Gq t h;let#[pre,gZ,v,W,o,o4,Z,j,y,X,h4,N,O]:=h;let hi:i < ry xs:=by
   rcases TY i xs.length with z |z
   .rwa[z]
   .rw[PJ (by simpa using z)]at M;cases M
  rw[SR hi]at M;let et:xs.take (ry xs - i)=xs.take (ry xs - (i+1))++[x]:=by
   let D:ry xs - i=(ry xs - 1 - i)+1:=by omega
   let e2:ry xs - (i+1)=ry xs - 1 - i:=by omega
   rw[D,e2,Rb,M];rfl
  rw[et]at y;rcases y.last with ⟨e,_⟩ | ⟨ws,v',B,S,D,e2,h6,h7⟩
  .rwa[absurd e N8]
  let#[ew,ev]:=V3 D Z;cases ev;subst e2;let h0:=zW (j▸I.ok);let G:=zW h0.1;let a1:b.dep=max (B.app S).dep gZ.dep:=by rw[j,zz]
  let a2:(B.app S).dep=max B.dep S.dep:=zz ..;let h8:S.dep<=b.dep:=by rw[a1,a2];rwa[O1 (SW ..)$ Te ..]
  let h':b.size=B.size+S.size+gZ.size:=by rw[j,j6,j6]
  let hl:=kn m gZ l d;let a0:=kP gZ;let a3:=Z2 m gZ l d;let a4:(pB m gZ l d).1.w.sets.length+(pB m gZ l d).2.length+S.size<=10000000:=by let:=Kb m gZ l d;omega
  erw[t ?_];let tm:=I.c.tm O;show eK _ _ E [↑r,↑a,δ L,δ v,δ x] H2;erw[#[_,Z,r,J,_,Z,N.ins,Z,_,Z,_,Z,r,J,V,W,m,_,o,_,x,v,Y,S,Z,#[N,X,h4,G.2,N9],h7.mono tm,N9,λv3 g3 c0 H3 p3 n3 c3 k3=>fE _ _ #[B,S.app gZ,v3,g3,c0,_,Z,by rw[j,app_assoc],?_,by rw[KB];rwa[p3],n3,by rw[KB];rwa[c3],O.trans k3]]];rw[ew];rwa[h6]
 .let#[pre,gZ,v,W,o,o4,Z,j,y,X,h4,N,O]:=h;rw[TX]at y;let ep:pre= .nil:=by
   rcases y.last with ⟨_,e⟩ | ⟨ws,v,B,S,D,_⟩
   .rwa[e]
   .rwa[absurd D N8]
  rw[ep]at j;erw[#[_,Z,q v W o H' ?_ h4 ?_ O]]
  .rw[j];rwa[X]
  .rw[j];rwa[N]
def IM:⇑k f i z13z (oq C 0):=by
 let n:∀v H Q E,¬oq C 0 v H Q E:=λv H Q E h=>by let#[I,D,F,a,g,m,d,j,x,p,B,y,b,_,_,_,_,e,_]:=h;rwa[absurd e$ Td _]
 rwa[#[λv H Q E h=>absurd h (n v H Q E),λA o s H c u v Q E _ _ _ _ h=>absurd h (n v H Q E)]]
theorem Ny(c:CK K C)(FB:aS K "place_of_body" "Cutting.place_of_body" Cc g f)(F:aS K "place_of" "Cutting.place_of" Ck A a)(i:aS K "place_of_cut" "Cutting.place_of_cut" Cd D b)(j:aS K "ways_of" "Cutting.ways_of" Cq E d)
  (B:aE K f z13z []) (H:bj K C "place_of_body" g) (k:aE K a z7z []) (l:bj K C "place_of" A) (o:aE K b z7z []) (p:bj K C "place_of_cut" D) (q:aE K d z23z []) (r:bj K C "ways_of" E)
  (s:‹2› T G ["body"] iO "many_cuts") (t:‹31› U I z3z (iB 7) "used_ahead_of") (u:‹1› Y J z4z lN "deed_of") (v:‹8› fG L z1z iA "place_of_give") (x:‹11› fS N z3z lU "place_of_set") (y:mg "len"=θ) (m:mg "tuple"=θ) (M:mg "reversed"=θ):
  ∀n:Nat,n<=8->⇑(4*n+31) g f z13z (oq C n)
 |0,_=>IM
 |n+1,h=>by
  let O:=Ny c FB F i j B H k l o p q r s t u v x y m M n N9;let Q:=IV j c O B H;let R:=IR i c N9 Q q r s t u y m;let S:=IU F c R o p v x;let z:=IQ FB c S k l M;let e:4*n+35=4*(n+1)+31:=by omega
  rw[e]at z;rwa[z]
def Z3{X:Cx}{K:β}{n:Nat}(a:X.K=K)(b:X.calm=μ)(h:Ho X e t)
  (c:(assignEach e X.env).length=n) (H:(assignEach e X.env).findIdx? (·.1)=θ):PG X (.Tuple e k p) (sY K n t):=by
 subst a;rwa[zV b h c H]
abbrev g3(K:β)(i j k:Nat):TG:=sY K 3 (dZ (bH i)$ dZ (bH j)$ dZ (bH k) vW)
def MP{t:_L.St}(h:ry t=3):∃a b c,t=[a,b,c]:=by
 cases t with
 |nil=>cases h
 |cons a r=>
  cases r with
  |nil=>cases h
  |cons b R=>
   cases R with
   |nil=>cases h
   |cons c d=>
    cases d with
    |nil=>rwa[#[a,b,c,Z]]
    |cons _ _=>cases h
abbrev xX:cc:=bV 57
abbrev rB:cc:=bV 58
structure Df where
 f:ρ
 p:ζ
 pa:ζ
 pb:ζ
 b:Bd
def C5(H:Hp)(d:Df)(v:V):Prop:=∃B,v= .ref d.p/\H d.p=δ (.tup [.str d.f,.ref d.pa,.ref d.pb])/\H d.pb=δ (.tup B)/\eL H d.b B
inductive duc(W:V->Prop)(R:xD V->Prop)(a:xD V):Prop|mk(v r:_)(_:a=v::r)(_:W v)(_:R r)
def du(H:Hp):xD Df->xD V->Prop
 | [],a=>a=[]
 |d::D,a=>duc (C5 H d) (du H D) a
def C5.mono(k:am H a)(h:C5 H d v):C5 a d v:=by let#[b,e,c,f,g]:=h;rwa[#[b,e,k _ _ c,k _ _ f,g.mono k]]
def du.mono(k:am H b):∀{a:xD V},du H D a->du b D a:=by
 induction D with
 |nil=>rwa[λh=>h]
 |cons d D i=>rintro a ⟨v,r,e,c,f⟩;rwa[#[v,r,e,c.mono k,i f]]
theorem du.snoc{d:Df}(a:C5 H d v):∀{D:xD Df} {b:xD V},du H D b->du H (D++[d]) (b++[v])
 | [],_,h=>by let e:_=[]:=h;rw[e];rwa[#[v,[],Z,a,Z]]
 |_::_,_,z=>by let#[u,r,e,c,f]:=z;rwa[#[u,r++[v],by rw[e];rfl,c,du.snoc a f]]
theorem du.len:∀{d:xD Df} {v:xD V},du H d v->ry v=ry d
 | [],_,h=>by let e:_=[]:=h;rw[e];rfl
 |_::_,_,z=>by let#[u,r,e,b,a]:=z;rw[e,Ph,Ph,du.len a]
theorem du.at:∀{D:xD Df} {b:xD V},du H D b->∀(i:Nat) (v:V),b[i]?=δ v->∃d,D[i]?=δ d/\C5 H d v
 | [],_,h,i,v,a=>by let e:_=[]:=h;rw[e]at a;simp at a
 |d::_,_,q,0,v,a=>by let#[u,r,e,c,f]:=q;rw[e]at a;cases a;rwa[#[d,Z,c]]
 |_::D,_,q,i+1,v,a=>by let#[u,r,e,c,f]:=q;rw[e]at a;simpa using du.at f i v (by simpa using a)
def oI(d:Df):Prop:=(∃y:xD ρ,y.length<=20/\d.b.Ok y)/\d.b.dep < 8/\d.b.size<=3000
def MT(n:ζ):Pc:=#[λx=>x∈(Tm.num 0).vars,#[[],.give n]]
def iV(n:ζ)(d:Df):Pc×xD Ct:=pB (d.b.cuts:Int) d.b (MT n) []
def gK(n:ζ)(d:Df):Tr:=ay [aM d.f,ur d.pa,i7 (iV n d).1.w,ay ((iV n d).2.reverse.map Ii)]
def oM(K:β)(n:ζ):Prop:=∀H:Hp,aC K H n [.str "num",.int 0]
inductive rR(C:ζ)(f:xD V)(H:Hp)(Q:VK)(c:XK):Prop
 |mk(e d a:ζ)(b:Bd)(g:xD V)(_:f=[.ref e,.ref a])(_:H e=δ (.ins C d []))(_:H a=δ (.tup g))(_:eL H b g)(_:b.size<=10000000)(_:∀(fa:ζ) (H':Hp),H fa=θ->Cg H' C e d fa (b.cuts:Int) [] []->aI e H H'->Q .non H')
inductive nC(K:β)(c:ζ)(e:xD V)(H:Hp)(Q:VK)(a:XK):Prop
 |mk(d:Df)(b:xD V)(_:e=[.str d.f,.ref d.pa,.ref d.pb])(_:H d.pb=δ (.tup b))(_:eL H d.b b)(_:oI d)(_:∀(v:V) (H':Hp),aR H' (gK c d) v []->aa H H'->Q v H')
inductive nB(K:β)(e:ζ)(f:xD V)(H:Hp)(Q:VK)(b:XK):Prop
 |mk(a:ζ)(c:xD Df)(g:xD V)(_:f=[.ref a])(_:H a=δ (.tup g))(_:du H c g)(_:ry c<=1000)(_:∀d∈c,oI d)(_:∀(v:V) (H':Hp),aR H' (ay (c.map (gK e))) v []->aa H H'->Q v H')
def sN{K:β}{t:TE}{Q:xD V->Hp->Prop}{H:Hp}(x:H a=δ (.tup g))(u:du H D g)(R:ry D<=1000)
  (Pv:Nat->xD V->Hp->Prop) (z:Pv 0 [] H) (A:∀i Y h,Pv i Y h->aa H h/\ry Y<=i)
  (C:∀i d B Y h,D[i]?=δ d->h d.pb=δ (.tup B)->eL h d.b B->Pv i Y h->t (δ (.str d.f)::δ (.ref d.pa)::δ (.ref d.pb)::l) h λy j=>Pv (i+1) (Y++[y]) j)
  (E:∀Y h,Pv D.length Y h->Q Y h):fe (Ap K a) 3 l (g3 K 0 1 2) nD t Q H:=by
 let F:=aL;let S:=u.len;erw[#[λi m Y h=>m=ry D - i/\i<=ry D/\Pv i Y h,#[D.length,N8,OS _,z],?_]];intro i m Y h c;let#[Z,T,p]:=c;let#[s,U]:=A i Y h p;let c:aC K h a g:=aC.of (s _ _ x);by_cases n:i < ry D
 .let I:i < ry g:=by omega
  erw[.inr #[#[g,g[i],c,OG I],N9,Pv$ i+1,λJ j L=>#[ry D - (i+1),N9,Z,n,L],λv j W o y=>?_]];let#[e,y]:=y;subst e;let q:=y g c;let#[d,r,B,Z,M,N,O]:=(u.mono$ aa.tm s).at i v q;let#[X,t2,t3,Z]:=MP o;erw[#[d.p,_,Z,aC.of M,Z,_,_,Z,_,_,Z,_,_,Z,Z,#[[δ _,δ _,δ _],Z,Z],?_]];rwa[C i d B Y j r N O p]
 .let e:i=ry D:=by omega
  subst e;rwa[.inl #[#[g,c,N9],E Y h p]]
def Lm:aj ["self","body"] ["self","body"] (ae xT):=bQ
def Fm(F:aS K "__init__" "Cutting.__init__" xT f t)(d:CK K C)(u:‹2› M v ["body"] iO "many_cuts"):⇑3 f t ["self","body"] (rR C):=by
 erw[F.ok Lm λy A O s H V Q E B h=>?_]
 let#[i,D,a,b,x,Z,G,I,J,L,q]:=h;erw[#[_,(jd (@qw _ _ _ _ _ _ _ _ (pv 0) (u.e B.m$ ja (pv 1) jb) Z)$ jg$ @qw _ _ _ _ _ _ _ _ (pv 0) (jF jb) Z),?_]];erw[ai λS l=>#[_,Z,a,b,x,Z,I,J,L,λT k=>#[_,Z,i,C,D,_,Z,k _ _ G,d.cl,d.nm,Oa,l _ _ ?_]]];erw[#[g9,λg n=>#[_,Z,i,C,D,_,Z,aq jc n,d.cl,d.nf,(by show 1 < 1000;decide),?_]]];let N:g≠i:=λe=>by rw[e,jc]at n;cases n
 let p:H g=θ:=by
  cases e:H g with
  |none=>rfl
  |some o=>rw[jh N,k _ _ e]at n;cases n
 erw[q g _ p #[jc,by rw[jh N,jc],Z] λc o r e=>?_];rw[jh r,jh (λz=>by rw[z,p]at e;cases e),jh r];rwa[k _ _ e]
def pC:aj ["name","params","body","cutting","first"] z20z (ae xX):=bQ
def Bv(F:xb K "part_made" xX f fd)(t:CK K C)(mk:Mk K C fI)(GI:⇑3 fI u ["self","body"] (rR C))(bI:aE K u ["self","body"] [])(mC:mg "Cutting"=↑C)(M:mg "NOUGHT"=↑n)(no:oM K n)(GB:⇑63 fB x z13z (oq C 8))(bB:aE K x z13z [])(hB:bj K C "place_of_body" fB)(cG:‹8› fG f0 z1z (rX K) "place_of_give")(y:mg "tuple"=θ)(z:mg "reversed"=θ):⇑64 f fd z20z (nC K n):=by
 erw[F.ok pC λc0 A O s H vs Q E B h=>?_]
 let#[d,G,Z,hb,a,I,q]:=h;erw[#[_,(jd (jA 3 pC.nd$ Xo mk GI B.m Z mC bI .nil bY$ ja (pv 2) jb)$ jd (jA 4 pC.nd$ kh (pv 3) t.cl hB GB B.m bB .nil bY$ ja (pv 2)$ ja (cG.e B.m$ ja (Jd (v:=.ref n) Z M Z) jb) jb)$ jg$ jo$ ji$ ja (pv 0)$ ja (pv 1)$ ja (jw$ pv 4)$ ja (@uk _ _ _ _ _ _ _ _ _ Z Z y RI Z z VB (kY (pv 3) Z) Oa Oa Oa Oa N6 N6 N6 N6) jb),?_]];let b0:=aL;obtain⟨⟨ys,y0,ok⟩,J,hz⟩:=I;erw[ai λF1 j=>#[_,Z,λi D N L n0=>?_]];let S:aa H (af (af H D$ .own i) i$ .ins C D []):=λc o e=>by rw[jh$ jk e N,jh$ jk e L];rwa[e]
 erw[#[i,D,d.pb,d.b,G,Z,jc,S _ _ hb,a.mono$ aa.tm S,N9,λp H1 nf R k1=>#[Z,j _ _ ?_]]];let s1:aa H H1:=λc o e=>k1 c o (jk e N) (S _ _ e);let T:H p=θ:=S.free nf;erw[ai λF1 j=>#[_,Z,i,D,_,Z,R.ins,Z,_,Z,n,ys,Z,no _,N9,λv g H2 p2 n2 k2=>?_]];let ng:g≠p:=λe=>by rw[e,R.fd]at n2;cases n2
 let U:=s1.trans k2;erw[#[i,D,p,d.pb,g,_,[],[],G,MT n,v,ys,d.b,Z,#[R.same k2,p2,ng,ok,by show 0+0+d.b.size<=_;omega],U _ _ hb,a.mono$ aa.tm U,J,λv3 g3 k V p3 n3 W k3=>j _ _ ?_]];let#[r3,w3,Z,X,Y]:=y8 p3;let s3:aa H V:=λc o e=>k3 c o (jk e T) (U _ _ e);erw[#[_,Z,_,Z,jr X Z #[_,Z,i,C,D,_,_,Z,W.ins,t.cl,t.nf,Z,p,k,Z,aK.of W.fd,λl nl=>#[sg,λr nr=>?_]]]];let s5:aa V (af (af V l$ .tup k.reverse) r$ .tup [.str d.f,.ref d.pa,w3,.ref l]):=(je nl).trans (je nr);erw[q (.ref r) _ ?_$ s3.trans s5];erw[jE jc$ jl Z jS$ jl Z JC$ jl Z (Y.mono$ aa.tm s5)$ jl Z (jE (aq jc nr) ?_) jB];let e:=Z1 (W.tr.mono$ aa.tm s5);rw[<- List.map_reverse]at e;rwa[e]
def Gz:aj ["program"] ["program"] (ae rB):=bQ
def yv:hJ:=#[.function,[(".0",.local),("name",.local),("params",.local),("body",.local),("part_made",.globalImplicit)],ν,ν,[]]
def wJ:(z20z:xD ρ).Nodup:=by decide+kernel
def Ig:bo ["program"] (ae rB) yv z20z 3 []:=oU
def Bs(F:xb K "made" rB f p)(C:‹64› U t z20z (nC K N) "part_made")(M:mg "tuple"=θ):⇑65 f p ["program"] (nB K N):=by
 erw[F.ok Gz λu A o s H V Q E x h=>?_]
 let#[a,D,X,Z,g,y,B,O,q]:=h;erw[#[_,(jg$ jo$ jJ jN Z M RI$ ja (@zn _ _ _ _ _ _ _ (z20z) (3) ([]) _ _ _ _ Z (z9$ pv 0) Ig (λ_ _ _ _ _=>(Z3 (K:=K) (n:=3) Z Z (jD (jx (i:=0) wJ Z$ ω Z)$ jD (jx (i:=1) wJ Z$ ω Z)$ jD (jx (i:=2) wJ Z$ ω Z) kB) Z Z)) (λ_ _ _ _ _=>(@zH _)) (λ_ _ _ _ _=>(C.e x.m$ ja (pv 0)$ ja (pv 1)$ ja (pv 2) jb)) (by intro _;rfl)) jb),?_]];erw[#[_,Z,a,Z,#[_,aC.of g],?_]];erw[sN g y B (λi V b=>aR b (aD ((D.take i).map$ gK N)) .non V/\aa H b/\i<=ry D) #[Z,aa.refl _,OS _] (λi V b h=>#[h.2.1,?_]) (λi d G V b c I J h=>?_) (λV b h l L=>?_)]
 .rw[zo h.1,OJ,Pf];rwa[T7 ..]
 .let R:i < ry D:=by
   rcases TY i D.length with z |z
   .rwa[z]
   .rw[PJ z]at c;cases c
  erw[#[_,Z,_,Z,_,Z,d,G,Z,I,J,O d$ Pd c,λv Y T j=>#[?_,h.2.1.trans j,R]]];rw[Rb,c,O4];rwa[Ka (jl Z T jB)$ h.1.mono$ aa.tm j]
 .erw[#[l,V,Z,.inl #[aK.of jc,λr S=>?_]]];let s:aa b (af (af b l$ .lst V) r$ .tup V):=(je L).trans (je S);erw[q (.ref r) _ (jE jc ?_)$ h.2.1.trans s];let e:=h.1;rw[Py]at e;rwa[e.mono$ aa.tm s]
abbrev xZ:cc:=bV 65
abbrev x6:cc:=bV 66
abbrev rq:cc:=bV 67
def bf(p q:ζ)(H h:Hp):Prop:=∀b o,b≠p->b≠q->H b=δ o->h b=δ o
def bf.refl:bf p q H H:=λ_ _ _ _ h=>h
def bf.trans(a:bf p q H d)(b:bf p q d e):bf p q H e:=λc o n m h=>b c o n m (a c o n m h)
def aI.two(a:aI p H b):bf p q H b:=λc o n _ h=>a c o n h
def bf.of_same(a:aa H b):bf p q H b:=λc o _ _ h=>a c o h
def bf.at:bf p q H (af H q o):=λb u _ m e=>by rw[jh m];rwa[e]
def eJ(H:Hp)(q:ζ):Prop:=∃k:Int,H q=δ (.lst [.int k])
def eJ.new{o:HO}(h:eJ H q)(n:H r=θ):eJ (af H r o) q:=let #[k,e]:=h;#[k,aq e n]
def eJ.ne(h:eJ H q)(B:ax H p):q≠p:=by let#[k,e]:=h;let#[a,b,_,_,_,d]:=B.ob;rwa[jM e d nofun]
def eJ.but(h:eJ H q)(B:ax H p)(k:aI p H a):eJ a q:=by let n:=h.ne B;let#[z,e]:=h;rwa[#[z,k _ _ n e]]
def bf.tm(k:bf p q H h)(B:ax H p)(s:eJ H q):am H h:=λb x e=>by let#[a,c,_,_,_,f]:=B.ob;let#[z,g]:=s;rwa[k b _ (jM e f (by intro w;cases w)) (jM e g (by intro w;cases w)) e]
def iK(H:Hp)(q:ζ):Int:=match H q with
 |some (.lst [.int k])=>k
 |_=>0
def JD{H:Hp}(e:H q=δ (.lst [.int k])):iK H q=k:=by unfold iK;rw[e]
def YM{h:Hp}(s:eJ H q)(k:∀o,H q=δ o->h q=δ o):iK h q=iK H q:=by let#[z,e]:=s;rw[JD e,JD$ k _ e]
def kJ(B:ax H p)(s:eJ H q)(k:aI p H h):iK h q=iK H q:=YM s λo e=>k _ _ (s.ne B) e
def kr(s:eJ H q)(k:aa H h):iK h q=iK H q:=YM s λo e=>k _ _ e
def LY(H:Hp)(c:ρ×xD ρ)(v:V):Prop:=∃p t,v= .ref p/\H p=δ (.tup [.str c.1,.ref t])/\H t=δ (.tup$ c.2.map tz)
def eV(H:Hp):xD (ρ×xD ρ)->xD V->Prop
 | [],a=>a=[]
 |c::C,a=>duc (LY H c) (eV H C) a
theorem eV.mono(k:am H b):∀{c:xD (ρ×xD ρ)} {a:xD V},eV H c a->eV b c a
 | [],_,h=>h
 |_::_,_,z=>by obtain⟨v,r,e,⟨p,t,E,d,f⟩,g⟩:=z;rwa[#[v,r,e,#[p,t,E,k _ _ d,k _ _ f],eV.mono k g]]
theorem eV.snoc(a:LY H c v):∀{C:xD (ρ×xD ρ)} {b:xD V},eV H C b->eV H (C++[c]) (b++[v])
 | [],_,h=>by let e:_=[]:=h;rw[e];rwa[#[v,[],Z,a,Z]]
 |_::_,_,z=>by let#[u,r,e,d,f]:=z;rwa[#[u,r++[v],by rw[e];rfl,d,eV.snoc a f]]
theorem eV.len:∀{c:xD (ρ×xD ρ)} {v:xD V},eV H c v->ry v=ry c
 | [],_,h=>by let e:_=[]:=h;rw[e];rfl
 |_::_,_,z=>by let#[u,r,e,b,a]:=z;rw[e,Ph,Ph,eV.len a]
theorem eV.at:∀{C:xD (ρ×xD ρ)} {b:xD V},eV H C b->∀(i:Nat) (v:V),b[i]?=δ v->∃c,C[i]?=δ c/\LY H c v
 | [],_,h,i,v,a=>by let e:_=[]:=h;rw[e]at a;simp at a
 |c::_,_,q,0,v,a=>by let#[u,r,e,d,f]:=q;rw[e]at a;cases a;rwa[#[c,Z,d]]
 |_::C,_,q,i+1,v,a=>by let#[u,r,e,d,f]:=q;rw[e]at a;simpa using eV.at f i v (by simpa using a)
def Gg(h:eV H C a)(i:0<=k)(j:k < (a.length:Int)):∃v c,eW a k=δ v/\c∈C/\LY H c v:=by
 let b:k.toNat < ry a:=by omega
 let d:k=((k.toNat:Nat):Int):=by omega
 let E:a[k.toNat]?=δ a[k.toNat]:=OG b;let e:eW a ((k.toNat:Nat):Int)=δ a[k.toNat]:=jG E;rw[<- d]at e;let#[c,f,g]:=h.at _ _ E;rwa[#[_,c,e,Pd f,g]]
def Bd.fit(h:xD (ρ×xD ρ))(y:xD ρ)(d:Nat)(b:Bd):Prop:=(b.Ok y/\b.Cs (h.map λc=>(c.1,c.2.length)))/\b.dep<=d
def Z4:Bd.fit h y d .nil:=#[#[trivial,trivial],OS _]
def Er{H:xD (ρ×xD ρ)}{l:Lf}(h:l.Ok y)(k:l.Cs (H.map λc=>(c.1,c.2.length))):Bd.fit H y d (.lf p l .nil):=#[#[#[h,trivial],k,trivial],OS _]
def Z5{a b:Bd}(h:a.fit H y d)(k:b.fit H y d):(a.app b).fit H y d:=#[#[KA h.1.1 k.1.1,Kz h.1.2 k.1.2],by rw[zz];let:=h.2;let:=k.2;omega]
def AU{a b:Bd}(c:dY y T)(h:a.fit H y d)(k:b.fit H y d):Bd.fit H y (d+1) (.ite p t T a b .nil):=#[#[#[c,h.1.1,k.1.1,trivial],h.1.2,k.1.2,trivial],by show max (max a.dep b.dep+1) 0<=d+1;let:=h.2;let:=k.2;omega]
def vO{a:Bd}(H:dY y T)(h:a.fit b y d):Bd.fit b y (d+1) (.loop p t T a .nil):=#[#[#[H,h.1.1,trivial],h.1.2,trivial],by show max (a.dep+1) 0<=d+1;let:=h.2;omega]
def NC:Nat->Nat
 |0=>1
 |d+1=>1+2*(5*NC d)
inductive lV(b:xD V)(H:Hp)(Q:VK)(a:XK):Prop
 |mk(p g:ζ)(c:xD ρ)(_:b=[.ref p,.ref g])(_:ax H p)(_:H g=δ (.lst (c.map tz)))(_:1<=ry c)(_:c.length<=20)(_:∀(r:ζ) (T:Tm) (H':Hp),bJ H' T r->dY c T->ax H' p->aI p H H'->Q (.ref r) H')
structure oE(H:Hp)(p g h sp:ζ)(ys:xD ρ)(hs:xD (ρ×xD ρ)):Prop where
 B:ax H p
 g:H g=δ (.lst$ ys.map tz)
 y1:1<=ry ys
 y2:ys.length<=20
 h:∃hv,H h=δ (.lst hv)/\eV H hs hv
 h1:1<=ry hs
 h2:hs.length<=20
 h3:∀c∈hs,ry c.2<=6
 s:eJ H sp
def oE.gsp{H:Hp}{p g h S:ζ}{y:xD ρ}{b:xD (ρ×xD ρ)}(G:oE H p g h S y b):g≠S:=by
 let#[k,e]:=G.s;erw[jM G.g e λz=>?_];injection z with z;let c:=G.y1
 match y,c,z with
 |a::r,_,z=>injection z with d _;cases d
def oE.hsp{H:Hp}{p g h S:ζ}{y:xD ρ}{f:xD (ρ×xD ρ)}(G:oE H p g h S y f):h≠S/\h≠p:=by
 let#[k,e]:=G.s;let#[j,E,l]:=G.h;let#[a,b,_,_,_,m]:=G.B.ob;let n:=G.h1;let:∃q r,j= .ref q::r:=by
  match f,n,l with
  |c::C,_,#[v,r,e,#[q,t,o,_],_]=>rwa[#[q,r,by rw[e,o]]]
 let#[q,r,Z]:=this;erw[#[jM E e λz=>?_,jM E m λz=>?_]]
 .injection z with z;injection z with d _;cases d
 .injection z with z;injection z with d _;cases d
def oE.but2{H a:Hp}{p g h S:ζ}{y:xD ρ}{b:xD (ρ×xD ρ)}(G:oE H p g h S y b)(B:ax a p)(s:eJ a S)(k:bf p S H a):oE a p g h S y b:=by let#[c,e,E]:=G.h;rwa[#[B,k _ _ (qx G.B G.g) G.gsp G.g,G.y1,G.y2,#[c,k _ _ G.hsp.2 G.hsp.1 e,E.mono$ k.tm G.B G.s],G.h1,G.h2,G.h3,s]]
def oE.but{H a:Hp}{p g h S:ζ}{y:xD ρ}{b:xD (ρ×xD ρ)}(G:oE H p g h S y b)(B:ax a p)(k:aI p H a):oE a p g h S y b:=G.but2 B (G.s.but G.B k) k.two
inductive mx(n:Nat)(f:xD V)(H:Hp)(Q:VK)(a:XK):Prop
 |mk(p g h e:ζ)(d:Nat)(i:xD ρ)(c:xD (ρ×xD ρ))(_:f=[.ref p,.ref g,.ref h,.ref e,.int (d:Int)])(_:oE H p g h e i c)(_:d < n)(_:0 < iK H e)(_:∀(r:ζ) (b:Bd) (H':Hp),eL H' b [.ref r]->(b.size:Int)+iK H' e<=iK H e->0<=iK H' e->b.fit c i d->ax H' p->eJ H' e->bf p e H H'->Q (.ref r) H')
inductive iN(n:Nat)(f:xD V)(H:Hp)(Q:VK)(a:XK):Prop
 |mk(p g h e:ζ)(d:Nat)(i:xD ρ)(c:xD (ρ×xD ρ))(_:f=[.ref p,.ref g,.ref h,.ref e,.int (d:Int)])(_:oE H p g h e i c)(_:d < n)(_:0<=iK H e)(_:∀(r:ζ) (b:Bd) (bs:xD V) (H':Hp),H' r=δ (.tup bs)->eL H' b bs->(b.size:Int)+iK H' e<=iK H e->0<=iK H' e->b.fit c i d->ax H' p->eJ H' e->bf p e H H'->Q (.ref r) H')
def yr:aj ["_law_box_here","_law_names_here","_law_kind"] z28z (ae xZ):=bQ
def Bx(F:xb K "_law_spot" xZ f M)(C:‹1› Y N z0z bg "_law_take")(O:‹6› fM R z12z (dD 4) "_law_term"):⇑7 f M z28z lV:=by
 erw[F.ok yr λS A o s H vs Q E a h=>?_]
 let#[p,g,y,Z,B,I,i,j,q]:=h;erw[#[_,(jd (jA 2 yr.nd$ C.e a.m$ ja (pv 0)$ ja jf jb)$ jd (jy (jz QI (pv 2) jf$ aF _) (jg$ jo$ O.e a$ ja (pv 0)$ ja (pv 1)$ ja jf jb) jp)$ jd (jy (zr$ pv 2) (jg$ jo$ ji$ ja jm$ ja (jv zi (jv zi (jv Ku jf jf) jf)$ C.e a.m$ ja (pv 0)$ ja jf jb) jb) jp)$ jg$ jo$ ji$ ja jm$ ja (C.e a.m$ ja (pv 0)$ ja jf jb) jb),?_]];let k:g≠p:=qx B I;erw[#[_,Z,p,8,Z,B,Oa,Oa,λkd J k0 k1 l L=>?_]];let t:J g=δ (.lst$ y.map tz):=by rw[L g k];rwa[I]
 let u:aI p H J:=aI.of_eq L;erw[#[_,Z,_,_,Z,Z,_,Z,?_]];erw[cp (λc=>?_) (λc=>?_)]
 .rwa[#[_,Z,_,Z,p,g,1,y,Z,l,t,i,j,Oa,Oa,λr T v U dT W b X=>q r T v U #[W,N9] b (u.trans X)]]
 erw[#[_,Z,Z,_,Z,?_]];erw[cp (λc=>?_) (λc=>?_)]
 .erw[#[_,_,Z,Z,#[Oa,Oa,Oa],_,_,Z,Z,_,Z,p,4,Z,l,Oa,Oa,λD v d x b z=>#[_,_,Z,Z,cj,λr n=>?_]]];rwa[q r (.num (1000000000000000000 - 1 - D)) _ jc #[#[N9,N9],(by show 0 < 6;decide)] (b.upd_new n) ((u.trans$ aI.of_eq z).upd_new n)]
 .erw[#[_,Z,p,12,Z,l,Oa,Oa,λD v d x b z=>#[cj,λr n=>?_]]];rwa[q r (.num D) _ jc #[#[d,N9],(by show 0 < 6;decide)] (b.upd_new n) ((u.trans$ aI.of_eq z).upd_new n)]
def mv:aj z41z z5z (ae x6):=bQ
def uF:hJ:=#[.function,[(".0",.local),("_law_one",.local),("_law_term",.globalImplicit),("_law_box_here",.free),("_law_names_here",.free)],ν,ν,[]]
def ES:(z37z:xD ρ).Nodup:=by decide+kernel
def Ek:bo z41z (ae x6) uF z37z 1 [0,1]:=oU
def RH(p g h s:ζ)(d:Nat)(k:Int)(y:ρ)(H:Hp)(a:_L.St)(b:Hp):Prop:=a=[↑p,↑g,↑h,↑s,δ$ .int (d:Int),δ$ .int k,δ$ .str y,θ,θ,θ]/\b=H
def FD(F:xb K "_law_statement" x6 f fd)(cT:‹1› fT f0 z0z bg "_law_take")(cM:‹6› fM f3 z12z (dD 4) "_law_term")(cP:‹7› fP f4 z28z lV "_law_spot"){L:Nat}(cB:‹L+9› fB f5 z5z (iN n) "_law_body")(ml:mg "len"=θ)(m0:mg "tuple"=θ):⇑(L+10) f fd z5z (mx$ n+1):=by
 erw[F.ok mv λc3 A o2 s H vs Q E U h=>?_]
 symm;let#[p,g,h,S,d,ys,hs,Z,G0,hd,b5,q]:=h;erw[#[_,(jd (jA 5 mv.nd$ cT.e U.m$ ja (pv 0)$ ja jf jb)$ jd (jA 6 mv.nd$ jq ju (pv 1) (cT.e U.m$ ja (pv 0)$ ja (jO jK Z ml Pz$ ja (pv 1) jb) jb))$ jd (zu (jv zi (jq ju (pv 3) jf) jf)$ qS (pv 3) jf zL)$ jd (jy (jz QI (pv 5) jf$ aF _) (jg$ jo$ ji$ ja jm$ ja (pv 6)$ ja (cP.e U.m$ ja (pv 0)$ ja (pv 1) jb) jb) jp)$ jd (jy (PW.pt$ Kl (zr$ pv 5)$ qQ$ zr$ pv 5) (jg$ jo$ ji$ ja jm$ ja (cP.e U.m$ ja (pv 0)$ ja (pv 1) jb)$ ja (cM.e U.m$ ja (pv 0)$ ja (pv 1)$ ja jf jb) jb) jp)$ jd (jy (PW.pt$ Kl (zr$ pv 5)$ qQ$ zr$ pv 5) (jd (zu (jq ju (pv 2) (cT.e U.m$ ja (pv 0)$ ja (jO jK Z ml Pz$ ja (pv 2) jb) jb))$ zV (n:=2) Z$ jD (jx (i:=7) mv.nd Z$ ω Z)$ jD (jx (i:=8) mv.nd Z$ ω Z) kB)$ jg$ jo$ ji$ ja jm$ ja (pv 6)$ ja (pv 7)$ ja (jJ jN Z m0 RI$ ja (@zn _ _ _ _ _ _ _ (z37z) (1) ([0,1]) _ _ _ _ Z (z9$ pv 8) Ek (λ_ _ _ _ _=>(jx (i:=0) ES Z$ ω Z)) (λ_ _ _ _ _=>(@zH _)) (λ_ _ _ _ _=>(cM.e U.m$ ja (pv 1)$ ja (pv 2)$ ja jf jb)) (by intro _;rfl)) jb) jb) jp)$ jd (kc$ jy (PW.pt$ qR (zr$ pv 5)$ qd$ jz JQ (pv 4) jf$ aF _) (jd (jA 9 mv.nd$ cB.e U$ ja (pv 0)$ ja (pv 1)$ ja (pv 2)$ ja (pv 3)$ ja (jv zi (pv 4) jf) jb)$ jg$ jo$ ji$ ja jm$ ja (cM.e U.m$ ja (pv 0)$ ja (pv 1)$ ja jf jb)$ ja (pv 9)$ ja (cB.e U$ ja (pv 0)$ ja (pv 1)$ ja (pv 2)$ ja (pv 3)$ ja (jv zi (pv 4) jf) jb) jb) jp)$ jd (kc$ jy (PW.pt$ qR (zr$ pv 5)$ qd$ jz JQ (pv 4) jf$ aF _) (jg$ jo$ ji$ ja jm$ ja (cM.e U.m$ ja (pv 0)$ ja (pv 1)$ ja jf jb)$ ja (cB.e U$ ja (pv 0)$ ja (pv 1)$ ja (pv 2)$ ja (pv 3)$ ja (jv zi (pv 4) jf) jb) jb) jp)$ jd (jy (zr$ pv 5) (jg$ jo$ ji$ ja jm$ ja (cM.e U.m$ ja (pv 0)$ ja (pv 1)$ ja jf jb) jb) jp)$ jg$ jo$ ji$ ja jm$ ja (pv 6)$ ja (cM.e U.m$ ja (pv 0)$ ja (pv 1)$ ja jf jb) jb),?_]];let b7:=aL;let B:=G0.B;let b8:g≠p:=qx B G0.g;sleep 9;erw[ai λF1 u=>#[_,Z,p,10,Z,B,Oa,Oa,λkd H1 k0 k1 B1 e1=>u _ _ ?_]];left;let G1:=G0.but B1 (aI.of_eq e1);let y1:=G0.y1;let y2:=G0.y2;erw[ai λF1 u=>#[_,Z,_,Z,_,Z,g,_,Z,.inl$ aK.of G1.g,p,_,Z,B1,by rw[OJ];omega,by rw[OJ];omega,λd2 H2 d1 d0 B2 e2=>?_]];rw[OJ]at d0;let G2:=G1.but B2 (aI.of_eq e2);symm;let#[y,hy,a2]:=Ky (ys:=ys) d1 d0;erw[#[g,_,_,_,Z,Z,aK.of G2.g,a2,u _ _ ?_]];left;symm;let#[k,hk]:=G2.s;let ek:iK H S=k:=((kJ B1 G1.s$ aI.of_eq e2).trans$ kJ B G0.s$ aI.of_eq e1).symm.trans (JD hk);erw[ai λF1 u=>#[_,Z,S,_,_,_,Z,Z,aK.of hk,Z,_,_,Z,Z,_,Z,S,_,_,0,Z,Z,hk,Z,u _ _ ?_]];left;let s0:=G2.s.ne B2;let B3:ax (af H2 S$ .lst ([.int k].set 0 (.int$ k - 1))) p:=B2.eq (jh$ Pk s0);let s3:eJ (af H2 S$ .lst ([.int k].set 0 (.int$ k - 1))) S:=#[k - 1,jc];let K3:bf p S H (af H2 S$ .lst ([.int k].set 0 (.int$ k - 1))):=((aI.of_eq e1).trans$ aI.of_eq e2).two.trans bf.at;let G:=G0.but2 B3 s3 K3;let e3:iK (af H2 S$ .lst ([.int k].set 0 (.int$ k - 1))) S=k - 1:=JD jc;generalize af H2 S (.lst ([.int k].set 0 (.int$ k - 1)))=H3 at B3 s3 K3 G e3;let l0:∀(l:Lf) (M:xD V) (j:Hp) (r:ζ),Aq j l M->l.Ok ys->l.Cs (hs.map λc=>(c.1,c.2.length))->oE j p g h S ys hs->bf p S H j->iK j S=k - 1->j r=θ->Q (.ref r) (af j r$ .tup M):=λl M j r hl ok cs C K4 e4 nr=>
  q r (.lf r l .nil) _ #[M,[],Z,jc,hl.mono$ aa.tm$ je nr,Z] (by rw[kr C.s$ je nr];show((0+1:Nat):Int)+_<=_;omega) (by rw[kr C.s$ je nr];omega) (Er ok cs) (C.B.upd_new nr) (C.s.new nr) (K4.trans$ bf.of_same$ je nr)
 erw[ai λF1 u=>pU λG' D=>#[_,Z,_,_,Z,Z,_,Z,D _ _ ?_]];erw[cp (λc=>?_) (λc=>u _ _ ?_)]
 .erw[#[_,Z,_,Z,_,Z,p,g,ys,Z,G.B,G.g,y1,y2,λr T j W oT B4 J=>#[iF,λt N=>?_]]];rwa[l0 (.rd y r T) _ j t #[Z,W] #[hy,oT] trivial (G.but B4 J) (K3.trans J.two) ((kJ G.B G.s J).trans e3) N]
 let wr:∀(r:ζ) (T0:Tm) (j:Hp),bJ j T0 r->dY ys T0->ax j p->aI p H3 j->ff (dD 4) [] E0 (ap (bn 0)$ ap (bn 1)$ ap (tC$ .int 2) aZ) [↑p,↑g,↑h,↑S,δ$ .int (d:Int),δ$ .int kd,δ$ .str y,θ,θ,θ] j (λv o=>3<=τ/\∀t,o t=θ->Q (.ref t) (af o t$ .tup [.str "write",.ref r,v])):=λr T0 j h4 o1 B4 J=>by erw[#[_,Z,_,Z,p,g,2,ys,Z,B4,(G.but B4 J).g,y1,y2,Oa,Oa,λX T o W dT gT R a=>#[Oa,λt N=>?_]]];rwa[l0 (.wr r X T0 T) _ o t #[Z,h4.but B4 a,W] #[o1,gT,N9] trivial (G.but R$ J.trans a) (K3.trans (J.trans a).two) ((kJ G.B G.s$ J.trans a).trans e3) N]
 erw[ai λF1 u=>pU λG' D=>?_];let Y:G' μ H3:=D _ _ (nQ #[_,Z,_,Z,p,g,ys,Z,G.B,G.g,y1,y2,λr T0 j h4 o1 B4 J=>wr r T0 j h4 o1 B4 J]);erw[#[_,Z,Z,_,Z,cp (λc=>Y) (λc=>#[_,Z,Z,_,Z,De Y λc2=>D _ _ (aY c2$ u _ _ ?_)])]];symm;let#[hv,hh,hH]:=G.h;let hl:=hH.len;let h1:=G0.h1;let h2:=G0.h2;let c1:∀(f':ρ) (ps:xD ρ) (h':(f',ps.length)∈hs.map λc=>(c.1,c.2.length)) (t:ζ) (j:Hp),oE j p g h S ys hs->bf p S H j->iK j S=k - 1->j t=δ (.tup$ ps.map tz)->ry ps<=6->
   fe (Ap K t) 1 [↑p,↑g] (bH 0) nD (ff (dD 4) [] E0$ ap (bn 1)$ ap (bn 2)$ ap (tC$ .int 1) aZ) (λM o=>∀l,o l=θ->jNr K [vr l] (af o l$ .lst M) λv b=>4<=τ/\∀r,b r=θ->Q (.ref r) (af b r$ .tup [.str "call",.str y,.str f',v])) j:=λf' ps h' t j C K4 e4 ht b9=>by
  erw[qJ (K:=K) (xs:=ps.map tz) (by rw[OJ];omega) (λi M o=>∃ts:xD (ζ×Tm),M=ts.map (λc=>vr c.1)/\ry ts=i/\(∀c∈ts,bJ o c.2 c.1/\dY ys c.2)/\ax o p/\aI p j o) #[[],Z,Z,(λ_ h=>absurd h Pm),C.B,aI.refl] (λi M o h5=>?_) ?_ ?_]
  .symm;let#[ts,Z,e5,_,_,a]:=h5;rwa[#[aC.of$ a.tm C.B _ _ ht,by rw[OJ,e5];rwa[OM _]]]
  .intro i x M o hx a3;symm;let#[ts,Z,e5,h5,R,a]:=a3;erw[#[_,Z,_,Z,p,g,1,ys,Z,R,(C.but R a).g,y1,y2,Oa,Oa,λX T H6 W dT gT B6 k6=>#[ts++[(X,T)],by rw[O4];rfl,by rw[OL,e5];rfl,λc hc=>?_,B6,a.trans k6]]];symm;rcases bm.mp hc with hc |hc
   .rwa[#[(h5 c hc).1.but R k6,(h5 c hc).2]]
   .right;rw[χ.mp hc];rwa[#[W,gT,(by show T.depth < 6;omega)]]
  .rintro M o ⟨ts,rfl,e5,h5,R,a⟩ l nl;erw[#[l,_,Z,.inl #[aK.of jc,λl2 n0=>#[Oa,λr nr=>?_]]]];let O:=C.but R a;let s6:aa o (af (af o l$ .lst$ ts.map λc=>vr c.1) l2$ .tup$ ts.map λc=>vr c.1):=(je nl).trans (je n0);rw[OJ]at e5;rwa[l0 (.cl y f' l2 ts) _ _ r #[Z,jc,λc hc=>(h5 c hc).1.same s6] #[hy,N9,λc hc=>(h5 c hc).2] (by show(f',ts.length)∈_;rw[e5];rwa[h']) (O.but2 ((O.B.upd_new nl).upd_new n0) ((O.s.new nl).new n0)$ bf.of_same s6) ((K4.trans a.two).trans$ bf.of_same s6) ((kr O.s s6).trans ((kJ C.B C.s a).trans e4)) nr]
 erw[ai λF1 u=>pU λG' D=>?_];let Y:G' μ H3:=by erw[D _ _$ nQ ?_];erw[ai λF2 f2=>#[_,Z,_,Z,_,Z,h,_,Z,.inl$ aK.of hh,p,_,Z,G.B,N9,N9,λd4 j d3 d5 B4 e4=>?_]];let C:=G.but B4 (aI.of_eq e4);let J:aI p H3 j:=aI.of_eq e4;let a4:=hH.mono (J.tm G.B);let#[v,c0,a5,a0,p4,t4,Z,z1,z2]:=Gg a4 d3 d5;erw[#[h,_,_,_,Z,Z,aK.of$ J _ _ G.hsp.2 hh,a5,p4,_,Z,aC.of z1,Z,_,_,Z,_,_,Z,Z,f2 _ _ ?_]];left;erw[#[_,Z,_,Z,_,Z,t4,Z,#[_,aC.of z2],?_]];rwa[c1 c0.1 c0.2 (dr.mpr #[c0,a0,Z]) t4 j C (K3.trans J.two) ((kJ G.B G.s J).trans e3) z2$ G0.h3 c0 a0]
 erw[#[_,Z,Z,_,Z,cp (λc=>Y) (λc=>#[_,Z,Z,_,Z,De Y λc2=>D _ _ (aY c2$ u _ _ ?_)])]];let l1:∀(c:(0:Int) < (d:Int)),∃d':Nat,d=d'+1:=λc=>#[d - 1,N9];erw[ai λF1 u=>eN (RH p g h S d kd y H3) (λE6 eR f6=>?_) λσ0 H' z=>?_]
 .clear u;left;erw[pU λG' D=>#[_,Z,Z,_,Z,?_]];erw[cp (λc=>?_) (λc=>D _ _ (nP$ f6 _ _ #[Z,Z]))];erw[#[_,Z,_,_,Z,Z,_,Z,D _ _ ?_]];erw[cp (λc2=>?_) (λc2=>f6 _ _ #[Z,Z])];symm;let#[d',Z]:=l1 (Pw c2);let ed:(((d'+1:Nat):Int) - 1)=((d':Nat):Int):=by omega
  erw[#[_,Z,_,Z,_,Z,_,Z,_,Z,_,_,Z,Z,p,g,h,S,d',ys,hs,(by show [vr p,vr g,vr h,vr S,tT (((d'+1:Nat):Int) - 1)]=_;rw[ed]),G,N9,N9,λr b bs j a' b1 c4 b2 b4 B4 s4 J=>?_]];let C:=G.but2 B4 s4 J;erw[#[_,Z,_,Z,p,g,2,ys,Z,C.B,C.g,y1,y2,Oa,Oa,λX T o W dT gT R a=>?_]];let O:=C.but R a;erw[#[_,Z,_,Z,_,Z,_,Z,_,Z,_,Z,_,_,Z,Z,p,g,h,S,d',ys,hs,(by show [vr p,vr g,vr h,vr S,tT (((d'+1:Nat):Int) - 1)]=_;rw[ed]),O,N9,(by rw[kJ C.B C.s a];rwa[b2]),λr3 b3 b0 H6 h6 h7 a1 h8 h0 B6 s6 k6=>#[sg,λt N=>?_]]];let G6:=O.but2 B6 s6 k6;let tm:am j H6:=λb' xs e=>k6.tm O.B O.s _ _ (a.tm C.B _ _ e);let I:am H6 (af H6 t$ .tup [.str "if",.ref X,.ref r,.ref r3]):=aa.tm (je N);rw[eR];erw[q t (.ite t X T b b3 .nil) _ #[r,r3,bs,b0,[],Z,jc,(W.mono$ k6.tm O.B O.s).mono I,I _ _$ tm _ _ a',I _ _ h6,(b1.mono tm).mono I,h7.mono I,Z] (by let x1:=kJ C.B C.s a;rw[kr G6.s$ je N];show((b.size+b3.size+0+1:Nat):Int)+_<=_;omega) (by rw[kr G6.s$ je N];rwa[h8]) (AU #[gT,N9] b4 h0) (G6.B.upd_new N) (G6.s.new N) (((K3.trans J).trans$ a.two.trans k6).trans$ bf.of_same$ je N)]
 symm;let#[Z,e]:=z;right;rw[e];erw[u _ _ ?_];left;erw[ai λF1 u=>eN (RH p g h S d kd y H3) (λE6 eR f6=>?_) λσ0 H' z=>?_]
 .clear u;left;erw[pU λG' D=>#[_,Z,Z,_,Z,?_]];erw[cp (λc=>?_) (λc=>D _ _ (nP$ f6 _ _ #[Z,Z]))];erw[#[_,Z,_,_,Z,Z,_,Z,D _ _ ?_]];erw[cp (λc2=>?_) (λc2=>f6 _ _ #[Z,Z])];symm;let#[d',Z]:=l1 (Pw c2);let ed:(((d'+1:Nat):Int) - 1)=((d':Nat):Int):=by omega
  erw[#[_,Z,_,Z,p,g,2,ys,Z,G.B,G.g,y1,y2,Oa,Oa,λX T o W dT gT R a=>?_]];let O:=G.but R a;erw[#[_,Z,_,Z,_,Z,_,Z,_,Z,_,_,Z,Z,p,g,h,S,d',ys,hs,(by show [vr p,vr g,vr h,vr S,tT (((d'+1:Nat):Int) - 1)]=_;rw[ed]),O,N9,(by rw[kJ G.B G.s a];omega),λr3 b3 b0 H6 h6 h7 a1 h8 h0 B6 s6 k6=>#[iF,λt N=>?_]]];let G6:=O.but2 B6 s6 k6;let I:am H6 (af H6 t$ .tup [.str "while",.ref X,.ref r3]):=aa.tm (je N);rw[eR];erw[q t (.loop t X T b3 .nil) _ #[r3,b0,[],Z,jc,(W.mono$ k6.tm O.B O.s).mono I,I _ _ h6,h7.mono I,Z] (by let x1:=kJ G.B G.s a;rw[kr G6.s$ je N];show((b3.size+0+1:Nat):Int)+_<=_;omega) (by rw[kr G6.s$ je N];rwa[h8]) (vO #[gT,N9] h0) (G6.B.upd_new N) (G6.s.new N) ((K3.trans$ a.two.trans k6).trans$ bf.of_same$ je N)]
 symm;let#[Z,e]:=z;right;rw[e];erw[u _ _ ?_];left;erw[ai λF1 u=>pU λG' D=>#[_,Z,Z,_,Z,D _ _ ?_]];erw[cp (λc=>?_) (λc=>u _ _ ?_)]
 .erw[#[_,Z,_,Z,p,g,2,ys,Z,G.B,G.g,y1,y2,Oa,Oa,λX T o W dT gT R a=>#[cj,λt N=>?_]]];rwa[l0 (.gv X T) _ o t #[Z,W] #[gT,N9] trivial (G.but R a) (K3.trans a.two) ((kJ G.B G.s a).trans e3) N]
 .erw[#[_,Z,_,Z,_,Z,p,g,3,ys,Z,G.B,G.g,y1,y2,Oa,Oa,λX T o W dT gT R a=>#[iF,λt N=>?_]]];rwa[l0 (.st y X T) _ o t #[Z,W] #[hy,gT,N9] trivial (G.but R a) (K3.trans a.two) ((kJ G.B G.s a).trans e3) N]
def px:aj ["_law_box_here","_law_names_here","_law_heads","_law_spare","_law_deep","_law_body_here","_law_k"] z5z (ae rq):=bQ
def Z6(F:xb K "_law_body" rq f fd)(cT:‹1› fT f0 z0z bg "_law_take"){L:Nat}(cS:‹L+8› fS f1 z5z (mx n) "_law_statement")(mr:mg "range"=θ)(m2:mg "tuple"=θ):⇑(L+9) f fd z5z (iN n):=by
 erw[F.ok px λc0 A o1 s H v Q E hr h=>?_]
 let#[p,g,h,S,d,ys,hs,Z,G,hd,h0,q]:=h;erw[#[_,(jd (jA 5 px.nd$ jF jb)$ jd (kf Po Z (zd Z mr$ ja (cT.e hr.m$ ja (pv 0)$ ja jf jb) jb) (jx (i:=6) px.nd Z$ ω Z)$ jg$ jy (jz JQ (jq ju (pv 3) jf) jf$ aF _) (jg$ jL$ jZ OV O8 O7 jQ (pv 5)$ ja (cS.e hr$ ja (pv 0)$ ja (pv 1)$ ja (pv 2)$ ja (pv 3)$ ja (pv 4) jb) jb) jp)$ jg$ jo$ jJ jN Z m2 RI$ ja (pv 5) jb),?_]];let b0:=aL;erw[#[OS _,λl N=>?_]];let s0:aa H (af H l$ .lst []):=je N;let O:oE (af H l$ .lst []) p g h S ys hs:=G.but2 (G.B.upd_new N) (G.s.new N) (bf.of_same s0);let l1:af H l (.lst []) l=δ (.lst []):=jc;let lp:l≠p:=G.B.ne N;let D:l≠S:=λe=>by let#[k,z]:=G.s;rw[<- e,N]at z;cases z
 let k1:bf p S H (af H l$ .lst []):=bf.of_same s0;let R:iK (af H l$ .lst []) S=iK H S:=kr G.s s0;generalize af H l (.lst [])=H1 at O l1 k1 R;erw[#[_,Z,p,6,Z,O.B,Oa,Oa,λm H2 m0 m1 B2 e2=>#[_,Z,N9,N9,?_]]];let G2:=O.but B2 (aI.of_eq e2);refine QO (lo:=0) (λi σ I=>∃(o6:xL V) (v:xD V) (b:Bd),σ=[↑p,↑g,↑h,↑S,δ$ .int (d:Int),↑l,o6]/\I l=δ (.lst v)/\eL I b v/\((b.size:Int)+iK I S<=iK H S/\0<=iK I S)/\b.fit hs ys d/\ry v<=i/\ax I p/\eJ I S/\bf p S H I)
  #[θ,[],.nil,Z,by rw[e2 l lp];rwa[l1],Z,(by rw[kJ O.B O.s$ aI.of_eq e2,R];rwa[#[by show((0:Nat):Int)+_<=_;omega,h0]]),Z4,OS _,B2,G2.s,k1.trans (aI.of_eq e2).two] ?_ ?_
 .intro i σ H3 hi J;let#[o6,v,b,Z,a,u,j,x,h1,T,C,U]:=J;let G3:=G.but2 T C U;let#[kk,W]:=id C;erw[#[_,Z,S,_,_,_,Z,Z,aK.of W,Z,_,_,Z,Z,_,Z,?_]];erw[cp (λc=>?_) (λc=>?_)]
  .erw[#[_,Z,.inl #[Z,_,aK.of a],_,Z,_,Z,_,Z,_,Z,_,Z,p,g,h,S,d,ys,hs,Z,G3,hd,(by rw[JD W];rwa[Pw c]),λr b4 H4 h2 h5 h3 h4 B4 s4 k4=>?_]];let X:H4 l=δ (.lst v):=k4 _ _ lp D a;erw[#[l,_,_,Z,Z,X,N9,?_]];let tm:am H4 (af H4 l$ .lst$ v++[.ref r]):=λb' xs e=>by rw[jh$ jM e X nofun];rwa[e]
   let Y:am H3 H4:=k4.tm T C;erw[#[_,_,b.app b4,Z,jc,(h2.mono tm).app ((u.mono Y).mono tm),?_,Z5 x h4,by rw[OL];show ry v+1<=i+1;omega,B4.eq$ jh$ Pk lp,?_,λb' o n1 n2 e=>?_]]
   .rw[j6,YM s4 λo e=>by rw[jh$ Pk D];rwa[e]];let#[z1,z2]:=j;rwa[#[N9,h3]]
   .let#[z,hz]:=s4;rwa[#[z,by rw[jh$ Pk D];rwa[hz]]]
   .rw[jh$ jk e N];rwa[k4 _ _ n1 n2$ U _ _ n1 n2 e]
  .rwa[#[_,v,b,Z,a,u,j,x,N9,T,C,U]]
 .intro σ H3 J;let#[o6,v,b,Z,a,u,j,x,h1,T,C,U]:=J;erw[#[_,Z,l,v,Z,.inl #[aK.of a,λt M=>?_]]];let hm:(m).toNat<=5:=by omega
  erw[q t b v _ jc (u.mono$ aa.tm$ je M) (by rw[kr C$ je M];rwa[j.1]) (by rw[kr C$ je M];rwa[j.2]) x (T.upd_new M) (C.new M)$ U.trans$ bf.of_same$ je M]
def wM:⇑8 f c z5z (mx 0):=by
 let n:∀v H Q E,¬mx 0 v H Q E:=λv H Q E h=>by let#[p,g,h,S,d,y,e,_,_,b,_]:=h;rwa[absurd b$ Td _]
 rwa[#[λv H Q E h=>absurd h (n v H Q E),λA o s H a u v Q E _ _ _ _ h=>absurd h (n v H Q E)]]
theorem Lv(F:xb K "_law_statement" x6 f e)(FB:xb K "_law_body" rq g a)(c:‹1› r k z0z bg "_law_take")(C:‹6› s l z12z (dD 4) "_law_term")(h:‹7› t o z28z lV "_law_spot")(b:aE K e z5z [])(M:mg "_law_statement"=↑f)(B:aE K a z5z [])(i:mg "_law_body"=↑g)(j:mg "len"=θ)(m:mg "tuple"=θ)(d:mg "range"=θ):
  ∀n:Nat,⇑(n+n+8) f e z5z (mx n)/\⇑(n+n+9) g a z5z (iN n)
 |0=>#[wM,Z6 (L:=0) FB c #[wM,b,F.kp,M] d m]
 |n+1=>by
  let I:=Lv F FB c C h b M B i j m d n;let E:n+n+10=n+1+(n+1)+8:=by omega
  let p:n+n+2+9=n+1+(n+1)+9:=by omega
  let H:=FD (L:=n+n) F c C h #[I.2,B,FB.kp,i] j m;let q:=Z6 (L:=n+n+2) FB c #[H,b,F.kp,M] d m;rw[<- E,<- p];rwa[#[H,q]]
def Ij{x:xD V}(h:k<=ry x):aT x θ (δ (k:Int))=x.take k:=by
 unfold aT;rw[HT.sIx_nat,HT.sIx_none];let e:min k (ry x)=k:=by omega
 rw[e];simp
abbrev Gi:cc:=bV 68
def AO(h:0<=d)(H:d < 4):∃D:Nat,eW [tT 3,.int 3,.int 3,.int 5] d=δ (.int (D:Int))/\D < 6/\NC D<=111111/\D<=5:=by
 rcases(by omega:d=0\/d=1\/d=2\/d=3) with rfl |rfl |rfl |rfl
 .rwa[#[3,Z,Oa,Oa,Oa]]
 .rwa[#[3,Z,Oa,Oa,Oa]]
 .rwa[#[3,Z,Oa,Oa,Oa]]
 .rwa[#[5,Z,Oa,Oa,Oa]]
def vw{ys:xD ρ}{k:Int}(h:ry ys=20)(H:14<=k)(a:k<=20):1<=(bK ys (δ 8)$ δ k).length/\(bK ys (δ 8)$ δ k).length<=20:=by
 erw[#[?_,by let:=qA ys (δ 8) (δ k);omega]];let e:(8:Int)=((8:Nat):Int):=rfl;let E:k=((k.toNat:Nat):Int):=by omega
 unfold bK;rw[e,E,HT.sIx_nat,HT.sIx_nat,Pf,Ry];rwa[N09]
def AG{ss:xD ρ}(h:0<=k):(bK ss θ$ δ k).length<=k.toNat:=by
 let e:k=((k.toNat:Nat):Int):=by omega
 unfold bK;rw[e,HT.sIx_nat,HT.sIx_none,Pf];omega
def iw{t u:TS}(h:∀E:bp,(∀a b,u D a b->E.nx a b)->t E c H):eQ t u D c H:=h { D with nx:=u D } λ_ _ h=>h
def HP(h:xD (ρ×xD ρ)):Prop:=∀c∈h,c.1.length<=20/\ry c.2<=6
def NF(H:Hp)(D:xD Df):Prop:=∀d∈D,∃p:xD ρ,H d.pa=δ (.tup$ p.map tz)/\ry p<=100
def Jr{a:Type}{P:a->Prop}{X:xD a}{x:a}(h:∀c∈X,P c)(H:P x):∀c∈X++[x],P c:=λc b=>by
 rcases bm.mp b with h1 |h1
 .rwa[h c h1]
 .rw[χ.mp h1];rwa[H]
def nK(H:Hp)(D:xD Df)(N:xD Nat):Prop:=ry D=ry N/\∀(i:Nat) (d:Df) (n:Nat),D[i]?=δ d->N[i]?=δ n->∃p:xD ρ,H d.pa=δ (.tup$ p.map tz)/\ry p=n/\n<=100
def nK.mono(h:nK H D N)(k:am H a):nK a D N:=#[h.1,λi d n b c=>let #[p,e,l]:=h.2 i d n b c;#[p,k _ _ e,l]]
def nK.snoc{d:Df}{p:xD ρ}(h:nK H D N)(e:H d.pa=δ (.tup$ p.map tz))(l:ry p<=100):nK H (D++[d]) (N++[p.length]):=by
 erw[#[by rw[OL,OL,h.1];rfl,λi c n a b=>?_]];by_cases f:i < ry D
 .rw[RP f]at a;rw[RP (by rw[<- h.1];rwa[f])]at b;rwa[h.2 i c n a b]
 .let g:i < (D++[d]).length:=(ξ.mp a).1;rw[OL]at g;let E:i=ry D:=by let:i < ry D+1:=g;omega
  subst E;rw[RL$ OM _,TX]at a;rw[h.1,RL$ OM _,TX]at b;cases a;cases b;rwa[#[p,e,Z,l]]
def nK.v(h:nK H D n):NF H D:=λd b=>by
 let#[i,a,e]:=ir.mp b;let c:D[i]?=δ d:=by rw[<- e];rwa[OG a]
 let#[p,e,l,k]:=h.2 i d _ c (OG (by rw[<- h.1];rwa[a]));rwa[#[p,e,N9]]
def uU(D:xD Df)(n:xD Nat):Prop:=(∀d∈D,oI d/\d.b.Cs ((D.map Df.f).zip n))/\(D.map Df.f).Nodup/\∀y∈D.map Df.f,y.length<=20
inductive rP(c:xD V)(H:Hp)(Q:VK)(a:XK):Prop
 |mk(p:ζ)(T b:Int)(_:c=[.ref p,.int T,.int b])(_:ax H p)(_:1<=T)(_:T<=8)(_:0<=b)(_:b<=40)(_:∀(r:ζ) (ds:xD Df) (xs:xD V) (H':Hp),H' r=δ (.tup xs)->du H' ds xs->(ds.length:Int)=T->∀ns:xD Nat,uU ds ns->nK H' ds ns->ax H' p->aI p H H'->Q (.ref r) H')
def dG:aj ["_law_box_here","_law_total","_law_room","_law_words","_law_most","_law_heads","_law_k","_law_turn","_law_row","_law_some","_law_deep","_law_defs","_law_f","_law_params","_law_spare","_law_body_here"] z38z (ae Gi):=bQ
inductive AJ(p k:ζ)(T j:Int)(H:Hp)(b:_L.St)(c:Hp):Prop
 |mk(a:xD ρ)(d:b=[↑p,δ (.int T),δ (.int j),↑k,θ,θ,θ,θ,θ,θ,θ,θ,θ,θ,θ,θ])(e:c k=δ (.lst (a.map tz)))(f:ry a=20)(g:(∀y∈a,y.length<=20)/\(a.take 8).Nodup)(h:ax c p)(i:aI p H c)
inductive AI(p t k:ζ)(T s m:Int)(u:xD ρ)(H:Hp)(i:Nat)(v:_L.St)(a:Hp):Prop
 |mk(o q r:xL V)(l:xD (ρ×xD ρ))(n:xD V)(b:v=[↑p,δ (.int T),δ (.int s),↑t,δ (.int m),↑k,o,q,r,θ,θ,θ,θ,θ,θ,θ])(c:a k=δ (.lst n))(d:eV a l n)(e:ry l=i)(f:HP l/\l.map (·.1)=u.take i)(g:a t=δ (.lst (u.map tz)))(h:ax a p)(j:aI p H a)
inductive AK(p G y F h:ζ)(T E m:Int)(j:Nat)(I:xD ρ)(z:xD (ρ×xD ρ))(A:xD V)(H:Hp)(i:Nat)(J:_L.St)(g:Hp):Prop
 |mk(B C D b c e f:xL V)(k:xD Df)(l:xD V)(n:J=[↑p,δ (.int T),δ (.int E),↑G,δ (.int m),↑y,B,C,D,↑F,δ (.int (j:Int)),↑h,b,c,e,f])(o:g h=δ (.lst l))(q:du g k l)(r:ry k=i)(s:(∀d∈k,oI d/\d.b.Cs (z.map λc=>(c.1,c.2.length)))/\k.map Df.f=(z.map (·.1)).take i)(t:g y=δ (.lst A))(u:eV g z A)(v:g F=δ (.lst (I.map tz)))(w:ax g p)(x:aI p H g)(a:nK g k ((z.map λc=>c.2.length).take i))
inductive AL(v:xD (ρ×xD ρ))(D:xD ρ)(p C u z h B A:ζ)(T y m:Int)(i:Nat)(w x:xL V)(c:ρ×xD ρ)(e:Hp)(j:Nat)(E:_L.St)(d:Hp):Prop
 |mk(a:xL V)(f:ζ)(b:Bd)(g:xD V)(k:E=[↑p,δ (.int T),δ (.int y),↑C,δ (.int m),↑u,a,w,x,↑z,δ (.int (i:Int)),↑h,δ (.str c.1),↑B,↑A,↑f])(l:d f=δ (.tup g))(n:eL d b g)(o:(b.size:Int)+iK d A<=y/\0<=iK d A)(q:b.fit v D i)(r:ax d p)(s:eJ d A)(t:bf p A e d)
def Fe(F:xb K "_law_any" Gi f fd)(cT:‹1› fT j0 z0z bg "_law_take")(cA:‹2› fA j1 z27z iz "_law_names")(cB:‹21› fB j2 z5z (iN 6) "_law_body")(ml:mg "len"=θ)(mr:mg "range"=θ)(m0:mg "tuple"=θ)(mi:mg "int"=θ):⇑22 f fd z38z rP:=by
 erw[F.ok dG λj3 A o5 s H vs Q E hr h=>?_]
 symm;let#[p,T,X,Z,B,j4,j5,f4,j',q]:=h;erw[#[_,(jd (jA 3 dG.nd$ cA.e hr.m$ ja (pv 0)$ ja jf jb)$ jd (kc$ jy (zr$ cT.e hr.m$ ja (pv 0)$ ja jf jb) (jg$ zu (jI km (pv 3) jT$ jH jf)$ @xz _ _ _ _ _ _ _ _ _ (pv 3) jf jf (by intro _;rfl)) jp)$ jd (jA 4 dG.nd$ jq ju (jF$ ja jf$ ja jf jb) (jJ qI Z mi Wc$ ja (zS qr (cT.e hr.m$ ja (pv 0)$ ja jf jb) jf$ aF _) jb))$ jd (jA 5 dG.nd$ jF jb)$ jd (kf Po Z (zd Z mr$ ja (pv 1) jb) (jx (i:=6) dG.nd Z$ ω Z)$ jd (jA 7 dG.nd$ jv jY jf$ cT.e hr.m$ ja (pv 0)$ ja jf jb)$ jd (jA 8 dG.nd$ jv zG (jI km (pv 3) (jH$ pv 7)$ jH jf)$ jI km (pv 3) (jH jf)$ jH$ pv 7)$ jg$ jL$ jZ OV O8 O7 jQ (pv 5)$ ja (ji$ ja (jq ju (pv 3) (pv 6))$ ja (jJ jN Z m0 RI$ ja (jI km (pv 8) jT$ jH$ cT.e hr.m$ ja (pv 0)$ ja (pv 4) jb) jb) jb) jb)$ jd (jA 9 dG.nd$ jI km (pv 3) (jH jf)$ jH$ jv jY jf$ cT.e hr.m$ ja (pv 0)$ ja jf jb)$ jd (jA 10 dG.nd$ jq ju (jF$ ja jf$ ja jf$ ja jf$ ja jf jb) (cT.e hr.m$ ja (pv 0)$ ja jf jb))$ jd (jA 11 dG.nd$ jF jb)$ jd (kf Po Z (zw$ pv 5) (zV (n:=2) Z$ jD (jx (i:=12) dG.nd Z$ ω Z)$ jD (jx (i:=13) dG.nd Z$ ω Z) kB)$ jd (jA 14 dG.nd$ jF$ ja (pv 2) jb)$ jd (jA 15 dG.nd$ ji jb)$ jd (kf Po Z (zd Z mr$ ja jf jb) (jx (i:=6) dG.nd Z$ ω Z)$ jg$ jA 15 dG.nd$ jv jU (pv 15)$ cB.e hr$ ja (pv 0)$ ja (pv 9)$ ja (pv 5)$ ja (pv 14)$ ja (pv 10) jb)$ jg$ jL$ jZ OV O8 O7 jQ (pv 11)$ ja (ji$ ja (pv 12)$ ja (pv 13)$ ja (pv 15) jb) jb)$ jg$ jo$ jJ jN Z m0 RI$ ja (pv 11) jb),?_]];let l4:=aL;sleep 9;erw[iw λE1 m1=>?_];erw[#[_,Z,p,20,Z,B,Oa,Oa,λW ys H1 c2 f5 c3 C B1 k1=>?_]];erw[m1 _ _ ?_];left;erw[iw λE2 m2=>?_];let wp:W≠p:=B.ne c2;erw[eN (AJ p W T X H) (λE0 _ fm=>?_) λσ0 H2 l=>?_]
 .clear m2;left;erw[pU λG' g'=>#[_,Z,p,2,Z,B1,Oa,Oa,λd1 H2 l5 l6 B2 e2=>?_]];let Y:H2 W=δ (.lst$ ys.map tz):=by rw[e2 W wp];rwa[f5]
  let k2:=k1.trans (aI.of_eq e2);erw[#[Z,_,Z,g' _ _ ?_]];erw[cp (λc=>?_) (λc=>fm _ _ #[ys,Z,Y,N9,#[C.1,C.2.sublist$ RT _ _],B2,k2])];erw[#[_,Z,_,Z,W,_,Z,aK.of Y,λsl n0=>?_]];let f7:W≠sl:=λe=>by rw[<- e,Y]at n0;cases n0
  let l9:=B2.ne n0;erw[#[_,Z,W,sl,_,_,_,_,Z,Z,Z,Z,aq Y n0,jc,f7,Oa,Oa,by rw[OJ];omega,?_,?_]]
  .let:=zq (ys.map tz) θ (δ 2);rw[OJ]at this ⊢;omega
  let e2:aT (ys.map tz) θ (δ 2)=(ys.take 2).map tz:=by rw[show(2:Int)=((2:Nat):Int) from Z,Ij (by rw[OJ];omega),SX]
  erw[fm _ _ #[ys.take 8++ys.take 2++ys.drop 10,Z,?_,?_,?_,(B2.upd_new n0).eq$ jh$ Pk wp,?_]]
  .rw[jc,e2,O4,O4,SX,WA,SX];rfl
  .rw[OL,OL,Pf,Pf,Ry];omega
  .erw[#[λy hy=>?_,?_]]
   .symm;rcases bm.mp hy with h |h
    .rcases bm.mp h with h |h
     .rwa[C.1 y$ P0 h]
     .rwa[C.1 y$ P0 h]
    .rwa[C.1 y$ Vx h]
   .rw[Pt,List.take_append_of_le_length (by rw[Pf];omega),Wp];rwa[C.2.sublist$ RT _ _]
  .rwa[(k2.upd_new n0).upd_own c2]
 symm;let#[ys,Z,Y,c3,C,B2,k2]:=l;erw[m2 _ _ ?_];left;erw[iw λE3 m3=>?_];erw[#[cj,λl1 n7=>?_]];erw[#[_,Z,p,3,Z,B2.upd_new n7,Oa,Oa,λd2 H3 l' m' B3 e3=>?_]];let k3:aI p H2 H3:=((aI.refl).upd_new n7).trans (aI.of_eq e3);let l0:=B2.ne n7;let f9:H3 l1=δ (.lst [.int 4,.int 7]):=by rw[e3 l1 l0];rwa[jc]
 erw[#[Z,.inr #[_,Z,?_]]];let a4:∀c:Bool,∃m:Int,eW [tT 4,tT 7] (if c then 1 else 0)=δ (.int m)/\4<=m/\m<=7:=λc=>by
  symm;cases c
  .rwa[#[4,Z,Oa,Oa]]
  .rwa[#[7,Z,Oa,Oa]]
 symm;let#[m,hm,m4,m7]:=a4 _;erw[#[l1,_,_,_,Z,Z,aK.of f9,hm,?_]];erw[m3 _ _ ?_];left;erw[iw λE4 m4=>?_];let c4:H3 W=δ (.lst$ ys.map tz):=k3 _ _ wp Y;let k0:=k2.trans k3;erw[#[OS _,λhl n1=>?_]];erw[m4 _ _ ?_];left;erw[iw λE5 m5=>?_];let h0:=B3.ne n1;let n5:H hl=θ:=by
  cases z:H hl with
  |none=>rfl
  |some o=>have:=k0 _ _ h0 z;rw[n1]at this;symm;cases this
 let wh:W≠hl:=λe=>by rw[<- e,c4]at n1;cases n1
 erw[eX λJ j=>#[_,Z,T,Z,N9,N9,j _ _ ?_]];refine zc (lo:=0) (AI p W hl T X m ys H)
  #[θ,θ,θ,[],[],Z,jc,Z,Z,#[(λc hc=>nomatch hc),Z],aq c4 n1,B3.upd_new n1,k0.upd_own n5] ?_ ?_
 .intro D' _ i σ H4 hi f0 Gq u l;symm;let#[o6,o7,o8,hs,hv,Z,a5,h5,c5,h6,a',B4,k4]:=l;erw[u ?_];show eQ (eK _ _) _ D' _ _;sleep 2;erw[iw λF1 f1=>?_];erw[#[_,Z,p,6,Z,B4,Oa,Oa,λD H5 f' g0 B5 e5=>?_]];let k5:aI p H4 H5:=aI.of_eq e5;let h7:=k5 _ _ wp a';let b1:=k5 _ _ h0 a5;let b2:=h5.mono (k5.tm B4);erw[#[_,_,Z,Z,?_]];erw[f1 _ _ ?_];show eQ (eK _ _) _ D' _ _;erw[iw λF2 f2=>?_];erw[#[_,Z,_,Z,_,Z,_,Z,W,_,Z,aK.of h7,λs1 n'=>?_]];erw[#[_,Z,_,Z,_,Z,_,Z,W,_,Z,aK.of$ aq h7 n',λs2 b3=>?_]];let L1:=qA ys (δ (8+D)) (δ 14);let L0:=qA ys (δ 8) (δ (8+D));let L3:=zq (ys.map tz) (δ (8+D)) (δ 14);let L4:=zq (ys.map tz) (δ 8) (δ (8+D));rw[OJ]at L3 L4;erw[#[s1,s2,_,_,Z,Z,aq jc b3,jc,N9,λrl c6=>?_]];erw[f2 _ _ ?_];let er:aT (ys.map tz) (δ (8+D)) (δ 14)++aT (ys.map tz) (δ 8) (δ (8+D))=(bK ys (δ (8+D)) (δ 14)++bK ys (δ 8) (δ (8+D))).map tz:=by rw[zN,zN,O4]
  let s6:aa H5 (af (af (af H5 s1$ .lst$ aT (ys.map tz) (δ (8+D))$ δ 14) s2$ .lst$ aT (ys.map tz) (δ 8)$ δ (8+D)) rl$ .lst$ aT (ys.map tz) (δ (8+D)) (δ 14)++aT (ys.map tz) (δ 8) (δ (8+D))):=((je n').trans$ je b3).trans (je c6);let r6:af (af (af H5 s1$ .lst$ aT (ys.map tz) (δ (8+D))$ δ 14) s2$ .lst$ aT (ys.map tz) (δ 8)$ δ (8+D)) rl (.lst$ aT (ys.map tz) (δ (8+D)) (δ 14)++aT (ys.map tz) (δ 8) (δ (8+D))) rl=δ (.lst ((bK ys (δ (8+D)) (δ 14)++bK ys (δ 8) (δ (8+D))).map tz)):=by rw[jc,er]
  let B6:ax (af (af (af H5 s1$ .lst$ aT (ys.map tz) (δ (8+D))$ δ 14) s2$ .lst$ aT (ys.map tz) (δ 8)$ δ (8+D)) rl$ .lst$ aT (ys.map tz) (δ (8+D)) (δ 14)++aT (ys.map tz) (δ 8) (δ (8+D))) p:=((B5.upd_new n').upd_new b3).upd_new c6;generalize af (af (af H5 s1$ .lst$ aT (ys.map tz) (δ (8+D))$ δ 14) s2$ .lst$ aT (ys.map tz) (δ 8)$ δ (8+D)) rl (.lst$ aT (ys.map tz) (δ (8+D)) (δ 14)++aT (ys.map tz) (δ 8) (δ (8+D)))=H6 at s6 r6 B6;let LR:(bK ys (δ (8+D)) (δ 14)++bK ys (δ 8) (δ (8+D))).length<=40:=by rw[OL];omega
  generalize bK ys (δ (8+D)) (δ 14)++bK ys (δ 8) (δ (8+D))=r0 at r6 LR;let c9:=s6 _ _ h7;let h8:=s6 _ _ b1;let ei:(0:Int)+(i:Int)=(i:Int):=Int.zero_add _;rw[ei];symm;obtain⟨y,b4⟩:∃y,ys[i]?=δ y:=#[_,OG (by omega:i < ry ys)];let hy:=Pd b4;let a4:eW (ys.map tz) (i:Int)=δ (.str y):=jG (by rw[O2,b4];rfl);let rp:rl≠p:=qx B6 r6;erw[#[_,Z,.inl #[Z,_,aK.of h8],_,Z,_,Z,W,_,_,_,Z,Z,aK.of c9,a4,_,Z,_,Z,_,Z,p,m,Z,B6,N9,N9,λd7 H7 d0 d4 B7 e7=>?_]];let k7:aI p H6 H7:=aI.of_eq e7;erw[#[_,Z,rl,_,Z,aK.of$ k7 _ _ rp r6,λs3 c'=>?_]];erw[#[s3,_,Z,.inl #[aK.of jc,λt nt=>#[cj,λr nr=>?_]]]];rw[zN]at nt nr ⊢;let L8:=AG (ss:=r0) d0;generalize bK r0 θ (δ d7)=ps at*;let s8:aa H7 (af (af (af H7 s3$ .lst$ ps.map tz) t$ .tup$ ps.map tz) r$ .tup [.str y,.ref t]):=((je c').trans$ je nt).trans (je nr);let t8:af (af (af H7 s3$ .lst$ ps.map tz) t$ .tup$ ps.map tz) r (.tup [.str y,.ref t]) t=δ (.tup$ ps.map tz):=aq jc nr;let r8:af (af (af H7 s3$ .lst$ ps.map tz) t$ .tup$ ps.map tz) r (.tup [.str y,.ref t]) r=δ (.tup [.str y,.ref t]):=jc;let B8:ax (af (af (af H7 s3$ .lst$ ps.map tz) t$ .tup$ ps.map tz) r$ .tup [.str y,.ref t]) p:=((B7.upd_new c').upd_new nt).upd_new nr;generalize af (af (af H7 s3$ .lst$ ps.map tz) t$ .tup$ ps.map tz) r (.tup [.str y,.ref t])=R at s8 t8 r8 B8;let d6:=s8 _ _ (k7 _ _ h0 h8);let g1:=s8 _ _ (k7 _ _ wp c9);let h4:=h5.len;erw[#[hl,_,_,Z,Z,d6,N9,?_]];let tm:am R (af R hl$ .lst$ hv++[.ref r]):=λb xs e=>by rw[jh$ jM e d6 nofun];rwa[e]
  let g2:=((b2.mono$ aa.tm s6).mono$ k7.tm B6).mono (aa.tm s8);erw[f0 _ _ #[_,_,_,hs++[(y,ps)],_,Z,jc,(g2.mono tm).snoc #[r,t,Z,tm _ _ r8,tm _ _ t8],by rw[OL,c5];rfl,#[Jr h6.1 #[C.1 y hy,by show ry ps<=6;omega],by rw[O4,h6.2,Sl,b4];rfl],by rw[jh wh];rwa[g1],B8.eq$ jh$ Pk h0,?_]];erw[aI.upd_own (λb o n e=>?_) n5];rwa[s8 _ _$ k7 _ _ n$ s6 _ _$ k5 _ _ n$ k4 _ _ n e]
 intro σ H4 l;symm;obtain⟨o6,o7,o8,hs,hv,rfl,a5,h5,c5,⟨h6,d8⟩,a',B4,k4⟩:=l;erw[m5 _ _ ?_];left;erw[iw λE6 m6=>?_];erw[#[_,Z,_,Z,_,Z,p,7,Z,B4,Oa,Oa,λD H5 f' g0 B5 e5=>?_]];let k5:aI p H4 H5:=aI.of_eq e5;let h7:=k5 _ _ wp a';let b1:=k5 _ _ h0 a5;let b2:=h5.mono (k5.tm B4);erw[#[_,_,Z,Z,_,Z,W,_,Z,aK.of h7,λsm n3=>?_]];erw[m6 _ _ ?_];left;erw[iw λE7 m7=>?_];symm;let#[z1,z2]:=vw (ys:=ys) (k:=14+D) c3 N9 N9;let m6:af H5 sm (.lst$ aT (ys.map tz) (δ 8)$ δ (14+D)) sm=δ (.lst ((bK ys (δ 8)$ δ (14+D)).map tz)):=by rw[jc,zN]
 let k6:aI p H (af H5 sm$ .lst$ aT (ys.map tz) (δ 8)$ δ (14+D)):=(k4.trans k5).upd_new n3;let h8:=aq (o:=.lst (aT (ys.map tz) (δ 8)$ δ (14+D))) b1 n3;let d':=b2.mono (aa.tm$ je (o:=.lst (aT (ys.map tz) (δ 8)$ δ (14+D))) n3);let B6:=B5.upd_new (o:=.lst (aT (ys.map tz) (δ 8)$ δ (14+D))) n3;right;generalize af H5 sm (.lst$ aT (ys.map tz) (δ 8)$ δ (14+D))=H6 at m6 k6 h8 d' B6;generalize bK ys (δ 8) (δ (14+D))=zs at m6 z1 z2;let s':=qx B6 m6;erw[#[sg,λl2 b5=>?_]];erw[#[_,Z,p,4,Z,B6.upd_new b5,Oa,Oa,λd7 H7 d0 d4 B7 e7=>?_]];let k7:aI p H6 H7:=((aI.refl).upd_new b5).trans (aI.of_eq e7);let l3:=B6.ne b5;let g4:H7 l2=δ (.lst [.int 3,.int 3,.int 3,.int 5]):=by rw[e7 l2 l3];rwa[jc]
 symm;let#[dp,g5,g6,o',p1]:=AO d0 d4;erw[#[l2,_,_,_,Z,Z,aK.of g4,g5,?_]];erw[m7 _ _ ?_];left;erw[iw λE8 m8=>?_];let m7:=k7 _ _ s' m6;let b7:=k7 _ _ h0 h8;let g7:=d'.mono (k7.tm B6);let k9:=k6.trans k7;erw[#[OS _,λdl N=>?_]];erw[m8 _ _ ?_];left;erw[iw λE9 m9=>?_];let d3:=B7.ne N;let n6:H dl=θ:=by
  cases z:H dl with
  |none=>rfl
  |some o=>have:=k9 _ _ d3 z;rw[N]at this;symm;cases this
 let e0:hl≠dl:=λe=>by rw[<- e,b7]at N;cases N
 let s5:sm≠dl:=λe=>by rw[<- e,m7]at N;cases N
 let p2:=h5.len;erw[eX λJ j=>#[_,Z,hl,Z,#[_,aK.of$ aq b7 N],j _ _ ?_]];refine JL (K:=K) (a:=hl) (xs:=hv) (AK p W hl sm dl T X m dp zs hs hv H)
  #[_,_,_,_,_,_,_,[],[],Z,jc,Z,Z,#[(λc hc=>nomatch hc),Z],aq b7 N,g7.mono$ aa.tm$ je N,aq m7 N,B7.upd_new N,k9.upd_own n6,#[Z,(λi d n h=>nomatch h)]] ?_ ?_ ?_
 .intro i σ R _ l;symm;let#[o6,o7,o8,o1,o2,o3,o4,ds,dv,Z,h4,hD,h',x,hh,hd,b8,B8,k8,p0]:=l;rwa[aK.of hh]
 .intro D' _ i v σ R hx f0 Gq u l;symm;let#[o6,o7,o8,o1,o2,o3,o4,ds,dv,Z,h4,hD,h',x,hh,hd,b8,B8,k8,p0]:=l;let p3:i < ry hv:=(ξ.mp hx).1;let#[c,hc,q0,t0,Z,w1,w2]:=hd.at i v hx;erw[u ?_];let g8:=Pd hc;let e4:=h6 c g8;erw[NV λF6 f6=>#[q0,_,Z,aC.of w1,Z,_,_,Z,_,_,Z,Z,f6 _ _ ?_]];show eQ (eK _ _) _ D' _ _;sleep 3;erw[iw λF1 f1=>?_];erw[#[_,Z,iZ,λM n2=>?_]];erw[f1 _ _ ?_];show eQ (eK _ _) _ D' _ _;erw[iw λF2 f2=>?_];erw[#[g9,λb0 n4=>?_]];erw[f2 _ _ ?_];left;show eQ (GZ _ _ _) _ D' _ _;erw[iw λF3 f3=>?_];let s9:aa R (af (af R M$ .lst [.int X]) b0$ .tup []):=(je n2).trans (je n4);let s4:eJ (af (af R M$ .lst [.int X]) b0$ .tup []) M:=#[X,aq jc n4];let b9:af (af R M$ .lst [.int X]) b0 (.tup []) b0=δ (.tup []):=jc;let B9:ax (af (af R M$ .lst [.int X]) b0$ .tup []) p:=(B8.upd_new n2).upd_new n4;let e9:iK (af (af R M$ .lst [.int X]) b0$ .tup []) M=X:=JD (aq jc n4);generalize af (af R M$ .lst [.int X]) b0 (.tup [])=H9 at s9 s4 b9 B9 e9;let e6:H M=θ:=by
   cases z:H M with
   |none=>rfl
   |some o=>have:=k8 _ _ (B8.ne n2) z;rw[n2]at this;symm;cases this
  let i0:dl≠M:=λe=>by rw[<- e,h4]at n2;cases n2
  let G9:oE H9 p sm hl M zs hs:=#[B9,s9 _ _ b8,z1,z2,#[hv,s9 _ _ hh,hd.mono$ aa.tm s9],N9,N9,λc hc=>(h6 c hc).2,s4];erw[eX λJ j=>#[_,Z,Oa,Oa,j _ _ ?_]];refine zc (lo:=0) (AL hs zs p W hl sm dl t0 M T X m dp o7 o8 c H9)
   #[_,b0,.nil,[],Z,b9,Z,(by rw[e9];rwa[#[by show((0:Nat):Int)+_<=_;omega,f4]]),Z4,B9,s4,bf.refl] ?_ ?_
  .intro D0 _ j σ G hj fin2 Gq u l;symm;let#[o9,bb,Bb,bs,Z,b',a0,a1,I,B',U,L]:=l;erw[u ?_];let G0:=G9.but2 B' U L;erw[#[_,Z,_,Z,_,Z,_,Z,_,Z,_,Z,p,sm,hl,M,dp,zs,hs,Z,G0,g6,a1.2,λr b p4 H0 tq a3 i1 c0 c1 a2 S k'=>?_]];let tm:=k'.tm B' U;let lb:=a0.len;let p5:=a3.len;symm;let#[i2,i3]:=a1;erw[#[bb,r,_,_,Z,Z,tm _ _ b',tq,N9,λr2 H' e8 s0=>?_]];let i4:ax H' p:=by let#[a,b,h1,h2,h3,h]:=a2.ob;rwa[#[a,b,h1,h2,h3,s0 _ _ h]]
   let s7:eJ H' M:=by let#[z,hz]:=S;rwa[#[z,s0 _ _ hz]]
   erw[fin2 _ _ #[_,r2,Bb.app b,_,Z,e8,(a3.mono$ aa.tm s0).app ((a0.mono tm).mono$ aa.tm s0),?_,Z5 I c1,i4,s7,L.trans$ k'.trans$ bf.of_same s0]];rw[j6,kr S s0];rwa[#[N9,c0]]
  .intro σ G l;symm;let#[o9,bb,Bb,bs,Z,b',a0,a1,I,B',U,L]:=l;erw[f3 _ _ ?_];left;let O:G dl=δ (.lst dv):=L _ _ d3 i0 (s9 _ _ h4);let G0:=G9.but2 B' U L;let t3:am R G:=λb xs e=>L.tm B9 s4 _ _ (s9 _ _ e);erw[#[_,Z,.inl #[Z,_,aK.of O],_,Z,_,Z,_,Z,iF,λr nr=>?_]];let S:aa G (af G r$ .tup [.str c.1,.ref t0,.ref bb]):=je nr;let i':=hD.len;let e':Bb.size<=40:=by let#[i2,i3]:=a1;omega
   erw[#[dl,_,_,Z,Z,S _ _ O,N9,?_]];let tq:af G r (.tup [.str c.1,.ref t0,.ref bb]) r=δ (.tup [.str c.1,.ref t0,.ref bb]):=jc;let a2:=B'.upd_new (o:=.tup [.str c.1,.ref t0,.ref bb]) nr;generalize af G r (.tup [.str c.1,.ref t0,.ref bb])=H0 at S tq a2;let tm:am H0 (af H0 dl$ .lst$ dv++[.ref r]):=λb xs e=>by rw[jh$ jM e (S _ _ O) nofun];rwa[e]
   let t2:am G (af H0 dl$ .lst$ dv++[.ref r]):=λb xs e=>tm _ _ (S _ _ e);let t1:am R (af H0 dl$ .lst$ dv++[.ref r]):=λb xs e=>t2 _ _ (t3 _ _ e);erw[f0 _ _ #[_,_,_,_,_,_,_,ds++[#[c.1,r,t0,bb,Bb]],_,Z,jc,(hD.mono t1).snoc #[bs,Z,tm _ _ tq,t2 _ _ b',a0.mono t2],by rw[OL,h'];rfl,#[Jr x.1 #[#[#[zs,z2,I.1.1],Rm I.2 N9,O1 e' Oa],I.1.2],by rw[O4,x.2,Sl,O2,hc];rfl],?_,hd.mono t1,?_,a2.eq$ jh$ Pk d3,?_,(by rw[Sl,O2,hc];rwa[(p0.mono t1).snoc (d:=#[c.1,r,t0,bb,Bb]) (t1 _ _ w2) (O1 e4.2 Oa)])]]
   .symm;let#[p6,e1,e2]:=G0.h;right;rw[jh e0];rwa[S _ _$ L _ _ G9.hsp.2 G9.hsp.1$ s9 _ _ hh]
   .rw[jh s5];rwa[S _ _ G0.g]
   .erw[aI.upd_own (λb o n e=>?_) n6];rwa[S _ _$ L _ _ n (jk e e6)$ s9 _ _$ k8 _ _ n e]
 .intro σ R l;symm;let#[o6,o7,o8,o1,o2,o3,o4,ds,dv,Z,h4,hD,h',x,hh,hd,b8,B8,k8,p0]:=l;erw[m9 _ _ ?_];left;erw[#[_,Z,dl,dv,Z,.inl #[aK.of h4,λt nt=>?_]]];let nn:(ds.map Df.f).Nodup:=by
   rw[x.2,d8];erw[List.Nodup.sublist (RT _ _) ?_];let e:∀m,m<=8->ys.take m=(ys.take 8).take m:=λm hm=>by rw[Wp,RS hm]
   rw[e _ N9];rwa[C.2.sublist$ RT _ _]
  rwa[q t ds dv _ jc (hD.mono$ aa.tm$ je nt) N9 (hs.map λc=>c.2.length) #[λd hd=>#[(x.1 d hd).1,by let e:=x.2;rw[RE (by rw[OJ];omega)]at e;rw[e];let z:=(x.1 d hd).2;rw[show(hs.map λc=>(c.1,c.2.length))=(hs.map (·.1)).zip (hs.map λc=>c.2.length) by rw[List.zip_map']]at z;rwa[z]],nn,λy hy=>by rw[x.2,d8]at hy;rwa[C.1 y$ P0$ P0 hy]] (by let z:=p0.mono (aa.tm$ je (o:=.tup dv) nt);rw[RE (by rw[OJ];omega)]at z;rwa[z]) (B8.upd_new nt) (k8.upd_new nt)]
def g9:0<=τ:=by decide
def iZ:1<=τ:=by decide
def cj:2<=τ:=by decide
def iF:3<=τ:=by decide
def sg:4<=τ:=by decide
def am.trans(a:am H h)(b:am h d):am H d:=λc x e=>b c x (a c x e)
def am.refl:am H H:=λ_ _ e=>e
def iI(H:Hp)(y:xD ρ)(k:Nat)(a:ζ):Prop:=∃T,bJ H T a/\T.Good y/\T.depth<=k
def iI.mono(h:iI H y k a)(m:am H b):iI b y k a:=let #[T,c,d]:=h;#[T,c.mono m,d]
def iI.ok(h:iI H y k a)(m:k < 6):∃T,bJ H T a/\dY y T:=let #[T,b,c,d]:=h;#[T,b,c,Rm d m]
section
variable {Cf:lD}{H:Hp}{ys:xD ρ}
def Hf(h:H a=δ (.tup [.str "num",.int n]))(b:0<=n)(c:n < 1000000000000000000):iI H ys 0 a:=#[.num n,h,#[b,c],OS _]
def yX(h:H a=δ (.tup [.str "var",.str x]))(b:x∈ys):iI H ys 0 a:=#[.var x,h,b,OS _]
def Sg(s:ρ):Prop:=∃i,i < 6/\s=MZ i
def DY(h:H a=δ (.tup [.str "op",.str s,.ref b,.ref c]))(d:Sg s)(e:iI H ys j b)(f:iI H ys k c)(q:j < n)(r:k < n):iI H ys n a:=by let#[i,g,Z]:=d;let#[B,l,m,t]:=e;let#[C,o,p,u]:=f;rwa[#[.op i B C,#[b,c,h,l,o],#[g,m,p],by show max B.depth C.depth+1<=n;omega]]
def zA:Sg "+":=#[0,Oa,N7]
def X8:Sg "-":=#[1,Oa,N7]
def X9:Sg "*":=#[2,Oa,N7]
def CD:Sg "/":=#[3,Oa,N7]
def Xt:Sg "<":=#[4,Oa,N7]
def Ls:Sg "=":=#[5,Oa,N7]
def BR(h:0<=d)(a:d < 4):∃s,eW [tz "+",.str "+",.str "*",.str "-"] d=δ (.str s)/\Sg s:=by
 rcases(by omega:d=0\/d=1\/d=2\/d=3) with rfl |rfl |rfl |rfl
 .rwa[#[_,Z,zA]]
 .rwa[#[_,Z,zA]]
 .rwa[#[_,Z,X9]]
 .rwa[#[_,Z,X8]]
def BQ(h:0<=d)(a:d < 3):∃c,eW (Str.cps "<=*").toList d=δ c/\Sg #[(ε [c])]:=by
 rcases(by omega:d=0\/d=1\/d=2) with rfl |rfl |rfl
 .rwa[#[_,Z,Xt]]
 .rwa[#[_,Z,Ls]]
 .rwa[#[_,Z,X9]]
def IZ{P:ζ->Prop}(e:0<=d)(f:d < 2)(h:P a)(c:P b):∃x,eW [vr a,.ref b] d=↑x/\P x:=by
 rcases(by omega:d=0\/d=1) with rfl |rfl
 .rwa[#[_,Z,h]]
 .rwa[#[_,Z,c]]
def I0{P:ζ->Prop}(g:0<=d)(i:d < 3)(h:P a)(e:P b)(f:P c):∃x,eW [vr a,.ref b,.ref c] d=↑x/\P x:=by
 rcases(by omega:d=0\/d=1\/d=2) with rfl |rfl |rfl
 .rwa[#[_,Z,h]]
 .rwa[#[_,Z,e]]
 .rwa[#[_,Z,f]]
def I8{P:ζ->Prop}(h:P a)(d:P b)(c:Bool):∃x,eW [vr a,.ref b] (if c then 1 else 0)=↑x/\P x:=by
 cases c
 .rwa[#[_,Z,h]]
 .rwa[#[_,Z,d]]
def dy(Cf:lD)(H:Hp)(ys:xD ρ)(d:Nat)(v:V):Prop:=∃s,i8 H v s/\(s.Ok ys/\s.Cs Cf)/\s.dep<=d/\s.size<=1+20*d
def iT(Cf:lD)(H:Hp)(ys:xD ρ)(d:Nat)(x:xD V):Prop:=∃b,eL H b x/\(b.Ok ys/\b.Cs Cf)/\b.dep<=d/\b.size<=(1+20*d)*ry x
def dy.mono(h:dy Cf H ys d v)(m:am H a):dy Cf a ys d v:=let #[s,b,c]:=h;#[s,b.mono m,c]
def iT.mono(h:iT Cf H ys d x)(m:am H a):iT Cf a ys d x:=let #[s,b,c]:=h;#[s,b.mono m,c]
def dy.up(h:dy Cf H ys 0 v):dy Cf H ys d v:=let #[s,a,b,c,e]:=h;#[s,a,b,N9,N9]
def KC:iT Cf H ys d []:=#[.nil,Z,#[trivial,trivial],OS _,OS _]
def JE{xs:xD V}(h:iT Cf H ys d xs)(g:iT Cf H ys d z):iT Cf H ys d (xs++z):=by let#[a,c,A,f,i]:=h;let#[b,e,B,j,k]:=g;erw[#[a.app b,e.app c,#[KA A.1 B.1,Kz A.2 B.2],by rw[zz];omega,?_]];rw[j6,OL,Nat.mul_add];omega
def zI(h:dy Cf H ys d v):iT Cf H ys d [v]:=by let#[s,a,b,c,e]:=h;rwa[#[s,a.bd,b,c,by show s.size<=(1+20*d)*1;omega]]
def jX(h:dy Cf H ys d v)(g:iT Cf H ys d xs):iT Cf H ys d (v::xs):=JE (xs:=[v]) (zI h) g
def XJ{l:Lf}(h:H p=δ (.tup v))(a:Aq H l v)(b:l.Ok ys)(c:l.Cs Cf):dy Cf H ys 0 (.ref p):=#[.lf p l .nil,.lf p l v h a,#[#[b,trivial],c,trivial],OM 0,OM 1]
def LA(h:H p=δ (.tup [.str "read",.str x,.ref t]))(a:x∈ys)(b:iI H ys k t)(c:↥(k < 6)):dy Cf H ys 0 (.ref p):=by let#[T,d,e]:=b.ok c;rwa[XJ (l:=.rd x t T) h #[Z,d] #[a,e] trivial]
def LB(h:H p=δ (.tup [.str "set",.str x,.ref t]))(a:x∈ys)(b:iI H ys k t)(c:↥(k < 6)):dy Cf H ys 0 (.ref p):=by let#[T,d,e]:=b.ok c;rwa[XJ (l:=.st x t T) h #[Z,d] #[a,e] trivial]
def Lx(h:H p=δ (.tup [.str "give",.ref t]))(a:iI H ys k t)(b:↥(k < 6)):dy Cf H ys 0 (.ref p):=by let#[T,c,d]:=a.ok b;rwa[XJ (l:=.gv t T) h #[Z,c] d trivial]
def LC(h:H p=δ (.tup [.str "write",.ref t,.ref u]))(a:iI H ys k t)(b:iI H ys j u)(c:↥(k < 6))(d:↥(j < 6)):dy Cf H ys 0 (.ref p):=by let#[T,e,f]:=a.ok c;let#[U,g,i]:=b.ok d;rwa[XJ (l:=.wr t u T U) h #[Z,e,g] #[f,i] trivial]
def Lw{f:ρ}(h:H p=δ (.tup [.str "call",.str x,.str f,.ref q]))(b:x∈ys)(a:(f,2)∈Cf)(d:H q=δ (.tup [.ref t,.ref u]))(e:iI H ys k t)(g:iI H ys j u)(i:↥(k < 6))(m:↥(j < 6)):dy Cf H ys 0 (.ref p):=by
 let#[T,n,o]:=e.ok i;let#[U,r,s]:=g.ok m;erw[XJ (l:=.cl x f q [(t,T),(u,U)]) h #[Z,d,λc hc=>?_] #[b,(by show 2<=6;decide),λc hc=>?_] a]
 .rcases Ξ.mp hc with rfl |hc
  .rwa[n]
  .rw[χ.mp hc];rwa[r]
 .rcases Ξ.mp hc with rfl |hc
  .rwa[o]
  .rw[χ.mp hc];rwa[s]
def Lz(h:H p=δ (.tup [.str "if",.ref t,.ref q,.ref Q]))(e:iI H ys k t)(f:H q=δ (.tup A))(g:H Q=δ (.tup B))(G:iT Cf H ys 0 A)(i:iT Cf H ys 0 B)(r:ry A+B.length<=20)(j:↥(k < 6)):dy Cf H ys 1 (.ref p):=by let#[T,l,m]:=e.ok j;let#[a,n,c,s,u]:=G;let#[b,o,d,v,x]:=i;rwa[#[.ite p t T a b .nil,.ite p t T a b q Q A B h l f g n o,#[#[m,c.1,d.1,trivial],c.2,d.2,trivial],(by show max (max a.dep b.dep+1) 0<=1;omega),(by show a.size+b.size+0+1<=21;omega)]]
def yH(h:H p=δ (.tup [.str "while",.ref t,.ref q]))(c:iI H ys k t)(d:H q=δ (.tup A))(g:iT Cf H ys 0 A)(l:A.length<=20)(e:↥(k < 6)):dy Cf H ys 1 (.ref p):=by let#[T,f,i]:=c.ok e;let#[a,j,b,m,n]:=g;rwa[#[.loop p t T a .nil,.loop p t T a q A h f d j,#[#[i,b.1,trivial],b.2,trivial],(by show max (a.dep+1) 0<=1;omega),(by show a.size+0+1<=21;omega)]]
def uP(Cf:lD)(n:Nat)(H:Hp)(r:ζ)(f:ρ):Prop:=∃d:Df,C5 H d (.ref r)/\(oI d/\d.b.Cs Cf)/\∃p:xD ρ,H d.pa=δ (.tup$ p.map tz)/\ry p=n/\d.f=f
def uP.mono(h:uP Cf n H r f)(m:am H a):uP Cf n a r f:=let #[d,b,c,p,e,g]:=h;#[d,b.mono m,c,p,m _ _ e,g]
def Iu{f:ρ}{p:xD ρ}(h:H r=δ (.tup [.str f,.ref a,.ref b]))(d:H a=δ (.tup$ p.map tz))(e:ry p=n)(i:H b=δ (.tup x))(g:iT Cf H ys 1 x)(l:ry x<=100)(j:ys.length<=20):uP Cf n H r f:=by let#[c,k,C,m,o]:=g;rwa[#[#[f,r,a,b,c],#[x,Z,h,i,k],#[#[#[ys,j,C.1],(by show c.dep < 8;omega),(by show c.size<=3000;omega)],C.2],p,d,e,Z]]
structure Wd(H0 H:Hp)(p wl:ζ)(ys:xD ρ):Prop where
 B:ax H p
 K:aI p H0 H
 w:H wl=δ (.lst$ ys.map tz)
def Wd.np(h:Wd b H p a ys):a≠p:=qx h.B h.w
def Wd.same(h:Wd a H p b ys)(s:aa H c):Wd a c p b ys:=#[h.B.same s,h.K.trans$ aI.of_same s,s _ _ h.w]
def Wd.but(h:Wd b H p c ys)(B:ax a p)(k:aI p H a):Wd b a p c ys:=#[B,h.K.trans k,k _ _ h.np h.w]
def Wd.own{xs:xD V}(h:Wd a H p b ys)(n:a l=θ)(L:l≠p)(c:l≠b):Wd a (af H l$ .lst z) p b ys:=#[h.B.eq$ jh$ Pk L,h.K.upd_own n,by rw[jh$ Pk c];rwa[h.w]]
def Xc(h:H l=δ (.lst x)):am H (af H l$ .lst a):=λb u e=>by rw[jh$ jM e h nofun];rwa[e]
end
inductive om(d:xD V)(H:Hp)(Q:VK)(c:XK):Prop
 |mk(p a b:ζ)(e:xD ρ)(k:Nat)(_:d=[.ref p,.ref a,.ref b])(_:ax H p)(_:iI H e k a)(_:iI H e k b)(_:∀(r:ζ) (H':Hp),iI H' e (k+1) r->ax H' p->aI p H H'->Q (.ref r) H')
inductive dU(n:Nat)(b:xD V)(H:Hp)(Q:VK)(a:XK):Prop
 |mk(p c:ζ)(f g:ρ)(d:xD ρ)(_:b=[.ref p,.str f,.str g,.ref c])(_:ax H p)(_:H c=δ (.lst (d.map tz)))(_:ry d=6)(_:∀(r:ζ) (H':Hp),uP [(g,2)] n H' r f->ax H' p->aI p H H'->Q (.ref r) H')
abbrev MW:cc:=bV 69
abbrev pi:cc:=bV 70
abbrev i9:cc:=bV 71
abbrev ik:cc:=bV 72
abbrev xP:cc:=bV 73
def MQ{A:xD V}(h:ry A=5):∃a b c d e,A=[a,b,c,d,e]:=by
 cases A with
 |nil=>cases h
 |cons a r=>
  cases r with
  |nil=>cases h
  |cons b R=>
   cases R with
   |nil=>cases h
   |cons c f=>
    cases f with
    |nil=>cases h
    |cons d g=>
     cases g with
     |nil=>cases h
     |cons e i=>
      cases i with
      |nil=>rwa[#[a,b,c,d,e,Z]]
      |cons _ _=>cases h
def NJ{n:Nat}:oX (n+1) 0=δ 0:=by unfold oX;rw[OT Oa,OT N9];rfl
def NK{n:Nat}:oX (n+2) 1=δ 1:=by unfold oX;rw[OT Oa,OT N9];rfl
def gQ:eW (v::u::y) 1=δ u:=jG (j:=1) Z
structure Fw(p:ζ)(H H':Hp):Prop where
 t:am H H'
 b:aI p H H'
def Fw.refl:Fw p H H:=#[am.refl,aI.refl]
def Fw.trans(a:Fw p H h)(b:Fw p h c):Fw p H c:=#[a.t.trans b.t,a.b.trans b.b]
def Fw.new{p:ζ}{H:Hp}{o:HO}(n:H r=θ):Fw p H (af H r o):=#[aa.tm$ je n,aI.of_same$ je n]
def Fw.same(s:aa H h):Fw p H h:=#[aa.tm s,aI.of_same s]
def Fw.but(B:ax H p)(c:aI p H h):Fw p H h:=#[c.tm B,c]
def pJ(P:Hp->V->Prop):Prop:=∀H h v,am H h->P H v->P h v
def Ev(a:Hp)(p W:ζ)(y:xD ρ)(b:Hp)(c:_L.St)(t:TE)(P:Hp->V->Prop):Prop:=∀(H:Hp) (Q:VK),Fw p b H->Wd a H p W y->(∀v h,P h v->Wd a h p W y->Fw p H h->Q v h)->t c H Q
def PT(y:xD ρ)(k:Nat)(H:Hp)(v:V):Prop:=∃a,v= .ref a/\iI H y k a
def PB(C:lD)(y:xD ρ)(d n:Nat)(H:Hp)(v:V):Prop:=∃a x,v= .ref a/\H a=δ (.tup x)/\iT C H y d x/\ry x<=n
def PN(y:xD ρ)(_:Hp)(v:V):Prop:=∃x,v= .str x/\x∈y
def PG(_:Hp)(v:V):Prop:=∃s,v= .str s/\Sg s
def PP(n:Nat)(H:Hp)(v:V):Prop:=∃(a:ζ) (x:xD ρ),v= .ref a/\H a=δ (.tup$ x.map tz)/\ry x=n
def Ar(y:ρ)(_:Hp)(v:V):Prop:=v= .str y
def PD(C:lD)(n:Nat)(f:ρ)(H:Hp)(v:V):Prop:=∃a,v= .ref a/\uP C n H a f
section
variable {Cf:lD}{ys:xD ρ}{H0 Hb:Hp}{p wl:ζ}{σ:_L.St}
def aB:pJ (PT ys k):=λ_ _ _ m #[a,e,h]=>#[a,e,h.mono m]
def eY:pJ (PB Cf ys d n):=λ_ _ _ m #[a,x,e,h,H,b]=>#[a,x,e,m _ _ h,H.mono m,b]
def fj:pJ λH v=>dy Cf H ys d v:=λ_ _ _ m h=>h.mono m
def mH:pJ (PD Cf n f):=λ_ _ _ m #[a,e,h]=>#[a,e,h.mono m]
def Ev.up{P R:Hp->V->Prop}(h:Ev H0 p wl ys Hb σ t P)(k:∀H v,P H v->R H v):Ev H0 p wl ys Hb σ t R:=λH Q m W q=>h H Q m W λv a x=>q v a (k _ _ x)
def jP{P:Hp->V->Prop}(e:σ[i]?=δ (δ v))(M:pJ P)(h:P Hb v):Ev H0 p wl ys Hb σ (bn i) P:=λH Q m W q=>#[v,e,q v H (M _ _ _ m.t h) W .refl]
def qt(h:Sg s):Ev H0 p wl ys Hb σ (tC$ .str s) PG:=λH Q m W q=>q _ H #[s,Z,h] W .refl
def kW{K:β}(e:σ[j]?=δ (↑wl))(a:0<=i)(b:i < (ys.length:Int)):Ev H0 p wl ys Hb σ (fg (md K) (bn j)$ tC$ .int i) (PN ys):=λH Q m W q=>by let#[y,c,h]:=Ky (ys:=ys) a b;rwa[#[_,e,wl,_,_,_,Z,Z,aK.of W.w,h,q _ H #[y,Z,c] W .refl]]
def kL{Q:VK}{P:Hp->V->Prop}(W:Wd H0 H p wl ys)(q:∀v h,P h v->Wd H0 h p wl ys->Fw p H h->Q v h)(n:H r=θ)(x:am H (af H r o)->af H r o r=δ o->P (af H r o) (.ref r)):Q (.ref r) (af H r o):=
 q _ _ (x (aa.tm$ je n) jc) (W.same$ je n) (.new n)
abbrev Ak(n:Int):TE:=ff bg [] E0 (ap (bn 0)$ ap (tC$ .int n) aZ)
def PK(n:Int)(_:Hp)(v:V):Prop:=∃d:Int,v= .int d/\0<=d/\d < n
def ze(e:σ[0]?=δ (↑p))(h:1<=n)(c:n<=1000):Ev H0 p wl ys Hb σ (Ak n) (PK n):=λH Q m W q=>
 #[_,e,p,n,Z,W.B,N9,N9,λd f D a b E=>q _ _ #[d,Z,D,a] (W.but b$ aI.of_eq E) (.but W.B$ aI.of_eq E)]
def kM(h:Ev H0 p wl ys Hb σ t (PK n))(g:n<=1000000000000000000):Ev H0 p wl ys Hb σ (cQ$ ap (tC$ .str "num")$ ap t aZ) (PT ys 0):=λH Q m W q=>
 h H _ m W λv i #[d,e,D,j] a b=>#[cj,λr N=>kL (P:=PT ys 0) a (λV c x f k=>q V c x f (b.trans k)) N λ_ z=>#[r,Z,Hf (by rw[z,e]) D N9]]
def Q9(h:0<=n)(a:n < m):Ev H0 p wl ys Hb σ (tC$ .int n) (PK m):=λH Q _ W q=>q _ H #[n,Z,h,a] W .refl
def Xd(h:Ev H0 p wl ys Hb σ t (PK n))(c:0<=m):Ev H0 p wl ys Hb σ (fg (Ai λi j=>tT (i+j)) (tC$ .int m) t) (PK$ m+n):=λH Q M W q=>
 h H _ M W λv a #[d,e,D,f] b k=>#[m,d,Z,e,q _ a #[m+d,Z,N9,N9] b k]
def Kn(h:Ev H0 p wl ys Hb σ t (PN ys)):Ev H0 p wl ys Hb σ (cQ$ ap (tC$ .str "var")$ ap t aZ) (PT ys 0):=λH Q m W q=>
 h H _ m W λv i #[d,e,a] b c=>#[cj,λr n=>kL (P:=PT ys 0) b (λV f x g k=>q V f x g (c.trans k)) n λ_ z=>#[r,Z,yX (by rw[z,e]) a]]
def qp{n:Nat}(h:Ev H0 p wl ys Hb σ T PG)(f:Ev H0 p wl ys Hb σ g (PT ys j))(i:Ev H0 p wl ys Hb σ l (PT ys k))(o:j < n)(u:k < n):Ev H0 p wl ys Hb σ (cQ$ ap (tC$ .str "op")$ ap T$ ap g$ ap l aZ) (PT ys n):=λH Q m W q=>
 h H _ m W λM v #[s,E,X] y c=>f v _ (m.trans c) y λO A #[a,B,C] D d=>i A _ ((m.trans c).trans d) D λR S #[b,F,G] I e=>#[sg,λr N=>kL (P:=PT ys n) I (λV J x L k=>q V J x L (((c.trans d).trans e).trans k)) N λt z=>
  #[r,Z,DY (by rw[z,E,B,F]) X ((C.mono e.t).mono t) (G.mono t) o u]]
def IB(e:σ[0]?=δ (↑p)):Ev H0 p wl ys Hb σ (fg BW (tC$ .str "<=*")$ Ak 3) PG:=λH Q m W q=>
 ze e Oa Oa H _ m W λv h #[d,E,D,a] b k=>by let#[g,i,x]:=BQ D a;rwa[#["<=*",d,g,Z,E,N7,i,q _ h #[_,Z,x] b k]]
def Zy{K:β}(e:σ[0]?=δ (↑p))(r:Ev H0 p wl ys Hb σ T (PT ys k))(s:Ev H0 p wl ys Hb σ u (PT ys k)):Ev H0 p wl ys Hb σ (fg (md K) (oA$ ap T$ ap u aZ)$ Ak 2) (PT ys k):=λH Q m W q=>
 r H _ m W λV y #[a,E,X] z c=>s y _ (m.trans c) z λA C #[b,D,F] h f=>#[cj,λl n=>ze e Oa Oa _ _ (((m.trans c).trans f).trans$ .new n) (h.same$ je n) λv G #[d,I,J,L] M j=>by
  let#[g,i,x]:=IZ (P:=iI C ys k) J L (X.mono f.t) F;rw[<- E,<- D]at i;let t:=(Fw.new (p:=p) (o:=HO.lst [V,A]) n).trans j;rwa[#[l,_,d,_,Z,I,aK.of$ j.b _ _ (h.B.ne n) jc,i,q _ G #[g,Z,x.mono t.t] M ((c.trans f).trans t)]]]
def Dk{K:β}(e:σ[0]?=δ (↑p))(u:Ev H0 p wl ys Hb σ T (PT ys k))(y:Ev H0 p wl ys Hb σ z (PT ys k))(A:Ev H0 p wl ys Hb σ C (PT ys k)):Ev H0 p wl ys Hb σ (fg (md K) (oA$ ap T$ ap z$ ap C aZ)$ Ak 3) (PT ys k):=λH Q m W q=>
 u H _ m W λV D #[a,E,X] F f=>y D _ (m.trans f) F λG I #[b,J,L] M h=>A I _ ((m.trans f).trans h) M λN O #[c,R,S] r j=>#[iF,λl n=>ze e Oa Oa _ _ ((((m.trans f).trans h).trans j).trans$ .new n) (r.same$ je n) λv U #[d,Y,d0,d1] W4 s=>by
  let#[g,i,x]:=I0 (P:=iI O ys k) d0 d1 (X.mono (h.trans j).t) (L.mono j.t) S;rw[<- E,<- J,<- R]at i;let t:=(Fw.new (p:=p) (o:=HO.lst [V,G,N]) n).trans s;rwa[#[l,_,d,_,Z,Y,aK.of$ s.b _ _ (r.B.ne n) jc,i,q _ U #[g,Z,x.mono t.t] W4 (((f.trans h).trans j).trans t)]]]
def Iz{K:β}(e:σ[0]?=δ (↑p))(r:1<=n)(s:n<=1000)(u:Ev H0 p wl ys Hb σ T (PT ys k))(y:Ev H0 p wl ys Hb σ z (PT ys k)):Ev H0 p wl ys Hb σ (fg (md K) (oA$ ap T$ ap z aZ)$ Mj (λX H Q=>(∃i,X=[tT i]/\Q (tT i) H)\/∃k,X=[V.bl k]/\Q (tT (if k=μ then 1 else 0)) H)$ ap (fg K' (Ak n)$ tC$ .int 0) aZ) (PT ys k):=λH Q m W q=>
 u H _ m W λA C #[a,E,D] F c=>y C _ (m.trans c) F λG I #[b,J,L] h f=>#[cj,λl N=>ze e r s _ _ (((m.trans c).trans f).trans$ .new N) (h.same$ je N) λv M #[d,O,S,U] R j=>by
  subst O;erw[#[Z,.inr #[_,Z,?_]]];let#[g,i,x]:=I8 (P:=iI I ys k) (D.mono f.t) L _;rw[<- E,<- J]at i;let t:=(Fw.new (p:=p) (o:=HO.lst [A,G]) N).trans j;rwa[#[l,_,_,_,Z,Z,aK.of$ j.b _ _ (h.B.ne N) jc,i,q _ M #[g,Z,x.mono t.t] R ((c.trans f).trans t)]]]
def Ko(e:σ[0]?=δ (↑p))(h:Ev H0 p wl ys Hb σ T (PT ys k))(g:Ev H0 p wl ys Hb σ i (PT ys k)):Ev H0 p wl ys Hb σ (ff om [] E0$ ap (bn 0)$ ap T$ ap i aZ) (PT ys$ k+1):=λH Q m W q=>
 #[_,e,h H _ m W λv j #[a,E,x] l d=>g j _ (m.trans d) l λV y #[b,n,X] c f=>#[p,a,b,ys,k,by rw[E,n];rfl,c.B,x.mono f.t,X,λr o s u C=>q _ o #[r,Z,s] (c.but u C) ((d.trans f).trans$ .but c.B C)]]
def AS{w:ρ}{T a:TE}{A B R:Hp->V->Prop}(M:pJ A)(d:pJ B)(e:Ev H0 p wl ys Hb σ T A)(f:Ev H0 p wl ys Hb σ a B)(h:∀H r u v,H r=δ (.tup [.str w,u,v])->A H u->B H v->R H (.ref r)):Ev H0 p wl ys Hb σ (cQ$ ap (tC$ .str w)$ ap T$ ap a aZ) R:=λH Q m W q=>
 e H _ m W λC g X i b=>f g _ (m.trans b) i λD E j l c=>#[iF,λr n=>kL (P:=R) l (λo s x y k=>q o s x y ((b.trans c).trans k)) n λt z=>h _ _ _ _ z (M _ _ _ t$ M _ _ _ c.t X) (d _ _ _ t j)]
def MK{w:ρ}{T:TE}{A R:Hp->V->Prop}(M:pJ A)(a:Ev H0 p wl ys Hb σ T A)(h:∀H r u,H r=δ (.tup [.str w,u])->A H u->R H (.ref r)):Ev H0 p wl ys Hb σ (cQ$ ap (tC$ .str w)$ ap T aZ) R:=λH Q m W q=>
 a H _ m W λf g X b c=>#[cj,λr n=>kL (P:=R) b (λv d x e k=>q v d x e (c.trans k)) n λt z=>h _ _ _ z (M _ _ _ t X)]
def Iw{w:ρ}{T d e:TE}{A B C R:Hp->V->Prop}(M:pJ A)(f:pJ B)(g:pJ C)(i:Ev H0 p wl ys Hb σ T A)(j:Ev H0 p wl ys Hb σ d B)(l:Ev H0 p wl ys Hb σ e C)(h:∀H r u v x,H r=δ (.tup [.str w,u,v,x])->A H u->B H v->C H x->R H (.ref r)):Ev H0 p wl ys Hb σ (cQ$ ap (tC$ .str w)$ ap T$ ap d$ ap e aZ) R:=λH Q m W q=>
 i H _ m W λL n X o a=>j n _ (m.trans a) o λO s y D b=>l s _ ((m.trans a).trans b) D λS U E F c=>#[sg,λr N=>kL (P:=R) F (λG I x J k=>q G I x J (((a.trans b).trans c).trans k)) N λt z=>h _ _ _ _ _ z (M _ _ _ t$ M _ _ _ (b.trans c).t X) (f _ _ _ t$ f _ _ _ c.t y) (g _ _ _ t E)]
def EM:pJ (PN ys):=λ_ _ _ _ h=>h
def Kq{t T:TE}{k:Nat}(h:Ev H0 p wl ys Hb σ t (PN ys))(b:Ev H0 p wl ys Hb σ T (PT ys k))(c:k < 6):Ev H0 p wl ys Hb σ (cQ$ ap (tC$ .str "read")$ ap t$ ap T aZ) (λH v=>dy Cf H ys 0 v):=AS EM aB h b λH r u v z #[x,e,d] #[a,E,f]=>LA (by rw[z,e,E]) d f c
def JR{t T:TE}{k:Nat}(h:Ev H0 p wl ys Hb σ t (PN ys))(b:Ev H0 p wl ys Hb σ T (PT ys k))(c:k < 6):Ev H0 p wl ys Hb σ (cQ$ ap (tC$ .str "set")$ ap t$ ap T aZ) (λH v=>dy Cf H ys 0 v):=AS EM aB h b λH r u v z #[x,e,d] #[a,E,f]=>LB (by rw[z,e,E]) d f c
def Kr{t T:TE}{j k:Nat}(h:Ev H0 p wl ys Hb σ t (PT ys j))(b:Ev H0 p wl ys Hb σ T (PT ys k))(c:j < 6)(d:k < 6):Ev H0 p wl ys Hb σ (cQ$ ap (tC$ .str "write")$ ap t$ ap T aZ) (λH v=>dy Cf H ys 0 v):=AS aB aB h b λH r u v z #[x,e,f] #[a,E,g]=>LC (by rw[z,e,E]) f g c d
def XL{t:TE}{k:Nat}(h:Ev H0 p wl ys Hb σ t (PT ys k))(b:k < 6):Ev H0 p wl ys Hb σ (cQ$ ap (tC$ .str "give")$ ap t aZ) (λH v=>dy Cf H ys 0 v):=MK aB h λH r v z #[a,e,c]=>Lx (by rw[z,e]) c b
def vM{n o T c:TE}{j k:Nat}(C:Ev H0 p wl ys Hb σ n (PN ys)){f:ρ}(D:Ev H0 p wl ys Hb σ o (Ar f))(d:(f,2)∈Cf)(F:Ev H0 p wl ys Hb σ T (PT ys j))(G:Ev H0 p wl ys Hb σ c (PT ys k))(I:j < 6)(J:k < 6):Ev H0 p wl ys Hb σ (cQ$ ap (tC$ .str "call")$ ap n$ ap o$ ap (cQ$ ap T$ ap c aZ) aZ) (λH v=>dy Cf H ys 0 v):=by
 let' R:Hp->V->Prop:=λH v=>∃q a b,v= .ref q/\H q=δ (.tup [.ref a,.ref b])/\iI H ys j a/\iI H ys k b
 let M:pJ R:=λ_ _ _ m #[q,a,b,e,g,L,i]=>#[q,a,b,e,m _ _ g,L.mono m,i.mono m];let N:Ev H0 p wl ys Hb σ (cQ$ ap T$ ap c aZ) R:=λH Q m W q=>
  F H _ m W λv2 O #[a,E,X] S s=>G O _ (m.trans s) S λv3 H3 #[b,l,U] Y A=>#[cj,λr nr=>kL (P:=R) Y (λv' H' x W' k=>q v' H' x W' ((s.trans A).trans k)) nr λt z=>#[r,a,b,Z,by rw[z,E,l],(X.mono A.t).mono t,U.mono t]]
 rwa[Iw EM (B:=Ar f) (λ_ _ _ _ h=>h) M C D N λH r u v x z #[y,e1,g] (E:v= .str f) #[q,a,b,l,i,h4,h5]=>Lw (f:=f) (by rw[z,e1,E,l]) g d i h4 h5 I J]
def Dj{t T b:TE}{k n m:Nat}(h:Ev H0 p wl ys Hb σ t (PT ys k))(c:Ev H0 p wl ys Hb σ T (PB Cf ys 0 n))(d:Ev H0 p wl ys Hb σ b (PB Cf ys 0 m))(e:k < 6)(s:n+m<=20):Ev H0 p wl ys Hb σ (cQ$ ap (tC$ .str "if")$ ap t$ ap T$ ap b aZ) (λH v=>dy Cf H ys 1 v):=
 Iw aB eY eY h c d λH r u v x z #[a,E,f] #[Q,X,g,i,j,y] #[A,B,l,o,q,C]=>Lz (by rw[z,E,g,l]) f i o j q N9 e
def Do{t T:TE}{k n:Nat}(h:Ev H0 p wl ys Hb σ t (PT ys k))(b:Ev H0 p wl ys Hb σ T (PB Cf ys 0 n))(c:k < 6)(i:n<=20):Ev H0 p wl ys Hb σ (cQ$ ap (tC$ .str "while")$ ap t$ ap T aZ) (λH v=>dy Cf H ys 1 v):=
 AS aB eY h b λH r u v z #[a,e,d] #[q,x,E,f,g,j]=>yH (by rw[z,e,E]) d f g N9 c
def Di{d:Nat}:Ev H0 p wl ys Hb σ (cQ aZ) (PB Cf ys d 0):=λH Q m W q=>#[g9,λr n=>kL (P:=PB Cf ys d 0) W q n λt z=>#[r,[],Z,z,KC,OM 0]]
def Ks(h:Ev H0 p wl ys Hb σ T (λH v=>dy Cf H ys d v)):Ev H0 p wl ys Hb σ (cQ$ ap T aZ) (PB Cf ys d 1):=λH Q m W q=>
 h H _ m W λf g X a b=>#[iZ,λr n=>kL (P:=PB Cf ys d 1) a (λV c x e k=>q V c x e (b.trans k)) n λt z=>#[r,_,Z,z,zI$ X.mono t,OM 1]]
def Zz(h:Ev H0 p wl ys Hb σ T (λH v=>dy Cf H ys d v))(c:Ev H0 p wl ys Hb σ e (λH v=>dy Cf H ys d v)):Ev H0 p wl ys Hb σ (cQ$ ap T$ ap e aZ) (PB Cf ys d 2):=λH Q m W q=>
 h H _ m W λs f X g a=>c f _ (m.trans a) g λu y i j b=>#[cj,λr n=>kL (P:=PB Cf ys d 2) j (λV l x o k=>q V l x o ((a.trans b).trans k)) n λt z=>#[r,_,Z,z,jX ((X.mono b.t).mono t)$ zI$ i.mono t,OM 2]]
def Ix(h:Ev H0 p wl ys Hb σ T (λH v=>dy Cf H ys d v))(e:Ev H0 p wl ys Hb σ f (λH v=>dy Cf H ys d v))(g:Ev H0 p wl ys Hb σ i (λH v=>dy Cf H ys d v)):Ev H0 p wl ys Hb σ (cQ$ ap T$ ap f$ ap i aZ) (PB Cf ys d 3):=λH Q m W q=>
 h H _ m W λC j X l a=>e j _ (m.trans a) l λD n o s b=>g n _ ((m.trans a).trans b) s λE F u y c=>#[iF,λr N=>kL (P:=PB Cf ys d 3) y (λV A x B k=>q V A x B (((a.trans b).trans c).trans k)) N λt z=>#[r,_,Z,z,jX ((X.mono (b.trans c).t).mono t)$ jX ((o.mono c.t).mono t)$ zI$ u.mono t,OM 3]]
def qU(h:Ev H0 p wl ys Hb σ T (PB Cf ys d n))(e:Ev H0 p wl ys Hb σ f (PB Cf ys d m))(B:n+m<=100):Ev H0 p wl ys Hb σ (fg xK T f) (PB Cf ys d$ n+m):=λH Q M W q=>
 h H _ M W λV g #[a,x,E,i,X,L] j c=>e g _ (M.trans c) j λC D #[b,z,l,o,u,F] v k=>#[a,b,x,z,E,l,k.t _ _ i,o,O1 (show ry x+ry z<=100 by omega) Oa,λr y A s=>q _ y #[r,_,Z,A,JE ((X.mono k.t).mono$ aa.tm s)$ u.mono$ aa.tm s,by rw[OL];omega] (v.same s) ((c.trans k).trans$ .same s)]
def QL(e:σ[i]?=δ (δ$ .str x)):Ev H0 p wl ys Hb σ (bn i) (Ar x):=jP e (λ_ _ _ _ h=>h) Z
def ZA(h:Ev H0 p wl ys Hb σ T (Ar f))(g:Ev H0 p wl ys Hb σ i (PP m))(j:Ev H0 p wl ys Hb σ l (PB Cf ys 1 n))(O:n<=100)(o:ys.length<=20):Ev H0 p wl ys Hb σ (cQ$ ap T$ ap i$ ap l aZ) (PD Cf m f):=λH Q M W q=>
 h H _ M W λv s (E:v= .str f) u c=>g s _ (M.trans c) u λR y #[a,S,A,B,L] C d=>j y _ ((M.trans c).trans d) C λU Y #[b,xs,D,F,X,l4] G e=>#[iF,λr N=>kL (P:=PD Cf m f) G (λV I x J k=>q V I x J (((c.trans d).trans e).trans k)) N λt z=>
  #[r,Z,Iu (f:=f) (by rw[z,E,A,D]) (t _ _$ e.t _ _ B) L (t _ _ F) (X.mono t) N9 o]]
def Dl(h:Ev H0 p wl ys Hb σ T (PN ys)):Ev H0 p wl ys Hb σ (cQ$ ap T aZ) (PP 1):=λH Q m W q=>
 h H _ m W λV f #[X,e,_] a b=>#[iZ,λr n=>kL (P:=PP 1) a (λv c x d k=>q v c x d (b.trans k)) n λt z=>#[r,[X],Z,by rw[z,e];rfl,Z]]
def Dm(h:Ev H0 p wl ys Hb σ T (PN ys))(b:Ev H0 p wl ys Hb σ c (PN ys)):Ev H0 p wl ys Hb σ (cQ$ ap T$ ap c aZ) (PP 2):=λH Q m W q=>
 h H _ m W λV d #[X,e,_] f a=>b d _ (m.trans a) f λs u #[g,E,_] i j=>#[cj,λr n=>kL (P:=PP 2) i (λv l x o k=>q v l x o ((a.trans j).trans k)) n λt z=>#[r,[X,g],Z,by rw[z,e,E];rfl,Z]]
def dy.lift(h:dy Cf H ys 0 v):dy Cf H ys 1 v:=h.up
def PB.lift(h:PB Cf ys 0 n H v):PB Cf ys 1 n H v:=let #[a,x,e,c,#[b,B,d,g,i],f]:=h;#[a,x,e,c,#[b,B,d,N9,N9],f]
def PB.more(h:PB Cf ys d n H v)(k:n<=m):PB Cf ys d m H v:=let #[a,x,e,b,c,f]:=h;#[a,x,e,b,c,O1 f k]
def Ja{a b:TS}(W:Wd H0 H p wl ys)(e:σ[0]?=δ (↑p))(g:1<=n)(i:n<=1000)(j:∀h,Wd H0 h p wl ys->Fw p H h->a D σ h)(l:∀h,Wd H0 h p wl ys->Fw p H h->b D σ h):iR (mz$ fg K' (Ak n)$ tC$ .int 0) a b D σ H:=
 ze (Hb:=H) e g i H _ .refl W λv c #[d,E,m,o] f k=>by subst E;rwa[#[Z,_,Z,cp (λ_=>j c f k) (λ_=>l c f k)]]
def jW{D:bp}{P:Hp->V->Prop}(W:Wd H0 H p wl ys)(h:Ev H0 p wl ys H σ t P)(q:∀v a,P a v->Wd H0 a p wl ys->Fw p H a->D.nx (σ.set i$ δ v) a):eK t (bH i) D σ H:=h H _ .refl W q
def Xe{D:bp}{P:Hp->V->Prop}(W:Wd H0 H p wl ys)(h:Ev H0 p wl ys H σ t P)(q:∀v a,P a v->Wd H0 a p wl ys->D.rt v a):iG t D σ H:=h H _ .refl W λv a x b _=>q v a x b
def CB{K:β}{D:bp}(W:Wd H0 H p wl ys)(d:Ev H0 p wl ys H σ T (PT ys 0))(e:Ev H0 p wl ys H σ f (PT ys 0))(g:Ev H0 p wl ys H σ l (PT ys 0))
  (q:∀u v w h,PT ys 0 h u->PT ys 0 h v->PT ys 0 h w->Wd H0 h p wl ys->Fw p H h->D.nx (((σ.set k$ δ w).set j$ δ v).set i$ δ u) h):DU K (cQ$ ap T$ ap f$ ap l aZ) i j k D σ H:=
 d H _ .refl W λV m x o a=>e m _ a o λs y X z b=>g y _ (a.trans b) z λA E B C c=>#[iF,λr n=>#[r,_,_,_,Z,aC.of jc,q V s A _ (aB _ _ _ (aa.tm$ je n)$ aB _ _ _ (b.trans c).t x) (aB _ _ _ (aa.tm$ je n)$ aB _ _ _ c.t X) (aB _ _ _ (aa.tm$ je n) B) (C.same$ je n) (((a.trans b).trans c).trans$ .new n)]]
structure Ow(H0 H:Hp)(p wl l:ζ)(xs:xD V):Prop where
 hl:H l=δ (.lst xs)
 np:l≠p
 lw:l≠wl
 l0:H0 l=θ
def Ow.fw(o:Ow H0 H p wl l x)(k:Fw p H h):Ow H0 h p wl l x:=#[k.b _ _ o.np o.hl,o.np,o.lw,o.l0]
def Ow.new(W:Wd H0 H p wl ys)(n:H l=θ):Ow H0 (af H l$ .lst x) p wl l x:=#[jc,W.B.ne n,(λe=>by let z:=W.w;rw[<- e,n]at z;cases z),W.K.none W.B n]
def IX{D:bp}(W:Wd H0 H p wl ys)(b:Ev H0 p wl ys H σ t (λH v=>dy Cf H ys 0 v))(q:∀l v h,Ow H0 h p wl l [v]->dy Cf h ys 0 v->Wd H0 h p wl ys->Fw p H h->D.nx (σ.set i$ ↑l) h):eK (oA$ ap t aZ) (bH i) D σ H:=
 b H _ .refl W λV c x a k=>#[iZ,λl n=>q l V _ (.new a n) (x.mono$ aa.tm$ je n) (a.same$ je n) (k.trans$ .new n)]
def IY{D:bp}(W:Wd H0 H p wl ys)(c:Ev H0 p wl ys H σ T (λH v=>dy Cf H ys 0 v))(d:Ev H0 p wl ys H σ e (λH v=>dy Cf H ys 0 v))(q:∀l u v h,Ow H0 h p wl l [u,v]->dy Cf h ys 0 u->dy Cf h ys 0 v->Wd H0 h p wl ys->Fw p H h->D.nx (σ.set i$ ↑l) h):eK (oA$ ap T$ ap e aZ) (bH i) D σ H:=
 c H _ .refl W λV f x g k=>d f _ k g λj m X a b=>#[cj,λl n=>q l V j _ (.new a n) ((x.mono b.t).mono$ aa.tm$ je n) (X.mono$ aa.tm$ je n) (a.same$ je n) ((k.trans b).trans$ .new n)]
def JF{K:β}{D:bp}(W:Wd H0 H p wl ys)(a:σ[i]?=δ (↑l))(o:Ow H0 H p wl l xs)(b:ry xs<=100)(c:Ev H0 p wl ys H σ T (λH v=>dy Cf H ys 0 v))
  (q:∀v h,dy Cf h ys 0 v->Ow H0 h p wl l (xs++[v])->Wd H0 h p wl ys->am H h->D.nx σ h):si (M4 K "list" mK (bn i)$ ap T aZ) D σ H:=
 #[_,a,.inl #[Z,_,aK.of o.hl],c H _ .refl W λv e x d k=>#[l,xs,v,Z,Z,(o.fw k).hl,Rm b Oa,q v _ (x.mono$ Xc (o.fw k).hl) #[jc,o.np,o.lw,o.l0] (d.own (xs:=xs) o.l0 o.np o.lw) (k.t.trans$ Xc (o.fw k).hl)]]
def CP{K:β}{D:bp}(W:Wd H0 H p wl ys)(h:σ[i]?=δ (↑l))(o:Ow H0 H p wl l (u::v::z))
  (q:∀a,Ow H0 a p wl l (v::u::z)->Wd H0 a p wl ys->am H a->D.nx σ a):eK (cQ$ ap (fg (md K) (bn i)$ tC$ .int 1)$ ap (fg (md K) (bn i)$ tC$ .int 0) aZ) (sY K 2$ dZ (Et (bn i) (tC$ .int 0) rn)$ dZ (Et (bn i) (tC$ .int 1) rn) vW) D σ H:=
 #[_,h,l,_,_,_,Z,Z,aK.of o.hl,gQ,_,h,l,_,_,_,Z,Z,aK.of o.hl,dQ,cj,λt N=>#[t,_,Z,aC.of jc,Z,_,_,Z,_,h,l,_,0,0,Z,Z,aq o.hl N,NJ (n:=ry z+1),_,_,Z,_,h,l,_,1,1,Z,Z,jc,NK (n:=z.length),Z,
  q _ #[jc,o.np,o.lw,o.l0] (((W.same$ je N).own (xs:=u::v::z) o.l0 o.np o.lw).own (xs:=u::v::z) o.l0 o.np o.lw) (((aa.tm$ je N).trans$ Xc$ aq o.hl N).trans$ Xc jc)]]
def Dn{K:β}{n:Nat}(e:σ[i]?=δ (↑l))(o:Ow H0 Hb p wl l x)(h:iT Cf Hb ys 0 x)(a:ry x<=n):Ev H0 p wl ys Hb σ (Mj (jNr K)$ ap (bn i) aZ) (PB Cf ys 0 n):=λH Q m W q=>
 #[_,e,l,x,Z,.inl #[aK.of (o.fw m).hl,λr N=>kL (P:=PB Cf ys 0 n) W q N λt z=>#[r,x,Z,z,(h.mono m.t).mono t,a]]]
def Ee{D:bp}(W:Wd H0 H p wl ys)(u:σ[i]?=δ (↑l))(y:σ[j]?=δ (↑m))(o:Ow H0 H p wl l x)(O:Ow H0 H p wl m z)(C:ry x+ry z<=100)(E:iT Cf H ys 0 x)(F:iT Cf H ys 0 z)
  (G:Ev H0 p wl ys H σ T (λH v=>dy Cf H ys 0 v)) (I:Ev H0 p wl ys H σ J (λH v=>dy Cf H ys 0 v)) (q:∀r U h,Ow H0 h p wl r U->iT Cf h ys 0 U->ry U<=ry x+ry z+2->Wd H0 h p wl ys->Fw p H h->D.nx (σ.set i$ ↑r) h):
  eK (fg BV (fg BV (bn i)$ bn j)$ oA$ ap T$ ap J aZ) (bH i) D σ H:=
 #[_,u,_,y,l,m,_,_,Z,Z,o.hl,O.hl,O1 C Oa,λc n=>G _ _ (.new n) (W.same$ je n) λV L X M k=>I L _ ((Fw.new n).trans k) M λe R Q A s=>#[cj,λd N=>#[c,d,_,_,Z,Z,aq ((k.trans s).b _ _ (W.B.ne n) jc) N,jc,by
  let:=aL;show(x++z).length+2<=τ;rw[OL];omega,λr a=>q r _ _ (.new (A.same$ je N) a) (by
   let f:=(((Fw.new n).trans k).trans s).trans ((Fw.new (p:=p) (o:=HO.lst [V,e]) N).trans$ Fw.new (o:=HO.lst ((x++z)++[V,e])) a);let g:=(Fw.new (p:=p) (o:=HO.lst [V,e]) N).trans (Fw.new (o:=HO.lst ((x++z)++[V,e])) a);rwa[JE (JE (E.mono f.t)$ F.mono f.t)$ jX ((X.mono s.t).mono g.t)$ zI$ Q.mono g.t]) (by rw[OL,OL];rwa[OM _]) ((A.same$ je N).same$ je a) ((((Fw.new n).trans k).trans s).trans ((Fw.new N).trans$ Fw.new a))]]]
def Z7{K:β}{D:bp}(W:Wd H0 H p wl ys)(k:σ[3]?=δ (↑wl))(l:ry ys=6)
  (q:∀a b c d e g,PT ys 0 g a->PT ys 0 g b->PT ys 0 g c->PT ys 0 g d->PT ys 0 g e->Wd H0 g p wl ys->D.nx (((((σ.set 4$ δ a).set 5$ δ b).set 6$ δ c).set 7$ δ d).set 8$ δ e) g):
  eK (yK (Dv K$ Ml (BX K) (bn 3) nE$ oB$ tC$ tT 5) 1 [] (bH 0) nD$ cQ$ ap (tC$ tz "var")$ ap (bn 0) aZ) (ML K 5$ dZ (bH 4)$ dZ (bH 5)$ dZ (bH 6)$ dZ (bH 7)$ dZ (bH 8) vW) D σ H:=by
 let B:=aL;erw[#[_,k,_,Z,wl,_,Z,aK.of W.w,λs n=>?_]];let E:aT (ys.map tz) θ (δ 5)=(ys.take 5).map tz:=by rw[show(5:Int)=((5:Nat):Int) from Z,Ij (by rw[OJ];omega),SX]
 let t:af H s (.lst$ aT (ys.map tz) θ$ δ 5) s=δ (.lst ((ys.take 5).map tz)):=by rw[E];rwa[jc]
 let S:=je (o:=HO.lst (aT (ys.map tz) θ$ δ 5)) n;generalize af H s (.lst$ aT (ys.map tz) θ$ δ 5)=A at t S;erw[#[s,Z,#[_,aK.of t],?_]];erw[Q3 (K:=K) (a:=s) (xs:=(ys.take 5).map tz) (by rw[OJ,Pf];omega) (λi j g=>ry j=i/\(∀v∈j,PT ys 0 g v)/\aa A g) #[Z,(λ_ h=>absurd h Pm),aa.refl _] (λi j g h=>#[aK.of$ h.2.2 _ _ t,TZ h.1]) (λi x j g C h=>?_) (λj F h L N=>?_)]
 .let#[y,l,Z]:=dr.mp (Pd C);rwa[#[_,Z,cj,λr u=>#[by rw[OL,h.1];rfl,Jr (λa z=>aB _ _ _ (aa.tm$ je u) (h.2.1 a z)) #[r,Z,yX jc$ P0 l],h.2.2.trans$ je u]]]
 .let e:=h.1;rw[OJ,Pf]at e;let#[a,b,c,d,f,Z]:=MQ (show ry j=5 by omega);let m:=aa.tm (je (o:=HO.lst [a,b,c,d,f]) N);rwa[#[L,_,Z,aK.of jc,Z,_,_,Z,_,_,Z,_,_,Z,_,_,Z,_,_,Z,Z,q a b c d f _ (aB _ _ _ m$ h.2.1 a N8) (aB _ _ _ m$ h.2.1 b N8) (aB _ _ _ m$ h.2.1 c N8) (aB _ _ _ m$ h.2.1 d N8) (aB _ _ _ m$ h.2.1 f N8) (((W.same S).same h.2.2).same$ je N)]]
end
def MX:aj z18z z18z (ae MW):=bQ
def IS(F:xb K "_law_op" MW f t)(C:‹1› T u z0z bg "_law_take"):⇑2 f t z18z om:=by
 erw[F.ok MX λv A O s H V Q E x h=>?_]
 let#[p,a,b,y,k,Z,B,z,D,q]:=h;erw[#[_,(jg$ jo$ ji$ ja jm$ ja (jq ju (jF$ ja jm$ ja jm$ ja jm$ ja jm jb) (C.e x.m$ ja (pv 0)$ ja jf jb))$ ja (pv 1)$ ja (pv 2) jb),?_]];erw[#[sg,λl n=>#[_,Z,p,4,Z,B.upd_new n,Oa,Oa,λd G I J L j=>?_]]];let#[s,c,M]:=BR I J;let g:aI p H G:=((aI.refl).upd_new n).trans (aI.of_eq j);erw[#[l,_,_,_,Z,Z,aK.of (by rw[j l$ B.ne n];rwa[jc]),c,_,Z,_,Z,sg,λr N=>?_]];let S:=je (o:=HO.tup [.str "op",.str s,.ref a,.ref b]) N;rwa[q r _ (DY jc M ((z.mono$ g.tm B).mono$ aa.tm S) ((D.mono$ g.tm B).mono$ aa.tm S) (Rs _)$ Rs _) (L.upd_new N)$ g.trans$ aI.of_same S]
def cw:aj ["_law_box_here","_law_f","_law_g","_law_w","_law_x","_law_i","_law_y","_law_spot_here","_law_body_here","_law_deeper","_law_test","_law_early","_law_last"] z39z (ae pi):=bQ
def wV(F:xb K "_law_inner" pi f fd)(I:‹1› fT b' z0z bg "_law_take")(cO:‹2› fO c0 z18z om "_law_op"):⇑3 f fd z39z (dU 2):=by
 erw[F.ok cw λc1 A o1 s H vs Q E l h=>?_]
 let#[p,T,f0,g,Y,Z,B,hw,h2,q]:=h;erw[#[_,(jd (@BS _ _ _ _ _ _ _ _ (4) (5) (6) Z cw.nd Z Z Z (ω Z) (ω Z) (ω Z) (ji$ ja (ji$ ja jm$ ja (jq ju (pv 3) jf) jb)$ ja (ji$ ja jm$ ja (jq ju (pv 3) jf) jb)$ ja (ji$ ja jm$ ja (jq ju (pv 3) jf) jb) jb) (by first |rwa[.inl Z] |rwa[.inr Z]) (by first |rwa[.inl Z] |rwa[.inr Z]) (by first |rwa[.inl Z] |rwa[.inr Z]) N6 N6)$ jd (jA 7 cw.nd$ ji$ ja jm$ ja jm$ ja (jq ju (jF$ ja (pv 4)$ ja (pv 5) jb) (I.e l.m$ ja (pv 0)$ ja jf jb))$ ja (ji$ ja jm$ ja (I.e l.m$ ja (pv 0)$ ja jf jb) jb) jb)$ jd (jA 8 cw.nd$ ji$ ja (ji$ ja jm$ ja (jq ju (pv 3) jf)$ ja (pv 7) jb) jb)$ jd (kc$ jy (zr$ I.e l.m$ ja (pv 0)$ ja jf jb) (jd (jA 7 cw.nd$ ji$ ja jm$ ja jm$ ja (pv 5)$ ja (ji$ ja jm$ ja (jv jY jf$ I.e l.m$ ja (pv 0)$ ja jf jb) jb) jb)$ jg$ jA 8 cw.nd$ jv jU (pv 8)$ ji$ ja (ji$ ja jm$ ja (pv 7)$ ja (cO.e l.m$ ja (pv 0)$ ja (pv 4)$ ja (pv 6) jb) jb) jb) jp)$ jd (kc$ jy (zr$ I.e l.m$ ja (pv 0)$ ja jf jb) (jd (jA 9 cw.nd$ ji$ ja jm$ ja (jq ju (pv 3) jf)$ ja (pv 2)$ ja (ji$ ja (ji$ ja jm$ ja jm$ ja (pv 5)$ ja (ji$ ja jm$ ja jf jb) jb)$ ja (pv 6) jb) jb)$ jg$ jA 8 cw.nd$ jv jU (pv 8)$ ji$ ja (ji$ ja jm$ ja (pv 5)$ ja (ji$ ja (pv 9) jb)$ ja (ji jb) jb) jb) jp)$ jd (jA 10 cw.nd$ ji$ ja jm$ ja (jq Kv jm (I.e l.m$ ja (pv 0)$ ja jf jb))$ ja (pv 6)$ ja (ji$ ja jm$ ja (I.e l.m$ ja (pv 0)$ ja jf jb) jb) jb)$ jd (jA 11 cw.nd$ ji$ ja jm$ ja (cO.e l.m$ ja (pv 0)$ ja (pv 4)$ ja (pv 6) jb) jb)$ jd (jA 12 cw.nd$ ji$ ja jm$ ja (cO.e l.m$ ja (pv 0)$ ja (pv 6)$ ja (pv 5) jb) jb)$ jd (jA 8 cw.nd$ jv jU (pv 8)$ ji$ ja (ji$ ja jm$ ja (pv 10)$ ja (ji$ ja (pv 11) jb)$ ja (ji jb) jb)$ ja (pv 12) jb)$ jg$ jo$ ji$ ja (pv 1)$ ja (ji$ ja (jq ju (pv 3) jf)$ ja (jq ju (pv 3) jf) jb)$ ja (pv 8) jb),?_]];let W0:Wd H H p T Y:=#[B,aI.refl,hw];erw[ai λF1 f1=>CB W0 (Kn$ kW Z Oa N9) (Kn$ kW Z Oa N9) (Kn$ kW Z Oa N9) λvx vi vy J xx X U W1 k1=>f1 _ _ ?_];erw[ai λF2 f2=>jW W1 (qp (n:=1) (qt zA) (Zy Z (jP Z aB xx)$ jP Z aB X) (kM (ze Z Oa Oa) Oa) Oa Oa) λv2 H2 x2 W2 k2=>f2 _ _ ?_];erw[ai λF3 f3=>jW W2 (Ks$ Kq (Cf:=[(g,2)]) (kW Z Oa N9) (jP Z aB x2) Oa) λv3 H3 x3 W3 k3=>f3 _ _ ?_];erw[ai λF4 f4=>eN (λL u=>∃(o:xL V) (b:V),L=[δ$ vr p,δ$ tz f0,δ$ tz g,δ$ vr T,δ$ vx,δ$ vi,δ$ vy,o,δ b,θ,θ,θ,θ]/\PB [(g,2)] Y 1 2 u b/\Wd H u p T Y/\am H3 u) (λE4 _ f5=>Ja W3 Z Oa Oa (λH6 W6 k6=>?_) (λH6 W6 k6=>?_)) λσ0 H5 h0=>?_]
 .clear f4;let C:am J H6:=((k2.t.trans k3.t).trans k6.t);erw[ai λF7 f7=>jW W6 (qp (n:=1) (qt zA) (jP Z aB$ aB _ _ _ C X) (kM (Xd (ze Z Oa Oa) Oa) Oa) Oa Oa) λv7 H7 x7 W7 k7=>f7 _ _ ?_];let D:am H3 H7:=(k6.t.trans k7.t);let G:am J H7:=(C.trans k7.t);erw[jW W7 (qU (jP Z eY$ eY _ _ _ D x3) (Ks$ Kr (Cf:=[(g,2)]) (jP Z aB x7) (Ko Z (jP Z aB$ aB _ _ _ G xx)$ jP Z aB$ aB _ _ _ G U) Oa Oa) Oa) λv8 H8 x8 W8 k8=>f5 _ _ ?_];let m0:am H3 H8:=(D.trans k8.t);rwa[#[_,_,Z,(PB.lift x8),W8,m0]]
 .clear f4;rwa[f5 _ _ #[_,_,Z,(PB.more (PB.lift$ eY _ _ _ k6.t x3) Oa),W6,k6.t]]
 let#[o5,b5,Z,x5,W5,k5]:=h0;erw[f4 _ _ ?_];erw[ai λF9 f9=>eN (λL u=>∃(o:xL V) (b:V),L=[δ$ vr p,δ$ tz f0,δ$ tz g,δ$ vr T,δ$ vx,δ$ vi,δ$ vy,o5,δ b,o,θ,θ,θ]/\PB [(g,2)] Y 1 3 u b/\Wd H u p T Y/\am H5 u) (λE9 _ f6=>Ja W5 Z Oa Oa (λH0 W k=>?_) (λH0 W k=>?_)) λσ1 H4 h1=>?_]
 .clear f9;let M:am J H0:=(((k2.t.trans k3.t).trans k5).trans k.t);erw[ai λF0 f'=>jW W (vM (Cf:=[(g,2)]) (kW Z Oa N9) (QL Z) O5 (qp (n:=1) (qt X8) (jP Z aB$ aB _ _ _ M X) (kM (Q9 Oa (by decide:(1:Int) < 2)) Oa) Oa Oa) (jP Z aB$ aB _ _ _ M U) Oa Oa) λv0 H9 x0 W4 k0=>f' _ _ ?_];let c:am H5 H9:=(k.t.trans k0.t);let N:am J H9:=(M.trans k0.t);erw[jW W4 (qU (jP Z eY$ eY _ _ _ c x5) (Ks$ Dj (jP Z aB$ aB _ _ _ N X) (Ks$ jP Z fj x0) (Di (Cf:=[(g,2)]) (d:=0)) Oa Oa) Oa) λv1 a2 x1 W9 k9=>f6 _ _ ?_];let O:am H5 a2:=(c.trans k9.t);rwa[#[_,_,Z,x1,W9,O]]
 .clear f9;rwa[f6 _ _ #[_,_,Z,(PB.more (eY _ _ _ k.t x5) Oa),W,k.t]]
 let#[o2,c2,Z,x4,a3,k']:=h1;erw[f9 _ _ ?_];let i:am J H4:=(((k2.t.trans k3.t).trans k5).trans k');erw[ai λF5 a4=>jW a3 (qp (n:=1) (IB Z) (jP Z aB$ aB _ _ _ i U) (kM (ze Z Oa Oa) Oa) Oa Oa) λv4 a0 x9 a5 k4=>a4 _ _ ?_];let a:am J a0:=(i.trans k4.t);erw[ai λF6 a'=>jW a5 (XL (Cf:=[(g,2)]) (Ko Z (jP Z aB$ aB _ _ _ a xx)$ jP Z aB$ aB _ _ _ a U) Oa) λv5 b0 x' b1 R=>a' _ _ ?_];let j:am J b0:=(a.trans R.t);erw[ai λc3 b2=>jW b1 (XL (Cf:=[(g,2)]) (Ko Z (jP Z aB$ aB _ _ _ j U)$ jP Z aB$ aB _ _ _ j X) Oa) λv9 a1 b3 b4 S=>b2 _ _ ?_];let y:am H4 a1:=((k4.t.trans R.t).trans S.t);let z:am a0 a1:=(R.t.trans S.t);erw[ai λc4 b7=>jW b4 (qU (jP Z eY$ eY _ _ _ y x4) (Zz (Dj (jP Z aB$ aB _ _ _ z x9) (Ks$ jP Z fj$ fj _ _ _ S.t x') (Di (Cf:=[(g,2)]) (d:=0)) Oa Oa)$ Ev.up (jP Z fj b3) λ_ _=>dy.lift) Oa) λv' c5 b8 b9 c6=>b7 _ _ ?_];erw[Xe b9 (ZA (QL Z) (Dm (kW Z Oa N9)$ kW Z Oa N9) (jP Z eY b8) Oa N9) λv u x W'=>?_];let#[r,Z,x]:=x;rwa[q r u x W'.B W'.K]
def bP:aj z42z z21z (ae i9):=bQ
def QG:hJ:=#[.function,[(".0",.local),("_law_one",.local)],ν,ν,[]]
def Zr:(["_law_one"]:xD ρ).Nodup:=by decide+kernel
def Zs:bo z42z (ae i9) QG ["_law_one"] 1 []:=oU
def tY(F:xb K "_law_looped" i9 f fd)(C:‹1› fT d5 z0z bg "_law_take")(cO:‹2› fO d6 z18z om "_law_op")(mi:mg "int"=θ)(m6:mg "tuple"=θ):⇑3 f fd z21z (dU 1):=by
 erw[F.ok bP λd7 A b1 s H vs Q E l h=>?_]
 let#[p,W,f0,g,Y,Z,B,hw,h2,q]:=h;erw[#[_,(jd (zu (@zn _ _ _ _ _ _ _ (["_law_one"]) (1) ([]) _ _ _ _ Z (zw$ jI km (pv 3) jT$ jH jf) Zs (λ_ _ _ _ _=>(jx (i:=0) Zr Z$ ω Z)) (λ_ _ _ _ _=>(@zH _)) (λ_ _ _ _ _=>(ji$ ja jm$ ja (pv 0) jb)) (by intro _;rfl))$ @ZS _ _ _ _ (5) _ Z (jD (jx (i:=4) bP.nd Z$ ω Z)$ jD (jx (i:=5) bP.nd Z$ ω Z)$ jD (jx (i:=6) bP.nd Z$ ω Z)$ jD (jx (i:=7) bP.nd Z$ ω Z)$ jD (jx (i:=8) bP.nd Z$ ω Z) kB) N6 N6)$ jd (jA 9 bP.nd$ jF$ ja (ji$ ja jm$ ja (jq ju (pv 3) jf)$ ja (ji$ ja jm$ ja jm$ ja (pv 5)$ ja (ji$ ja jm$ ja (C.e l.m$ ja (pv 0)$ ja jf jb) jb) jb) jb) jb)$ jd (jL$ jZ OV O8 O7 jQ (pv 9)$ ja (ji$ ja jm$ ja (jq ju (pv 3) jf)$ ja (pv 2)$ ja (ji$ ja (pv 7)$ ja (jq ju (jF$ ja (pv 5)$ ja (pv 6) jb) (jJ qI Z mi Wc$ ja (zS qr (C.e l.m$ ja (pv 0)$ ja jf jb) jf$ aF _) jb)) jb) jb) jb)$ jd (kc$ jy (zr$ C.e l.m$ ja (pv 0)$ ja jf jb) (jd (jA 10 bP.nd$ ji$ ja jm$ ja jm$ ja (pv 5)$ ja (ji$ ja jm$ ja (jv jY jf$ C.e l.m$ ja (pv 0)$ ja jf jb) jb) jb)$ jg$ jL$ jZ OV O8 O7 jQ (pv 9)$ ja (ji$ ja jm$ ja (pv 10)$ ja (jq ju (jF$ ja (pv 6)$ ja (pv 8)$ ja (pv 7) jb) (C.e l.m$ ja (pv 0)$ ja jf jb)) jb) jb) jp)$ jd (jL$ jZ OV O8 O7 jQ (pv 9)$ ja (ji$ ja jm$ ja (jq ju (pv 3) jf)$ ja (cO.e l.m$ ja (pv 0)$ ja (jq ju (jF$ ja (pv 6)$ ja (pv 6)$ ja (pv 7) jb) (C.e l.m$ ja (pv 0)$ ja jf jb))$ ja (pv 8) jb) jb) jb)$ jd (kc$ jy (zr$ C.e l.m$ ja (pv 0)$ ja jf jb) (jg$ zu (ji$ ja (jq ju (pv 9) jf)$ ja (jq ju (pv 9) jf) jb)$ zV (n:=2) Z$ jD (qS (pv 9) jf zL)$ jD (qS (pv 9) jf zL) kB) jp)$ jd (jL$ jZ OV O8 O7 jQ (pv 9)$ ja (ji$ ja jm$ ja (jq ju (pv 3) jf)$ ja (ji$ ja jm$ ja jm$ ja (pv 5)$ ja (ji$ ja jm$ ja jf jb) jb) jb) jb)$ jd (jA 11 bP.nd$ ji$ ja (ji$ ja jm$ ja (jq ju (pv 3) jf)$ ja (ji$ ja jm$ ja (C.e l.m$ ja (pv 0)$ ja jf jb) jb) jb)$ ja (ji$ ja jm$ ja (jq ju (pv 3) jf)$ ja (ji$ ja jm$ ja (C.e l.m$ ja (pv 0)$ ja jf jb) jb) jb) jb)$ jd (kc$ jy (zr$ C.e l.m$ ja (pv 0)$ ja jf jb) (jd (jA 11 bP.nd$ jv jU (pv 11)$ ji$ ja (ji$ ja jm$ ja (jq ju (pv 3) jf)$ ja (ji$ ja jm$ ja (jv jY jf$ C.e l.m$ ja (pv 0)$ ja jf jb) jb) jb) jb)$ jg$ jA 11 bP.nd$ jv jU (pv 11)$ ji$ ja (ji$ ja jm$ ja (jq ju (pv 3) jf)$ ja (ji$ ja jm$ ja jm$ ja (pv 4)$ ja (ji$ ja jm$ ja jf jb) jb) jb) jb) jp)$ jd (jA 12 bP.nd$ ji$ ja jm$ ja (ji$ ja jm$ ja jm$ ja (pv 5)$ ja (pv 4) jb)$ ja (jJ jN Z m6 RI$ ja (pv 9) jb) jb)$ jg$ jo$ ji$ ja (pv 1)$ ja (ji$ ja (jq ju (pv 3) jf) jb)$ ja (jv jU (pv 11)$ ji$ ja (pv 12)$ ja (ji$ ja jm$ ja (ji$ ja jm$ ja jf jb)$ ja (pv 6) jb)$ ja (ji$ ja jm$ ja (pv 6) jb) jb) jb),?_]];let W0:Wd H H p W Y:=#[B,aI.refl,hw];erw[ai λF1 f1=>Z7 W0 Z h2 λvn vi vs vx vy U xn xi xs xx xy W1=>f1 _ _ ?_];erw[ai λF2 f2=>IX W1 (Kq (Cf:=[(g,2)]) (kW Z Oa N9) (qp (n:=1) (qt zA) (jP Z aB xi) (kM (ze Z Oa Oa) Oa) Oa Oa) Oa) λlb u2 H2 o2 x2 W2 k2=>f2 _ _ ?_];erw[ai λF3 f3=>JF W2 Z o2 (show 1<=100 by decide) (vM (Cf:=[(g,2)]) (kW Z Oa N9) (QL Z) O5 (jP Z aB$ aB _ _ _ k2.t xx) (Iz Z Oa Oa (jP Z aB$ aB _ _ _ k2.t xi)$ jP Z aB$ aB _ _ _ k2.t xs) Oa Oa) λu3 H3 x3 o3 W3 k3=>f3 _ _ ?_];erw[ai λF4 f4=>eN (λu c=>∃(o:xL V) (G:xD V),u=[δ$ vr p,δ$ tz f0,δ$ tz g,δ$ vr W,δ$ vn,δ$ vi,δ$ vs,δ$ vx,δ$ vy,δ$ vr lb,o,θ,θ]/\Ow H c p W lb (u2::u3::G)/\iT [(g,2)] c Y 0 G/\G.length<=1/\Wd H c p W Y/\am H3 c) (λE4 _ f5=>Ja W3 Z Oa Oa (λH6 W6 k6=>?_) (λH6 W6 k6=>?_)) λσ2 H5 h3=>?_]
 .clear f4;let o6:=o3.fw k6;let R:am U H6:=((k2.t.trans k3).trans k6.t);erw[ai λF7 f7=>jW W6 (qp (n:=1) (qt zA) (jP Z aB$ aB _ _ _ R xi) (kM (Xd (ze Z Oa Oa) Oa) Oa) Oa Oa) λv7 H7 x7 W7 k7=>f7 _ _ ?_];let o7:=o6.fw k7;let y:am U H7:=(R.trans k7.t);erw[JF W7 Z o7 (show 2<=100 by decide) (Kr (Cf:=[(g,2)]) (jP Z aB x7) (Dk Z (jP Z aB$ aB _ _ _ y xs) (jP Z aB$ aB _ _ _ y xy)$ jP Z aB$ aB _ _ _ y xx) Oa Oa) λu8 H8 x8 o8 W8 k8=>f5 _ _ ?_];let m5:am H3 H8:=((k6.t.trans k7.t).trans k8);rwa[#[_,[u8],Z,o8,zI x8,OM 1,W8,m5]]
 .clear f4;let o6:=o3.fw k6;rwa[f5 _ _ #[_,[],Z,o6,KC,Oa,W6,k6.t]]
 let#[w5,G,Z,o5,zx,zl,W5,k5]:=h3;erw[f4 _ _ ?_];let M:am U H5:=((k2.t.trans k3).trans k5);erw[ai λF9 f9=>JF W5 Z o5 (show ry G+1+1<=100 by omega) (JR (Cf:=[(g,2)]) (kW Z Oa N9) (Ko Z (Dk Z (jP Z aB$ aB _ _ _ M xs) (jP Z aB$ aB _ _ _ M xs)$ jP Z aB$ aB _ _ _ M xx)$ jP Z aB$ aB _ _ _ M xy) Oa) λu9 H9 x9 o9 W9 k9=>f9 _ _ ?_];let zy:iT [(g,2)] H9 Y 0 (G++[u9]):=JE (zx.mono k9) (zI x9);let zm:(G++[u9]).length<=2:=by rw[OL];rwa[Rz zl]
 erw[ai λF0 I=>eN (λu c=>∃(X:xD V),u=[δ$ vr p,δ$ tz f0,δ$ tz g,δ$ vr W,δ$ vn,δ$ vi,δ$ vs,δ$ vx,δ$ vy,δ$ vr lb,w5,θ,θ]/\Ow H c p W lb X/\iT [(g,2)] c Y 0 X/\ry X<=4/\Wd H c p W Y/\am H9 c) (λE1 _ S=>Ja W9 Z Oa Oa (λH0 W4 k=>?_) (λH0 W4 k=>?_)) λσ0 b2 h0=>?_]
 .clear I;let o1:=o9.fw k;erw[CP W4 Z o1 λH4 b3 b4 k0=>S _ _ ?_];let m0:am H3 H4:=(((k5.trans k9).trans k.t).trans k0);let m1:am H2 H4:=((((k3.trans k5).trans k9).trans k.t).trans k0);let z:am H9 H4:=(k.t.trans k0);rwa[#[_,Z,b3,jX ((fj _ _ _ m0 x3))$ jX ((fj _ _ _ m1 x2))$ zy.mono z,(show(G++[u9]).length+1+1<=4 by omega),b4,z]]
 .clear I;let o1:=o9.fw k;let m2:am H2 H0:=(((k3.trans k5).trans k9).trans k.t);let m3:am H3 H0:=((k5.trans k9).trans k.t);rwa[S _ _ #[_,Z,o1,jX ((fj _ _ _ m2 x2))$ jX ((fj _ _ _ m3 x3))$ zy.mono k.t,(show(G++[u9]).length+1+1<=4 by omega),W4,k.t]]
 let#[X,Z,b5,ux,ul,b7,b8]:=h0;erw[I _ _ ?_];let d:am U b2:=((M.trans k9).trans b8);erw[ai λF5 f6=>JF b7 Z b5 N9 (JR (Cf:=[(g,2)]) (kW Z Oa N9) (qp (n:=1) (qt zA) (jP Z aB$ aB _ _ _ d xi) (kM (Q9 Oa (by decide:(1:Int) < 2)) Oa) Oa Oa) Oa) λu0 a1 x1 b9 b' k1=>f6 _ _ ?_];let b0:iT [(g,2)] a1 Y 0 (X++[u0]):=JE (ux.mono k1) (zI x1);let bl:(X++[u0]).length<=5:=by rw[OL];rwa[Rz ul]
 erw[ai λF6 f'=>jW b' (Zz (JR (Cf:=[(g,2)]) (kW Z Oa N9) (kM (ze Z Oa Oa) Oa) Oa)$ JR (Cf:=[(g,2)]) (kW Z Oa N9) (kM (ze Z Oa Oa) Oa) Oa) λv0 a2 x0 c0 J=>f' _ _ ?_];let o':=b9.fw J;erw[ai λd8 L=>eN (λu c=>∃(b:V),u=[δ$ vr p,δ$ tz f0,δ$ tz g,δ$ vr W,δ$ vn,δ$ vi,δ$ vs,δ$ vx,δ$ vy,δ$ vr lb,w5,δ b,θ]/\Ow H c p W lb (X++[u0])/\PB [(g,2)] Y 0 4 c b/\Wd H c p W Y/\am a2 c) (λE2 _ T=>Ja c0 Z Oa Oa (λc1 a0 a=>?_) (λc1 a0 a=>?_)) λσ1 a3 h1=>?_]
 .clear L;let o4:=o'.fw a;erw[ai λd' c2=>jW a0 (qU (jP Z eY$ eY _ _ _ a.t x0) (Ks$ Kq (Cf:=[(g,2)]) (kW Z Oa N9) (kM (Xd (ze Z Oa Oa) Oa) Oa) Oa) Oa) λv1 c3 x4 c4 k4=>c2 _ _ ?_];let c5:=o4.fw k4;let m4:am U c3:=((((d.trans k1).trans J.t).trans a.t).trans k4.t);erw[jW c4 (qU (jP Z eY x4) (Ks$ JR (Cf:=[(g,2)]) (kW Z Oa N9) (qp (n:=1) (qt CD) (jP Z aB$ aB _ _ _ m4 xn) (kM (Q9 Oa (by decide:(2:Int) < 3)) Oa) Oa Oa) Oa) Oa) λv2 c6 x5 c9 a4=>T _ _ ?_];let c':=c5.fw a4;let N:am a2 c6:=((a.t.trans k4.t).trans a4.t);rwa[#[_,Z,c',x5,c9,N]]
 .clear L;let o4:=o'.fw a;rwa[T _ _ #[_,Z,o4,(PB.more (eY _ _ _ a.t x0) Oa),a0,a.t]]
 let#[e0,Z,a5,x',d0,a']:=h1;erw[L _ _ ?_];let j:am U a3:=(((d.trans k1).trans J.t).trans a');let O:am a1 a3:=(J.t.trans a');erw[ai λe1 d1=>jW d0 (Do (qp (n:=1) (qt Xt) (jP Z aB$ aB _ _ _ j xi) (jP Z aB$ aB _ _ _ j xn) Oa Oa) (Dn (n:=5) Z a5 (b0.mono O) bl) Oa Oa) λv3 d2 d3 d4 k'=>d1 _ _ ?_];let e2:=a5.fw k';let D:am U d2:=(j.trans k'.t);erw[Xe d4 (ZA (QL Z) (Dl$ kW Z Oa N9) (qU (Ev.up (jP Z eY$ eY _ _ _ k'.t x') λ_ _=>PB.lift) (Ix (jP Z fj d3) (Ev.up (Kr (Cf:=[(g,2)]) (kM (Q9 Oa (by decide:(30:Int) < 31)) Oa) (jP Z aB$ aB _ _ _ D xs) Oa Oa) λ_ _=>dy.lift)$ Ev.up (XL (Cf:=[(g,2)]) (jP Z aB$ aB _ _ _ D xs) Oa) λ_ _=>dy.lift) Oa) Oa N9) λv c x W'=>?_];let#[r,Z,x]:=x;rwa[q r c x W'.B W'.K]
def ME(b:0<=d)(c:d < 2)(h:dy C H y 0 u)(a:dy C H y 0 v):iT C H y 0 (aT [u,v] θ$ δ (1+d))/\(aT [u,v] θ$ δ (1+d)).length<=2:=by
 rcases(by omega:d=0\/d=1) with rfl |rfl
 .rwa[#[zI h,by show 1<=2;decide]]
 .rwa[#[jX h$ zI a,by show 2<=2;decide]]
def P2(C:lD)(y:xD ρ)(H:Hp)(w:V):Prop:=∃a u v,w= .ref a/\H a=δ (.tup [u,v])/\dy C H y 0 u/\dy C H y 0 v
def DC:pJ (P2 C y):=λ_ _ _ m #[a,u,v,e,h,H,b]=>#[a,u,v,e,m _ _ h,H.mono m,b.mono m]
section
variable {Cf:lD}{ys:xD ρ}{H0 Hb:Hp}{p wl:ζ}{σ:_L.St}
def Eo(h:Ev H0 p wl ys Hb σ T (λH v=>dy Cf H ys 0 v))(c:Ev H0 p wl ys Hb σ d (λH v=>dy Cf H ys 0 v)):Ev H0 p wl ys Hb σ (cQ$ ap T$ ap d aZ) (P2 Cf ys):=λH Q m W q=>
 h H _ m W λo e X f a=>c e _ (m.trans a) f λs u g i b=>#[cj,λr n=>kL (P:=P2 Cf ys) i (λV j x l k=>q V j x l ((a.trans b).trans k)) n λt z=>#[r,_,_,Z,z,(X.mono b.t).mono t,g.mono t]]
def En(e:σ[i]?=δ (δ v))(E:σ[0]?=δ (↑p))(h:P2 Cf ys Hb v):Ev H0 p wl ys Hb σ (Ml Ge (bn i) nE$ oB$ fg (Ai λi j=>tT (i+j)) (tC$ .int 1)$ Ak 2) (PB Cf ys 0 2):=λH Q m W q=>
 #[v,e,ze E Oa Oa H _ m W λw y #[d,b,D,c] f k=>#[1,d,Z,b,_,Z,by
  let#[a,u,A,Z,g,l,n]:=DC _ _ _ (m.trans k).t h;let z:=ME D c l n;rwa[#[a,_,Z,g,λr o x s=>q _ o #[r,_,Z,x,z.1.mono$ aa.tm s,z.2] (f.same s) (k.trans$ .same s)]]]]
end
def a7:aj z43z z21z (ae ik):=bQ
def Qs:hJ:=#[.function,[(".0",.local),("_law_one",.local)],ν,ν,[]]
def YF:(["_law_one"]:xD ρ).Nodup:=by decide+kernel
def YG:bo z43z (ae ik) Qs ["_law_one"] 1 []:=oU
def Zt(F:xb K "_law_ticking" ik f fd)(C:‹1› fT b5 z0z bg "_law_take")(cO:‹2› fO b7 z18z om "_law_op")(mi:mg "int"=θ)(m1:mg "tuple"=θ):⇑3 f fd z21z (dU 1):=by
 erw[F.ok a7 λc0 A o5 s H vs Q E c h=>?_]
 let#[p,W,f0,g,ys,Z,B,hw,h1,q]:=h;erw[#[_,(jd (zu (@zn _ _ _ _ _ _ _ (["_law_one"]) (1) ([]) _ _ _ _ Z (zw$ jI km (pv 3) jT$ jH jf) YG (λ_ _ _ _ _=>(jx (i:=0) YF Z$ ω Z)) (λ_ _ _ _ _=>(@zH _)) (λ_ _ _ _ _=>(ji$ ja jm$ ja (pv 0) jb)) (by intro _;rfl))$ @ZS _ _ _ _ (5) _ Z (jD (jx (i:=4) a7.nd Z$ ω Z)$ jD (jx (i:=5) a7.nd Z$ ω Z)$ jD (jx (i:=6) a7.nd Z$ ω Z)$ jD (jx (i:=7) a7.nd Z$ ω Z)$ jD (jx (i:=8) a7.nd Z$ ω Z) kB) N6 N6)$ jd (jA 9 a7.nd$ ji$ ja jm$ ja (jv jY jf$ C.e c.m$ ja (pv 0)$ ja jf jb) jb)$ jd (jA 10 a7.nd$ jF$ ja (ji$ ja jm$ ja (jq ju (pv 3) jf)$ ja (pv 9) jb)$ ja (ji$ ja jm$ ja (jq ju (pv 3) jf)$ ja (jq ju (jF$ ja (pv 5)$ ja (ji$ ja jm$ ja (C.e c.m$ ja (pv 0)$ ja jf jb) jb) jb) (C.e c.m$ ja (pv 0)$ ja jf jb)) jb) jb)$ jd (jL$ jZ OV O8 O7 jQ (pv 10)$ ja (ji$ ja jm$ ja (jq ju (pv 3) jf)$ ja (pv 2)$ ja (ji$ ja (jq ju (jF$ ja (pv 7)$ ja (ji$ ja jm$ ja jf jb) jb) (C.e c.m$ ja (pv 0)$ ja jf jb))$ ja (jq ju (jF$ ja (pv 5)$ ja (ji$ ja jm$ ja jf jb) jb) (C.e c.m$ ja (pv 0)$ ja jf jb)) jb) jb) jb)$ jd (kc$ jy (zr$ C.e c.m$ ja (pv 0)$ ja jf jb) (jg$ jL$ jZ OV O8 O7 jQ (pv 10)$ ja (ji$ ja jm$ ja (ji$ ja jm$ ja jm$ ja (pv 5)$ ja (ji$ ja jm$ ja (C.e c.m$ ja (pv 0)$ ja jf jb) jb) jb)$ ja (pv 8) jb) jb) jp)$ jd (jA 11 a7.nd$ ji$ ja jm$ ja jf jb)$ jd (jA 12 a7.nd$ jF$ ja (ji$ ja jm$ ja (jq ju (pv 3) jf)$ ja (pv 11) jb)$ ja (ji$ ja jm$ ja (pv 11)$ ja (cO.e c.m$ ja (pv 0)$ ja (pv 6)$ ja (pv 8) jb) jb) jb)$ jd (kc$ jy (zr$ C.e c.m$ ja (pv 0)$ ja jf jb) (jg$ jA 12 a7.nd$ jF$ ja (ji$ ja jm$ ja (jq ju (pv 3) jf)$ ja (cO.e c.m$ ja (pv 0)$ ja (pv 6)$ ja (pv 8) jb) jb) jb) jp)$ jd (jA 10 a7.nd$ jv zG (jv zG (pv 10)$ pv 12)$ jF$ ja (ji$ ja jm$ ja (pv 9)$ ja (ji$ ja jm$ ja jm$ ja (pv 5)$ ja (ji$ ja jm$ ja jf jb) jb) jb)$ ja (ji$ ja jm$ ja (jq ju (pv 3) jf)$ ja (ji$ ja jm$ ja jm$ ja (pv 5)$ ja (pv 4) jb) jb) jb)$ jd (jA 13 a7.nd$ ji$ ja (ji$ ja jm$ ja (jq ju (pv 3) jf)$ ja (ji$ ja jm$ ja jf jb) jb)$ ja (ji$ ja jm$ ja (pv 9)$ ja (ji$ ja jm$ ja (C.e c.m$ ja (pv 0)$ ja jf jb) jb) jb) jb)$ jd (jA 14 a7.nd$ ji$ ja jm$ ja (ji$ ja jm$ ja (jq ju (pv 3) jf) jb)$ ja (jJ jN Z m1 RI$ ja (pv 10) jb) jb)$ jg$ jo$ ji$ ja (pv 1)$ ja (ji$ ja (jq ju (pv 3) jf) jb)$ ja (jv jU (jI j9 (pv 13) jT$ jH$ jv jY jf$ C.e c.m$ ja (pv 0)$ ja jf jb)$ ji$ ja (pv 14)$ ja (ji$ ja jm$ ja (pv 6) jb) jb) jb),?_]];let W0:Wd H H p W ys:=#[B,aI.refl,hw];erw[ai λF1 f1=>Z7 W0 Z h1 λvn vi vs vx vy H1 xn xi xs xx xy W1=>f1 _ _ ?_];erw[ai λF2 f2=>jW W1 (kM (Xd (ze Z Oa Oa) Oa) Oa) λv2 H2 x2 W2 k2=>f2 _ _ ?_];erw[ai λF3 f3=>IY W2 (Kq (Cf:=[(g,2)]) (kW Z Oa N9) (jP Z aB x2) Oa) (Kq (Cf:=[(g,2)]) (kW Z Oa N9) (Zy Z (jP Z aB$ aB _ _ _ k2.t xi)$ kM (ze Z Oa Oa) Oa) Oa) λlb u3 w3 H3 o3 x3 y3 W3 k3=>f3 _ _ ?_];let a:am H1 H3:=(k2.t.trans k3.t);erw[ai λF4 f4=>JF W3 Z o3 (show 2<=100 by decide) (vM (Cf:=[(g,2)]) (kW Z Oa N9) (QL Z) O5 (Zy Z (jP Z aB$ aB _ _ _ a xx)$ kM (Q9 Oa (by decide:(3:Int) < 4)) Oa) (Zy Z (jP Z aB$ aB _ _ _ a xi)$ kM (Q9 Oa (by decide:(2:Int) < 3)) Oa) Oa Oa) λu4 H4 x4 o4 W4 k4=>f4 _ _ ?_];erw[ai λF5 f5=>eN (λN d=>∃(us:xD V),N=[δ$ vr p,δ$ tz f0,δ$ tz g,δ$ vr W,δ$ vn,δ$ vi,δ$ vs,δ$ vx,δ$ vy,δ$ v2,δ$ vr lb,θ,θ,θ,θ]/\Ow H d p W lb us/\iT [(g,2)] d ys 0 us/\ry us<=4/\Wd H d p W ys/\am H4 d) (λE5 _ f6=>Ja W4 Z Oa Oa (λH7 W7 u=>?_) (λH7 W7 u=>?_)) λσ1 H6 h2=>?_]
 .clear f5;let o7:=o4.fw u;let D:am H1 H7:=((a.trans k4).trans u.t);erw[JF W7 Z o7 (show 3<=100 by decide) (Kr (Cf:=[(g,2)]) (qp (n:=1) (qt zA) (jP Z aB$ aB _ _ _ D xi) (kM (ze Z Oa Oa) Oa) Oa Oa) (jP Z aB$ aB _ _ _ D xy) Oa Oa) λu8 H8 x8 o8 W8 k8=>f6 _ _ ?_];let G:am H4 H8:=(u.t.trans k8);let I:am H3 H8:=((k4.trans u.t).trans k8);rwa[#[_,Z,o8,(jX ((fj _ _ _ I x3))$ jX ((fj _ _ _ I y3))$ jX ((fj _ _ _ G x4))$ jX (x8) KC),(show 4<=4 by decide),W8,G]]
 .clear f5;let o7:=o4.fw u;let J:am H3 H7:=(k4.trans u.t);rwa[f6 _ _ #[_,Z,o7,(jX ((fj _ _ _ J x3))$ jX ((fj _ _ _ J y3))$ jX ((fj _ _ _ u.t x4)) KC),(show 3<=4 by decide),W7,u.t]]
 let#[us,Z,o6,ux,ul,W6,k6]:=h2;erw[f5 _ _ ?_];erw[ai λF9 f9=>jW W6 (kM (Q9 Oa (by decide:(30:Int) < 31)) Oa) λv9 H9 x9 W9 k9=>f9 _ _ ?_];let o9:=o6.fw k9;let b:am H1 H9:=(((a.trans k4).trans k6).trans k9.t);erw[ai λF0 f7=>IY W9 (Kq (Cf:=[(g,2)]) (kW Z Oa N9) (jP Z aB x9) Oa) (Kr (Cf:=[(g,2)]) (jP Z aB x9) (Ko Z (jP Z aB$ aB _ _ _ b xs)$ jP Z aB$ aB _ _ _ b xy) Oa Oa) λlm u0 w0 H0 z0 x0 y0 W5 j=>f7 _ _ ?_];let o1:=o9.fw j;erw[ai λF6 y=>eN (λN d=>∃(m:ζ) (zs:xD V),N=[δ$ vr p,δ$ tz f0,δ$ tz g,δ$ vr W,δ$ vn,δ$ vi,δ$ vs,δ$ vx,δ$ vy,δ$ v2,δ$ vr lb,δ$ v9,↑m,θ,θ]/\Ow H d p W lb us/\Ow H d p W m zs/\iT [(g,2)] d ys 0 zs/\ry zs<=2/\Wd H d p W ys/\am H0 d) (λE1 _ L=>Ja W5 Z Oa Oa (λH5 O k=>?_) (λH5 O k=>?_)) λσ0 R h0=>?_]
 .clear y;let S:=o1.fw k;let z1:=z0.fw k;let l:am H1 H5:=((b.trans j.t).trans k.t);erw[IX O (JR (Cf:=[(g,2)]) (kW Z Oa N9) (Ko Z (jP Z aB$ aB _ _ _ l xs)$ jP Z aB$ aB _ _ _ l xy) Oa) λlq u1 a0 z2 x1 a1 k1=>L _ _ ?_];let o':=S.fw k1;let z:am H0 a0:=(k.t.trans k1.t);rwa[#[_,_,Z,o',z2,zI x1,(show 1<=2 by decide),a1,z]]
 .clear y;let S:=o1.fw k;let z1:=z0.fw k;rwa[L _ _ #[_,_,Z,S,z1,(jX ((fj _ _ _ k.t x0))$ jX ((fj _ _ _ k.t y0)) KC),(show 2<=2 by decide),O,k.t]]
 let#[lm,zs,Z,a2,z3,zx,zl,a3,T]:=h0;erw[y _ _ ?_];let o:am H2 R:=(((((k3.t.trans k4).trans k6).trans k9.t).trans j.t).trans T);let M:am H1 R:=((b.trans j.t).trans T);let U:am H6 R:=((k9.t.trans j.t).trans T);erw[ai λF7 f'=>Ee a3 Z Z a2 z3 N9 (ux.mono U) zx (Kr (Cf:=[(g,2)]) (jP Z aB$ aB _ _ _ o x2) (qp (n:=1) (qt zA) (jP Z aB$ aB _ _ _ M xi) (kM (Q9 Oa (by decide:(1:Int) < 2)) Oa) Oa Oa) Oa Oa) (JR (Cf:=[(g,2)]) (kW Z Oa N9) (qp (n:=1) (qt Xt) (jP Z aB$ aB _ _ _ M xi) (jP Z aB$ aB _ _ _ M xn) Oa Oa) Oa) λlc cs a4 a5 cx cl a' k5=>f' _ _ ?_];let cm:ry cs<=8:=by omega
 let X:am H2 a4:=(o.trans k5.t);erw[ai λb8 b0=>jW a' (Eo (JR (Cf:=[(g,2)]) (kW Z Oa N9) (kM (Q9 Oa (by decide:(1:Int) < 2)) Oa) Oa)$ Kr (Cf:=[(g,2)]) (jP Z aB$ aB _ _ _ X x2) (kM (ze Z Oa Oa) Oa) Oa Oa) λv0 b9 x5 b1 Y=>b0 _ _ ?_];let o2:=a5.fw Y;erw[ai λb' b2=>jW b1 (Do (Kn$ kW Z Oa N9) (Dn (n:=8) Z o2 (cx.mono Y.t) cm) Oa Oa) λv1 b3 x7 b4 k0=>b2 _ _ ?_];let c1:=o2.fw k0;let m0:am H1 b3:=(((M.trans k5.t).trans Y.t).trans k0.t);erw[Xe b4 (ZA (QL Z) (Dl$ kW Z Oa N9) (qU (Ev.up (En Z Z$ DC _ _ _ k0.t x5) λ_ _=>PB.lift) (Zz (jP Z fj x7)$ Ev.up (XL (Cf:=[(g,2)]) (jP Z aB$ aB _ _ _ m0 xs) Oa) λ_ _=>dy.lift) Oa) Oa N9) λv d x W'=>?_];let#[r,Z,x]:=x;rwa[q r d x W'.B W'.K]
def MF{y:xD ρ}{lo:Nat}(h:ry y=14)(H:lo<=8):(bK y (δ (lo:Int))$ δ ((lo+6:Nat):Int)).length=6:=by unfold bK;rw[HT.sIx_nat,HT.sIx_nat,Pf,Ry,h,RS$ O1 H Oa,RS$ Nat.add_le_add_right H 6,Nat.add_sub_cancel_left];rwa[RS$ Nat.le_sub_of_add_le$ O1 (VG H 6) Oa]
def NM{k:Nat}(h:k < n):oX n (k:Int)=δ k:=by unfold oX;rw[OT N9,OT N9,PQ]
def uP.more(h:uP C n H r f)(k:∀y∈C,y∈D):uP D n H r f:=let #[d,b,a,c]:=h;#[d,b,#[a.1,kG k a.2],c]
def MH(r:uP [(l,N),(m,j),(o,k)] N H a l)(s:uP [(l,N),(m,j),(o,k)] j H b m)(t:uP [(l,N),(m,j),(o,k)] k H c o)(p:N<=100/\j<=100/\k<=100):∃D,du H D [.ref a,.ref b,.ref c]/\ry D=3/\((∀d∈D,oI d/\d.b.Cs [(l,N),(m,j),(o,k)])/\D.map Df.f=[l,m,o])/\nK H D [N,j,k]:=by
 let#[d,u,v,O,y,z,E]:=r;let#[e,A,B,Q,C,F,G]:=s;let#[f,I,J,R,g3,L,M]:=t;erw[#[[d,e,f],#[_,_,Z,u,_,_,Z,A,_,_,Z,I,Z],Z,#[λx q=>?_,by rw[<- E,<- G,<- M];rfl],Z,λi x n h g=>?_]]
 .simp only[RY,Pm,T6]at q;rcases q with rfl |rfl |rfl
  .rwa[v]
  .rwa[B]
  .rwa[J]
 .match i,h,g with
  |0,h,g=>cases h;cases g;rwa[#[_,y,z,p.1]]
  |1,h,g=>cases h;cases g;rwa[#[_,C,F,p.2.1]]
  |2,h,g=>cases h;cases g;rwa[#[_,g3,L,p.2.2]]
inductive nq(b:xD V)(H:Hp)(Q:VK)(a:XK):Prop
 |mk(p:ζ)(_:b=[.ref p])(_:ax H p)(_:∀(r:ζ) (ds:xD Df) (xs:xD V) (H':Hp),H' r=δ (.tup xs)->du H' ds xs->ry ds=3->∀ns,uU ds ns->nK H' ds ns->(∃r,ns=1::r)->ax H' p->aI p H H'->Q (.ref r) H')
def HV(L:xD ρ)(_:Hp)(v:V):Prop:=∃x,v= .str x/\x∈L
section
variable {ys:xD ρ}{H0 Hb:Hp}{p wl:ζ}{σ:_L.St}
def IA{K:β}(e:σ[0]?=δ (↑p))(r:Ev H0 p wl ys Hb σ t (Ar a))(s:Ev H0 p wl ys Hb σ T (Ar b))(u:Ev H0 p wl ys Hb σ x (Ar c)):Ev H0 p wl ys Hb σ (fg (md K) (oA$ ap t$ ap T$ ap x aZ)$ Ak 3) (HV [a,b,c]):=λH Q m W q=>
 r H _ m W λy z (E:y= .str a) A k=>s z _ (m.trans k) A λC D (F:C= .str b) G f=>u D _ ((m.trans k).trans f) G λI R (J:I= .str c) h j=>#[iF,λl n=>ze e Oa Oa _ _ ((((m.trans k).trans f).trans j).trans$ .new n) (h.same$ je n) λv L #[d,M,S,U] N o=>by
  obtain⟨g,i,O⟩:∃g,eW [tz a,.str b,.str c] d=δ (.str g)/\g∈[a,b,c]:=by
   rcases(by omega:d=0\/d=1\/d=2) with rfl |rfl |rfl
   .rwa[#[a,Z,N8]]
   .rwa[#[b,Z,N8]]
   .rwa[#[c,Z,N8]]
  rw[<- E,<- F,<- J]at i;rwa[#[l,_,d,_,Z,M,aK.of$ o.b _ _ (h.B.ne n) jc,i,q _ L #[g,Z,O] N (((k.trans f).trans j).trans ((Fw.new n).trans o))]]]
def vN{K:β}{lo:Nat}(e:σ[0]?=δ (↑p))(E:σ[1]?=δ (↑wl))(d:Ev H0 p wl ys Hb σ t (Ar f))(l:Ev H0 p wl ys Hb σ T (HV L))(h:ry ys=14)(o:lo<=8)(s:i=(lo:Int))(u:j=((lo+6:Nat):Int)):
  Ev H0 p wl ys Hb σ (ff (dU n) [] E0$ ap (bn 0)$ ap t$ ap T$ ap (Ml (BX K) (bn 1) (oB$ tC$ .int i)$ oB$ tC$ .int j) aZ) (PD (L.map λy=>(y,2)) n f):=λH Q m W q=>
 #[_,e,d H _ m W λv x (z:v= .str f) A k=>l x _ (m.trans k) A λV M #[g,D,c] b F=>#[_,E,_,Z,_,Z,wl,_,Z,aK.of b.w,λr N=>#[p,r,f,g,bK ys (δ i)$ δ j,by rw[z,D];rfl,b.B.upd_new N,by rw[jc,zN],by rw[s,u];rwa[MF h o],λa G X I C=>
  q _ G #[a,Z,X.more λy J=>by rw[χ.mp J];rwa[dr.mpr #[g,c,Z]]] ((b.same$ je N).but I C) ((k.trans F).trans ((Fw.new N).trans$ .but (b.B.upd_new N) C))]]]
def Jb{K:β}{k:Nat}(e:σ[j]?=δ (↑wl))(a:i=(k:Int))(h:ys[k]?=δ y):Ev H0 p wl ys Hb σ (fg (md K) (bn j)$ tC$ .int i) (Ar y):=λH Q m W q=>
 #[_,e,wl,_,_,_,Z,Z,aK.of W.w,(by rw[a];rwa[jG (by rw[O2,h];rfl)]),q _ H Z W .refl]
def Iy{n1 n2 n3:Nat}(s:n1<=100/\n2<=100/\n3<=100)(u:Ev H0 p wl ys Hb σ T (PD [(e,n1),(h,n2),(i,n3)] n1 e))(y:Ev H0 p wl ys Hb σ z (PD [(e,n1),(h,n2),(i,n3)] n2 h))(A:Ev H0 p wl ys Hb σ B (PD [(e,n1),(h,n2),(i,n3)] n3 i)):Ev H0 p wl ys Hb σ (cQ$ ap T$ ap z$ ap B aZ) (λH v=>∃r D x,v= .ref r/\H r=δ (.tup x)/\du H D x/\ry D=3/\((∀d∈D,oI d/\d.b.Cs [(e,n1),(h,n2),(i,n3)])/\D.map Df.f=[e,h,i])/\nK H D [n1,n2,n3]):=λH Q m W q=>
 u H _ m W λV C X E k=>y C _ (m.trans k) E λF G I J j=>A G _ ((m.trans k).trans j) J λL H4 M N l=>#[iF,λr n=>q _ _ (by
  let t:=aa.tm (je (o:=HO.tup [V,F,L]) n);let#[a,O,R]:=mH _ _ _ t (mH _ _ _ (j.trans l).t X);let#[b,S,U]:=mH _ _ _ t (mH _ _ _ l.t I);let#[c,Y,h3]:=mH _ _ _ t M;let#[D,g]:=MH R U h3 s;rwa[#[r,D,_,Z,by rw[jc,O,S,Y],g]]) (N.same$ je n) (((k.trans j).trans l).trans$ .new n)]
end
def gW:aj ["_law_box_here","_law_w","_law_body_here","_law_deeper","_law_further","_law_first"] z2z (ae xP):=bQ
def Bn(F:xb K "_law_busy" xP f fd)(T:‹1› fT f0 z0z bg "_law_take")(cO:‹2› fO f1 z18z om "_law_op")(cA:‹2› fA f7 z27z iz "_law_names")(cL:‹3› fL f9 z21z (dU 1) "_law_looped")(cK:‹3› fK f' z21z (dU 1) "_law_ticking")(cI:‹3› fI a0 z39z (dU 2) "_law_inner"):⇑4 f fd z2z nq:=by
 erw[F.ok gW λc0 A U s H vs Q E i h=>?_]
 let#[p,Z,B,q]:=h;erw[#[_,(jd (jA 1 gW.nd$ cA.e i.m$ ja (pv 0)$ ja jf jb)$ jd (kc$ jy (zr$ T.e i.m$ ja (pv 0)$ ja jf jb) (jg$ zu (jq ju (pv 1) jf)$ qS (pv 1) jf zL) jp)$ jd (jA 2 gW.nd$ ji$ ja (ji$ ja jm$ ja (jq ju (pv 1) jf)$ ja (ji$ ja jm$ ja (jq ju (pv 1) jf) jb) jb)$ ja (ji$ ja jm$ ja (cO.e i.m$ ja (pv 0)$ ja (ji$ ja jm$ ja (jq ju (pv 1) jf) jb)$ ja (ji$ ja jm$ ja (jq ju (pv 1) jf) jb) jb) jb) jb)$ jd (jA 3 gW.nd$ ji$ ja (jq ju (pv 1) jf)$ ja (ji$ ja (jq ju (pv 1) jf)$ ja (jq ju (pv 1) jf) jb)$ ja (pv 2) jb)$ jd (jA 4 gW.nd$ jq ju (jF$ ja (jq ju (pv 1) jf)$ ja (jq ju (pv 1) jf)$ ja (jq ju (pv 1) jf) jb) (T.e i.m$ ja (pv 0)$ ja jf jb))$ jd (jA 5 gW.nd$ cL.e i.m$ ja (pv 0)$ ja (jq ju (pv 1) jf)$ ja (jq ju (pv 1) jf)$ ja (jI km (pv 1) (jH jf)$ jH jf) jb)$ jd (kc$ jy (zr$ T.e i.m$ ja (pv 0)$ ja jf jb) (jg$ jA 5 gW.nd$ cK.e i.m$ ja (pv 0)$ ja (jq ju (pv 1) jf)$ ja (jq ju (pv 1) jf)$ ja (jI km (pv 1) (jH jf)$ jH jf) jb) jp)$ jg$ jo$ ji$ ja (pv 5)$ ja (cI.e i.m$ ja (pv 0)$ ja (jq ju (pv 1) jf)$ ja (pv 4)$ ja (jI km (pv 1) (jH jf)$ jH jf) jb)$ ja (pv 3) jb),?_]];erw[ai λFa o=>#[_,Z,p,14,Z,B,Oa,Oa,λj ys Ha X u c d Ba ka=>o _ _ ?_]];let wp:j≠p:=qx Ba u;erw[ai λFa o=>eN (λn g=>∃Y:xD ρ,n=[δ$ vr p,δ$ vr j,θ,θ,θ,θ]/\g j=δ (.lst$ Y.map tz)/\(ry Y=14/\(Y.take 3).Nodup/\∀y∈Y.take 3,y.length<=20)/\ax g p/\aI p H g) (λE0 _ fm=>Ja (W:=#[Ba,ka,u]) Z Oa Oa (λHb l kb=>?_) (λHb l kb=>fm _ _ #[_,Z,l.w,#[N9,d.2.sublist$ RT _ _,λy hy=>d.1 y (P0 hy)],l.B,l.K])) λσ1 H0 h3=>?_]
 .clear o;let#[v1,h6,z]:=Ky (ys:=ys) (k:=1) Oa N9;erw[#[_,Z,j,_,_,_,Z,Z,aK.of l.w,z,_,Z,j,_,8,8,Z,Z,l.w,NM (k:=8) (by rw[OJ];omega),fm _ _ #[ys.set 8 v1,Z,?_,#[by rw[T4];omega,by rw[List.take_set_of_le Oa];rwa[#[d.2.sublist$ RT _ _,λy hy=>d.1 y (P0 hy)]]],l.B.eq$ jh$ Pk wp,l.K.upd_own X]]];rw[jc,WJ]
 obtain⟨ys,rfl,h4,⟨c,C,D⟩,B1,k1⟩:=h3;obtain⟨y0,h0⟩:∃y,ys[0]?=δ y:=#[_,OG (by omega:0 < ry ys)];obtain⟨G,I⟩:∃y,ys[1]?=δ y:=#[_,OG (by omega:1 < ry ys)];obtain⟨y2,N⟩:∃y,ys[2]?=δ y:=#[_,OG (by omega:2 < ry ys)];let e3:ys.take 3=[y0,G,y2]:=by rw[Sl,Sl,Sl,h0,I,N];rfl
 rw[e3]at C D;erw[o _ _ ?_];let W1:Wd H H0 p j ys:=#[B1,k1,h4];generalize H0=H1 at W1;erw[ai λF2 f2=>jW W1 (Zz (Kq (Cf:=[]) (kW Z Oa N9) (Kn$ kW Z Oa N9) Oa)$ XL (Cf:=[]) (Ko Z (Kn$ kW Z Oa N9)$ Kn$ kW Z Oa N9) Oa) λv2 H2 x2 W2 k2=>f2 _ _ ?_];erw[ai λF3 f3=>jW W2 (ZA (Cf:=[]) (Jb (k:=2) Z Z N) (Dm (kW Z Oa N9)$ kW Z Oa N9) (Ev.up (jP Z eY x2) λ_ _=>PB.lift) Oa N9) λv3 H3 x3 W3 k3=>f3 _ _ ?_];erw[ai λF4 f4=>jW W3 (IA Z (Jb (k:=1) Z Z I) (Jb (k:=2) Z Z N)$ Jb (k:=2) Z Z N) λv4 H4 x4 W4 k4=>f4 _ _ ?_];erw[ai λF5 f5=>jW W4 (vN (lo:=6) Z Z (Jb (k:=0) Z Z h0) (Ev.up (R:=HV [G]) (Jb (k:=1) Z Z I) λ_ _ e=>#[_,e,O5]) c Oa Z Z) λv5 H5 x5 W5 k5=>f5 _ _ ?_];erw[ai λF6 O=>eN (λn g=>∃(b:V),n=[δ$ vr p,δ$ vr j,δ$ v2,δ$ v3,δ$ v4,δ b]/\PD [(G,2)] 1 y0 g b/\Wd H g p j ys/\am H5 g) (λE6 _ J=>Ja W5 Z Oa Oa (λH8 W8 S=>?_) (λH8 W8 S=>?_)) λσ2 H7 h5=>?_]
 .clear O;erw[jW W8 (vN (lo:=6) Z Z (Jb (k:=0) Z Z h0) (Ev.up (R:=HV [G]) (Jb (k:=1) Z Z I) λ_ _ e=>#[_,e,O5]) c Oa Z Z) λv9 H9 x9 W9 k9=>J _ _ ?_];let M:am H5 H9:=(S.t.trans k9.t);rwa[#[_,Z,x9,W9,M]]
 .clear O;rwa[J _ _ #[_,Z,(mH _ _ _ S.t x5),W8,S.t]]
 let#[b7,Z,x7,W7,k7]:=h5;erw[O _ _ ?_];let L:am H3 H7:=((k4.t.trans k5.t).trans k7);erw[Xe W7 (Iy (n1:=1) (n2:=2) (n3:=2) #[Oa,Oa,Oa] (Ev.up (jP Z mH x7) (λ_ _ #[a,e,h]=>#[a,e,h.more N8])) (Ev.up (vN (lo:=7) Z Z (Jb (k:=1) Z Z I) (jP (P:=HV [G,y2,y2]) Z (λ_ _ _ _ h=>h) x4) c Oa Z Z) (λ_ _ #[a,e,h]=>#[a,e,h.more N8])) (Ev.up (jP Z mH$ mH _ _ _ L x3) (λ_ _ #[a,e,h]=>#[a,e,h.more N8]))) λv g x W'=>?_];let#[r,ds,xs,Z,g0,g1,g2,g3,g4]:=x;rwa[q r ds xs g g0 g1 g2 [1,2,2] #[by rw[g3.2];rwa[g3.1],by rw[g3.2];rwa[#[C,D]]] g4 #[_,Z] W'.B W'.K]
abbrev rA:cc:=bV 74
def G8(h:0<=d)(H:d < 4):∃m:Int,eW [tT 3,.int 3,.int 3,.int 8] d=δ (.int m)/\3<=m/\m<=8:=by
 rcases(by omega:d=0\/d=1\/d=2\/d=3) with rfl |rfl |rfl |rfl
 .rwa[#[3,Z,Oa,Oa]]
 .rwa[#[3,Z,Oa,Oa]]
 .rwa[#[3,Z,Oa,Oa]]
 .rwa[#[8,Z,Oa,Oa]]
def Em(h:du H D v)(f:0<=k)(g:k < (v.length:Int)):∃d,eW v k=δ (.ref d.p)/\d∈D/\C5 H d (.ref d.p):=by
 let a:k.toNat < ry v:=by omega
 let E:k=((k.toNat:Nat):Int):=by omega
 let#[d,c,b]:=h.at k.toNat _ (OG a);let e:v[k.toNat]= .ref d.p:=b.elim λ_ z=>z.1;erw[#[d,?_,Pd c,by rw[<- e];rwa[b]]];rw[E];rwa[jG (by rw[<- e];rwa[OG a])]
def Hw(H:Hp)(D:xD Df)(v a:V):Prop:=∃(d:Df) (p:xD ρ) (t:ζ) (I:xD Int),d∈D/\v= .str d.f/\H d.pa=δ (.tup$ p.map tz)/\a= .ref t/\H t=δ (.tup$ I.map tT)/\ry I=ry p/\ry I<=100/\∀i∈I,0<=i/\i < 1000000000000000000
inductive ny(b:xD V)(H:Hp)(Q:VK)(a:XK):Prop
 |mk(p:ζ)(_:b=[.ref p])(_:ax H p)(_:∀(t r:ζ) (v2 v3:V) (ds:xD Df) (xs:xD V) (H':Hp),H' t=δ (.tup [.ref r,v2,v3])->H' r=δ (.tup xs)->du H' ds xs->1<=ry ds->ry ds<=8->∀ns,uU ds ns->nK H' ds ns->Hw H' ds v2 v3->ax H' p->aI p H H'->Q (.ref t) H')
def gX:aj z44z z2z (ae rA):=bQ
def YH:hJ:=#[.function,[(".0",.local),("_law_one",.local),("_law_number",.globalImplicit),("_law_box_here",.free)],ν,ν,[]]
def wI:(["_law_one","_law_box_here"]:xD ρ).Nodup:=by decide+kernel
def vp:bo z44z (ae rA) YH ["_law_one","_law_box_here"] 1 [0]:=oU
def Bo(F:xb K "_law_case" rA f fd)(M:‹1› fT f0 z0z bg "_law_take")(cN:‹2› fN f3 z2z iX "_law_number")(cY:‹4› fY f4 z2z nq "_law_busy")(cZ:‹22› fZ f5 z38z rP "_law_any")(ml:mg "len"=θ)(m0:mg "tuple"=θ):⇑23 f fd z2z ny:=by
 erw[F.ok gX λc0 A o1 s H vs Q E y h=>?_]
 let#[p,Z,B,q]:=h;erw[#[_,(jd (jy (jz JQ (M.e y.m$ ja (pv 0)$ ja jf jb) jf$ aF _) (jd (jA 1 gX.nd$ cY.e y.m$ ja (pv 0) jb)$ jg$ jo$ ji$ ja (pv 1)$ ja (jw$ jq jC (pv 1) jf)$ ja (ji$ ja (M.e y.m$ ja (pv 0)$ ja jf jb) jb) jb) jp)$ jd (jA 2 gX.nd$ jq ju (jF$ ja jf$ ja jf$ ja jf$ ja jf jb) (M.e y.m$ ja (pv 0)$ ja jf jb))$ jd (jA 1 gX.nd$ cZ.e y.m$ ja (pv 0)$ ja (jv jY jf$ M.e y.m$ ja (pv 0)$ ja (pv 2) jb)$ ja jf jb)$ jd (zu (jq jC (pv 1) (M.e y.m$ ja (pv 0)$ ja (jO jK Z ml Pz$ ja (pv 1) jb) jb))$ zV (n:=3) Z$ jD (jx (i:=3) gX.nd Z$ ω Z)$ jD (jx (i:=4) gX.nd Z$ ω Z)$ jD (jx (i:=5) gX.nd Z$ ω Z) kB)$ jg$ jo$ ji$ ja (pv 1)$ ja (pv 3)$ ja (jJ jN Z m0 RI$ ja (@zn _ _ _ _ _ _ _ (["_law_one","_law_box_here"]) (1) ([0]) _ _ _ _ Z (z9$ pv 4) vp (λ_ _ _ _ _=>(jx (i:=0) wI Z$ ω Z)) (λ_ _ _ _ _=>(@zH _)) (λ_ _ _ _ _=>(cN.e y.m$ ja (pv 1) jb)) (by intro _;rfl)) jb) jb),?_]];let b0:=aL;erw[ai λF1 a=>pU λG1 g1=>#[_,Z,p,3,Z,B,Oa,Oa,λd1 H1 a0 a1 B1 e1=>#[_,_,Z,Z,_,Z,g1 _ _ ?_]]];let k1:aI p H H1:=aI.of_eq e1;erw[cp (λc=>?_) (λc=>a _ _ ?_)]
 .clear a;erw[ai λF2 f2=>#[_,Z,p,Z,B1,λr ds xs H2 N C hl ns D b O B2 k2=>f2 _ _ ?_]];let ln:=C.len;let#[nr,Z]:=O;cases ds with
  |nil=>cases hl
  |cons d r0=>
  let#[p0,R,S,_]:=b.2 0 d 1 Z Z;let h0:=C;obtain⟨u0,rr,rfl,⟨bs,rfl,hp,_⟩,_⟩:=h0;let g:eW (vr d.p::rr) 0=δ (.ref d.p):=dQ;erw[#[_,Z,jr N g #[d.p,_,_,_,Z,Z,aC.of hp,dQ,_,Z,p,6,Z,B2,Oa,Oa,λd3 H3 d0 d4 B3 e3=>?_]]];let c3:aI p H2 H3:=aI.of_eq e3;erw[#[iZ,λu nu=>#[iF,λt U=>?_]]];let s4:aa H3 (af (af H3 u$ .tup [.int d3]) t$ .tup [.ref r,.str d.f,.ref u]):=(je nu).trans (je U);let T:=(c3.tm B2).trans (aa.tm s4);rwa[q t r _ _ _ _ _ jc (T _ _ N) (C.mono T) N9 N9 _ D (b.mono T) #[d,p0,u,[d3],O5,Z,T _ _ R,Z,aq jc U,by rw[S];rfl,(by show 1<=100;decide),λi hi=>by rw[χ.mp hi];omega] (B3.same s4) ((k1.trans k2).trans$ c3.trans$ aI.of_same s4)]
 erw[ai λF1 a=>#[sg,λl W=>#[_,Z,p,4,Z,B1.upd_new W,Oa,Oa,λd2 H2 d6 d7 B2 e2=>?_]]];let k2:aI p H1 H2:=((aI.refl).upd_new W).trans (aI.of_eq e2);let#[m,g,m3,m8]:=G8 d6 d7;erw[#[l,_,_,_,Z,Z,aK.of (by rw[e2 l$ B1.ne W];rwa[jc]),g,a _ _ ?_]];erw[ai λF1 a=>#[_,Z,_,Z,_,Z,p,m,Z,B2,N9,N9,λd3 H3 d0 d4 B3 e3=>#[_,_,Z,Z,p,1+d3,12,Z,B3,N9,N9,Oa,Oa,λr ds xs H4 G C hl ns D b B4 k4=>a _ _ ?_]]];let ln:=C.len;let K4:aI p H H4:=(k1.trans k2).trans ((aI.of_eq e3).trans k4);erw[ai λF1 a=>#[_,Z,_,Z,_,Z,r,_,Z,.inr$ aC.of G,p,_,Z,B4,N9,N9,λd5 H5 d8 d' B5 e5=>?_]];let c5:aI p H4 H5:=aI.of_eq e5;let o:=c5.tm B4;let#[d,g,hd,bs,e,hp,_]:=Em (C.mono o) d8 d';erw[#[r,_,_,_,Z,Z,aC.of$ o _ _ G,g,d.p,_,Z,aC.of hp,Z,_,_,Z,_,_,Z,_,_,Z,Z,a _ _ ?_]];let#[pv,X,h4]:=b.v d hd;let z:=o _ _ X;erw[#[_,Z,_,Z,_,Z,d.pa,Z,#[_,aC.of z],?_]];erw[qJ (K:=K) (xs:=pv.map tz) (by rw[OJ];omega) (λi L J=>(∃I:xD Int,L=I.map tT/\ry I=i/\∀j∈I,0<=j/\j < 1000000000000000000)/\ax J p/\aI p H5 J) #[#[[],Z,Z,(λ_ h=>nomatch h)],B5,aI.refl] (λi L J k=>?_) (λi x L J hx k=>?_) (λL J k l W=>?_)]
 .rwa[#[aC.of$ k.2.2.tm B5 _ _ z,let #[I,e,l,_]:=k.1;by rw[e,OJ,l];rwa[OM _]]]
 .rwa[#[_,Z,p,Z,k.2.1,λe H7 e0 e1 B7 e7=>#[let #[I,h1,l,h2]:=k.1;#[I++[e],by rw[h1,O4];rfl,by rw[OL,l];rfl,Jr h2 #[e0,e1]],B7,k.2.2.trans$ aI.of_eq e7]]]
 .erw[#[l,_,Z,.inl #[aK.of jc,λl2 n0=>#[iF,λt U=>?_]]]];let s7:aa J (af (af (af J l$ .lst L) l2$ .tup L) t$ .tup [.ref r,.str d.f,.ref l2]):=((je W).trans$ je n0).trans (je U);let T:=o.trans ((k.2.2.tm B5).trans$ aa.tm s7);let#[I,hz,Y,h3]:=k.1;rw[OJ]at Y;rwa[q t r _ _ ds xs _ jc (T _ _ G) (C.mono T) N9 N9 ns D (b.mono T) #[d,pv,l2,I,hd,Z,T _ _ X,Z,by rw[<- hz];rwa[aq jc U],Y,N9,h3] (k.2.1.same s7) (K4.trans$ c5.trans$ k.2.2.trans$ aI.of_same s7)]
abbrev mQ:cc:=bV 12
abbrev nh:cc:=bV 13
abbrev aU:=xD (cg×V)
def hV(x:Int):Prop:=0<=x/\x < 1000000000000000000
def GT(k:aU):Prop:=∀p∈k,∃i,p.2= .int i/\hV i
def GT.nil:GT []:=λ_ h=>absurd h Pm
def GT.put(h:GT a)(k:cg){i:Int}(H:hV i):GT (bN a k$ .int i):=by
 intro p hp;unfold bN at hp;split at hp
 .let#[q,b,Z]:=dr.mp hp;by_cases e:q.1=k
  .rw[OT e];rwa[#[i,Z,H]]
  .rw[OU e];rwa[h q b]
 .rcases bm.mp hp with hp |hp
  .rwa[h p hp]
  .rw[χ.mp hp];rwa[#[i,Z,H]]
def GT.val(h:GT a)(e:eU a k=δ v):∃i,v= .int i/\hV i:=by unfold eU at e;let#[p,H,Z]:=cv.mp e;rwa[h p$ List.mem_of_find?_eq_some H]
def look(a:aU)(k:cg)(z:Int):Int:=match eU a k with
 |some (.int i)=>i
 |_=>z
def KO(h:GT a)(k:cg)(z:Int):(eU a k).getD (.int z)= .int (look a k z):=by
 unfold look;cases e:eU a k with
 |none=>rfl
 |some v=>let#[i,Z,_]:=h.val e;rfl
def tL(h:GT a)(e:eU a k=δ v)(z:Int):v= .int (look a k z):=by unfold look;let#[i,Z,_]:=h.val e;rw[e]
def tK(e:eU a k=θ)(z:Int):look a k z=z:=by unfold look;rw[e]
def Kc(h:GT a)(H:hV z):hV (look a k z):=by
 unfold look;cases e:eU a k with
 |none=>rwa[H]
 |some v=>let#[i,Z,b]:=h.val e;rwa[b]
def Kd:hV 0:=#[Oa,Oa]
def jn(i:Nat)(x y:Int):Int:=match i with
 |0=>(x+y) % 1000000000000000000
 |1=>(x - y) % 1000000000000000000
 |2=>x*y % 1000000000000000000
 |3=>if y=0 then 0 else x / y
 |4=>if x < y then 1 else 0
 |_=>if x=y then 1 else 0
def Tm.ev(k:aU):Tm->Int
 | .num n=>n
 | .var x=>look k (.inr x) 0
 | .op i a b=>jn i (a.ev k) (b.ev k)
def IF(H:hV x)(c:hV y):hV (jn i x y):=by
 let a:(1000000000000000000:Int)≠0:=by decide
 let b:(0:Int) < 1000000000000000000:=by decide
 match i with
 |0 |1 |2=>rwa[#[P7 _ a,PH _ b]]
 |3=>
  show hV (if y=0 then 0 else x / y);by_cases h:y=0
  .rw[OT h];rwa[#[Oa,Oa]]
  .rw[OU h];let e:=c.1;let d:0 < y:=by omega
   erw[#[Wr H.1 N09,Int.lt_of_le_of_lt ?_ H.2]];rwa[Int.ediv_le_self _ H.1]
 |4=>show hV (if x < y then 1 else 0);split<;>rwa[#[Oa,Oa]]
 |n+5=>show hV (if x=y then 1 else 0);split<;>rwa[#[Oa,Oa]]
theorem Jc(g:GT k):∀{t:Tm},t.Good y->hV (t.ev k)
 | .num _,h=>h
 | .var x,_=>Kc g Kd
 | .op _ _ _,h=>IF (Jc g h.2.1) (Jc g h.2.2)
inductive lQ(b:xD V)(H:Hp)(Q:VK)(a:XK):Prop
 |mk(i:Nat)(x y:Int)(_:b=[.str (MZ i),.int x,.int y])(_:i < 6)(_:hV x)(_:hV y)(_:Q (.int (jn i x y)) H)
def Nt(K:β)(H:Hp)(T:Tm)(a:ζ):Prop:=bJ H T a\/(T= .num 0/\aC K H a [.str "num",.int 0])
inductive dq(K:β)(n:Nat)(e:xD V)(H:Hp)(Q:VK)(b:XK):Prop
 |mk(a d:ζ)(T:Tm)(f:xD ρ)(c:aU)(_:e=[.ref a,.ref d])(_:Nt K H T a)(_:T.depth < n)(_:T.Good f)(_:H d=δ (.dK c))(_:GT c)(_:Q (.int (T.ev c)) H)
def yi:aj z24z z24z (ae mQ):=bQ
def tX(F:xb K "joined" mQ f b)(m:mg "TOP"=δ (.int 1000000000000000000 t)):⇑1 f b z24z lQ:=by
 erw[F.ok yi (λe A o s H d Q E r h=>?_)]
 let#[i,x,y,Z,u,g,j,q]:=h;erw[#[_,(jd (jy (j8$ pv 0) (jg$ jo$ jv zj (jv jY (pv 1)$ pv 2)$ Jd (v:=.int 1000000000000000000) Z m #[_,Z]) jp)$ jd (jy (j8$ pv 0) (jg$ jo$ jv zj (jv zi (pv 1)$ pv 2)$ Jd (v:=.int 1000000000000000000) Z m #[_,Z]) jp)$ jd (jy (j8$ pv 0) (jg$ jo$ jv zj (jv zF (pv 1)$ pv 2)$ Jd (v:=.int 1000000000000000000) Z m #[_,Z]) jp)$ jd (jy (j8$ pv 0) (jg$ jo$ kN (zr$ pv 2) jf$ jv KJ (pv 1)$ pv 2) jp)$ jd (jy (j8$ pv 0) (jg$ jo$ kN (jz QI (pv 1) (pv 2)$ aF _) jf jf) jp)$ jg$ jo$ kN (jz qr (pv 1) (pv 2)$ aF _) jf jf),?_]];let#[k,l]:=g;let#[n,p]:=j;rcases(by omega:i=0\/i=1\/i=2\/i=3\/i=4\/i=5) with rfl |rfl |rfl |rfl |rfl |rfl
 .erw[#[_,Z,Z,_,Z,c8 N7 ?_]];rwa[#[_,Z,_,Z,_,_,Z,Z,_,_,Z,Z,(by show(0:Int) < 1000000000000000000;decide),q]]
 .erw[#[_,Z,Z,_,Z,aY N7 ?_]];erw[#[_,Z,Z,_,Z,c8 N7 ?_]];rwa[#[_,Z,_,Z,_,_,Z,Z,_,_,Z,Z,(by show(0:Int) < 1000000000000000000;decide),q]]
 .erw[#[_,Z,Z,_,Z,aY N7 ?_]];erw[#[_,Z,Z,_,Z,aY N7 ?_]];erw[#[_,Z,Z,_,Z,c8 N7 ?_]];rwa[#[_,Z,_,Z,_,_,Z,Z,.inl #[N9,N9],_,_,Z,Z,(by show(0:Int) < 1000000000000000000;decide),q]]
 .erw[#[_,Z,Z,_,Z,aY N7 ?_]];erw[#[_,Z,Z,_,Z,aY N7 ?_]];erw[#[_,Z,Z,_,Z,aY N7 ?_]];erw[#[_,Z,Z,_,Z,c8 N7 ?_]];let a:Q (.int (if y=0 then 0 else x / y)) H:=q;erw[#[_,Z,Z,_,Z,?_]];erw[cp (λc=>?_) (λc=>?_)]
  .let C:tT y=tT 0:=Pw c;injection C with C;rw[OT C]at a;rwa[a]
  .let C:y≠0:=λz=>c (by rw[z];rfl);rw[OU C]at a;rwa[#[_,Z,_,Z,_,_,Z,Z,#[N9,N9],a]]
 .erw[#[_,Z,Z,_,Z,aY N7 ?_]];erw[#[_,Z,Z,_,Z,aY N7 ?_]];erw[#[_,Z,Z,_,Z,aY N7 ?_]];erw[#[_,Z,Z,_,Z,aY N7 ?_]];erw[#[_,Z,Z,_,Z,c8 N7 ?_]];let a:Q (.int (if x < y then 1 else 0)) H:=q;erw[#[_,Z,_,Z,_,_,Z,Z,_,Z,?_]];erw[cp (λc=>?_) (λc=>?_)]
  .rw[OT$ Pw c]at a;rwa[a]
  .rw[OU$ Ta$ mS.mpr c]at a;rwa[a]
 .erw[#[_,Z,Z,_,Z,aY N7 ?_]];erw[#[_,Z,Z,_,Z,aY N7 ?_]];erw[#[_,Z,Z,_,Z,aY N7 ?_]];erw[#[_,Z,Z,_,Z,aY N7 ?_]];erw[#[_,Z,Z,_,Z,aY N7 ?_]];let a:Q (.int (if x=y then 1 else 0)) H:=q;erw[#[_,Z,_,Z,Z,_,Z,?_]];erw[cp (λc=>?_) (λc=>?_)]
  .let C:tT x=tT y:=Pw c;injection C with C;rw[OT C]at a;rwa[a]
  .let C:x≠y:=λz=>c (by rw[z];rwa[OY Z]);rw[OU C]at a;rwa[a]
def CA:aj z10z z10z (ae nh):=bQ
def xj(F:xb K "worth" nh f p)(C:‹n+1› f p z10z (dq K n) "worth")(v:‹1› R B z24z lQ "joined"):⇑(n+2) f p z10z (dq K$ n+1):=by
 erw[F.ok CA (λD A o s H V Q E j h=>?_)]
 let#[a,d,T,y,c,Z,t,I,g,l,G,q]:=h;erw[#[_,(jd (jy (j8$ jw$ pv 0) (jg$ jo$ jw$ pv 0) jp)$ jd (jy (j8$ jw$ pv 0) (jg$ jo$ @KM _ _ _ _ _ _ _ _ _ (zR j) (pv 1) (jw$ pv 0) jf #[N6,N6,N6,N6]) jp)$ jg$ jo$ v.e j.m$ ja (jw$ pv 0)$ ja (C.e j$ ja (jw$ pv 0)$ ja (pv 1) jb)$ ja (C.e j$ ja (jw$ pv 0)$ ja (pv 1) jb) jb),?_]];cases T with
 |num m=>
  let b:aC K H a [.str "num",.int m]:=t.elim (λh=>aC.of h) λz=>by cases z.1;rwa[z.2]
  erw[#[_,Z,a,_,_,_,Z,Z,b,Z,Z,_,Z,c8 N7 ?_]];rwa[#[_,Z,a,_,_,_,Z,Z,b,Z,q]]
 |var x=>
  let b:H a=δ (.tup [.str "var",.str x]):=t.resolve_right λz=>by cases z.1
  erw[(jr b Z #[Z,_,Z,aY N7 ?_])];erw[(jr b Z #[Z,_,Z,c8 N7 ?_])];erw[#[_,Z,d,Z,.inl #[c,.inl l],jr b Z #[_,hZ.k (k:=Sum.inr x) l,?_]]];rw[KO G];rwa[q]
 |op i r u=>
  let#[J,L,b,M,N]:=t.resolve_right λz=>by cases z.1
  let O:max r.depth u.depth+1 < n+1:=I;erw[(jr b Z #[Z,_,Z,aY N7 ?_])];erw[(jr b Z #[Z,_,Z,aY N7 ?_])];erw[(jr b Z ?_)];erw[(jr b Z #[_,Z,J,d,r,y,c,Z,.inl M,N9,g.2.1,l,G,?_])];erw[(jr b Z #[_,Z,L,d,u,y,c,Z,.inl N,N9,g.2.2,l,G,?_])];rwa[#[i,_,_,Z,g.1,Jc G g.2.1,Jc G g.2.2,q]]
def wN:⇑1 f e z10z (dq K 0):=by
 let n:∀v H Q E,¬dq K 0 v H Q E:=λv H Q E h=>by let#[a,d,T,y,k,_,_,c,_]:=h;rwa[absurd c$ Td _]
 rwa[#[λv H Q E h=>absurd h (n v H Q E),λA o s H b u v Q E _ _ _ _ h=>absurd h (n v H Q E)]]
theorem y9(F:xb K "worth" nh f a)(b:aE K a z10z [])(m:mg "worth"=↑f)(c:‹1› e d z24z lQ "joined"):
  ∀n:Nat,⇑(n+1) f a z10z (dq K n)
 |0=>wN
 |n+1=>xj F #[(y9 F b m c n),b,F.kp,m] c
def TV(H:Hp)(y:xD ρ)(t:ζ)(T:Tm):Prop:=bJ H T t/\dY y T
def TV.mono(k:am H a)(h:TV H y t T):TV a y t T:=#[h.1.mono k,h.2]
inductive Gl where
 |give (t:ζ) (T:Tm) |nought |go (n:Nat)
structure WD where
 sets:xD (ρ×ζ×Tm)
 goal:Gl
def Gl.gol(N:ζ):Gl->LX
 | .give t _=>.give t
 | .nought=>.give N
 | .go n=>.go (n:Int)
def WD.wy(n:ζ)(w:WD):Wy:=#[w.sets.map λs=>(s.1,s.2.1),w.goal.gol n]
def HM(H:Hp)(y:xD ρ)(m:Nat):Gl->Prop
 | .give t T=>TV H y t T
 | .nought=>True
 | .go n=>n < m
structure Ag(H:Hp)(ys:xD ρ)(m N:Nat)(w:WD):Prop where
 sets:∀s∈w.sets,TV H ys s.2.1 s.2.2
 len:ry w.sets<=N
 goal:HM H ys m w.goal
def nM(H:Hp)(y:xD ρ)(n:ζ)(m N:Nat)(w:Wy):Prop:=∃d:WD,d.wy n=w/\Ag H y m N d
def Nh(F:lD)(H:Hp)(y:xD ρ):Dd->Prop
 | .st p=>∃(l:Lf) (v:xD V),H p=δ (.tup v)/\Aq H l v/\l.Ok y/\l.isCut=μ/\l.Cs F
 | .ask t=>∃T,TV H y t T
def Dd.ways:Dd->Nat
 | .st _=>1
 | .ask _=>2
structure Am(F:lD)(H:Hp)(ys:xD ρ)(nA:ζ)(m N:Nat)(c:Ct):Prop where
 mem:∀x,c.M x->x∈ys
 deed:Nh F H ys c.d
 ways:∀w∈c.ws,nM H ys nA m N w
 len:ry c.ws=c.d.ways
structure Af(H:Hp)(ys:xD ρ)(nA:ζ)(m N:Nat)(pc:Pc):Prop where
 mem:∀x,pc.M x->x∈ys
 way:nM H ys nA m N pc.w
section
variable {F:lD}{H H':Hp}{ys:xD ρ}{nA:ζ}{m N N':Nat}
def HM.mono(k:am H H')(h:HM H ys m g):HM H' ys m g:=by
 cases g with
 |give t T=>rwa[TV.mono k h]
 |nought=>trivial
 |go n=>rwa[h]
def Ag.mono(k:am H H'){w:WD}(h:Ag H ys m N w):Ag H' ys m N w:=#[λs a=>(h.sets s a).mono k,h.len,h.goal.mono k]
def nM.up(a:N<=N'){w:Wy}(h:nM H ys nA m N w):nM H ys nA m N' w:=let #[d,e,v]:=h;#[d,e,v.sets,O1 v.len a,v.goal]
def Am.up(a:N<=N')(h:Am F H ys nA m N c):Am F H ys nA m N' c:=#[h.mem,h.deed,λw b=>(h.ways w b).up a,h.len]
def Af.up(a:N<=N')(h:Af H ys nA m N p):Af H ys nA m N' p:=#[h.mem,h.way.up a]
def YN{n:Nat}(a:k=(n:Int))(b:n < m):nM H ys nA m N #[[],.go k]:=#[#[[],.go n],by rw[a];rfl,(λ_ h=>absurd h Pm),OS _,b]
theorem Kt:∀(b:Bd) {X:xD V} {g:Pc} {fs:xD Ct} {N:Nat},eL H b X->b.Ok ys->b.Cs F->Af H ys nA m N g->(∀c∈fs,Am F H ys nA m N c)->ry fs+b.cuts<=m->
  Af H ys nA m (N+b.size) (pB (m:Int) b g fs).1/\∀c∈(pB (m:Int) b g fs).2,Am F H ys nA m (N+b.size) c
 | .nil,_,_,_,_,_,_,_,o,y,_=>#[o,y]
 | .lf p l r,X,g,fs,N,C,i,k,o,y,D=>by
  let#[vs,zs,_,h1,I,h3]:=C;let E:ry fs+(l.cut+r.cuts)<=m:=D;let#[R,A]:=Kt r h3 i.2 k.2 o y N9;let hl:=kn (m:Int) r g fs;let S:N+r.size<=N+(r.size+1):=by omega
  let j:=Lf.use_in i.1 R.mem;let J:l.isCut=μ->l.cut=1->Af H ys nA m (N+(r.size+1)) #[l.use (pB (m:Int) r g fs).1.M,#[[],.go ((m:Int) - ((pB (m:Int) r g fs).2.length:Int) - 1)]]/\∀c∈(pB (m:Int) r g fs).2++[#[l.use (pB (m:Int) r g fs).1.M,.st p,[(pB (m:Int) r g fs).1.w]]],Am F H ys nA m (N+(r.size+1)) c:=λG h0=>
   #[#[j,YN (n:=m - (ry fs+r.cuts) - 1) (by rw[hl];rwa[N09]) N09],λc L=>by
    rcases bm.mp L with z |z
    .rwa[(A c z).up S]
    .rw[χ.mp z];rwa[#[j,#[l,vs,h1,I,i.1,G,k.1],λw hw=>by rw[χ.mp hw];rwa[R.way.up S],Z]]]
  show Af H ys nA m (N+(r.size+1)) (pL (m:Int) p l$ pB (m:Int) r g fs).1/\∀c∈(pL (m:Int) p l$ pB (m:Int) r g fs).2,Am F H ys nA m (N+(r.size+1)) c;cases l with
  |gv t T=>rwa[#[#[j,#[#[[],.give t T],Z,(λ_ h=>absurd h Pm),OS _,I.2,i.1]],λc G=>(A c G).up S]]
  |st x t T=>
   erw[#[#[j,?_],λc G=>(A c G).up S]];show nM H ys nA m _ (lK x t (pB (m:Int) r g fs).1);unfold lK;split
   .let#[d,e,v]:=R.way;erw[#[#[(x,t,T)::d.sets,d.goal],by rw[<- e];rfl,λs hs=>?_,Rz v.len,v.goal]];rcases Ξ.mp hs with rfl |hs
    .rwa[#[I.2,i.1.2]]
    .rwa[v.sets s hs]
   .rwa[R.way.up S]
  |rd x t T |wr t u T U |cl x f q ts=>rwa[J Z Z]
 | .ite p t T a c r,X,g,fs,N,C,i,k,o,y,D=>by
  let#[qa,qb,as,bs,zs,_,g1,O,g2,g3,Q,g5,W]:=C;let E:ry fs+(1+a.cuts+c.cuts+r.cuts)<=m:=D;let#[R,A]:=Kt r W i.2.2.2 k.2.2 o y N9;let B:=kn (m:Int) r g fs;let#[c1,c2]:=Kt c g5 i.2.2.1 k.2.1 R A N9;let h4:=kn (m:Int) c (pB (m:Int) r g fs).1 (pB (m:Int) r g fs).2;let#[Y,a2]:=Kt a Q i.2.1 k.1 (R.up$ So _ _) c2 N9;let S:N+r.size+c.size+a.size<=N+(a.size+c.size+r.size+1):=by omega
  let j:∀x,(Bd.ite p t T a c .nil).use (pB (m:Int) r g fs).1.M x->x∈ys:=Bd.use_in #[i.1,i.2.1,i.2.2.1,trivial] R.mem;let hk:(m:Int) - ((pB (m:Int) r g fs).2.length:Int) - ((Bd.ite p t T a c .nil).cuts:Int)=((m - (ry fs+r.cuts) - (1+a.cuts+c.cuts):Nat):Int):=by show(m:Int) - _ - ((1+a.cuts+c.cuts+0:Nat):Int)=_;rw[B];rwa[N09]
  unfold pB;dsimp only;erw[#[#[j,YN hk N09],λe he=>?_]];rcases bm.mp he with z |z
  .rwa[(a2 e z).up S]
  .rw[χ.mp z];erw[#[j,#[T,O,i.1],λw hw=>?_,Z]];rcases Ξ.mp hw with rfl |hw
   .rwa[Y.way.up S]
   .rw[χ.mp hw];rwa[c1.way.up (by show _<=N+(a.size+c.size+r.size+1);omega)]
 | .loop p t T a r,X,g,fs,N,C,i,k,o,y,D=>by
  let#[qa,as,zs,_,g1,O,g2,Q,W]:=C;let E:ry fs+(1+a.cuts+r.cuts)<=m:=D;let#[R,A]:=Kt r W i.2.2 k.2 o y N9;let B:=kn (m:Int) r g fs;let j:∀x,(Bd.loop p t T a .nil).use (pB (m:Int) r g fs).1.M x->x∈ys:=Bd.use_in #[i.1,i.2.1,trivial] R.mem;let hk:(m:Int) - ((pB (m:Int) r g fs).2.length:Int) - ((Bd.loop p t T a .nil).cuts:Int)=((m - (ry fs+r.cuts) - (1+a.cuts):Nat):Int):=by show(m:Int) - _ - ((1+a.cuts+0:Nat):Int)=_;rw[B];rwa[N09]
  let pl:Af H ys nA m (N+r.size) #[(Bd.loop p t T a .nil).use (pB (m:Int) r g fs).1.M,#[[],.go ((m:Int) - ((pB (m:Int) r g fs).2.length:Int) - ((Bd.loop p t T a .nil).cuts:Int))]]:=#[j,YN hk N09];let#[Y,a2]:=Kt a Q i.2.1 k.1 pl A N9;let S:N+r.size+a.size<=N+(a.size+r.size+1):=by omega
  unfold pB;dsimp only;erw[#[pl.up (by show _<=N+(a.size+r.size+1);omega),λe he=>?_]];rcases bm.mp he with z |z
  .rwa[(a2 e z).up S]
  .rw[χ.mp z];erw[#[j,#[T,O,i.1],λw hw=>?_,Z]];rcases Ξ.mp hw with rfl |hw
   .rwa[Y.way.up S]
   .rw[χ.mp hw];rwa[R.way.up (by show _<=N+(a.size+r.size+1);omega)]
end
def ci(n:ζ)(d:Df):xD Ct:=(iV n d).2.reverse
def Z8(n:ζ)(d:Df):(ci n d).length=d.b.cuts:=by unfold ci;rw[VD];rwa[(kn _ _ _ _).trans (SQ _)]
def DM{nA:ζ}{d:Df}(f:eL H d.b B)(g:d.b.Ok y):Af H y nA d.b.cuts d.b.size (iV nA d).1/\∀c∈ci nA d,Am d.b.calls H y nA d.b.cuts d.b.size c:=by let p:Af H y nA d.b.cuts 0 (MT nA):=#[λx i=>absurd i Pm,#[[],.nought],Z,(λ_ h=>absurd h Pm),OM _,trivial];let#[a,e]:=Kt (m:=d.b.cuts) d.b f g (zO d.b) p (fs:=[]) (λ_ h=>absurd h Pm) (by show 0+_<=_;omega);rw[SQ]at a e;rwa[#[a,λc j=>e c (List.mem_reverse.mp j)]]
def Q7{M:ρ->Prop}{y:xD ρ}(h:∀x,M x->x∈y):(canon M).length<=ry y:=by
 by_cases e:∃s,Nm s M
 .let#[s,H]:=e;rw[<- H.canon];rwa[H.len h]
 .unfold canon;rw[dif_neg e];rwa[OS _]
def cy:xD (ρ×ζ×Tm)->aU->aU
 | [],k=>k
 |s::r,k=>cy r (bN k (.inr s.1) (.int (s.2.2.ev k)))
def eO(N:ζ)(d:Df)(n:Nat):xD ρ:=match (ci N d)[n]? with
 |some c=>canon c.M
 |none=>[]
def oY(N:Nat->xD ρ)(k:aU):Gl->Tr
 | .give _ T=>ay [aM "give",ar (T.ev k)]
 | .nought=>ay [aM "give",ar 0]
 | .go n=>ay [aM "go",ar (n:Int),ay ((N n).map λx=>ar (look k (.inr x) 0))]
theorem qe{H:Hp}{ys:xD ρ}:∀{ss:xD (ρ×ζ×Tm)} {k:aU},(∀s∈ss,TV H ys s.2.1 s.2.2)->GT k->GT (cy ss k)
 | [],_,_,g=>g
 |s::r,k,h,g=>qe (H:=H) (ys:=ys) (ss:=r) (λS a=>h S (Pe _ a)) (g.put _ (Jc g (h s O5).2.1))
def ut{S:xD (ρ×ζ×Tm)}:∀{i:Nat} {s:ρ×ζ×Tm} {k:aU},S[i]?=δ s->cy (S.take$ i+1) k=bN (cy (S.take i) k) (.inr s.1) (.int$ s.2.2.ev$ cy (S.take i) k):=by
 induction S with
 |nil=>intro i s k h;simp at h
 |cons a r I=>
  intro i s k h;cases i with
  |zero=>cases h;rfl
  |succ i=>rwa[I (by simpa using h)]
def qB{kvs:aU}{k:cg}{v:V}:(bN kvs k v).length<=ry kvs+1:=by
 unfold bN;split
 .rw[OJ];rwa[Rk _]
 .rw[OL];rwa[OM _]
theorem Ya:∀{ss:xD (ρ×ζ×Tm)} {k:aU},(cy ss k).length<=ry k+ry ss
 | [],_=>OM _
 |s::r,k=>by let h:=Ya (ss:=r) (k:=bN k (.inr s.1) (.int$ s.2.2.ev k));let H:=qB (kvs:=k) (k:=.inr s.1) (v:=.int (s.2.2.ev k));show(cy r _).length<=ry k+(ry r+1);omega
def aQ(n:xD ρ)(i:xD Int):aU:=dR [] ((n.map Sum.inr).zip$ i.map tT)
theorem Yb:∀{m:aU} {k:aU},GT k->GT m->GT (dR k m)
 | [],_,g,_=>g
 |p::r,k,g,h=>by
  let#[i,e,H]:=h p O5;let E:bN k p.1 p.2=bN k p.1 (.int i):=by rw[e]
  show GT (dR (bN k p.1 p.2) r);rw[E];rwa[Yb (g.put _ H) λq a=>h q (Pe _ a)]
def qV(h:∀i∈I,hV i):GT (aQ n I):=by erw[Yb GT.nil λp H=>?_];let#[i,a,e]:=dr.mp (T3 H).2;rwa[#[i,e.symm,h i a]]
def Z9{ns:xD ρ}{is:xD Int}:(aQ ns is).length<=ry ns:=by let h:=qM ((ns.map Sum.inr).zip$ is.map tT) [];rw[UG,OJ]at h;show(dR [] _).length<=_;let H:(dR [] ((ns.map Sum.inr).zip$ is.map tT)).length<=0+min ns.length (is.map tT).length:=h;omega
abbrev ph:cc:=bV 23
abbrev mP:cc:=bV 24
abbrev ij:cc:=bV 28
abbrev mO:cc:=bV 29
abbrev lG:cc:=bV 30
abbrev mX:cc:=bV 31
structure nL(H:Hp)(nA:ζ)(d:Df)(ys:xD ρ)(v:V):Prop where
 tr:aR H (gK nA d) v []
 bd:∃bs,eL H d.b bs
 ok:d.b.Ok ys
 y20:ys.length<=20
 sz:d.b.size<=3000
structure HK(H:Hp)(nA:ζ)(d:Df)(ys:xD ρ)(c:Ct)(ka na wa:ζ)(dv:V)(wvs:xD V):Prop where
 at':H ka=δ (.tup [.ref na,dv,.ref wa])
 nms:H na=δ (.tup ((canon c.M).map tz))
 deed:aR H (Me c.d) dv []
 wat:H wa=δ (.tup wvs)
 ways:aR H (aD$ c.ws.map i7) .non wvs
 v:Am d.b.calls H ys nA d.b.cuts d.b.size c
theorem se:∀{S:xD ρ} {v:xD V},aR H (aD$ S.map aM) .non v->v=S.map tz
 | [],v,h=>h
 |s::S,v,h=>by obtain⟨_,_,y,Y,rfl,⟨rfl,_⟩,a⟩:=h;rw[se a];rfl
section
variable {H H':Hp}{nA:ζ}{d:Df}{ys:xD ρ}{v:V}
def nL.mono(k:am H H')(h:nL H nA d ys v):nL H' nA d ys v:=#[h.tr.mono k,let #[b,a]:=h.bd;#[b,a.mono k],h.ok,h.y20,h.sz]
inductive nLp(H:Hp)(nA:ζ)(d:Df)(v:V):Prop|mk(a c W C:_)(_:v= .ref a)(_:H a=δ (.tup [.str d.f,.ref d.pa,W,.ref c]))(_:aR H (i7 (iV nA d).1.w) W [])(_:H c=δ (.tup C))(_:aR H (aD ((ci nA d).map Ii)) .non C)
def nL.parts(h:nL H nA d ys v):nLp H nA d v:=by obtain⟨_,a,x,rfl,i,_,_,n,Y,rfl,⟨rfl,_⟩,_,_,o,j,rfl,⟨rfl,_⟩,_,_,W,k,rfl,l,_,_,p,y,rfl,m,e⟩:=h.tr;let e:y=[]:=e;subst e;let#[_,c,C,Z,b,g]:=m;rwa[#[a,c,W,C,Z,i,l,b,g]]
def nL.cut{C:xD V}(h:nL H nA d ys v)(a:aR H (aD ((ci nA d).map Ii)) .non C){n:Nat}{c:Ct}(g:(ci nA d)[n]?=δ c):∃k N i D W,C[n]?=↑k/\HK H nA d ys c k N i D W:=by
 let L:=zo a;rw[OJ]at L;let u:n < ry C:=by rw[L];rwa[(ξ.mp g).1]
 let j:C[n]?=δ C[n]:=OG u;let#[T,b,t]:=qT a n _ j;rw[O2,g]at b;cases b;let#[B,y]:=h.bd;let z:=(DM (nA:=nA) y h.ok).2 c (Pd g);generalize C[n]=x at j t;let#[_,k,E,Z,l,_,_,F,G,Z,m,_,_,D,I,Z,o,_,_,J,A,Z,p,e]:=t;let e:A=[]:=e;subst e;let#[_,N,M,Z,f,q]:=m;let#[_,i,W,Z,r,s]:=p;rw[se q]at f;rwa[#[k,N,i,D,W,j,l,f,o,r,s,z]]
def nL.way(h:nL H nA d ys v):nM H ys nA d.b.cuts d.b.size (iV nA d).1.w:=let #[B,a]:=h.bd;(DM (nA:=nA) a h.ok).1.way
def wL(h:(ci nA d)[n]?=δ c):eO nA d n=canon c.M:=by unfold eO;rw[h]
end
structure Mz(H:Hp)(nA:ζ)(w:WD)(wa sa ga:ζ)(ss:xD V)(wd:ρ)(u:V):Prop where
 at':H wa=δ (.tup [.ref sa,.ref ga])
 sat:H sa=δ (.tup ss)
 sets:∀(i:Nat) (x:V),ss[i]?=δ x->∃(s:ρ×ζ×Tm) (p:ζ),w.sets[i]?=δ s/\x= .ref p/\H p=δ (.tup [.str s.1,.ref s.2.1])
 len:ry ss=ry w.sets
 gat:H ga=δ (.tup [.str wd,u])
 goal:match w.goal with
  | .give t _=>wd="give"/\u= .ref t
  | .nought=>wd="give"/\u= .ref nA
  | .go n=>wd="go"/\u= .int (n:Int)
def CW{w:WD}(h:aR H (i7$ w.wy N) v []):∃(l S G:ζ) (A:xD V) (W:ρ) (u:V),v= .ref l/\Mz H N w l S G A W u:=by
 obtain⟨_,r,X,rfl,C,_,_,y0,D,rfl,⟨_,s,c,rfl,E,m⟩,_,_,Y,y,rfl,b,e⟩:=h;let e:y=[]:=e;subst e;let L:=zo m;let st:∀(i:Nat) (x:V),c[i]?=δ x->∃(s:ρ×ζ×Tm) (p:ζ),w.sets[i]?=δ s/\x= .ref p/\H p=δ (.tup [.str s.1,.ref s.2.1]):=λi x F=>by let#[tr,o,I]:=qT m i x F;rw[O2]at o;let#[q,J,Z]:=cv.mp o;let a:(w.sets.map λs=>(s.1,s.2.1))[i]?=δ q:=J;rw[O2]at a;let#[z,M,Z]:=cv.mp a;obtain⟨_,p,X,rfl,O,_,_,Q,R,rfl,⟨rfl,_⟩,_,_,U,B,rfl,⟨rfl,_⟩,e⟩:=I;let e:B=[]:=e;subst e;rwa[#[z,p,M,Z,O]]
 let ln:ry c=ry w.sets:=by rw[L,OJ];rwa[OJ ..]
 let f:∀g:Gl,w.goal=g->aR H (AY$ g.gol N) Y []->∃(G:ζ) (W:ρ) (u:V),Y= .ref G/\H G=δ (.tup [.str W,u])/\match g with
  | .give t _=>W="give"/\u= .ref t
  | .nought=>W="give"/\u= .ref N
  | .go n=>W="go"/\u= .int (n:Int):=λg _ b=>by
  cases g with
  |give t T |nought |go n=>obtain⟨_,gl,X,rfl,d,_,_,Q,R,rfl,⟨rfl,_⟩,_,_,U,B,rfl,⟨rfl,_⟩,e⟩:=b;let e:B=[]:=e;subst e;rwa[#[gl,_,_,Z,d,Z,Z]]
 let#[G,W,u,Z,j,k]:=f w.goal Z b;rwa[#[r,s,G,c,W,u,Z,C,E,st,ln,j,k]]
inductive lM(b:ζ)(e:xD V)(H:Hp)(Q:VK)(a:XK):Prop
 |mk(v:V)(n:Nat)(d:Df)(f:xD ρ)(c:Ct)(_:e=[v,.int (n:Int)])(_:nL H b d f v)(_:(ci b d)[n]?=δ c)(_:∀(ka na wa:ζ) (dv:V) (wvs:xD V),HK H b d f c ka na wa dv wvs->Q (.ref ka) H)
inductive lP(f:ζ)(g:xD V)(H:Hp)(Q:VK)(a:XK):Prop
 |mk(v:V)(n:Nat)(b:ζ)(d:Df)(h:xD ρ)(c:Ct)(e:xD Int)(_:g=[v,.int (n:Int),.ref b])(_:nL H f d h v)(_:(ci f d)[n]?=δ c)(_:H b=δ (.tup (e.map tT)))(_:ry e=(canon c.M).length)(_:∀dd:ζ,H dd=θ->Q (.ref dd) (af H dd (.dK (aQ (canon c.M) e))))
def pW:∀(s:xD ρ),(s.map (Sum.inr:ρ->cg)).map kV=s.map tz:=λs=>by rw[RU];rfl
def Cy:aj ["part","n"] ["part","n"] (ae ph):=bQ
def wS{f:ζ}{g:bS}{N:ζ}(F:xb K "cut_at" ph f g):⇑1 f g ["part","n"] (lM N):=by
 erw[F.ok Cy λl A o s H V Q E B h=>?_]
 let#[v,n,d,y,c,Z,i,m,q]:=h;erw[#[_,(jg$ jo$ jq jC (jw$ pv 0) (pv 1)),?_]];let#[a,p,I,J,Z,r,L,b,e]:=i.parts;let#[t,u,x,D,W,z,C]:=i.cut e m;rwa[#[_,Z,a,_,_,_,Z,Z,aC.of r,jG (j:=3) Z,_,Z,p,_,_,_,Z,Z,aC.of b,jG z,q t u x D W C]]
def yh:aj z8z z8z (ae mP):=bQ
def tW(F:xb K "held_at" mP f g)(i:‹1› J j ["part","n"] (lM N) "cut_at")(m:mg "dict"=θ)(a:mg "zip"=θ):⇑2 f g z8z (lP N):=by
 erw[F.ok yh λp A o s H V Q E r h=>?_]
 let#[v,n,b,d,y,c,I,Z,t,u,x,z,q]:=h;erw[#[_,(jg$ jo$ @ZV _ _ _ _ _ _ _ _ Z m Z a Z (ja (jq jC (i.e r$ ja (pv 0)$ ja (pv 1) jb) jf)$ ja (pv 2) jb) N6 N6 N6 N6),?_]];erw[#[_,Z,_,Z,v,n,d,y,c,Z,t,u,λB D O R W C=>#[B,_,_,_,Z,Z,aC.of C.at',dQ,_,Z,D,b,(canon c.M).map Sum.inr,_,Z,by rw[pW];rwa[aC.of C.nms],aC.of x,by rw[OJ,OJ,z],λl G=>q l G]]]
inductive Wh where
 |rd (a i:Int) |wr (a b:Int) |ask (b:Int) |cl (f:ρ) (is:xD Int) (i:Int)
def D7(H:Hp)(u:V):Wh->Prop
 | .rd a i=>∃p,u= .ref p/\H p=δ (.tup [.str "read",.int a,.int i])
 | .wr a b=>∃p,u= .ref p/\H p=δ (.tup [.str "write",.int a,.int b])
 | .ask b=>∃p,u= .ref p/\H p=δ (.tup [.str "ask",.int b])
 | .cl f I i=>∃p c g e,u= .ref p/\H p=δ (.tup [.str "call",.ref c])/\H c=δ (.tup [.str f,.ref g,e,.int i])/\H g=δ (.tup (I.map tT))
def D7.mono{H d:Hp}(k:am H d){u:V}{w:Wh}(h:D7 H u w):D7 d u w:=by
 cases w with
 |rd a i |wr a b |ask b=>let#[p,e,h]:=h;rwa[#[p,e,k _ _ h]]
 |cl f I i=>let#[p,c,g,e,E,j,l,m]:=h;rwa[#[p,c,g,e,E,k _ _ j,k _ _ l,k _ _ m]]
inductive DD where
 |st (p:ζ) (l:Lf) |ask (t:ζ) (T:Tm)
def DD.dd:DD->Dd
 | .st p _=>.st p
 | .ask t _=>.ask t
def uT(H:Hp)(y:xD ρ):DD->Prop
 | .st p l=>∃v,H p=δ (.tup v)/\Aq H l v/\l.Ok y/\l.isCut=μ
 | .ask t T=>TV H y t T
def uT.mono(k:am H a)(h:uT H y d):uT a y d:=by
 cases d with
 |st p l=>let#[v,b,c,e]:=h;rwa[#[v,k _ _ b,c.mono k,e]]
 |ask t T=>rwa[TV.mono k h]
def DD.Cs(F:lD):DD->Prop
 | .st _ l=>l.Cs F
 | .ask _ _=>True
def Im{F:lD}(h:Nh F H y d):∃e:DD,e.dd=d/\uT H y e/\e.Cs F:=by
 cases d with
 |st p=>let#[l,v,a,b,c,f,g]:=h;rwa[#[.st p l,Z,#[v,a,b,c,f],g]]
 |ask t=>let#[T,h]:=h;rwa[#[.ask t T,Z,h,trivial]]
def HL:DD->Wh->Prop
 | .st _ (.rd _ _ _),.rd _ i=>hV i
 | .st _ (.wr _ _ _ _),.wr _ _=>True
 | .st _ (.cl _ _ _ _),.cl _ _ i=>hV i
 | .ask _ _,.ask b=>b=0\/b=1
 |_,_=>False
def oR(d:DD)(w:Wh)(k:aU):aU:=match d,w with
 | .st _ (.rd x _ _),.rd _ i | .st _ (.cl x _ _ _),.cl _ _ i=>bN k (.inr x) (.int i)
 |_,_=>k
def Wh.side:Wh->Nat
 | .ask b=>if b=0 then 1 else 0
 |_=>0
def vS(Q:VK)(H:Hp):Wh->Prop
 | .rd _ i | .cl _ _ i=>Q (.int i) H
 |_=>False
inductive gE(b:xD V)(H:Hp)(Q:VK)(a:XK):Prop
 |mk(u:V)(w:Wh)(_:b=[u])(_:D7 H u w)(_:vS Q H w)
inductive oe(c:ζ)(e:xD V)(H:Hp)(Q:VK)(a:XK):Prop
 |mk(v f:V)(b:ζ)(d:Df)(g:xD ρ)(w:WD)(k:aU)(_:e=[v,f,.ref b])(_:nL H c d g v)(_:aR H (i7 (w.wy c)) f [])(_:Ag H g d.b.cuts d.b.size w)(_:H b=δ (.dK k))(_:GT k)(_:ry k<=200)(_:∀(u:V) (H':Hp),aR H' (oY (eO c d) (cy w.sets k) w.goal) u []->aI b H H'->Q u H')
inductive EI(c:ζ)(a:_L.St)(j:xD (ρ×ζ×Tm))(k:aU)(H:Hp)(i:Nat)(l:_L.St)(b:Hp):Prop
 |mk(g h:xL V)(d:l=a++[g,h,θ,θ])(e:b c=δ (.dK (cy (j.take i) k)))(f:aI c H b)
theorem Ke{H:Hp}:∀{is:xD Int},aR H (aD$ is.map ar) .non (is.map tT)
 | []=>rfl
 |i::is=>jl Z jV (Ke (is:=is))
def ms:aj ["what"] ["what"] (ae ij):=bQ
def wU(F:xb K "found_in" ij f n):⇑1 f n ["what"] gE:=by
 erw[F.ok ms λC A o s H v Q E t h=>?_]
 let#[u,W,Z,d,q]:=h;erw[#[_,(jg$ jo$ kN (j8$ jw$ pv 0) (jw$ jq jC (pv 0) jf)$ jq jC (pv 0) (xw YJ jf)),?_]];cases W with
 |rd a i=>let#[p,Z,l]:=d;rwa[(jr l dQ #[Z,_,Z,aY N7 #[_,Z,_,Z,p,_,_,_,Z,Z,aC.of l,Z,q]])]
 |cl f I i=>let#[p,c,g,e,Z,m,r,_]:=d;rwa[(jr m dQ #[Z,_,Z,c8 N7$ jr m gQ #[c,_,_,_,Z,Z,aC.of r,jG (j:=3) Z,q]])]
 |wr a b |ask b=>rwa[q.elim]
def iq:aj ["part","way","numbers","name","term","goal","held"] ["part","way","numbers"] (ae mO):=bQ
def Zu:hJ:=#[.function,[(".0",.local),("name",.local),("numbers",.free)],ν,ν,[]]
def Bf:(["name","numbers"]:xD ρ).Nodup:=by decide+kernel
def AE:bo ["part","way","numbers","name","term","goal","held"] (ae mO) Zu ["name","numbers"] 1 [2]:=oU
def wT(F:xb K "end_of" mO f fd)(cC:‹1› fC f2 ["part","n"] (lM U) "cut_at")(cW:‹7› fW f3 z10z (dq K 6) "worth")(m0:mg "tuple"=θ)(no:oM K U):⇑8 f fd ["part","way","numbers"] (oe U):=by
 erw[F.ok iq λc0 A o1 s H vs Q E Y h=>?_]
 symm;let#[v,w1,D,d,ys,O,k,Z,hp,hw,wv,hd,gk,hk,q]:=h;erw[#[_,(jd (kf Po Z (z9$ jw$ pv 1) (zV (n:=2) Z$ jD (jx (i:=3) iq.nd Z$ ω Z)$ jD (jx (i:=4) iq.nd Z$ ω Z) kB)$ jg$ Jf (zR Y) (pv 2) (pv 3) (cW.e Y.m$ ja (pv 4)$ ja (pv 2) jb) Z)$ jd (jA 5 iq.nd$ jw$ pv 1)$ jd (jy (j8$ jw$ pv 5) (jg$ jo$ ji$ ja jm$ ja (cW.e Y.m$ ja (jw$ pv 5)$ ja (pv 2) jb) jb) jp)$ jd (@qG _ _ _ _ _ _ _ _ _ _ (6) (["name","numbers"]) (1) ([2]) _ _ _ _ iq.nd Z (ω Z) Z (z9$ jq jC (cC.e Y.m$ ja (pv 0)$ ja (jw$ pv 5) jb) jf) AE (λ_ _ _ _ _=>(jx (i:=0) Bf Z$ ω Z)) (λ_ _ _ _ _=>(@zH _)) (λ_ _ _ _ _=>(@KM _ _ _ _ _ _ _ _ _ (zR Y) (pv 1) (pv 0) jf #[N6,N6,N6,N6])) N6 (by first |rwa[.inl Z] |rwa[.inr Z]) (by intro _;rfl))$ jg$ jo$ ji$ ja jm$ ja (jw$ pv 5)$ ja (jJ jN Z m0 RI$ ja (pv 6) jb) jb),?_]];let b0:=aL;symm;let#[wa,sa,ga,ss,wd,u,Z,W]:=CW hw;let R:∀g,aI D H g->am H g:=λg k b xs e=>k b _ (jM e hd nofun) e;let h2:=hp.sz;let h3:=wv.len;sleep 4;erw[ai λF1 C=>eX λJ j=>(jr W.at' dQ #[sa,Z,#[_,aC.of W.sat],j _ _ ?_])];erw[Jp (K:=K) (xs:=ss) (EI D [δ v,↑wa,↑D] O.sets k H) #[_,_,Z,hd,aI.refl] (λi σ g _ h=>?_) ?_ (λσ g h=>C _ _ ?_)]
 .symm;let#[_,_,_,_,I]:=h;rwa[aC.of$ R _ I _ _ W.sat]
 .intro E _ i x σ H1 hx f0 Gq kq h;symm;let#[o3,o4,Z,L,I]:=h;left;symm;let#[s,p,hs,Z,h0]:=W.sets i x hx;let S:=R _ I;let tv:=(wv.sets s$ Pd hs).mono S;let g1:GT (cy (O.sets.take i) k):=qe (H:=H) (ys:=ys) (λs hs=>wv.sets s (P0 hs)) gk;let l1:=Ya (ss:=O.sets.take i) (k:=k);rw[Pf]at l1;erw[kq ?_];erw[#[p,_,Z,aC.of$ S _ _ h0,Z,_,_,Z,_,_,Z,Z,?_]];erw[#[_,Z,_,Z,s.2.1,D,s.2.2,ys,_,Z,.inl tv.1,tv.2.2,tv.2.1,L,g1,_,Z,_,Z,D,_,Z,.inl #[_,.inr s.1,L,Z,N9,Z],f0 _ _ #[_,_,Z,?_,λc o X e=>by rw[jh X];rwa[I c o X e]]]];rw[ut hs];rwa[jc]
 .symm;let#[o3,o4,Z,L,I]:=h;rw[W.len,Py]at L;let S:=R _ I;let g1:GT (cy O.sets k):=qe (H:=H) (ys:=ys) wv.sets gk;let B:=wv.goal;let a:=W.goal;right;generalize cy O.sets k=N at L g1 q;erw[ai λF1 C=>(jr (S _ _ W.at') gQ$ C _ _ ?_)];left;let G:=S _ _ W.gat;erw[ai λF1 C=>oW λG1 k3 k0=>(jr G dQ #[Z,_,Z,?_])];let give:∀(t:ζ) (T:Tm),wd="give"->u= .ref t->Nt K g T t->dY ys T->(∀(u':V) (H9:Hp),aR H9 (ay [aM "give",ar$ T.ev N]) u' []->aI D H H9->Q u' H9)->G1 (decide$ tz wd=tz "give") g:=by intro t T e1 e2 x1 x2 x3;subst e1;subst e2;rw[OY Z];erw[k3 _$ jr G gQ #[_,Z,t,D,T,ys,N,Z,x1,x2.2,x2.1,L,g1,cj,λr nr=>?_]];rwa[x3 _ _ (jE jc$ jl Z jS$ jl Z jV jB) λc o X e=>je nr _ _ (I c o X e)]
  cases hg:O.goal with
  |give t T=>rw[hg]at B a q;rwa[give t T a.1 a.2 (.inl$ B.1.mono S) B.2 q]
  |nought=>rw[hg]at a q;rwa[give U (.num 0) a.1 a.2 (.inr #[Z,no _]) #[#[Oa,Oa],Oa] q]
  |go n=>
   rw[hg]at B a q;symm;let#[e1,e2]:=a;subst e1;subst e2;let hn:n < (ci U d).length:=by rw[Z8];rwa[B]
   obtain⟨c,hc⟩:∃c,(ci U d)[n]?=δ c:=#[_,OG hn];let e0:decide (tz "go"=tz "give")=ν:=by decide+kernel
   right;rw[e0];erw[k0 _$ C _ _ ?_];erw[ai λF1 C=>#[_,Z,jr G gQ #[v,n,d,ys,c,Z,hp.mono S,hc,λka na w2 dv w3 ca=>#[ka,_,_,_,Z,Z,aC.of ca.at',dQ,na,Z,#[_,aC.of ca.nms],?_]]]];let cl:=O1 (Q7 ca.v.mem) hp.y20;let q:∀(u:V) (g:Hp),aR g (ay [aM "go",ar (n:Int),ay ((eO U d n).map λx=>ar (look N (.inr x) 0))]) u []->aI D H g->Q u g:=q;rw[wL hc]at q;erw[qJ (K:=K) (xs:=(canon c.M).map tz) (by rw[OJ];omega) (λi zs Hx=>zs=((canon c.M).take i).map (λx=>tT (look N (.inr x) 0))/\Hx=g) #[Z,Z] (λi zs Hx h=>?_) (λi x zs Hx hx h=>?_) (λzs Hx h l nl=>C _ _ ?_)]
   .symm;let#[Z,Z]:=h;rwa[#[aC.of ca.nms,by rw[OJ,Pf];omega]]
   .symm;let#[Z,Z]:=h;rw[O2]at hx;let#[y,hy,Z]:=cv.mp hx;erw[#[_,Z,D,Z,.inl #[N,.inl L],_,Z,_,hZ.k (k:=Sum.inr y) L,?_,Z]];rw[KO g1,Rb,hy,O4];rfl
   .let#[Z,Z]:=h;rw[OJ,Py];erw[(jr (je nl _ _ G) gQ #[_,Z,l,_,Z,.inl #[aK.of jc,λtl n0=>#[iF,λr nr=>?_]]])];erw[q _ _ (jE jc$ jl Z jS$ jl Z jV$ jl Z (jE (aq jc nr) ?_) jB) λc' o X e=>je nr _ _ (je n0 _ _$ je nl _ _$ I c' o X e)];let:=Ke (H:=af (af (af Hx l$ .lst ((canon c.M).map (λx=>tT (look N (.inr x) 0)))) tl$ .tup ((canon c.M).map (λx=>tT (look N (.inr x) 0)))) r (.tup [.str "go",.int (n:Int),.ref tl])) (is:=(canon c.M).map λx=>look N (.inr x) 0);rw[RU,RU]at this;rwa[this]
structure mh(H:Hp)(nA:ζ)(d:Df)(ys:xD ρ)(v:V)(sa:ζ)(n:Nat)(hv:ζ)(uw:V)(c:Ct)(is:xD Int)(wh:Wh)(e:DD)(wd:WD):Prop where
 prt:nL H nA d ys v
 at':H sa=δ (.tup [.int (n:Int),.ref hv,uw])
 cut:(ci nA d)[n]?=δ c
 hat:H hv=δ (.tup$ is.map tT)
 hl:ry is=(canon c.M).length
 hin:∀i∈is,hV i
 whv:D7 H uw wh
 ed:e.dd=c.d
 dv:uT H ys e
 fit:HL e wh
 way:c.ws[wh.side]?=δ (wd.wy nA)
 wdv:Ag H ys d.b.cuts d.b.size wd
def mh.mono(k:am H a)(h:mh H N d y v s n b u c i f e g):mh a N d y v s n b u c i f e g:=
 #[h.prt.mono k,k _ _ h.at',h.cut,k _ _ h.hat,h.hl,h.hin,h.whv.mono k,h.ed,h.dv.mono k,h.fit,h.way,h.wdv.mono k]
def MS(n:ζ)(d:Df)(c:Ct)(i:xD Int)(a:Wh)(e:DD)(W:WD):Tr:=oY (eO n d) (cy W.sets$ oR e a$ aQ (canon c.M) i) W.goal
inductive iy(e:ζ)(g:xD V)(H:Hp)(Q:VK)(a:XK):Prop
 |mk(v:V)(b:ζ)(d:Df)(h f:xD ρ)(c:xD Int)(w:WD)(_:g=[v,.ref b])(_:nL H e d h v)(_:H d.pa=δ (.tup (f.map tz)))(_:ry f<=100)(_:H b=δ (.tup (c.map tT)))(_:ry c=ry f)(_:∀i∈c,hV i)(_:w.wy e=(iV e d).1.w)(_:Ag H h d.b.cuts d.b.size w)(_:∀(u:V) (H':Hp),aR H' (oY (eO e d) (cy w.sets (aQ f c)) w.goal) u []->aa H H'->Q u H')
inductive pH(g:ζ)(j:xD V)(H:Hp)(Q:VK)(a:XK):Prop
 |mk(v i:V)(h b:ζ)(n:Nat)(d:Df)(m:xD ρ)(c:Ct)(f:xD Int)(l:Wh)(e:DD)(k:WD)(_:j=[v,.ref h])(_:mh H g d m v h n b i c f l e k)(_:∀(u:V) (H':Hp),aR H' (MS g d c f l e k) u []->aa H H'->Q u H')
def YO(h:HL e a)(g:GT k):GT (oR e a k):=by
 unfold oR;split
 .rwa[g.put _ h]
 .rwa[g.put _ h]
 .rwa[g]
def Ax{e:DD}{wh:Wh}{k:aU}:(oR e wh k).length<=ry k+1:=by
 unfold oR;split
 .rwa[qB]
 .rwa[qB]
 .rwa[Rk _]
def uy:aj ["part","args"] ["part","args"] (ae lG):=bQ
def Zv(F:xb K "first_of" lG f I)(J:‹8› fE L ["part","way","numbers"] (oe T) "end_of")(M:mg "dict"=θ)(b:mg "zip"=θ):⇑9 f I ["part","args"] (iy T):=by
 erw[F.ok uy λR A O s H vs Q E U h=>?_]
 let#[v,x,d,y,p,is,z,Z,C,g,V,i,n,r,t,W,q]:=h;erw[#[_,(jg$ jo$ J.e U.m$ ja (pv 0)$ ja (jw$ pv 0)$ ja (@ZV _ _ _ _ _ _ _ _ Z M Z b Z (ja (jw$ pv 0)$ ja (pv 1) jb) N6 N6 N6 N6) jb),?_]];let#[a,ca,X,cs,Z,D,G,Y,h0]:=C.parts;rw[<- t]at G;erw[#[_,Z,_,Z,a,_,_,_,Z,Z,aC.of D,jG (j:=2) Z,jr D gQ #[_,Z,d.pa,x,p.map Sum.inr,_,Z,by rw[pW];rwa[aC.of g],aC.of i,by rw[OJ,OJ,n],λl N=>?_]]];let S:aa H (af H l$ .dK$ aQ p is):=je N;let zl:=Z9 (ns:=p) (is:=is);rwa[#[.ref a,X,l,d,y,z,aQ p is,Z,C.mono$ aa.tm S,G.mono$ aa.tm S,W.mono$ aa.tm S,jc,qV r,N9,λu H' tu k=>q u H' tu λc o e=>k c o (jk e N) (S _ _ e)]]
def gu:aj ["part","step","cut","numbers","what","way"] ["part","step"] (ae mX):=bQ
def uf{f:ζ}{fd:bS}{nA fC fD fF fE:ζ}{f0 f3 f4 f5:bS}(F:xb K "onward" mX f fd)(cC:‹1› fC f0 ["part","n"] (lM nA) "cut_at")(cD:‹2› fD f3 z8z (lP nA) "held_at")(cF:‹1› fF f4 ["what"] gE "found_in")(cE:‹8› fE f5 ["part","way","numbers"] (oe nA) "end_of"):⇑9 f fd ["part","step"] (pH nA):=by
 erw[F.ok gu λc0 A o2 s H vs Q E hr h=>?_]
 symm;let#[v,L,Y,hv,n,d,ys,c,is,wh,e,wd,Z,C,q]:=h;erw[#[_,(jd (jA 2 gu.nd$ cC.e hr.m$ ja (pv 0)$ ja (jw$ pv 1) jb)$ jd (jA 3 gu.nd$ cD.e hr.m$ ja (pv 0)$ ja (jw$ pv 1)$ ja (jw$ pv 1) jb)$ jd (jA 4 gu.nd$ jw$ pv 1)$ jd (jy (jz zC (jw$ pv 4) (ji$ ja jm$ ja jm jb) Z) (jg$ Jf (zR hr) (pv 3) (jw$ jq jC (pv 2) jf) (cF.e hr.m$ ja (pv 4) jb) Z) jp)$ jd (jA 5 gu.nd$ kN (jz (FK$ zR hr) (pv 4) (ji$ ja jm$ ja jf jb)$ aF _) (jw$ jq jC (pv 2) jf)$ jw$ jq jC (pv 2) jf)$ jg$ jo$ cE.e hr.m$ ja (pv 0)$ ja (pv 5)$ ja (pv 3) jb),?_]];let b0:=aL;symm;let#[a,ca,wv,cs,Z,ha,hw,a0,a1]:=C.prt.parts;let h0:=C.at';sleep 5;erw[ai λF1 J=>#[_,Z,jr h0 dQ #[_,n,d,ys,c,Z,C.prt,C.cut,λka na wa dv w0 cu=>J _ _ ?_]]];left;erw[ai λF1 J=>#[_,Z,jr h0 dQ$ jr h0 gQ #[_,n,hv,d,ys,c,is,Z,C.prt,C.cut,C.hat,C.hl,λD n0=>J _ _ ?_]]];left;let s1:aa H (af H D$ .dK$ aQ (canon c.M) is):=je n0;let d1:af H D (.dK$ aQ (canon c.M) is) D=δ (.dK$ aQ (canon c.M) is):=jc;generalize af H D (.dK$ aQ (canon c.M) is)=H1 at s1 d1;let O:=C.mono (aa.tm s1);let g0:GT (aQ (canon c.M) is):=qV C.hin;let z0:=Z9 (ns:=canon c.M) (is:=is);let z1:=Q7 cu.v.mem;let z2:=C.prt.y20;generalize h7:aQ (canon c.M) is=k0 at d1 g0 z0;erw[ai λF1 J=>#[_,Z,Y,_,_,_,Z,Z,aC.of O.at',jG (j:=2) Z,J _ _ ?_]];left;let o1:MS nA d c is wh e wd=oY (eO nA d) (cy wd.sets$ oR e wh k0) wd.goal:=by unfold MS;rw[h7]
 rw[o1]at q;let h1:=zo cu.ways;rw[OJ]at h1;let G:∃x,w0[wh.side]?=δ x/\aR H (i7$ wd.wy nA) x []:=by
  let hj:wh.side < ry w0:=by rw[h1];rwa[(ξ.mp C.way).1]
  symm;let#[tr,ht,tx]:=qT cu.ways wh.side _ (OG hj);rw[O2,C.way]at ht;cases ht;rwa[#[_,OG hj,tx]]
 symm;let#[wx,G,t0]:=G;let h4:=cu.at';let h8:=cu.wat;erw[ai λF1 J=>?_];let r0:∀(H3:Hp),H3 D=δ (.dK$ oR e wh k0)->aI D H1 H3->F1 [↑a,↑Y,↑ka,↑D,δ L,θ] H3:=by
  intro H3 h3 k3;erw[J _ _ ?_];left;let s3:aa H H3:=λc o x=>k3 c o (jk x n0) (s1 _ _ x);let l3:=Ax (e:=e) (wh:=wh) (k:=k0);erw[ai λF2 f2=>?_];let f6:∀H4,aa H3 H4->F2 [↑a,↑Y,↑ka,↑D,δ L,δ wx] H4:=λH4 s4=>f2 _ _ (by
   let S:=s3.trans s4;rwa[#[_,Z,_,Z,_,Z,.ref a,wx,D,d,ys,wd,_,Z,C.prt.mono$ aa.tm S,t0.mono$ aa.tm S,C.wdv.mono$ aa.tm S,s4 _ _ h3,YO C.fit g0,N9,λu R tu k=>q u R tu λc o x=>k c o (jk x n0) (S _ _ x)]])
  left;let wk:=C.whv.mono (aa.tm s3);let eZ:∀(H4:Hp) (j:Nat),aa H3 H4->w0[j]?=δ wx->fg (dh K) (fg (dh K) (bn 2)$ tC$ .int 2) (tC$ .int (j:Int)) [↑a,↑Y,↑ka,↑D,δ L,θ] H4 λx H5=>F2 ([↑a,↑Y,↑ka,↑D,δ L,θ].set 5 (δ x)) H5:=λH4 j s4 hj=>
   #[_,Z,ka,_,_,_,Z,Z,aC.of ((s3.trans s4) _ _ h4),jG (j:=2) Z,wa,_,_,_,Z,Z,aC.of ((s3.trans s4) _ _ h8),jG hj,f6 H4 s4]
  symm;cases wh with
  |rd a' i |wr a' b=>let#[p,Z,B]:=wk;rwa[#[_,Z,cj,λt N=>#[p,t,_,_,Z,Z,aC.of$ je N _ _ B,aC.of jc,.inl #[Z,Z,_,Z,aY (by unfold vJ;rwa[Uh _])$ eZ _ 0 (je N) G]]]]
  |ask b=>
   let#[p,Z,B]:=wk;let hb:b=0\/b=1:=by
    let:=C.fit;symm;cases e with
    |st p l=>cases l<;>rwa[this.elim]
    |ask t T=>rwa[this]
   rcases hb with rfl |rfl
   .rwa[#[_,Z,cj,λt N=>#[p,t,_,_,Z,Z,aC.of$ je N _ _ B,aC.of jc,.inl #[Z,Z,_,Z,c8 N7$ eZ _ 1 (je N) G]]]]
   .rwa[#[_,Z,cj,λt N=>#[p,t,_,_,Z,Z,aC.of$ je N _ _ B,aC.of jc,.inl #[Z,Z,_,Z,aY N7$ eZ _ 0 (je N) G]]]]
  |cl f' i0 i=>let#[p,c',g,e',Z,B,h',_]:=wk;rwa[#[_,Z,cj,λt N=>#[p,t,_,_,Z,Z,aC.of$ je N _ _ B,aC.of jc,.inr #[_,c',_,_,_,Z,aC.of$ je N _ _ h',Z,_,Z,aY Z$ eZ _ 0 (je N) G]]]]
 let wk:=O.whv;let dk:=O.dv;let fk:=O.fit;let h5:=s1 _ _ h4;let d0:=cu.deed;rw[<- C.ed]at d0;let skip:∀(p:ζ) (W:ρ) (r:xD V),L= .ref p->H1 p=δ (.tup (.str W::r))->pV (.str W) [.str "read",.str "call"]=ν->oR e wh k0=k0->iR (mz$ fg (Lc K ν) (fg (dh K) (bn 4)$ tC$ .int 0)$ cQ$ ap (tC$ .str "read")$ ap (tC$ .str "call") aZ) (xQ (bn 3) (fg (dh K) (fg (dh K) (bn 2)$ tC$ .int 1)$ tC$ .int 1)$ ff gE [] E0$ ap (bn 4) aZ) yO { nx:=F1,rt:=Q } [↑a,↑Y,↑ka,↑D,δ L,θ] H1:=by intro p W r I B e2 e3;subst I;erw[oW λG1 k1 k2=>(jr B dQ #[cj,λt N=>#[t,_,Z,.inr$ aC.of jc,Z,Z,_,Z,?_]])];show G1 (pV (.str W) [.str "read",.str "call"]) _;rw[e2];rwa[k2 _$ r0 _ (by rw[e3];rwa[aq d1 N]) λc o _ x=>je N _ _ x]
 let p0:∀(p p':ζ) (W:ρ) (r:xD V) (i:Int) (x:ρ) (y:V) (r':xD V),L= .ref p->H1 p=δ (.tup (.str W::r))->pV (.str W) [.str "read",.str "call"]=μ->dv= .ref p'->H1 p'=δ (.tup (y:: .str x::r'))->(∀R:Hp,aa H1 R->D7 R L wh)->(∀(Q':VK) (R:Hp),Q' (.int i) R->vS Q' R wh)->oR e wh k0=bN k0 (.inr x) (.int i)->iR (mz$ fg (Lc K ν) (fg (dh K) (bn 4)$ tC$ .int 0)$ cQ$ ap (tC$ .str "read")$ ap (tC$ .str "call") aZ) (xQ (bn 3) (fg (dh K) (fg (dh K) (bn 2)$ tC$ .int 1)$ tC$ .int 1)$ ff gE [] E0$ ap (bn 4) aZ) yO { nx:=F1,rt:=Q } [↑a,↑Y,↑ka,↑D,δ L,θ] H1:=by intro p p' W r i x y r' I B e2 e4 X e5 e6 e3;subst I;subst e4;erw[oW λG1 k1 k2=>(jr B dQ #[cj,λt N=>#[t,_,Z,.inr$ aC.of jc,Z,Z,_,Z,?_]])];show G1 (pV (.str W) [.str "read",.str "call"]) _;rw[e2];erw[k1 _ #[_,Z,.ref p,wh,Z,e5 _$ je N,e6 _ _ ?_]];rwa[#[_,Z,jr (je N _ _ h5) gQ #[p',_,_,_,Z,Z,aC.of$ je N _ _ X,gQ,D,_,Z,.inl #[k0,.inr x,aq d1 N,Z,N9,Z],r0 _ (by rw[e3];rwa[jc]) λc o nc z=>by rw[jh nc];rwa[je N _ _ z]]]]
 symm;cases e with
 |ask t T=>
  cases wh with
  |ask b=>let#[p,I,B]:=wk;rwa[skip p _ _ I B N7 Z]
  |_=>rwa[fk.elim]
 |st p' l=>
  let#[vs,X,h6,_]:=dk;let ed:dv= .ref p':=d0.1;cases l with
  |rd x t T=>
   cases wh with
   |rd b i=>let#[p,I,B]:=wk;let#[Z,_]:=h6;rwa[p0 p p' _ _ i x _ _ I B N7 ed X (λR s'=>#[p,I,s' _ _ B]) (λ_ _ h=>h) Z]
   |_=>rwa[fk.elim]
  |wr t u T U=>
   cases wh with
   |wr b i=>let#[p,I,B]:=wk;rwa[skip p _ _ I B N7 Z]
   |_=>rwa[fk.elim]
  |cl x f' q' ts=>
   cases wh with
   |cl f2 i1 i=>let#[p,c2,g2,e2,I,B,h2,h3]:=wk;let#[Z,_]:=h6;rwa[p0 p p' _ _ i x _ _ I B N7 ed X (λR s'=>#[p,c2,g2,e2,I,s' _ _ B,s' _ _ h2,s' _ _ h3]) (λ_ _ h=>h) Z]
   |_=>rwa[fk.elim]
  |st x t T |gv t T=>cases wh<;>rwa[fk.elim]
abbrev lg:cc:=bV 25
abbrev mM:cc:=bV 26
def sR(k:aU):DD->Tr
 | .st _ (.rd _ _ T)=>ay [aM "read",ar (T.ev k)]
 | .st _ (.wr _ _ T U)=>ay [aM "write",ar (T.ev k),ar (U.ev k)]
 | .st _ (.cl _ f _ t)=>ay [aM "call",aM f,ay (t.map λc=>ar (c.2.ev k))]
 | .ask _ T=>ay [aM "ask",ar (if T.ev k=0 then 0 else 1)]
 |_=>.nil
inductive fc(g:ζ)(h:xD V)(H:Hp)(Q:VK)(a:XK):Prop
 |mk(v:V)(n:Nat)(b:ζ)(d:Df)(j:xD ρ)(c:Ct)(f:xD Int)(e:DD)(_:h=[v,.int (n:Int),.ref b])(_:nL H g d j v)(_:(ci g d)[n]?=δ c)(_:H b=δ (.tup (f.map tT)))(_:ry f=(canon c.M).length)(_:∀i∈f,hV i)(_:e.dd=c.d)(_:uT H j e)(_:∀(u:V) (H':Hp),aR H' (sR (aQ (canon c.M) f) e) u []->aa H H'->Q u H')
inductive iD(f:xD V)(H:Hp)(Q:VK)(b:XK):Prop
 |mk(a d:ζ)(e:xD (ζ×Tm))(g:xD ρ)(k:aU)(_:f=[.ref a,.ref d])(_:H a=δ (.tup (e.map λc=>vr c.1)))(_:ry e<=6)(_:∀c∈e,bJ H c.2 c.1/\dY g c.2)(_:H d=δ (.dK k))(_:GT k)(_:∀(r:ζ) (H':Hp),H' r=δ (.tup (e.map λc=>tT (c.2.ev k)))->aa H H'->Q (.ref r) H')
def yu:aj ["terms","numbers"] ["terms","numbers"] (ae lg):=bQ
def Zw:hJ:=#[.function,[(".0",.local),("term",.local),("worth",.globalImplicit),("numbers",.free)],ν,ν,[]]
def Bg:(["term","numbers"]:xD ρ).Nodup:=by decide+kernel
def AF:bo ["terms","numbers"] (ae lg) Zw ["term","numbers"] 1 [1]:=oU
def uh(F:xb K "worths" lg f v)(C:‹7› U B z10z (dq K 6) "worth")(M:mg "tuple"=θ):⇑8 f v ["terms","numbers"] iD:=by
 erw[F.ok yu λG A o s H R Q E I h=>?_]
 let#[a,D,t,g,k,Z,p,W,b,J,L,q]:=h;erw[#[_,(jg$ jo$ jJ jN Z M RI$ ja (@zn _ _ _ _ _ _ _ (["term","numbers"]) (1) ([1]) _ _ _ _ Z (z9$ pv 0) AF (λ_ _ _ _ _=>(jx (i:=0) Bg Z$ ω Z)) (λ_ _ _ _ _=>(@zH _)) (λ_ _ _ _ _=>(C.e I.m$ ja (pv 0)$ ja (pv 1) jb)) (by intro _;rfl)) jb),?_]];let N:=aL;erw[#[_,Z,a,Z,#[_,aC.of p],?_]];erw[qJ (K:=K) (xs:=t.map λc=>vr c.1) (by rw[OJ];omega) (λi z d=>z=(t.take i).map (λc=>tT (c.2.ev k))/\d=H) #[Z,Z] (λi z d h=>?_) (λi x z d r h=>?_) (λz d h l O=>?_)]
 .let#[Z,Z]:=h;rwa[#[aC.of p,by rw[OJ,Pf];omega]]
 .let#[Z,Z]:=h;rw[O2]at r;let#[y,u,Z]:=cv.mp r;let Y:=Pd u;erw[#[_,Z,_,Z,y.1,D,y.2,g,k,Z,.inl (b y Y).1,(b y Y).2.2,(b y Y).2.1,J,L,?_,Z]];rw[Rb,u,O4];rfl
 .let#[Z,Z]:=h;rw[OJ,Py];rwa[#[l,_,Z,.inl #[aK.of jc,λT n=>q T _ jc ((je O).trans$ je n)]]]
def ip:aj ["part","n","held","numbers","deed","word"] z8z (ae mM):=bQ
def tS(F:xb K "deed_at" mM f fd)(cH:‹2› fH f0 z8z (lP nA) "held_at")(cC:‹1› fC f2 ["part","n"] (lM nA) "cut_at")(cW:‹7› fW f3 z10z (dq K 6) "worth")(cS:‹8› fS f4 ["terms","numbers"] iD "worths"):⇑9 f fd z8z (fc nA):=by
 erw[F.ok ip λc0 A o1 s H vs Q E L h=>?_]
 symm;let#[v,n,hv,d,Y,c,is,e,Z,hp,hc,hh,hl,h0,h1,h2,q]:=h;erw[#[_,(jd (jA 3 ip.nd$ cH.e L.m$ ja (pv 0)$ ja (pv 1)$ ja (pv 2) jb)$ jd (jA 4 ip.nd$ jq jC (cC.e L.m$ ja (pv 0)$ ja (pv 1) jb) jf)$ jd (jA 5 ip.nd$ jw$ pv 4)$ jd (jy (j8$ pv 5) (jg$ jo$ ji$ ja (pv 5)$ ja (kN (jz qr (cW.e L.m$ ja (jw$ pv 4)$ ja (pv 3) jb) jf$ aF _) jf jf) jb) jp)$ jd (jy (j8$ pv 5) (jg$ jo$ ji$ ja (pv 5)$ ja (jw$ pv 4)$ ja (cS.e L.m$ ja (jw$ pv 4)$ ja (pv 3) jb) jb) jp)$ jd (jy (j8$ pv 5) (jg$ jo$ ji$ ja (pv 5)$ ja (cW.e L.m$ ja (jw$ pv 4)$ ja (pv 3) jb) jb) jp)$ jg$ jo$ jv jU (ji$ ja (pv 5) jb)$ cS.e L.m$ ja (jI j9 (pv 4) (jH jf) jT)$ ja (pv 3) jb),?_]];let b0:=aL;symm;let#[a,ca,p0,cs,Z,ha,_,h7,h8]:=hp.parts;sleep 6;erw[ai λi b=>#[_,Z,_,Z,_,Z,.ref a,n,hv,d,Y,c,is,Z,hp,hc,hh,hl,λC n0=>b _ _ ?_]];left;let S:aa H (af H C$ .dK$ aQ (canon c.M) is):=je n0;let O:af H C (.dK$ aQ (canon c.M) is) C=δ (.dK$ aQ (canon c.M) is):=jc;show eQ _ _ _ _ (af H C$ .dK$ aQ (canon c.M) is);generalize af H C (.dK$ aQ (canon c.M) is)=H1 at S O;let V:GT (aQ (canon c.M) is):=qV h0;generalize aQ (canon c.M) is=k at O V q;let dk:=h2.mono (aa.tm S);erw[ai λi b=>#[_,Z,_,Z,.ref a,n,d,Y,c,Z,hp.mono$ aa.tm S,hc,λka na wa dv w0 cu=>#[ka,_,_,_,Z,Z,aC.of cu.at',gQ,b _ _ ?_]]];left;let D:=cu.deed;rw[<- h1]at D;symm;cases e with
 |ask t T=>
  obtain⟨_,p,xs,rfl,g,_,_,y0,z0,rfl,⟨rfl,_⟩,_,_,y1,z1,rfl,⟨rfl,_⟩,e⟩:=D;let e:z1=[]:=e;subst e;erw[ai λi b=>(jr g dQ$ b _ _ ?_)];left;erw[ai λi b=>#[_,Z,Z,_,Z,c8 N7 #[_,Z,jr g gQ #[_,Z,t,C,T,Y,k,Z,.inl dk.1,dk.2.2,dk.2.1,O,V,Z,_,Z,?_]]]];symm;by_cases z:T.ev k=0
  .erw[c8 (by rw[z];decide+kernel) #[cj,λr G=>q _ _ (jE jc$ jl Z jS$ jl Z #[?_,Z] jB) (S.trans$ je G)]];rw[OT z]
  .refine aY (by rw[OR];intro e;injection e with e;rwa[z e]) #[cj,λr G=>q _ _ (jE jc$ jl Z jS$ jl Z #[?_,Z] jB) (S.trans$ je G)];rw[OU z]
 |st p l=>
  let ed:dv= .ref p:=D.1;subst ed;let#[vs,g,I,B,h3]:=dk;cases l with
  |rd x t T=>let#[Z,ht]:=I;sleep 4;erw[ai λi b=>(jr g dQ$ b _ _ ?_)];left;erw[ai λi b=>#[_,Z,Z,_,Z,aY N7$ b _ _ ?_]];left;erw[ai λi b=>#[_,Z,Z,_,Z,aY N7$ b _ _ ?_]];left;erw[ai λi b=>#[_,Z,Z,_,Z,c8 N7 #[_,Z,_,Z,p,_,_,_,Z,Z,aC.of g,jG (j:=2) Z,_,Z,t,C,T,Y,k,Z,.inl ht,B.2.2,B.2.1,O,V,cj,λr G=>?_]]];rwa[q _ _ (jE jc$ jl Z jS$ jl Z jV jB)$ S.trans$ je G]
  |wr t u T U=>
   let#[Z,ht,hu]:=I;sleep 4;erw[ai λi b=>(jr g dQ$ b _ _ ?_)];left;erw[ai λi b=>#[_,Z,Z,_,Z,aY N7$ b _ _ ?_]];left;erw[ai λi b=>#[_,Z,Z,_,Z,aY N7$ b _ _ ?_]];left;erw[ai λi b=>#[_,Z,Z,_,Z,aY N7$ b _ _ ?_]];left;erw[#[_,Z,iZ,λr1 N=>#[_,Z,1,Z,p,_,Z,je N _ _ g,λr2 H2 J R=>#[_,Z,r2,C,[(t,T),(u,U)],Y,k,Z,J,(by show 2<=6;decide),?_,R _ _$ je N _ _ O,V,λr3 H3 h4 s3=>#[r1,r3,_,_,Z,Z,s3 _ _$ R _ _ jc,h4,iF,λr4 H4 h5 s4=>?_]]]]]
   .intro y W;let X:=(je (o:=.tup [.str "write"]) N).trans R;simp only[RY,Pm,T6]at W;symm;rcases W with rfl |rfl
    .rwa[#[ht.same X,B.1]]
    .rwa[#[hu.same X,B.2]]
   .rwa[q _ _ (jE h5$ jl Z jS$ jl Z jV$ jl Z jV jB)$ S.trans ((je N).trans$ R.trans$ s3.trans s4)]
  |cl x f' qa ts=>let#[Z,hq,h6]:=I;sleep 4;erw[ai λi b=>(jr g dQ$ b _ _ ?_)];left;erw[ai λi b=>#[_,Z,Z,_,Z,aY N7$ b _ _ ?_]];left;let l6:ry ts<=6:=B.2.1;erw[ai λi b=>#[_,Z,Z,_,Z,c8 N7 #[_,Z,_,Z,p,_,_,_,Z,Z,aC.of g,jG (j:=2) Z,_,Z,p,_,_,_,Z,Z,aC.of g,jG (j:=3) Z,_,Z,qa,C,ts,Y,k,Z,hq,l6,λy W=>#[h6 y W,B.2.2 y W],O,V,λr2 H2 J R=>#[iF,λr G=>?_]]]];erw[q _ _ (jE jc$ jl Z jS$ jl Z jS$ jl Z (jE (aq J G) ?_) jB)$ S.trans$ R.trans$ je G];let:=Ke (H:=af H2 r (.tup [.str "call",.str f',.ref r2])) (is:=ts.map λc=>c.2.ev k);rw[RU,RU]at this;rwa[this]
  |st x t T |gv t T=>cases h3
abbrev mV:cc:=bV 17
abbrev oZ:cc:=bV 18
abbrev mN:cc:=bV 19
abbrev ya:cc:=bX (bV 20) 0
abbrev pw:cc:=bX (bV 20) 1
abbrev yb:cc:=bX (bV 20) 2
abbrev mY:cc:=bV 22
def Hn(H:Hp)(x:V)(g:ρ):Prop:=∃p r,x= .ref p/\H p=δ (.tup (.str g::r))
inductive lT(c:xD V)(H:Hp)(Q:VK)(b:XK):Prop
 |mk(a:ζ)(f:ρ)(d:xD V)(i:Nat)(v:V)(_:c=[.ref a,.str f])(_:H a=δ (.tup d))(_:d[i]?=δ v)(_:Hn H v f)(_:∀j x,j < i->d[j]?=δ x->∃g,Hn H x g/\g≠f)(_:Q v H)
inductive lr(e:xD V)(H:Hp)(Q:VK)(b:XK):Prop
 |mk(a g:ζ)(f:ρ)(h k:xD V)(i:Nat)(v:V)(p c:ζ)(r d:xD V)(_:e=[.ref a,.str f,.ref g])(_:H a=δ (.tup h))(_:h[i]?=δ v)(_:v= .ref p)(_:H p=δ (.tup (.str f:: .ref c::r)))(_:H c=δ (.tup d))(_:H g=δ (.tup k))(_:ry k=ry d)(_:∀j x,j < i->h[j]?=δ x->∃g,Hn H x g/\g≠f)(_:Q v H)
def dI(e:xD (ρ×V))(c l p:ζ)(m:Int)(t:Nat):xD (ρ×V):=ro (("cells":ρ),vr c) (ro (("most":ρ),tT m)$ ro (("left":ρ),vr l)$ ro (("turns":ρ),tT (t:Int))$ ro (("parts":ρ),vr p) e)
structure Tl(ex:xD (ρ×V)):Prop where
 l:ry ex<=10
 t:ex.lookup ("take_turn":ρ)=θ
 n:ex.lookup ("number_in":ρ)=θ
 c:ex.lookup ("chain_of":ρ)=θ
 w:ex.lookup ("what_of":ρ)=θ
def Tl.nil:Tl []:=#[OS _,Z,Z,Z,Z]
structure Rn(H:Hp)(C r dx:ζ)(ex:xD (ρ×V))(cA lA pA:ζ)(m:Int)(t:Nat)(L Cs:aU):Prop where
 ins:H r=δ (.ins C dx$ dI ex cA lA pA m t)
 lf:H lA=δ (.dK L)
 ce:H cA=δ (.dK Cs)
 iL:GT L
 iC:GT Cs
 cl:cA≠lA
 tl:Tl ex
 hm:m<=1000
structure RK(K:β)(C:ζ):Prop where
 cl:uO K C
 n1:a9 K C "cells"
 n2:a9 K C "most"
 n3:a9 K C "left"
 n4:a9 K C "turns"
 n5:a9 K C "parts"
inductive gF(C:ζ)(i:xD V)(H:Hp)(Q:VK)(a:XK):Prop
 |mk(r e:ζ)(f:xD (ρ×V))(d g h:ζ)(m c:Int)(t:Nat)(L b:aU)(_:i=[.ref r,.int c])(_:Rn H C r e f d g h m t L b)(_:Q (.int (look L (.inl c) (look b (.inl c) 0))) H)
inductive lW(C:ζ)(e:xD V)(H:Hp)(Q:VK)(a:XK):Prop
 |mk(r c:ζ)(d:xD (ρ×V))(b:ζ)(m:Int)(_:e=[.ref r,.ref b,.int m])(_:H r=δ (.ins C c []))(_:∀lA,H lA=θ->Q .non (af (af H lA (.dK [])) r (.ins C c [("cells",.ref b),("most",.int m),("left",.ref lA),("turns",.int 0)])))
structure XM(K:β)(mg:ρ->xL η)(x:ρ)(L:ζ):Prop where
 ex:excIn K L sJ "ValueError.__new__"=μ
 kp:fJ K (.ref L)=μ
 xc:uY K L
 ty:typeIn K (.ref L)=δ (.type "type")
 m:mg x=↑L
def NX(o:HO):Prop:=∀a,o≠ .ext a
def Kp(H h:Hp):Prop:=∀b o,NX o->H b=δ o->h b=δ o
def Kp.of_same(s:aa H h):Kp H h:=λb o _ e=>s _ _ e
def Kp.trans(a:Kp H h)(b:Kp h d):Kp H d:=λc o n e=>b c o n (a c o n e)
def mq(E:XK):XK:=λC d H=>∀x T t c,C= .ref c->H x=δ (i6 c d T x)->H T=δ (iH T)->H t=θ->E (.ref c) d (af (af H t$ iH t) x$ i6 c d t x)
def ke{P:ψ}{w:bF}{K:β}{mg:ρ->xL η}{base:de}:eh (dH P w) (gR (dH P w) P w K mg base N q s f g A o a H E) (mq E):=
 BO λx C d T t i b c e h=>h x T t C Z b c e
def qf{H h:Hp}(e:h b=δ o)(n:NX o)(a:h x=δ (i6 C d T x))(c:h t=θ):af (af h t$ iH t) x (i6 C d t x) b=δ o:=by
 let N:b≠x:=λz=>by rw[z,a]at e;injection e with e;rwa[n _ e.symm]
 rw[jh N,jh$ jk e c];rwa[e]
def Fl(E:XK)(L:ζ)(R:Hp->Prop):Prop:=∀(_:Unit) H,R H->E (.ref L) θ H
inductive gw(C L:ζ)(f:xD V)(H:Hp)(Q:VK)(E:XK):Prop
 |mk(r b:ζ)(c:xD (ρ×V))(a d e:ζ)(m:Int)(t:Nat)(_:f=[.ref r])(_:H r=δ (.ins C b (dI c a d e m t)))(_:Tl c)(_:(t:Int) < m->Q .non (af H r (.ins C b (dI c a d e m (t+1)))))(_:m<=(t:Int)->Fl E L (Kp H))
inductive dS(D:ζ)(a:xD V)(H:Hp)(Q:VK)(E:XK):Prop
 |mk(d:Int)(_:a=[.int d])(_:d < 15->Q (.int (d+1)) H)(_:15<=d->Fl E D (Kp H))
def Yc{H:Hp}(a:H x=θ)(N:af H x (C6 L θ x) T=θ):aa H (af (af (af H x$ C6 L θ x) T$ iH T) x$ i6 L d T x):=by intro b o e;let n:b≠x:=jk e a;rw[jh n,jh (λz=>by rw[<- z,jh n,e]at N;cases N),jh n];rwa[e]
def nY:aj ["ones","f","one"] ["ones","f"] (ae mV):=bQ
def ua(F:xb K "named" mV f D):⇑1 f D ["ones","f"] lT:=by
 erw[F.ok nY λG A o s H W Q E X h=>?_]
 let#[a,f,xs,i,v,Z,t,u,L,d,q]:=h;erw[#[_,(jd (kf Po Z (z9$ pv 0) (jx (i:=2) nY.nd Z$ ω Z)$ jg$ jy (jz qr (jw$ pv 2) (pv 1)$ aF _) (jg$ jo$ pv 2) jp)$ @xE _ _),?_]];let M:i < ry xs:=(ξ.mp u).1;erw[ai λY f1=>eX λJ j=>#[_,Z,a,Z,#[_,aC.of t],j _ _ ?_]];erw[Jp (K:=K) (xs:=xs) (λk c e=>(∃O,c=[↑a,δ$ .str f,O])/\e=H/\k<=i) #[#[_,Z],Z,OS _] (λk c e _ h=>by rw[h.2.1];rwa[aC.of t]) ?_ (λc e h=>?_)]
 .intro l R k x c H2 m N I b h;obtain⟨⟨O,rfl⟩,rfl,y⟩:=h;erw[b ?_];by_cases S:k=i
  .subst S;rw[u]at m;cases m;let#[p,r,Z,n]:=id L;show iR _ _ _ l _ _;erw[oW λT B C=>(jr n dQ #[_,Z,Z,_,Z,?_])];rw[OY (Z:tz f=tz f)];erw[B _ ?_];show iG _ l _ _;unfold iG;rw[R];rwa[#[_,Z,q]]
  .obtain⟨g,⟨p,r,rfl,n⟩,U⟩:=d k x N9 m;show iR _ _ _ l _ _;erw[oW λT B C=>(jr n dQ #[_,Z,Z,_,Z,?_])];rw[OR (λz=>U (by injection z))];rwa[C _$ N _ _ #[#[_,Z],Z,N9]]
 .let#[_,_,y]:=h;rwa[absurd y N9]
def yp:aj ["parts","f"] ["parts","f"] (ae mY):=bQ
def ug(F:xb K "part_of" mY f c)(C:‹1› r d ["ones","f"] lT "named"):⇑2 f c ["parts","f"] lT:=by
 erw[F.ok yp λg A o s H V Q E j h=>?_]
 let#[a,f,x,i,v,Z,l,n,p,b,q]:=h;erw[#[_,(jg$ jo$ C.e j.m$ ja (pv 0)$ ja (pv 1) jb),?_]];rwa[#[_,Z,_,Z,a,f,x,i,v,Z,l,n,p,b,q]]
def rH:aj ["ones","f","args","one"] ["ones","f","args"] (ae oZ):=bQ
def wP(F:xb K "begun" oZ f j)(C:‹1› N l ["ones","f"] lT "named")(M:mg "len"=θ):⇑2 f j ["ones","f","args"] lr:=by
 erw[F.ok rH λn A o s H V Q E t h=>?_]
 let#[a,g,f,x,y,i,v,p,c,r,u,Z,z,B,Z,d,D,G,I,J,q]:=h;erw[#[_,(jd (jA 3 rH.nd$ C.e t.m$ ja (pv 0)$ ja (pv 1) jb)$ jd (jy (jz QH (jO jK Z M Pz$ ja (pv 2) jb) (jO jK Z M Pz$ ja (jw$ pv 3) jb)$ aF _) (@xE _ _) jp)$ jg$ jo$ pv 3),?_]];erw[ai λL b=>#[_,Z,_,Z,a,f,x,i,.ref p,Z,z,B,#[p,_,Z,d],J,b _ _ ?_]];erw[ai λL b=>#[_,Z,g,_,Z,.inr$ aC.of G,jr d gQ #[c,_,Z,.inr$ aC.of D,Z,_,Z,aY (by rw[I];simp)$ b _ _ #[_,Z,q]]]]
def yg:aj ["deep"] ["deep"] (ae mN):=bQ
def tU(F:xb K "deeper" mN f a)(M:mg "DEEPEST"=δ (.int 15 t))(X:XM K mg "TooDeep" D):ah P w K mg base (dH P w) 1 f a ["deep"] (dS D):=by
 erw[F.ok1 yg λC A o s H V Q E g h=>?_]
 let#[d,Z,q,e]:=h;erw[#[_,(jd (jy (jz xk (pv 0) (Jd (v:=.int 15) Z M #[t,Z])$ aF _) (jg$ @XY _ _ _ _ _ Z QY$ @QV _ _ _ _ _ X.ex X.kp Z X.m Oa) jp)$ jg$ jo$ jv jY (pv 0) jf),?_]];erw[ai λi b=>#[_,Z,_,_,Z,Z,_,Z,?_]];by_cases c:(15:Int)<=d
 .erw[c8 (OY c) λx n=>?_];rwa[#[x,D,θ,Z,jc,X.xc,X.ty,λT N=>e c () _ (Kp.of_same$ Yc n N)]]
 .rwa[aY (OR c)$ b _ _ #[_,Z,_,_,Z,Z,q N9]]
def GG:aj z25z z25z (ae ya):=bQ
def pZ(F:aS K "__init__" "Turns.__init__" ya f v)(c:RK K C):⇑1 f v z25z (lW C):=by
 erw[F.ok GG λx A o s H V Q E G h=>?_]
 let#[r,D,y,z,m,Z,g,q]:=h;erw[#[_,(jd (@qw _ _ _ _ _ _ _ _ (pv 0) (pv 1) Z)$ jd (@qw _ _ _ _ _ _ _ _ (pv 0) (pv 2) Z)$ jd (@qw _ _ _ _ _ _ _ _ (pv 0) XX Z)$ jg$ @qw _ _ _ _ _ _ _ _ (pv 0) jf Z),?_]];erw[ai λj a=>#[_,Z,_,Z,r,C,D,_,Z,g,c.cl,c.n1,Oa,a _ _ ?_]];erw[ai λj a=>#[_,Z,_,Z,r,C,D,_,Z,jc,c.cl,c.n2,(by show 1 < 1000;decide),a _ _ ?_]];erw[ai λj a=>λl n=>#[_,Z,r,C,D,_,Z,aq jc n,c.cl,c.n3,(by show 2 < 1000;decide),a _ _ ?_]];erw[#[_,Z,r,C,D,_,Z,jc,c.cl,c.n4,(by show 3 < 1000;decide),?_]];let N:l≠r:=λe=>by rw[e,jc]at n;cases n
 let B:H l=θ:=by rw[jh N,jh N]at n;rwa[n]
 let e:∀p t u O:HO,af (af (af (af (af H r p) r t) l$ .dK []) r u) r O=af (af H l$ .dK []) r O:=λp t u O=>by
  funext b;by_cases d:b=r
  .rw[d,jc,jc]
  .rw[jh d,jh d,jh d];by_cases i:b=l
   .rw[i,jc,jc]
   .rw[jh i,jh d,jh d,jh i]
 rw[e];rwa[q l B]
def Cz:aj ["self"] ["self"] (ae pw):=bQ
def Yd(F:aS K "take_turn" "Turns.take_turn" pw f i)(b:RK K C)(X:XM K mg "TooLong" L):ah P w K mg base (dH P w) 1 f i ["self"] (gw C L):=by
 erw[F.ok1 Cz λj A o s H V Q E B h=>?_]
 let#[r,d,g,n,p,u,m,t,Z,a,v,q,e]:=h;erw[#[_,(jd (jy (jz xk (kY (pv 0) Z) (kY (pv 0) Z)$ aF _) (jg$ @XY _ _ _ _ _ Z QY$ @QV _ _ _ _ _ X.ex X.kp Z X.m Oa) jp)$ jg$ @uo _ _ _ _ _ _ _ _ _ _ (pv 0) jf Ez),?_]];erw[ai λD y=>#[_,Z,r,C,d,_,_,Z,a,b.cl,b.n4,Z,_,Z,r,C,d,_,_,Z,a,b.cl,b.n2,Z,_,_,Z,Z,_,Z,?_]];by_cases c:m<=(t:Int)
 .erw[c8 (OY c) λx N=>?_];rwa[#[x,L,θ,Z,jc,X.xc,X.ty,λT z=>e c () _ (Kp.of_same$ Yc N z)]]
 .rwa[aY (OR c)$ y _ _ #[_,Z,r,C,d,_,_,Z,a,b.cl,b.n4,Z,_,_,Z,Z,d,_,a,(by let:=v.l;show ry g+1+1+1+1+1 < 1000;omega),q N9]]
def GH:aj ["self","cell"] ["self","cell"] (ae yb):=bQ
def p8(F:aS K "number_in" "Turns.number_in" yb f p)(b:RK K C):⇑1 f p ["self","cell"] (gF C):=by
 erw[F.ok GH λu A o s H V Q E g h=>?_]
 let#[r,d,x,i,l,y,m,c,t,L,j,Z,a,q]:=h;erw[#[_,(jg$ jo$ kN (YI$ @FT _ _ _ _ _ (zR g) (pv 1)$ kY (pv 0) Z) (BP (zR g) (kY (pv 0) Z) (pv 1) (λ_ _=>Z))$ @KM _ _ _ _ _ _ _ _ _ (zR g) (kY (pv 0) Z) (pv 1) jf #[N6,N6,N6,N6]),?_]];erw[#[_,Z,_,Z,r,C,d,_,_,Z,a.ins,b.cl,b.n3,Z,l,_,Z,hZ.k (k:=.inl c) a.lf,_,Z,?_]];cases e:eU L (.inl c) with
 |some v=>erw[c8 Z #[_,Z,r,C,d,_,_,Z,a.ins,b.cl,b.n3,Z,_,Z,l,v,Z,by rw[<- e];rwa[hZ.k (k:=.inl c) a.lf],?_]];rw[tL a.iL e$ look j (.inl c) 0];rwa[q]
 |none=>erw[aY Z #[_,Z,r,C,d,_,_,Z,a.ins,b.cl,b.n1,Z,i,Z,.inl #[_,.inl a.ce],_,Z,_,hZ.k (k:=.inl c) a.ce,?_]];rw[KO a.iC];rw[tK e]at q;rwa[q]
abbrev xO:cc:=bX (bV 37) 0
abbrev Ca:cc:=bX (bV 37) 1
abbrev Cb:cc:=bX (bV 37) 2
abbrev Gv:cc:=bV 38
inductive Sk where
 |nil |st (n:Int) (hs:xD Int) (w r:Sk) |ask (b:Int) |rd (c i:Int) |wr (c i:Int) |cl (f:ρ) (is:xD Int) (s:Sk) (a:Int)
def Sk.dep:Sk->Nat
 | .st _ _ w r=>max w.dep r.dep
 | .cl _ _ s _=>s.dep+1
 |_=>0
def Sk.size:Sk->Nat
 | .st _ _ w r=>w.size+r.size+1
 | .cl _ _ s _=>s.size
 |_=>0
def Sk.ok:Bool->Sk->Prop
 |true,.nil=>True
 |true,.st _ _ w r=>w.ok ν/\r.ok μ
 |false,.cl _ _ s _=>s.ok μ
 |false,.ask _ |false,.rd _ _ |false,.wr _ _=>True
 |_,_=>False
inductive eIs(H:Hp)(n:Int)(d:xD Int)(W R:V->xD V->Prop)(x:xD V):Prop|mk(p h u y:_)(_:x= .ref p::y)(_:H p=δ (.tup [.int n,.ref h,u]))(_:H h=δ (.tup (d.map tT)))(_:W u [])(_:R .non y)
inductive eIc(H:Hp)(f:ρ)(I:xD Int)(a:Int)(W:V->xD V->Prop)(u:V):Prop|mk(p c g e S:_)(_:u= .ref p)(_:H p=δ (.tup [.str "call",.ref c]))(_:H c=δ (.tup [.str f,.ref g,.ref e,.int a]))(_:H g=δ (.tup (I.map tT)))(_:H e=δ (.tup S))(_:W .non S)
def eI(H:Hp):Sk->V->xD V->Prop
 | .nil,_,x=>x=[]
 | .st n d w r,_,x=>eIs H n d (eI H w) (eI H r) x
 | .ask b,u,_=>∃p,u= .ref p/\H p=δ (.tup [.str "ask",.int b])
 | .rd c i,u,_=>∃p,u= .ref p/\H p=δ (.tup [.str "read",.int c,.int i])
 | .wr c i,u,_=>∃p,u= .ref p/\H p=δ (.tup [.str "write",.int c,.int i])
 | .cl f I s a,u,_=>eIc H f I a (eI H s) u
theorem eI.mono(k:am H i):∀{s:Sk} {u:V} {x:xD V},eI H s u x->eI i s u x
 | .nil,_,_,h=>h
 | .st _ _ _ _,_,_,z=>by let#[p,h,u,y,e,a,b,d,f]:=z;rwa[#[p,h,u,y,e,k _ _ a,k _ _ b,eI.mono k d,eI.mono k f]]
 | .ask _,_,_,z | .rd _ _,_,_,z | .wr _ _,_,_,z=>by let#[p,e,h]:=z;rwa[#[p,e,k _ _ h]]
 | .cl _ _ _ _,_,_,z=>by let#[p,c,g,e,S,E,a,b,d,f,j]:=z;rwa[#[p,c,g,e,S,E,k _ _ a,k _ _ b,k _ _ d,k _ _ f,eI.mono k j]]
def Sk.put(n:Int)(h:xD Int)(W:Sk):Sk->Sk
 | .st a b c r=>.st a b c (Sk.put n h W r)
 |_=>.st n h W .nil
theorem xJ{H:Hp}{n:Int}{a:xD Int}{w:Sk}{p h:ζ}{u:V}(b:H p=δ (.tup [.int n,.ref h,u]))(c:H h=δ (.tup$ a.map tT))(d:eI H w u []):∀{s:Sk} {x:xD V},s.ok μ->eI H s .non x->eI H (Sk.put n a w s) .non (x++[.ref p])
 | .nil,_,_,e=>by let e:_=[]:=e;rw[e];rwa[#[p,h,u,[],Z,b,c,d,Z]]
 | .st _ _ _ r,_,o,z=>by let#[f,g,U,y,e,i,j,k,l]:=z;rw[e];rwa[#[f,g,U,y++[.ref p],Z,i,j,k,xJ b c d o.2 l]]
theorem Xu{w:Sk}(h:w.ok ν):∀{s:Sk},s.ok μ->(Sk.put n H w s).ok μ
 | .nil,_=>#[h,trivial]
 | .st _ _ _ _,o=>#[o.1,Xu h o.2]
theorem KP{n:Int}{hs:xD Int}{w:Sk}:∀{s:Sk},s.ok μ->(Sk.put n hs w s).size=s.size+(w.size+1)
 | .nil,_=>by show w.size+0+1=0+(w.size+1);omega
 | .st _ _ c r,o=>by let:=KP (n:=n) (hs:=hs) (w:=w) (s:=r) o.2;show c.size+(Sk.put n hs w r).size+1=c.size+r.size+1+(w.size+1);omega
theorem Xv{n:Int}{hs:xD Int}{w:Sk}{j:Nat}(H:w.dep<=j):∀{s:Sk},s.ok μ->s.dep<=j->(Sk.put n hs w s).dep<=j
 | .nil,_,_=>by show max w.dep 0<=j;omega
 | .st _ _ c r,o,h=>by let h:max c.dep r.dep<=j:=h;let:=Xv (n:=n) (hs:=hs) H (s:=r) o.2 N9;show max c.dep (Sk.put n hs w r).dep<=j;omega
theorem qW:∀{s:Sk} {x:xD V},s.ok μ->eI H s .non x->ry x<=s.size
 | .nil,_,_,e=>by let e:_=[]:=e;rw[e];rwa[OM 0]
 | .st _ _ w r,_,o,z=>by let#[_,_,_,y,e,_,_,_,h]:=z;let:=qW o.2 h;rw[e];show ry y+1<=w.size+r.size+1;omega
inductive gN(H:Hp)(f:ρ)(i:xD Int)(s:Sk)(a:Int)(u:V):Prop|mk(c g e S:_)(_:u= .ref c)(_:H c=δ (.tup [.str f,.ref g,.ref e,.int a]))(_:H g=δ (.tup$ i.map tT))(_:H e=δ (.tup S))(_:eI H s .non S)
def Sk.wh:Sk->Wh
 | .ask b=>.ask b
 | .rd c i=>.rd c i
 | .wr c i=>.wr c i
 | .cl f I _ a=>.cl f I a
 |_=>.ask 0
def LV{s:Sk}(o:s.ok ν)(h:eI H s u []):D7 H u s.wh:=by
 cases s with
 |nil |st=>rwa[o.elim]
 |ask b |rd c i |wr c i=>rwa[h]
 |cl f I s a=>let#[p,c,g,e,S,E,d,j,k,_]:=h;rwa[#[p,c,g,.ref e,E,d,j,k]]
inductive Gd where
 |give (a:Int) |go (n:Nat) (hs:xD Int)
def gg(N:Nat->xD ρ)(k:aU):Gl->Gd
 | .give _ T=>.give (T.ev k)
 | .nought=>.give 0
 | .go n=>.go n ((N n).map λx=>look k (.inr x) 0)
def Mg:Gd->Tr
 | .give a=>ay [aM "give",ar a]
 | .go n h=>ay [aM "go",ar (n:Int),ay (h.map ar)]
def YQ(N:Nat->xD ρ)(k:aU)(g:Gl):oY N k g=Mg (gg N k g):=by
 cases g with
 |give t T |nought=>rfl
 |go n=>show _=ay [_,_,ay (((N n).map λx=>look k (.inr x) 0).map ar)];rw[RU];rfl
structure DZ where
 nm:xD ρ
 e:DD
 ws:xD WD
structure dJ where
 f:ρ
 ps:xD ρ
 way:WD
 cs:xD DZ
structure HJ(H:Hp)(ys:xD ρ)(nA:ζ)(d:Df)(c:Ct)(cd:DZ):Prop where
 nm:cd.nm=canon c.M
 ed:cd.e.dd=c.d
 dv:uT H ys cd.e
 cs:cd.e.Cs d.b.calls
 len:ry cd.ws=ry c.ws
 ws:∀(j:Nat) (w:Wy) (wd:WD),c.ws[j]?=δ w->cd.ws[j]?=δ wd->wd.wy nA=w/\Ag H ys d.b.cuts d.b.size wd
structure As(H:Hp)(nA:ζ)(d:Df)(ys:xD ρ)(pd:dJ):Prop where
 f:pd.f=d.f
 ps:H d.pa=δ (.tup$ pd.ps.map tz)
 wy:pd.way.wy nA=(iV nA d).1.w
 wv:Ag H ys d.b.cuts d.b.size pd.way
 len:ry pd.cs=(ci nA d).length
 cs:∀(n:Nat) (c:Ct) (cd:DZ),(ci nA d)[n]?=δ c->pd.cs[n]?=δ cd->HJ H ys nA d c cd
def HJ.mono(k:am H f)(h:HJ H y n d c C):HJ f y n d c C:=#[h.nm,h.ed,h.dv.mono k,h.cs,h.len,λj w W a b=>let #[e,v]:=h.ws j w W a b;#[e,v.mono k]]
def As.mono(k:am H e)(h:As H N d y p):As e N d y p:=#[h.f,k _ _ h.ps,h.wy,h.wv.mono k,h.len,λn c C a b=>(h.cs n c C a b).mono k]
theorem Ay{c d:Type}{R:c->d->Prop}:∀(l:xD c),(∀a∈l,∃b,R a b)->∃m:xD d,ry m=ry l/\∀(i:Nat) (a:c) (b:d),l[i]?=δ a->m[i]?=δ b->R a b
 | [],_=>#[[],Z,λi a b h=>by simp at h]
 |a::l,h=>by
  let#[b,g]:=h a O5;let#[m,e,j]:=Ay l λx k=>h x (Pe _ k);erw[#[b::m,by rw[Ph,Ph,e],λi x y H f=>?_]];cases i with
  |zero=>cases H;cases f;rwa[g]
  |succ i=>rwa[j i x y (by simpa using H) (by simpa using f)]
def nR(p:dJ)(n:Nat):xD ρ:=match p.cs[n]? with
 |some c=>c.nm
 |none=>[]
def As.nms(h:As H N d y p):eO N d=nR p:=by
 funext n;unfold eO nR;by_cases a:n < ry p.cs
 .let b:n < (ci N d).length:=by rw[<- h.len];rwa[a]
  rw[OG a,OG b];rwa[(h.cs n _ _ (OG b)$ OG a).nm.symm]
 .rw[PJ$ TJ a,PJ (by rw[<- h.len];rwa[TJ a])]
inductive OW where
 |ok (w:Sk) (L:aU) (t:Nat) |long |deep
inductive OC where
 |ok (s:Sk) (a:Int) (L:aU) (t:Nat) |long |deep
def OC.cons(n:Int)(h:xD Int)(w:Sk):OC->OC
 | .ok s a L t=>.ok (.st n h w s) a L t
 | .long=>.long
 | .deep=>.deep
def Sk.app:Sk->Sk->Sk
 | .st n h w r,s=>.st n h w (r.app s)
 |_,s=>s
def OC.pre(S:Sk):OC->OC
 | .ok s a L t=>.ok (S.app s) a L t
 | .long=>.long
 | .deep=>.deep
theorem KQ:∀{s:Sk},s.ok μ->s.app .nil=s
 | .nil,_=>rfl
 | .st n h w r,o=>by show Sk.st n h w (r.app .nil)=_;rw[KQ o.2]
theorem rh{w:Sk}:∀{s:Sk},s.ok μ->(Sk.put n h w s).app q=s.app (.st n h w q)
 | .nil,_=>rfl
 | .st a b c r,o=>by show Sk.st a b c ((Sk.put n h w r).app q)=Sk.st a b c (r.app (.st n h w q));rw[rh o.2]
def Ye{w s:Sk}(o:OC)(h:s.ok μ):(o.cons n H w).pre s=o.pre (Sk.put n H w s):=by
 cases o with
 |ok q a L t=>show OC.ok (s.app (.st n H w q)) a L t= .ok ((Sk.put n H w s).app q) a L t;rw[rh h]
 |long |deep=>rfl
abbrev lB:=ρ->xD Int->aU->Nat->OC
def OC.cl(f:ρ)(i:xD Int):OC->OW
 | .ok s a L t=>.ok (.cl f i s a) L t
 | .long=>.long
 | .deep=>.deep
def gD(M:Nat)(call:lB)(C:aU)(k L:aU)(t:Nat)(e:DD):OW:=if t < M then match e with
 | .ask _ T=>.ok (.ask (if T.ev k=0 then 0 else 1)) L (t+1)
 | .st _ (.rd _ _ T)=>.ok (.rd (T.ev k) (look L (.inl (T.ev k)) (look C (.inl (T.ev k)) 0))) L (t+1)
 | .st _ (.wr _ _ T U)=>.ok (.wr (T.ev k) (U.ev k)) (bN L (.inl (T.ev k)) (.int (U.ev k))) (t+1)
 | .st _ (.cl _ f _ a)=>(call f (a.map λc=>c.2.ev k) L (t+1)).cl f (a.map λc=>c.2.ev k)
 |_=>.long
 else .long
def Kf{call:lB}(h:¬t < M):gD M call C k L t e= .long:=by unfold gD;rw[OU h]
def Xf{call:lB}(h:t < M):gD M call C k L t (.ask p T)= .ok (.ask (if T.ev k=0 then 0 else 1)) L (t+1):=by unfold gD;rw[OT h]
def ZB{call:lB}(h:t < M):gD M call C k L t (.st p$ .rd x a T)= .ok (.rd (T.ev k)$ look L (.inl$ T.ev k)$ look C (.inl$ T.ev k) 0) L (t+1):=by unfold gD;rw[OT h]
def ZC{call:lB}(h:t < M):gD M call C k L t (.st p$ .wr a b T U)= .ok (.wr (T.ev k)$ U.ev k) (bN L (.inl$ T.ev k)$ .int$ U.ev k) (t+1):=by unfold gD;rw[OT h]
def qu{call:lB}(h:t < M):gD M call C k L t (.st p$ .cl x f q T)=(call f (T.map λc=>c.2.ev k) L$ t+1).cl f (T.map λc=>c.2.ev k):=by unfold gD;rw[OT h]
def nU(p:dJ)(c:DZ)(h:xD Int)(w:Wh):Gd:=match c.ws[w.side]? with
 |some W=>gg (nR p) (cy W.sets (oR c.e w (aQ c.nm h))) W.goal
 |none=>.give 0
def f8(M:Nat)(call:lB)(C:aU)(p:dJ):Nat->Gd->aU->Nat->OC
 |0,_,_,_=>.long
 |_+1,.give a,L,t=>.ok .nil a L t
 |m+1,.go n h,L,t=>match p.cs[n]? with
  |none=>.long
  |some c=>match gD M call C (aQ c.nm h) L t c.e with
   | .ok w l T=>(f8 M call C p m (nU p c h w.wh) l T).cons (n:Int) h w
   | .long=>.long
   | .deep=>.deep
def eZ:xD dJ->ρ->xL dJ
 | [],_=>θ
 |p::r,f=>if p.f=f then δ p else eZ r f
theorem rf:∀{b:xD dJ} {i:Nat} {a:dJ},b[i]?=δ a->(∀(j:Nat) (p:dJ),j < i->b[j]?=δ p->p.f≠a.f)->eZ b a.f=δ a
 | [],i,a,h,_=>by simp at h
 |p::r,0,a,h,_=>by cases h;show(if p.f=p.f then δ p else _)=_;rw[OT Z]
 |p::r,i+1,a,h,k=>by show(if p.f=a.f then δ p else eZ r a.f)=_;rw[OU$ k 0 p (Nat.succ_pos _) Z];rwa[rf (i:=i) (by simpa using h) λj q H c=>k (j+1) q (Nat.succ_lt_succ H) (by simpa using c)]
def aV(M:Nat)(p:xD dJ)(C:aU):Nat->lB
 |0=>λ_ _ _ _=>.deep
 |j+1=>λf i L t=>match eZ p f with
  |none=>.long
  |some a=>f8 M (aV M p C j) C a (M+2) (gg (nR a) (cy a.way.sets (aQ a.ps i)) a.way.goal) L t
structure Ps(H:Hp)(nA pA:ζ)(ds:xD Df)(ns:xD Nat)(xs:xD V)(pds:xD dJ):Prop where
 at':H pA=δ (.tup xs)
 tr:aR H (aD$ ds.map$ gK nA) .non xs
 dv:∃zs,du H ds zs
 ok:uU ds ns
 pa:nK H ds ns
 dl:ry pds=ry ds
 pr:∀(i:Nat) (d:Df) (pd:dJ),ds[i]?=δ d->pds[i]?=δ pd->∃ys,(d.b.Ok ys/\ys.length<=20)/\As H nA d ys pd
def Ps.mono(h:Ps H n c D N x p)(k:am H e):Ps e n c D N x p:=#[k _ _ h.at',h.tr.mono k,let #[f,z]:=h.dv;#[f,z.mono k],h.ok,h.pa.mono k,h.dl,λi d g a b=>let #[Y,y,r]:=h.pr i d g a b;#[Y,y,r.mono k]]
def re(h:aR H (gK n d) v []):Hn H v d.f:=by obtain⟨_,a,x,rfl,b,_,_,Y,y,rfl,⟨rfl,_⟩,_⟩:=h;rwa[#[a,_,Z,b]]
theorem vG:∀{D:xD Df} {z:xD V},du H D z->∀{i:Nat} {d:Df},D[i]?=δ d->∃B,eL H d.b B
 |_::_,_,q,0,d,a=>by obtain⟨u,r,e,⟨B,_,_,_,h⟩,c⟩:=q;cases a;rwa[#[B,h]]
 |_::_,_,#[u,r,e,_,c],i+1,d,a=>vG c (by simpa using a)
section
variable {H:Hp}{nA pA:ζ}{ds:xD Df}{ns:xD Nat}{xs:xD V}{pds:xD dJ}
def Ps.part(h:Ps H nA pA ds ns xs pds){i:Nat}{d:Df}{v:V}(b:ds[i]?=δ d)(q:xs[i]?=δ v):∃y c,nL H nA d y v/\pds[i]?=δ c/\As H nA d y c/\eZ pds d.f=δ c:=by
 let#[T,n,t]:=qT h.tr i v q;rw[O2,b]at n;cases n;let#[z,r]:=h.dv;let#[_,_,s]:=(h.ok.1 d$ Pd b).1;let u:i < ry ds:=(ξ.mp b).1;let g:pds[i]?=δ (pds[i]'(by rw[h.dl];rwa[u])):=OG _;obtain⟨y,⟨O,Y⟩,k⟩:=h.pr i d _ b g;erw[#[y,_,#[t,vG r b,O,Y,s],g,k,?_]];rw[<- k.f];erw[rf g λj p A l e=>?_];let a:j < ry ds:=by omega
 let#[_,_,m]:=h.pr j _ p (OG a) l;rw[m.f,k.f]at e;let x:(ds.map Df.f)[j]?=δ (ds[j]).f:=by rw[O2,OG a];rfl
 let o:(ds.map Df.f)[i]?=δ d.f:=by rw[O2,b];rfl
 rw[<- e]at o;let:=(Tq (by rw[OJ];rwa[a]) h.ok.2.1).mp (x.trans o.symm);omega
def Ps.cs(h:Ps H nA pA ds ns xs pds){i:Nat}{d:Df}(a:ds[i]?=δ d):∀f∈d.b.calls,f∈(ds.map Df.f).zip ns:=zP (h.ok.1 d$ Pd a).2
def Ps.at(h:Ps H nA pA ds ns xs pds){i:Nat}{d:Df}(b:ds[i]?=δ d):∃v,xs[i]?=δ v/\aR H (gK nA d) v []/\Hn H v d.f/\∀j x,j < i->xs[j]?=δ x->∃g,Hn H x g/\g≠d.f:=by
 let L:=zo h.tr;rw[OJ]at L;let r:i < ry ds:=(ξ.mp b).1;let t:∀(j:Nat) (x:V),xs[j]?=δ x->∃c,ds[j]?=δ c/\aR H (gK nA c) x []:=λj x k=>by let#[s,m,t]:=qT h.tr j x k;rw[O2]at m;let#[c,a,Z]:=cv.mp m;rwa[#[c,a,t]]
 let n:xs[i]?=δ (xs[i]'N9):=OG N9;let#[c,a,T]:=t _ _ n;rw[b]at a;cases a;erw[#[_,n,T,re T,λj x u k=>?_]];let#[c,a,q]:=t j x k;erw[#[c.f,re q,λe=>?_]];let o:(ds.map Df.f)[j]?=δ c.f:=by rw[O2,a];rfl
 let p:(ds.map Df.f)[i]?=δ d.f:=by rw[O2,b];rfl
 rw[<- e]at p;let l:j < (ds.map Df.f).length:=(ξ.mp o).1;let:=(Tq l h.ok.2.1).mp (o.trans p.symm);omega
def Ps.find(h:Ps H nA pA ds ns xs pds)(a:(f,n)∈(ds.map Df.f).zip ns):∃(i:Nat) (d:Df),ds[i]?=δ d/\ns[i]?=δ n/\d.f=f:=by
 let#[i,b,e]:=ir.mp a;let E:((ds.map Df.f).zip ns)[i]?=δ (f,n):=by rw[<- e];rwa[OG b]
 rw[U1]at E;rw[O2]at E;let#[d,c,g]:=cv.mp E.1;rwa[#[i,d,c,E.2,g]]
end
def Rn.tm(h:Rn H C r d E c l p m t L f)(k:bf r l H a):am H a:=λb x e=>k b _ (jM e h.ins nofun) (jM e h.lf nofun) e
def Rn.same(h:Rn H C r d e c l p m t L a)(s:aa H b):Rn b C r d e c l p m t L a:=#[s _ _ h.ins,s _ _ h.lf,s _ _ h.ce,h.iL,h.iC,h.cl,h.tl,h.hm]
def Rn.rl(h:Rn H C r d e c l p m t L a):r≠l/\r≠c:=#[jM h.ins h.lf nofun,jM h.ins h.ce nofun]
def Hl(r l:ζ)(H h:Hp):Prop:=∀b o,b≠r->b≠l->NX o->H b=δ o->h b=δ o
def Fl.next(h:Fl E L (Hl r l H)):Fl (mq E) L (Hl r l H):=λd i k x T t c e a j f=>by cases e;rwa[h d _ λb o N g n e=>qf (H:=H) (k b o N g n e) n a f]
def Fl.nextK(h:Fl E L (Kp H)):Fl (mq E) L (Kp H):=λd g k x T t c e a i f=>by cases e;rwa[h d _ λb o n e=>qf (H:=H) (k b o n e) n a f]
def Fl.mono{R S:Hp->Prop}(h:Fl E L R)(k:∀H,S H->R H):Fl E L S:=λd H s=>h d H (k H s)
inductive iP(C:ζ)(e:xD V)(H:Hp)(Q:VK)(a:XK):Prop
 |mk(r c d b:ζ)(m:Int)(_:e=[.ref r,.ref d,.ref b,.int m])(_:H r=δ (.ins C c []))(_:∀lA,H lA=θ->Q .non (af (af H lA (.dK [])) r (.ins C c (dI [] b lA d m 0))))
def i5(A B:Prop)(E:XK)(T t:ζ)(R:Hp->Prop):Prop:=(A->Fl E T R)/\(B->Fl E t R)
def i5.mono{R S:Hp->Prop}(h:i5 A B E T t R)(k:∀H,S H->R H):i5 A B E T t S:=#[λa=>(h.1 a).mono k,λb=>(h.2 b).mono k]
def i5.next(h:i5 A B E T t (Hl r l H)):i5 A B (mq E) T t (Hl r l H):=#[λa=>(h.1 a).next,λb=>(h.2 b).next]
def i5.imp{R:Hp->Prop}(h:i5 A B E T t R)(a:c->A)(b:d->B):i5 c d E T t R:=#[λx=>h.1 (a x),λx=>h.2 (b x)]
inductive fb(C g f q:ζ)(j:Nat)(x:xD V)(H:Hp)(Q:VK)(E:XK):Prop
 |mk(M:Nat)(r m:ζ)(n:xD (ρ×V))(k p w h:ζ)(b t i:Nat)(L e:aU)(v:V)(d:Df)(l:xD Df)(s:xD Nat)(y:xD V)(c:xD dJ)(o:xD Int)(_:x=[.ref r,v,.ref h,.int (b:Int)])(_:b+j=16)(_:1<=j)(_:Rn H C r m n k p w M t L e)(_:ry L<=t)(_:t<=M)(_:Ps H q w l s y c)(_:l[i]?=δ d)(_:s[i]?=δ o.length)(_:y[i]?=δ v)(_:H h=δ (.tup (o.map tT)))(_:∀z∈o,hV z)(_:∀(u:V) (sk:Sk) (a:Int) (L':aU) (H':Hp),aV M c e j d.f o L t= .ok sk a L' (t+sk.size)->gN H' d.f o sk a u->sk.ok μ->sk.dep+1<=j->hV a->Rn H' C r m n k p w M (t+sk.size) L' e->ry L'<=t+sk.size->t+sk.size<=M->bf r p H H'->Q u H')(_:i5 (aV M c e j d.f o L t= .long) (aV M c e j d.f o L t= .deep) E g f (Hl r p H))
inductive iQ(C f d n:ζ)(j:Nat)(q:xD V)(H:Hp)(Q:VK)(E:XK):Prop
 |mk(M:Nat)(r i:ζ)(l:xD (ρ×V))(g m p:ζ)(a t:Nat)(L c k:aU)(u:V)(e:DD)(x:xD ρ)(h:xD Df)(o:xD Nat)(s:xD V)(b:xD dJ)(_:q=[.ref r,u,.int (a:Int)])(_:a+j=15)(_:Rn H C r i l g m p M t L c)(_:ry L<=t)(_:t<=M)(_:Ps H n p h o s b)(_:aR H (sR k e) u [])(_:uT H x e)(_:GT k)(_:e.Cs ((h.map Df.f).zip o))(_:∀(w:Sk) (v:V) (L':aU) (H':Hp),gD M (aV M b c j) c k L t e= .ok w L' (t+1+w.size)->eI H' w v []->w.ok ν->HL e w.wh->w.dep<=j->Rn H' C r i l g m p M (t+1+w.size) L' c->ry L'<=t+1+w.size->t+1+w.size<=M->bf r m H H'->Q v H')(_:i5 (gD M (aV M b c j) c k L t e= .long) (gD M (aV M b c j) c k L t e= .deep) E f d (Hl r m H))
def GF:aj z6z z6z (ae xO):=bQ
def pY(F:aS K "__init__" "BookRun.__init__" xO f t)(j:RK K C)(GT:⇑1 u c z25z (lW C))(B:aE K c z25z [])(M:mg "Turns"=↑T)(v:uS K T "__init__" u):⇑2 f t z6z (iP C):=by
 erw[F.ok GF λx A o s H V Q E y h=>?_]
 let#[r,d,z,k,m,Z,g,q]:=h;erw[#[_,(jd (jL$ @ZT _ _ _ _ _ _ _ _ _ _ _ _ _ _ _ _ _ _ _ _ Z M v GT y.m B .nil bY (ja (pv 0)$ ja (pv 2)$ ja (pv 3) jb) Oa N6 N6 N6)$ jg$ @qw _ _ _ _ _ _ _ _ (pv 0) (pv 1) Z),?_]];erw[ai λD n=>#[_,Z,_,Z,_,Z,r,d,[],k,m,Z,g,λL N=>n _ _ ?_]];erw[#[_,Z,_,Z,r,C,d,_,Z,jc,j.cl,j.n5,(by show 4 < 1000;decide),?_]];let e:∀(i:Hp) (p O:HO),af (af i r p) r O=af i r O:=λi p O=>by
  funext b;by_cases a:b=r
  .rw[a,jc,jc]
  .rw[jh a,jh a,jh a]
 rw[e];rwa[q L N]
def Kg(h:aR H (ay t) u []):∃a x,u= .ref a/\H a=δ (.tup x)/\aR H (aD t) .non x:=let #[_,a,x,e,b,c]:=h;#[a,x,e,b,c]
def qg(h:aR H (aD (t::T)) .non x):∃y Y,x=y::Y/\aR H t y []/\aR H (aD T) .non Y:=let #[_,_,y,Y,e,a,b]:=h;#[y,Y,e,a,b]
def sd(h:aR H (aM x) y []):y= .str x:=h.1
def Kh(h:aR H (ar n) y []):y= .int n:=h.1
theorem KR:∀{I:xD Int} {v:xD V},aR H (aD$ I.map ar) .non v->v=I.map tT
 | [],v,h=>h
 |i::I,v,h=>by let#[y,Y,Z,a,b]:=qg h;rw[Kh a,KR b];rfl
def Xw{H:Hp}{w:ρ}{t:xD Tr}{u:V}(h:aR H (ay (aM w::t)) u []):∃a x,u= .ref a/\H a=δ (.tup (.str w::x))/\aR H (aD t) .non x:=by let#[a,x,Z,b,h]:=Kg h;let#[y,Y,Z,c,d]:=qg h;rw[sd c]at b;rwa[#[a,Y,Z,b,d]]
def Xg{H:Hp}{w:ρ}{i:Int}{u:V}(h:aR H (ay [aM w,ar i]) u []):∃a,u= .ref a/\H a=δ (.tup [.str w,.int i]):=by let#[a,x,Z,b,h]:=Xw h;let#[y,Y,Z,c,d]:=qg h;let e:Y=[]:=d;rw[Kh c,e]at b;rwa[#[a,Z,b]]
def y6{H:Hp}{w:ρ}{i:Int}{t:Tr}{u:V}(h:aR H (ay [aM w,ar i,t]) u []):∃a y,u= .ref a/\H a=δ (.tup [.str w,.int i,y])/\aR H t y []:=by let#[a,x,Z,b,h]:=Xw h;let#[y,Y,Z,c,d]:=qg h;let#[z,f,Z,g,j]:=qg d;let e:f=[]:=j;rw[Kh c,e]at b;rwa[#[a,z,Z,b,g]]
def Li:aj z11z z11z (ae Cb):=bQ
def wQ(F:aS K "what_of" "BookRun.what_of" Cb f fd)(ck:RK K C)(GT:ah P w K mg base (dH P w) 1 fT f0 ["self"] (gw C TL))(bT:aE K f0 ["self"] [])(m0:bj K C "take_turn" fT)(GI:⇑1 fI f2 ["self","cell"] (gF C))(bI:aE K f2 ["self","cell"] [])(m1:bj K C "number_in" fI)(GD:ah P w K mg base (dH P w) 1 fD f3 ["deep"] (dS TD))(bD:aE K f3 ["deep"] [])(kD:fJ K (.ref fD)=μ)(mD:mg "deeper"=↑fD)(cP:‹2› fP f6 ["parts","f"] lT "part_of")(GC:ah P w K mg base (dH P w) (2*j+12) fC f4 z14z (fb C TL TD nA j))(bC:aE K f4 z14z [])(m2:bj K C "chain_of" fC):ah P w K mg base (dH P w) (2*j+13) f fd z11z (iQ C TL TD nA j):=by
 erw[F.ok1 Li λc5 A o2 s H vs Q E hr h=>?_]
 symm;let#[M,r,I,Y,cA,N,W,O,t,L,Cs,k,u,e,ys,ds,ns,xs,p1,Z,h4,D,h5,ht,hP,J,h0,hk,h1,q,t0]:=h;erw[#[_,(jd (jL$ XT (pv 0) ck.cl m0 GT hr.m bT .nil ke)$ jd (jy (j8$ jw$ pv 1) (jg$ jo$ ji$ ja jm$ ja (jw$ pv 1)$ ja (kh (pv 0) ck.cl m1 GI hr.m bI .nil bY$ ja (jw$ pv 1) jb) jb) jp)$ jd (jy (j8$ jw$ pv 1) (jg$ jo$ ji$ ja jm$ ja (kh (pv 0) ck.cl m2 GC hr.m bC .nil ke$ ja (cP.e hr.m$ ja (kY (pv 0) Z)$ ja (jw$ pv 1) jb)$ ja (jw$ pv 1)$ ja (kC GD hr.m Z mD kD bD .nil ke$ ja (pv 2) jb) jb) jb) jp)$ jd (jy (j8$ jw$ pv 1) (jg$ Jf (zR hr) (kY (pv 0) Z) (jw$ pv 1) (jw$ pv 1) Z) jp)$ jg$ jo$ pv 1),?_]];let b0:=aL;let hM:=D.hm;sleep 4;erw[ai λF1 B=>#[_,Z,r,I,_,Z,D.ins,D.tl.t,r,I,Y,cA,N,W,M,t,Z,D.ins,D.tl,λlt=>B _ _ ?_,λge=>((t0.1$ Kf N9).mono λH' kk=>λb o _ _ nx e=>kk b o nx e).nextK]];left;let t1:am H (af H r$ .ins C I$ dI Y cA N W M$ t+1):=λb xs e=>by rw[jh$ jM e D.ins nofun];rwa[e]
 let R:Rn (af H r$ .ins C I$ dI Y cA N W M$ t+1) C r I Y cA N W M (t+1) L Cs:=#[jc,by rw[jh D.rl.1.symm];rwa[D.lf],by rw[jh D.rl.2.symm];rwa[D.ce],D.iL,D.iC,D.cl,D.tl,D.hm];let k1:bf r N H (af H r$ .ins C I$ dI Y cA N W M$ t+1):=λb o n1 n2 e=>by rw[jh n1];rwa[e]
 generalize af H r (.ins C I$ dI Y cA N W M$ t+1)=H1 at t1 R k1;let J:=J.mono t1;let lt':t+1<=M:=by omega
 let f5:∀(w:Sk) (xs:xD V) (X:Hp) (v:ζ),X v=θ->eI (af X v$ .tup xs) w (.ref v) []->w.ok ν->gD M (aV M p1 Cs j) Cs k L t e= .ok w L (t+1)->HL e w.wh->w.size=0->w.dep<=j->H1=X->Q (.ref v) (af X v$ .tup xs):=λw xs X v nv hw ok eq ft sz dp e2=>by subst e2;rwa[q w _ L _ (by rw[sz];rwa[eq]) hw ok ft dp (by rw[sz];rwa[R.same$ je nv]) N9 N9$ k1.trans$ bf.of_same$ je nv]
 symm;cases e with
 |ask ta T=>
  let#[p,Z,G]:=Xg J;erw[ai λF1 B=>(jr G Z #[Z,_,Z,aY N7$ B _ _ ?_])];left;erw[ai λF1 B=>(jr G Z #[Z,_,Z,aY N7$ B _ _ ?_])];left;erw[ai λF1 B=>(jr G Z #[Z,_,Z,aY N7$ B _ _ ?_])];left;erw[#[_,Z,q (.ask (if T.ev k=0 then 0 else 1)) _ L _ (Xf N9) #[p,Z,G] trivial ?_ (OS _) R (by show ry L<=t+1+0;omega) lt' k1]];show(if T.ev k=0 then (0:Int) else 1)=0\/(if T.ev k=0 then (0:Int) else 1)=1;split
  .rwa[.inl Z]
  .rwa[.inr Z]
 |st p0 l=>
  let#[vs,_,h6,o1,c0]:=h0;cases l with
  |gv ta T |st x ta T=>cases c0
  |rd x ta T=>let#[p,Z,G]:=Xg J;sleep 3;erw[ai λF1 B=>(jr G Z #[Z,_,Z,c8 N7$ jr G Z #[_,Z,r,I,_,Z,R.ins,R.tl.n,jr G Z #[r,I,Y,cA,N,W,M,_,_,_,_,Z,R,iF,λv nv=>?_]]])];rwa[f5 (.rd (T.ev k)$ look L (.inl$ T.ev k)$ look Cs (.inl$ T.ev k) 0) _ _ v nv #[v,Z,jc] trivial (ZB N9) (Kc R.iL$ Kc R.iC Kd) Z (OS _) Z]
  |wr ta ub T U=>
   let#[p,y,Z,G,hy]:=y6 J;rw[Kh hy]at G;sleep 3;erw[ai λF1 B=>(jr G Z #[Z,_,Z,aY N7$ B _ _ ?_])];left;erw[ai λF1 B=>(jr G Z #[Z,_,Z,aY N7$ B _ _ ?_])];left;erw[ai λF1 B=>(jr G Z #[Z,_,Z,c8 N7$ jr G Z #[_,Z,r,C,I,_,_,Z,R.ins,ck.cl,ck.n3,Z,jr G Z #[N,_,Z,oH.k (k:=.inl (T.ev k)) R.lf N9,B _ _ ?_]]])];left;let pl:=qB (kvs:=L) (k:=.inl (T.ev k)) (v:=.int (U.ev k));let t3:am H1 (af H1 N$ .dK$ bN L (.inl$ T.ev k)$ .int$ U.ev k):=λb xs e=>by rw[jh$ jM e R.lf nofun];rwa[e]
   erw[#[_,Z,q (.wr (T.ev k)$ U.ev k) _ (bN L (.inl$ T.ev k)$ .int$ U.ev k) _ (ZC N9) #[p,Z,t3 _ _ G] trivial trivial (OS _) #[by rw[jh D.rl.1];rwa[R.ins],jc,by rw[jh D.cl];rwa[R.ce],R.iL.put _$ Jc hk o1.2.1,R.iC,R.cl,R.tl,R.hm] (by show _<=t+1+0;omega) lt' λb o n1 n2 e=>?_]];rw[jh n2];rwa[k1 b o n1 n2 e]
  |cl x f q' ts=>
   let#[p,y3,Z,G,hy]:=Xw J;let#[y1,y4,Z,e1,hy]:=qg hy;let#[y2,y0,Z,e2,hy]:=qg hy;let e3:y0=[]:=hy;subst e3;rw[sd e1]at G;let#[ag,a0,Z,ha,S]:=Kg e2;let S:aR H1 (aD ((ts.map λc=>c.2.ev k).map ar)) .non a0:=by rw[RU];rwa[S]
   rw[KR S]at ha;let#[i,d,hd,hn,Z]:=hP.find h1;let P1:=hP.mono t1;let#[v,hv,_,h2,h3]:=P1.at hd;sleep 3;erw[ai λF1 B=>(jr G Z #[Z,_,Z,aY N7$ B _ _ ?_])];left;erw[ai λF1 B=>(jr G Z #[Z,_,Z,c8 N7 ?_])];left;erw[#[_,Z,r,I,_,Z,R.ins,R.tl.c,_,Z,r,C,I,_,_,Z,R.ins,ck.cl,ck.n5,Z,jr G Z #[W,d.f,xs,i,v,Z,P1.at',hv,h2,h3,jr G Z #[_,Z,(O:Int),Z,λdl=>?_,λdg=>((t0.2 (by let z:j=0:=N9;rw[qu N9,z];rfl)).mono λX kk=>λb o n1 n2 nx e=>kk b o nx (k1 b o n1 n2 e)).nextK]]]];erw[#[M,r,I,Y,cA,N,W,ag,O+1,t+1,i,L,Cs,v,d,ds,ns,xs,p1,ts.map λc=>c.2.ev k,Z,N9,N9,R,N9,lt',P1,hd,by rw[OJ];rwa[hn],hv,ha,λz hz=>?_,λu sk a L' X eq hc ok dp ia R2 l2 t2 k2=>?_,i5.next ((t0.imp (λz=>by rw[qu N9,z];rfl) (λz=>by rw[qu N9,z];rfl)).mono λX kk=>λb o n1 n2 nx e=>kk b o n1 n2 nx (k1 b o n1 n2 e))]]
   .symm;let#[c,hc,Z]:=dr.mp hz;rwa[Jc hk (o1.2.2 c hc).1]
   .symm;let#[c,g,ee,ss,Z,c1,c2,c3,c4]:=hc;erw[#[cj,λv2 nv=>?_]];let s2:aa X (af X v2$ .tup [.str "call",.ref c]):=je nv;erw[q (.cl d.f (ts.map λc=>c.2.ev k) sk a) _ L' _ (by rw[qu N9,eq];rfl) #[v2,c,g,ee,ss,Z,jc,s2 _ _ c1,s2 _ _ c2,s2 _ _ c3,c4.mono$ aa.tm s2] ok ia (by show sk.dep+1<=j;rwa[N09]) (R2.same s2) l2 t2 ((k1.trans k2).trans$ bf.of_same s2)]
def Eb:eW (s++[x]) (-1)=δ x:=by
 let l:(s++[x]).length=ry s+1:=by rw[OL];rfl
 unfold eW oX;rw[l,OU N9,OT N9];let e:(-1+((ry s+1:Nat):Int)).toNat=ry s:=by omega
 show(s++[x])[(-1+((ry s+1:Nat):Int)).toNat]?=_;rw[e];simp
inductive HN(H:Hp)(nA:ζ)(d:Df)(u:V):Gd->Prop
 |give (p:ζ) (a:Int) (e:u= .ref p) (h:H p=δ (.tup [.str "give",.int a])) (i:hV a):HN H nA d u (.give a)
 |go (p hv:ζ) (n:Nat) (c:Ct) (is:xD Int) (e:u= .ref p) (h:H p=δ (.tup [.str "go",.int (n:Int),.ref hv])) (h2:H hv=δ (.tup (is.map tT))) (hc:(ci nA d)[n]?=δ c) (hl:ry is=(canon c.M).length) (hi:∀i∈is,hV i):HN H nA d u (.go n is)
def Xh{H:Hp}{nA:ζ}{d:Df}(h:aR f (oY (eO nA d) k g) u [])(j:GT k)(l:HM H Y d.b.cuts g):HN f nA d u (gg (eO nA d) k g):=by
 cases g with
 |give t T=>let#[p,e,h]:=Xg h;rwa[.give p _ e h (Jc j l.2.1)]
 |nought=>let#[p,e,h]:=Xg h;rwa[.give p 0 e h Kd]
 |go n=>
  let#[p,y,e,h,q]:=y6 h;let#[a,X,Z,m,c]:=Kg q;let r:n < (ci nA d).length:=by rw[Z8];rwa[l]
  let o:(ci nA d)[n]?=δ (ci nA d)[n]:=OG r;let c:aR f (aD (((eO nA d n).map λx=>look k (.inr x) 0).map ar)) .non X:=by rw[RU];rwa[c]
  rw[KR c]at m;erw[.go p a n _ _ e h m o (by rw[OJ,wL o]) λi s=>?_];let#[x,_,Z]:=dr.mp s;rwa[Kc j Kd]
inductive CI(M:Nat)(a:lB)(N:dJ)(h:OC)(C r o:ζ)(E:xD (ρ×V))(n G K l P I:ζ)(b t j:Nat)(i:aU)(v:V)(d:Df)(H:Hp)(F:Nat)(R:_L.St)(k:Hp):Prop
 |mk(J:xL V)(u:V)(g:Gd)(m:Nat)(O:Sk)(Q:xD V)(L:aU)(p:R=[↑r,δ v,↑l,δ (.int (b:Int)),↑P,δ u,J])(q:k P=δ (.lst Q))(s:eI k O .non Q)(w:O.ok μ)(x:O.dep+1<=j)(y:HN k I d u g)(z:Rn k C r o E n G K M (t+O.size) L i)(A:ry L<=t+O.size)(B:t+O.size<=M)(D:bf r G H k)(c:F+t+O.size=M+1)(e:(f8 M a i N m g L (t+O.size)).pre O=h)(f:M+2<=m+(t+O.size))
def nW:aj ["self","part","args","deep","steps","goal","what"] z14z (ae Ca):=bQ
def Ff(F:aS K "chain_of" "BookRun.chain_of" Ca f fd)(ck:RK K C)(cF:‹9› fF f2 ["part","args"] (iy nA) "first_of")(cD:‹9› fD f3 z8z (fc nA) "deed_at")(cO:‹9› fO f4 ["part","step"] (pH nA) "onward")(GW:ah P w K mg base (dH P w) (2*j+13) fW f0 z11z (iQ C TL TD nA j))(bW:aE K f0 z11z [])(m0:bj K C "what_of" fW)(m1:mg "tuple"=θ):ah P w K mg base (dH P w) (2*j+14) f fd z14z (fb C TL TD nA$ j+1):=by
 erw[F.ok1 nW λc3 A o2 s H vs Q E hr h=>?_]
 symm;let#[M,r,dx,ex,cA,lA,pA,ag,U,t,i,L,y,v,d,ds,ns,xs,x,is,Z,b3,_,hR,a0,ht,hP,hd,hn,hv,ha,h3,q,t4]:=h;erw[#[_,(jd (jA 4 nW.nd$ jF jb)$ jd (jA 5 nW.nd$ cF.e hr.m$ ja (pv 1)$ ja (pv 2) jb)$ jd (KI PassesOwn.leaving (j8$ jw$ pv 5)$ jd (jA 6 nW.nd$ kh (pv 0) ck.cl m0 GW hr.m bW .nil ke$ ja (cD.e hr.m$ ja (pv 1)$ ja (jw$ pv 5)$ ja (jw$ pv 5) jb)$ ja (pv 3) jb)$ jd (jL$ jZ PySem.F.plainAttrs_list PySem.F.slot_list_append PySem.F.type_list_append jQ (pv 4)$ ja (ji$ ja (jw$ pv 5)$ ja (jw$ pv 5)$ ja (pv 6) jb) jb)$ jg$ jA 5 nW.nd$ cO.e hr.m$ ja (pv 1)$ ja (jq ju (pv 4) (xw YJ jf)) jb)$ jg$ jo$ ji$ ja (jw$ pv 1)$ ja (pv 2)$ ja (jJ jN Z m1 boot_tuple$ ja (pv 4) jb)$ ja (jw$ pv 5) jb),?_]];let b4:=aL;let hM:=hR.hm;symm;let#[ys,g,h1,b5,pr,a1]:=hP.part hd hv;let#[ps,h4,a2,a3]:=hP.pa.2 i d _ hd hn;let e3:ps=g.ps:=by let z:=h4.symm.trans pr.ps;injection z with z;injection z with z;rwa[(List.map_inj_right λa b e=>by injection e).mp z]
 subst e3;let e0:aV M x y (j+1) d.f is L t=f8 M (aV M x y j) y g (M+2) (gg (nR g) (cy g.way.sets$ aQ g.ps is) g.way.goal) L t:=by show(match eZ x d.f with |none=>OC.long |some g=>f8 M (aV M x y j) y g (M+2) (gg (nR g) (cy g.way.sets$ aQ g.ps is) g.way.goal) L t)=_;rw[a1]
 right;generalize aV M x y (j+1) d.f is L t=X at q t4 e0;sleep 3;erw[ai λF1 J=>#[g9,λS Y=>J _ _ ?_]];left;let s1:aa H (af H S$ .lst []):=je Y;let l1:af H S (.lst []) S=δ (.lst []):=jc;generalize af H S (.lst [])=H1 at s1 l1 ⊢;let e4:=pr.wy;let h2:=pr.wv;erw[ai λF1 J=>#[_,Z,_,Z,v,ag,d,ys,g.ps,is,g.way,Z,h1.mono$ aa.tm s1,s1 _ _ h4,N9,s1 _ _ ha,a2.symm,h3,e4,h2.mono$ aa.tm s1,λu H2 hu s2=>J _ _ ?_]];left;let S2:=s1.trans s2;let gz:GT (aQ g.ps is):=qV h3;let g0:=Xh (H:=H) hu (qe h2.sets gz) h2.goal;rw[pr.nms]at g0;let s0:S≠r:=Ne.symm (jk hR.ins Y);let s3:S≠lA:=Ne.symm (jk hR.lf Y);let s9:cA≠S:=jk hR.ce Y;erw[ai λF1 J=>?_];erw[pI (CI M (aV M x y j) g X C r dx ex cA lA pA ag S nA U t (j+1) y v d H) (M+1 - t) #[θ,u,_,M+2,.nil,[],L,Z,s2 _ _ l1,Z,trivial,by show 0+1<=j+1;rwa[N09],g0,hR.same S2,a0,ht,bf.of_same S2,by show M+1 - t+t+0=M+1;omega,by rw[e0];show OC.pre .nil (f8 M (aV M x y j) y g (M+2) _ L t)=_;cases f8 M (aV M x y j) y g (M+2) (gg (nR g) (cy g.way.sets$ aQ g.ps is) g.way.goal) L t<;>rfl,by show M+2<=M+2+(t+0);omega] ?_];intro kk σ H3 E' rt fE F kT cF.k Gq kq hW;symm;let#[o6,u,gd,m,N,R,L1,Z,w1,w2,w3,w4,w5,w6,w7,w8,w9,b8,W,b9]:=hW;obtain⟨m,rfl⟩:∃m',m=m'+1:=#[m - 1,N9];let t0:=hR.tm w9;let P3:=hP.mono t0;cases w5 with
 |give p a e h5 ia=>subst e;erw[kq$ jr h5 Z #[Z,_,Z,?_]];rw[show decide (tz (Str.ofString "give")=tz (Str.ofString "go"))=ν by decide+kernel];erw[cF.k _$ J _ _ ?_];symm;let#[pa,ca,wv,cs,e,h7,_]:=(h1.mono t0).parts;subst e;erw[(jr h7 Z #[_,Z,_,Z,S,R,Z,.inl #[aK.of w1,λl2 n0=>?_]])];let s4:aa H3 (af H3 l2$ .tup R):=je n0;erw[(jr (s4 _ _ h5) Z #[sg,λv2 nv=>?_])];let s5:=s4.trans (je (o:=.tup [.str d.f,.ref ag,.ref l2,.int a]) nv);let S5:bf r lA H (af (af H3 l2$ .tup R) v2$ .tup [.str d.f,.ref ag,.ref l2,.int a]):=w9.trans (bf.of_same s5);let W:OC.ok (N.app .nil) a L1 (t+N.size)=X:=W;rw[KQ w3]at W;rwa[q _ N a L1 _ W.symm #[v2,ag,l2,R,Z,jc,hR.tm S5 _ _ ha,aq jc nv,w2.mono$ aa.tm s5] w3 w4 ia (w6.same s5) w7 w8 S5]
 |go p D n c hs e h5 h6 hc hl hi=>
  subst e;erw[kq$ jr h5 Z #[Z,_,Z,?_]];rw[show decide (tz (Str.ofString "go")=tz (Str.ofString "go"))=μ by decide+kernel];erw[kT _ ?_];clear kT cF.k J;let P1:=h1.mono t0;symm;let#[pa,ca,wv,cs,e9,h7,_,_,a4]:=P1.parts;let#[ka,na,wa,dv,b',_,c1]:=P1.cut a4 hc;let a5:n < ry g.cs:=by rw[pr.len];rwa[(ξ.mp hc).1]
  obtain⟨cd,h8⟩:∃cd,g.cs[n]?=δ cd:=#[_,iv a5];let cr:=(pr.cs n c cd hc h8).mono t0;let#[c2,e,c0]:=cd;let#[e1,ed,d0,e5,l0,a']:=cr;let e1:c2=canon c.M:=e1;subst e1;let W:OC.pre N (match g.cs[n]? with
   |none=>OC.long
   |some c=>match gD M (aV M x y j) y (aQ c.nm hs) L1 (t+N.size) c.e with
    | .ok w L1 t1=>(f8 M (aV M x y j) y g m (nU g c hs w.wh) L1 t1).cons (n:Int) hs w
    | .long=>.long
    | .deep=>.deep)=X:=W
  rw[h8]at W;let W:OC.pre N (match gD M (aV M x y j) y (aQ (canon c.M) hs) L1 (t+N.size) e with
    | .ok w L1 t1=>(f8 M (aV M x y j) y g m (nU g #[canon c.M,e,c0] hs w.wh) L1 t1).cons (n:Int) hs w
    | .long=>.long
    | .deep=>.deep)=X:=W
  let gk:GT (aQ (canon c.M) hs):=qV hi;sleep 2;erw[ai λF1 J=>#[_,Z,r,dx,_,Z,w6.ins,w6.tl.w,_,Z,jr h5 Z$ jr h5 Z #[v,n,D,d,ys,c,hs,e,Z,P1,hc,h6,hl,hi,ed,d0,λud H4 b0 s4=>?_]]];let t8:=t0.trans (aa.tm s4);erw[#[_,Z,M,r,dx,ex,cA,lA,pA,U,t+N.size,L1,y,aQ (canon c.M) hs,ud,e,ys,ds,ns,xs,x,Z,N9,w6.same s4,w7,w8,hP.mono t8,b0,d0.mono$ aa.tm s4,gk,?_,λw uw L' H5 e7 hw o1 ft d1 R5 l5 t5 k5=>J _ _ ?_,?_]]
  .symm;cases e with
   |ask=>right;trivial
   |st p0 l=>cases l<;>first |trivial |rwa[hP.cs hd _ e5]
  .clear J;left;let K5:bf r lA H3 H5:=(bf.of_same s4).trans k5;let t6:am H3 H5:=w6.tm K5;let g5:=t6 _ _ h5;let w0:H5 S=δ (.lst R):=K5 _ _ s0 s3 w1;let l3:=qW w3 w2;erw[ai λF1 J=>#[_,Z,.inl #[Z,_,aK.of w0],jr g5 Z$ jr g5 Z #[_,Z,iF,λO n3=>?_]]];let s6:aa H5 (af H5 O$ .tup [.int (n:Int),.ref D,uw]):=je n3;let e6:af H5 O (.tup [.int (n:Int),.ref D,uw]) O=δ (.tup [.int (n:Int),.ref D,uw]):=jc;erw[#[S,_,_,Z,Z,s6 _ _ w0,N9,J _ _ ?_]];left;generalize af H5 O (.tup [.int (n:Int),.ref D,uw])=H6 at s6 e6;let b7:aI S H6 (af H6 S$ .lst$ R++[.ref O]):=λb o nb e=>by rw[jh nb];rwa[e]
   let t3:am H6 (af H6 S$ .lst$ R++[.ref O]):=λb xs e=>b7 _ _ (jM e (s6 _ _ w0) nofun) e;let w':af H6 S (.lst$ R++[.ref O]) S=δ (.lst$ R++[.ref O]):=jc;generalize af H6 S (.lst$ R++[.ref O])=H7 at b7 t3 w';let t2:am H5 H7:=λb xs e=>t3 _ _ (s6 _ _ e);let B:am H3 H7:=t6.trans t2;let G:w.wh.side < ry c.ws:=by
    rw[c1.v.len,<- ed];symm;cases e with
    |ask ta T=>show _ < 2;unfold Wh.side;split<;>(try split)<;>omega
    |st p0 l=>show _ < 1;symm;cases w<;>first |rwa[Nat.one_pos] |rwa[o1.elim] | (cases l<;>rwa[ft.elim])
   symm;obtain⟨I,h0⟩:∃I,c0[w.wh.side]?=δ I:=#[_,iv (by rw[l0];rwa[G])];let#[e2,h']:=a' _ _ I (iv G) h0;let sv:mh H7 nA d ys v O n D uw c hs w.wh e I:=#[P1.mono B,t3 _ _ e6,hc,B _ _ h6,hl,hi,(LV o1 hw).mono t2,ed,d0.mono B,ft,by rw[e2];rwa[iv G],h'.mono B];let b1:eW (R++[vr O]) (-1)=↑O:=Eb;erw[#[_,Z,_,Z,_,Z,S,_,_,_,Z,Z,aK.of w',b1,v,uw,O,D,n,d,ys,c,hs,w.wh,e,I,Z,sv,λu2 H8 b2 s8=>?_]];let t7:=aa.tm s8;let t9:=B.trans t7;let g1:=Xh (H:=H7) b2 (qe sv.wdv.sets$ YO ft gk) sv.wdv.goal;let e8:nU g #[canon c.M,e,c0] hs w.wh=gg (nR g) (cy I.sets$ oR e w.wh$ aQ (canon c.M) hs) I.goal:=by show(match c0[w.wh.side]? with |some wd=>gg (nR g) (cy wd.sets$ oR e w.wh$ aQ (canon c.M) hs) wd.goal |none=>Gd.give 0)=_;rw[h0]
   rw[pr.nms,<- e8]at g1;rw[e7]at W;let W:OC.pre N ((f8 M (aV M x y j) y g m (nU g #[canon c.M,e,c0] hs w.wh) L'$ t+N.size+1+w.size).cons (n:Int) hs w)=X:=W;rw[Ye _ w3]at W;let s7:=KP (n:=(n:Int)) (hs:=hs) (w:=w) w3;let R7:Rn H7 C r dx ex cA lA pA M (t+N.size+1+w.size) L' y:=#[b7 _ _ (Ne.symm s0)$ s6 _ _ R5.ins,b7 _ _ (Ne.symm s3)$ s6 _ _ R5.lf,b7 _ _ s9$ s6 _ _ R5.ce,R5.iL,R5.iC,R5.cl,R5.tl,R5.hm];let ez:t+N.size+1+w.size=t+(Sk.put (n:Int) hs w N).size:=by rw[s7];omega
   rw[ez]at R7 l5 t5 W;erw[fE (kk - (w.size+1)) _ _ N9 #[_,u2,_,m,Sk.put (n:Int) hs w N,R++[.ref O],L',Z,s8 _ _ w',(xJ (t3 _ _ e6) (B _ _ h6) (hw.mono t2) w3$ w2.mono B).mono t7,Xu o1 w3,?_,g1,R7.same s8,l5,t5,?_,by rw[s7];omega,W,N9]]
   .let:=Xv (n:=(n:Int)) (hs:=hs) (w:=w) (j:=j) d1 w3 N9;omega
   .intro b o n1 n2 e;rwa[s8 _ _$ b7 _ _ (jk e Y)$ s6 _ _$ K5 _ _ n1 n2$ w9 _ _ n1 n2 e]
  .rwa[i5.next ((t4.imp (λz=>by rw[z]at W;rwa[W.symm]) (λz=>by rw[z]at W;rwa[W.symm])).mono λH5 kk=>λb o n1 n2 nx e=>kk b o n1 n2 nx (s4 _ _$ w9 _ _ n1 n2 e))]
inductive rZ(f e l:ζ)(o:xD V)(H:Hp)(Q:VK)(E:XK):Prop
 |mk(M:Nat)(n g h:ζ)(i:Nat)(c:aU)(d:Df)(j:xD Df)(m:xD Nat)(p:xD V)(b:xD dJ)(k:xD Int)(_:o=[.ref n,.str d.f,.ref g,.ref h,.int (M:Int)])(_:M<=1000)(_:Ps H l n j m p b)(_:j[i]?=δ d)(_:m[i]?=δ k.length)(_:H g=δ (.tup (k.map tT)))(_:∀z∈k,hV z)(_:H h=δ (.dK c))(_:GT c)(_:∀(u:V) (sk:Sk) (a:Int) (L':aU) (H':Hp),aV M b c 16 d.f k [] 0= .ok sk a L' sk.size->gN H' d.f k sk a u->sk.ok μ->sk.dep<=15->sk.size<=M->aa H H'->Q u H')(_:i5 (aV M b c 16 d.f k [] 0= .long) (aV M b c 16 d.f k [] 0= .deep) E f e (Kp H))
def BN(h:aR H (gK n d) v []):∃p r,v= .ref p/\H p=δ (.tup (.str d.f:: .ref d.pa::r)):=by obtain⟨_,a,x,rfl,b,_,_,c,y,rfl,⟨rfl,_⟩,_,_,e,Y,rfl,⟨rfl,_⟩,_⟩:=h;rwa[#[a,_,Z,b]]
def EV:ah P w K mg base (dH P w) k f c z14z (fb C T b N 0):=by
 let n:∀{V H Q E},¬fb C T b N 0 V H Q E:=by rintro V H Q E ⟨M,r,e,g,j,l,m,q,D,t,i,L,u,v,d,x,y,X,p,I,_,_,z,_⟩;omega
 rwa[#[λV H Q E h=>(n h).elim,λA o s H a U V Q E B F G J h=>(n h).elim]]
theorem Ec(d:RK K C)(F:aS K "chain_of" "BookRun.chain_of" Ca k f)(B:aE K f z14z [])(m:bj K C "chain_of" k)(l:aS K "what_of" "BookRun.what_of" Cb D e)(o:aE K e z11z [])(M:bj K C "what_of" D)(p:‹9› Q E ["part","args"] (iy n) "first_of")(q:‹9› U H z8z (fc n) "deed_at")(r:‹9› Y I ["part","step"] (pH n) "onward")(GT:ah P w K mg base (dH P w) 1 J g ["self"] (gw C T))(s:aE K g ["self"] [])(a:bj K C "take_turn" J)(G:⇑1 L h ["self","cell"] (gF C))(t:aE K h ["self","cell"] [])(b:bj K C "number_in" L)(u:ah P w K mg base (dH P w) 1 v i ["deep"] (dS N))(x:aE K i ["deep"] [])(y:fJ K (.ref v)=μ)(z:mg "deeper"=↑v)(A:‹2› fP O ["parts","f"] lT "part_of")(c:mg "tuple"=θ):∀j,ah P w K mg base (dH P w) (2*j+12) k f z14z (fb C T N n j)
 |0=>EV
 |j+1=>Ff F d p q r (wQ l d GT s a G t b u x y z A (Ec d F B m l o M p q r GT s a G t b u x y z A c j) B m) o M c
def DQ:aj ["parts","f","args","cells","most","part"] z29z (ae Gv):=bQ
def Fz(F:xb K "run" Gv f fd)(ck:RK K C)(mk:Mk K C fI)(GI:⇑2 fI y z6z (iP C))(bI:aE K y z6z [])(mC:mg "BookRun"=↑C)(cB:‹2› fB f0 ["ones","f","args"] lr "begun")(GA:ah P w K mg base (dH P w) 44 fA B z14z (fb C TL TD nA 16))(bA:aE K B z14z [])(G:bj K C "chain_of" fA):ah P w K mg base (dH P w) 45 f fd z29z (rZ TL TD nA):=by
 erw[F.ok1 DQ λc0 A O s H vs Q E I h=>?_]
 let#[M,g,J,j,i,L,d,ds,ns,X,k,is,Z,hM,x,R,hn,ha,T,t,U,q,V]:=h;erw[#[_,(jd (jA 5 DQ.nd$ cB.e I.m$ ja (pv 0)$ ja (pv 1)$ ja (pv 2) jb)$ jg$ jo$ kh (Xo mk GI I.m Z mC bI .nil bY$ ja (pv 0)$ ja (pv 3)$ ja (pv 4) jb) ck.cl G GA I.m bA .nil ke$ ja (pv 5)$ ja (pv 2)$ ja jf jb),?_]];let#[v,hv,tv,h0,W]:=x.at R;let#[p,pr,Z,hp]:=BN tv;let#[ps,Y,h1,_]:=x.pa.2 i d _ R hn;erw[ai λF1 f1=>#[_,Z,_,Z,_,Z,g,J,d.f,X,_,i,.ref p,p,d.pa,pr,_,Z,x.at',hv,Z,hp,Y,ha,by rw[OJ,OJ];omega,W,f1 _ _ ?_]];erw[#[_,Z,_,Z,_,Z,λr D N nd ne=>?_]];let s0:aa H (af (af H D$ .own r) r$ .ins C D []):=λc o e=>by rw[jh$ jk e N,jh$ jk e nd];rwa[e]
 erw[#[r,D,g,j,M,Z,jc,λl nl=>#[Z,?_]]];let n0:l≠r:=λe=>by rw[e,jc]at nl;cases nl
 let n:H l=θ:=by
  cases z:H l with
  |none=>rfl
  |some o=>have:=s0 _ _ z;rw[nl]at this;cases this
 let S:aa H (af (af (af (af H D$ .own r) r$ .ins C D []) l$ .dK []) r$ .ins C D$ dI [] j l g M 0):=λc o e=>by rw[jh$ jk e N,jh$ jk e n];rwa[s0 _ _ e]
 let R1:Rn (af (af (af (af H D$ .own r) r$ .ins C D []) l$ .dK []) r$ .ins C D$ dI [] j l g M 0) C r D [] j l g M 0 [] L:=#[jc,by rw[jh n0];rwa[jc],S _ _ t,GT.nil,U,jk t n,Tl.nil,N9];generalize af (af (af (af H D$ .own r) r$ .ins C D []) l$ .dK []) r (.ins C D$ dI [] j l g M 0)=H1 at S R1;let t0:=aa.tm S;erw[#[r,D,_,Z,R1.ins,Z,_,Z,_,Z,M,r,D,[],j,l,g,J,0,0,i,[],L,.ref p,d,ds,ns,X,k,is,Z,Z,Oa,R1,OM _,OS _,x.mono t0,R,hn,hv,S _ _ ha,T,λu sk a L' H2 eq hc ok dp ia R2 l2 t2 k2=>?_,i5.next$ V.mono λH' kk=>λb o nx e=>kk b o (jk e N) (jk e n) nx (S _ _ e)]];rwa[q u sk a L' H2 (by rw[SQ]at eq;rwa[eq]) hc ok N9 N9 λc o e=>k2 c o (jk e N) (jk e n) (S _ _ e)]
def nZ:Sk->Tr
 | .nil=>.nil
 | .st n h w r=>.cons (ay [ar n,ay (h.map ar),nZ w]) (nZ r)
 | .ask b=>ay [aM "ask",ar b]
 | .rd c i=>ay [aM "read",ar c,ar i]
 | .wr c i=>ay [aM "write",ar c,ar i]
 | .cl f I s a=>ay [aM "call",ay [aM f,ay (I.map ar),.tp (nZ s),ar a]]
def ZD:∀{b:Bool} {s:Sk},s.ok b->(nZ s).isL=b
 |true,.nil,_ |true,.st _ _ _ _,_ |false,.cl _ _ _ _,_ |false,.ask _,_ |false,.rd _ _,_ |false,.wr _ _,_=>rfl
def za{H:Hp}{a:xD Int}(e:H h=δ (.tup$ a.map tT)):aR H (ay$ a.map ar) (.ref h) []:=jE e Ke
theorem JS{b:Bool}{s:Sk}{u:V}{X:xD V}(o:s.ok b)(q:eI H s u X)(z:b=ν->X=[])(y:b=μ->u= .non):aR H (nZ s) u X:=by
 induction s generalizing b u X with
 |nil=>cases b with
  |true=>rwa[q]
  |false=>rwa[o.elim]
 |st n t w r f g=>cases b with
  |true=>let#[p,h,v,Y,e,d,j,k,l]:=q;rw[e,y Z];rwa[#[Z,ZD o.2,_,_,Z,jE d$ jl Z jV$ jl Z (za j)$ jl (ZD o.1) (f o.1 k (λ_=>Z) (λx=>nomatch x)) jB,g o.2 l (λx=>nomatch x) (λ_=>Z)]]
  |false=>rwa[o.elim]
 |ask a=>cases b with
  |true=>rwa[o.elim]
  |false=>let#[p,e,h]:=q;rw[e,z Z];rwa[jE h (jl Z jS (jl Z jV jB))]
 |rd c i |wr c i=>cases b with
  |true=>rwa[o.elim]
  |false=>let#[p,e,h]:=q;rw[e,z Z];rwa[jE h (jl Z jS (jl Z jV (jl Z jV jB)))]
 |cl f I s a n=>cases b with
  |true=>rwa[o.elim]
  |false=>let#[p,c,g,e,S,E,d,j,k,l,m]:=q;rw[E,z Z];rwa[jE d$ jl Z jS$ jl Z (jE j$ jl Z jS$ jl Z (za k)$ jl Z #[ZD o,e,S,Z,l,n (b:=μ) o m (λx=>nomatch x) (λ_=>Z)] (jl Z jV jB)) jB]
theorem zg:∀i:xD Int,(aD$ i.map ar).dep=0
 | []=>rfl
 |_::i=>by show max 0 (aD (i.map ar)).dep=0;rw[zg i];rfl
theorem Xi:∀{b:Bool} {s:Sk},s.ok b->(nZ s).dep<=4*s.dep+(if b=μ then 2 else 1)
 |true,.nil,_=>OS _
 |true,.st n H w r,o=>by let h:=Xi (b:=ν) (s:=w) o.1;let c:=Xi (b:=μ) (s:=r) o.2;let d:=zg H;let h:(nZ w).dep<=4*w.dep+1:=h;let c:(nZ r).dep<=4*r.dep+2:=c;show max (max 0 (max ((aD$ H.map ar).dep+1)$ max (nZ w).dep 0)+1) (nZ r).dep<=4*max w.dep r.dep+2;omega
 |false,.ask _,_ |false,.rd _ _,_ |false,.wr _ _,_=>OM 1
 |false,.cl f i s a,o=>by let h:=Xi (b:=μ) (s:=s) o;let d:=zg i;let h:(nZ s).dep<=4*s.dep+2:=h;show max 0 (max (max 0 (max ((aD$ i.map ar).dep+1)$ max ((nZ s).dep+1)$ max 0 0)+1) 0)+1<=4*(s.dep+1)+1;omega
def Hq(f:ρ)(i:xD Int)(s:Sk)(a:Int):Tr:=aD [aM f,ay$ i.map ar,.tp$ nZ s,ar a]
def ZE(h:gN H f i s a u)(o:s.ok μ):aR H (.tp$ Hq f i s a) u []:=by let#[c,g,e,S,Z,d,j,k,l]:=h;rwa[jE d$ jl Z jS$ jl Z (za j)$ jl Z #[ZD o,e,S,Z,k,JS (b:=μ) o l (λx=>nomatch x) (λ_=>Z)] (jl Z jV jB)]
def vj{s:Sk}(o:s.ok μ)(d:s.dep<=15):(Hq f i s a).dep < 100:=by let h:=Xi (b:=μ) (s:=s) o;let H:=zg i;let h:(nZ s).dep<=4*s.dep+2:=h;show max 0 (max ((aD$ i.map ar).dep+1)$ max ((nZ s).dep+1)$ max 0 0) < 100;omega
def FV{p:xD ρ}{v:V}(h:nL H N d y v)(g:H d.pa=δ (.tup$ p.map tz)):∃q,As H N d y q:=by
 let#[W,E,i]:=h.way;let#[a,J,L,O,Z,Q,m,r,j]:=h.parts;let#[C,s,t]:=Ay (R:=λc u=>HJ H y N d c u) (ci N d) λc k=>by let#[n,x,z]:=ir.mp k;let#[S,T,U,X,A,_,o]:=h.cut j (n:=n) (c:=c) (by rw[<- z];rwa[OG x]);let#[e,B,D,F]:=Im o.v.deed;let#[G,I,l]:=Ay (R:=λ(w:Wy) (W:WD)=>W.wy N=w/\Ag H y d.b.cuts d.b.size W) c.ws λw m=>o.v.ways w m;rwa[#[#[canon c.M,e,G],Z,B,D,F,I,l]]
 rwa[#[#[d.f,p,W,C],Z,g,E,i,s,t]]
def I9{H:Hp}{D:xD Df}(a:H l=δ (.tup x))(T:aR H (aD$ D.map$ gK n) .non x)(g:∃z,du H D z)(o:uU D N)(j:nK H D N):∃p,Ps H n l D N x p:=by
 let L:=zo T;rw[OJ]at L;let#[p,m,q]:=Ay (R:=λd c=>∃y,(d.b.Ok y/\y.length<=20)/\As H n d y c) D λd e=>by
  let#[i,r,E]:=ir.mp e;let h:D[i]?=δ d:=by rw[<- E];rwa[OG r]
  let s:x[i]?=δ (x[i]'N9):=OG _;let#[t,k,u]:=qT T i _ s;rw[O2,h]at k;cases k;let#[z,A]:=g;obtain⟨⟨y,Y,o⟩,_,S⟩:=(o.1 d e).1;let#[C,f,_]:=j.v d e;let#[c,B]:=FV (v:=x[i]'N9) #[u,vG A h,o,Y,S] f;rwa[#[c,y,#[o,Y],B]]
 rwa[#[p,a,T,g,o,j,m,q]]
def Yg{call:lB}(h:f8 M call C p m (.give b) L t= .ok r a l T):r= .nil/\a=b/\l=L:=by
 cases m with
 |zero=>cases h
 |succ m=>cases h;rwa[#[Z,Z,Z]]
def wb{call:lB}(h:f8 M call C p m (.go n H) L t= .ok d a g i):∃c w l T r j,p.cs[n]?=δ c/\gD M call C (aQ c.nm H) L t c.e= .ok w l T/\d= .st (n:Int) H w r/\f8 M call C p j (nU p c H w.wh) l T= .ok r a g i:=by
 cases m with
 |zero=>cases h
 |succ m=>
  unfold f8 at h;cases e:p.cs[n]? with
  |none=>rw[e]at h;cases h
  |some c=>
   rw[e]at h;dsimp only at h;cases E:gD M call C (aQ c.nm H) L t c.e with
   |long |deep=>rw[E]at h;cases h
   |ok w l T=>
    rw[E]at h;dsimp only at h;cases f:f8 M call C p m (nU p c H w.wh) l T with
    |long |deep=>rw[f]at h;cases h
    |ok r b _L k=>rw[f]at h;cases h;rwa[#[c,w,l,T,r,m,Z,E,Z,f]]
def Dg{call:lB}{w:Sk}(h:gD M call C k L t e= .ok w l T):t < M:=by
 by_cases z:t < M
 .rwa[z]
 .rw[Kf z]at h;cases h
def EK:V->Bool
 | .int _ | .str _=>μ
 |_=>ν
def _root_._L.Tr.In:Tr->Prop
 | .lf v=>EK v=μ
 | .tp l=>l.In
 | .nil=>True
 | .cons h t=>h.In/\t.In
def _root_._L.Tr.items:Tr->xD Tr
 | .cons h t=>h::t.items
 |_=>[]
theorem Xj{H:Hp}:∀{t u:Tr} {x:V} {xs:xD V},aR H t x xs->aR H u x xs->t.isL=u.isL->t.In->u.In->t=u
 | .lf v,.lf w,_,_,h,k,_,_,_=>by rw[<- h.1,<- k.1]
 | .lf v,.tp m,_,_,h,k,_,i,_ | .tp l,.lf v,_,_,k,h,_,_,i=>by let#[_,a,_,e,_]:=k;let E:=h.1;rw[e]at E;rw[<- E]at i;cases i
 | .tp l,.tp m,_,_,h,k,_,i,j=>by let#[o,a,xs,e,p,q]:=h;let#[r,b,Y,c,d,f]:=k;rw[e]at c;cases c;rw[p]at d;cases d;rw[Xj q f (o.trans r.symm) i j]
 | .nil,.nil,_,_,_,_,_,_,_=>rfl
 | .nil,.cons _ _,_,_,h,k,_,_,_ | .cons _ _,.nil,_,_,k,h,_,_,_=>by let#[_,_,_,_,e,_]:=k;let h:_=[]:=h;rw[e]at h;cases h
 | .cons h t,.cons G T,_,_,k,s,_,i,j=>by let#[A,B,y,Y,e,d,f]:=k;let#[C,D,I,F,c,g,n]:=s;rw[e]at c;cases c;rw[Xj d g (A.trans C.symm) i.1 j.1,Xj f n (B.trans D.symm) i.2 j.2]
 | .lf _,.nil,_,_,_,_,z,_,_ | .lf _,.cons _ _,_,_,_,_,z,_,_ | .tp _,.nil,_,_,_,_,z,_,_ | .tp _,.cons _ _,_,_,_,_,z,_,_ | .nil,.lf _,_,_,_,_,z,_,_ | .nil,.tp _,_,_,_,_,z,_,_ | .cons _ _,.lf _,_,_,_,_,z,_,_ | .cons _ _,.tp _,_,_,_,_,z,_,_=>nomatch z
theorem qC:∀{l:Tr} {X:xD V},l.isL=μ->l.In->aR H l .non X->ry X=ry l.items/\∀(j:Nat) (x:V),X[j]?=δ x->∃t,l.items[j]?=δ t/\t.isL=ν/\t.In/\t.dep<=l.dep/\aR H t x []
 | .nil,X,_,_,h=>by let h:X=[]:=h;rw[h];rwa[#[Z,λj x z=>by simp at z]]
 | .cons a t,X,_,i,h=>by
  let#[A,c,y,Y,e,k,d]:=h;subst e;let#[L,f]:=qC c i.2 d;erw[#[P' (·+1) L,λj x b=>?_]];cases j with
  |zero=>cases b;rwa[#[a,Z,A,i.1,Te _ _,k]]
  |succ j=>let#[u,g,m,n,o,p]:=f j x (by simpa using b);rwa[#[u,by simpa [_L.Tr.items] using g,m,n,O1 o$ SW _ _,p]]
 | .lf _,_,z,_,_ | .tp _,_,z,_,_=>nomatch z
theorem Yh:∀{l m:Tr} {x y:xD V},l.isL=μ->m.isL=μ->aR H l .non x->aR H m .non y->(l=m↔l.items=m.items)
 | .nil,.nil,_,_,_,_,_,_=>#[λ_=>Z,λ_=>Z]
 | .nil,.cons _ _,_,_,_,_,_,_ | .cons _ _,.nil,_,_,_,_,_,_=>#[λz=>(nomatch z),λz=>(nomatch z)]
 | .cons a t,.cons b u,_,_,_,_,h,k=>by let#[_,A,_,_,_,_,d]:=h;let#[_,B,_,_,_,_,c]:=k;let i:=Yh A B d c;erw[#[λz=>by cases z;rfl,λz=>?_]];let z:a::t.items=b::u.items:=z;injection z with e f;rw[e,i.mpr f]
 | .lf _,_,_,_,z,_,_,_ | .tp _,_,_,_,z,_,_,_ | .nil,.lf _,_,_,_,z,_,_ | .nil,.tp _,_,_,_,z,_,_ | .cons _ _,.lf _,_,_,_,z,_,_ | .cons _ _,.tp _,_,_,_,z,_,_=>nomatch z
open Classical in
def hX(t u:Tr):Bool:=decide (t=u)
open Classical in
def zp(h:t=u):hX t u=μ:=by unfold hX;rwa[OY h]
open Classical in
def zh(h:t≠u):hX t u=ν:=by unfold hX;rwa[OR h]
def me(l m:Tr)(j:Nat):Bool:=match l.items[j]?,m.items[j]? with
 |some t,δ u=>hX t u
 |_,_=>μ
def Yi{l m:Tr}(a:l.isL=μ)(b:m.isL=μ)(h:aR H l .non x)(k:aR H m .non y)(d:n=ry l.items)(E:N=ry m.items):((dn$ min n N).all (me l m)&&n==N)=hX l m:=by
 by_cases e:l=m
 .subst e;rw[zp Z,d,E,Um,Bool.and_true,Tz];intro j _;unfold me;cases l.items[j]? with
  |none=>rfl
  |some t=>rwa[zp Z]
 .rw[zh e];let f:l.items≠m.items:=λz=>e ((Yh a b h k).mpr z);by_cases g:n=N
  .let z:(dn$ min n N).all (me l m)=ν:=by rw[VZ];intro z;rw[Tz]at z;erw[f$ UA N9 λj i o=>?_];let:=z j (sn.mpr N9);unfold me at this;rw[OG i,OG o]at this;rwa[Classical.byContradiction λc=>by let C:=zh c;dsimp only at this;rw[C]at this;cases this]
   rw[z];rfl
  .rw[show(n==N)=ν from beq_eq_false_iff_ne.mpr g,Uh]
section
open PySem.SeqAt
variable {X:Cx}
def II{w:V}(H:EK v=μ)(h:EK w=μ)(R:aJ v a)(r:aJ w b):EqAt A s a b (hX (.lf v)$ .lf w):=by
 cases v with
 |int i=>
  let#[T,Z]:=R;cases w with
  |int j=>
   let#[t,Z]:=r;let z:=WN (A:=A) (s:=s) i T j t;by_cases e:i=j
   .subst e;rw[Um]at z;rw[zp Z];rwa[z]
   .rw[beq_eq_false_iff_ne.mpr e]at z;rw[zh (λc=>e (by injection c with c;injection c))];rwa[z]
  |str y=>let#[t,Z]:=r;rw[zh (λc=>by injection c with c;cases c)];rwa[EqAt.int_str _ _ _ _]
  |_=>cases h
 |str i=>
  let#[T,Z]:=R;cases w with
  |str j=>
   let#[t,Z]:=r;let z:=WL (A:=A) (s:=s) i T j t;by_cases e:i=j
   .subst e;rw[Um]at z;rw[zp Z];rwa[z]
   .rw[beq_eq_false_iff_ne.mpr e]at z;rw[zh (λc=>e (by injection c with c;injection c))];rwa[z]
  |int y=>let#[t,Z]:=r;rw[zh (λc=>by injection c with c;cases c)];rwa[EqAt.str_int _ _ _ _]
  |_=>cases h
 |_=>cases H
def Lg(I:au X p σ H s)(n:Nat)(G:∀(t:Tr) {A:bU},t.dep<=n->A.units+n < cLine->t.In->t.isL=ν->∀{u:Tr} {x y:V},u.In->u.isL=ν->aR H t x []->aR H u y []->∀a b,aJ x a->aJ y b->EqAt A s a b (hX t u)){l m:Tr}(hn:l.dep<=n)(hu:A.units+n+1 < cLine)(J:l.In)(L:m.In)(d:l.isL=μ)(f:m.isL=μ)(M:H g=δ (.tup i))(N:H B=δ (.tup o))(T:aR H l .non i)(q:aR H m .non o):RcAt A s (.ref g) (.ref B) (hX (.tp l)$ .tp m):=by
 let#[v,r,O,_]:=I.tuple (aC.of (K:=X.K) M);let#[C,R,Q,_]:=I.tuple (aC.of (K:=X.K) N);let#[S,U]:=qC d J T;let#[W,Y]:=qC f L q;let z:=WR (A:=A) (e:=me l m) (show s.heap.IsTuple g v.toArray from O) (show s.heap.IsTuple B C.toArray from Q) N9 (λj h1 h2=>?_)
 .rw[Yi d f T q (by rw[ON,<- r.length,S]) (by rw[ON,<- R.length,W])]at z;let E:hX (.tp l) (.tp m)=hX l m:=by
   by_cases c:l=m
   .rw[zp c,zp (by rw[c])]
   .rw[zh c,zh (λk=>c (by injection k))]
  rw[E];rwa[z]
 .let la:=r.length;let lb:=R.length;let D:j < ry i:=by simp at h1;omega
  let h:j < ry o:=by simp at h2;omega
  let#[u1,q1,r1]:=r.get (OG D);let#[u2,q2,r2]:=R.get (OG h);let e1:v.toArray[j]=u1:=by let#[_,e]:=ξ.mp q1;simpa using e
  let E:C.toArray[j]=u2:=by let#[_,e]:=ξ.mp q2;simpa using e
  rw[e1,E];let#[F,g1,g2,g3,g4,g5]:=U j _ (OG D);let#[u',k1,k2,k3,k4,k5]:=Y j _ (OG h);let et:me l m j=hX F u':=by unfold me;rw[g1,k1]
  rw[et];rwa[G F (A:=A.in1) N9 (by show A.units+1+n < cLine;omega) g3 g2 k3 k2 g5 k5 _ _ r1 r2]
def KD(I:au X z Y H s):∀(n:Nat) (t:Tr) {A:bU},t.dep<=n->A.units+n < cLine->t.In->t.isL=ν->∀{u:Tr} {x y:V},u.In->u.isL=ν->aR H t x []->aR H u y []->∀a b,aJ x a->aJ y b->EqAt A s a b (hX t u):=by
 intro n;induction n with
 |zero=>
  intro t A k J i L u x y d g j h a b R r;cases t with
  |tp l=>rwa[absurd k (by show ¬l.dep+1<=0;omega)]
  |nil |cons _ _=>cases L
  |lf v=>
   let#[Z,_]:=j;cases u with
   |nil |cons _ _=>cases g
   |lf w=>let#[Z,_]:=h;rwa[II i d R r]
   |tp m=>
    let#[_,B,M,Z,o,_]:=h;cases r;let#[W,N,C,_]:=I.tuple (aC.of (K:=X.K) o);rw[zh (λc=>by cases c)];cases x<;>first |cases i |skip
    .let#[T,Z]:=R;rwa[EqAt.int_tuple _ _ C N09]
    .let#[T,Z]:=R;rwa[EqAt.str_tuple _ _ C N9]
 |succ n D=>
  intro t A k J i L u x y d g j h a b R r;cases t with
  |nil |cons _ _=>cases L
  |lf v=>rwa[D (.lf v) (OS _) N9 i L d g j h a b R r]
  |tp l=>
   let#[E,p,O,Z,q,F]:=j;cases R;let#[ia,Q,G,_]:=I.tuple (aC.of (K:=X.K) q);cases u with
   |nil |cons _ _=>cases g
   |lf w=>
    let#[Z,_]:=h;rw[zh (λc=>by cases c)];cases y<;>first |cases d |skip
    .let#[T,Z]:=r;rwa[Wt _ _ G N9]
    .let#[T,Z]:=r;rwa[EqAt.tuple_str _ _ G N9]
   |tp m=>
    let f:=id h;let#[S,B,M,Z,o,U]:=h;cases r;by_cases e:p=B
    .subst e;rw[zp$ Xj (H:=H) (t:=.tp l) (u:=.tp m) (x:=.ref p) (xs:=[]) #[E,p,O,Z,q,F] f Z i d];rwa[EqAt.same _]
    .rwa[WM e$ Lg I n D (by let:l.dep+1<=n+1:=k;omega) N09 i d E S q o F U]
inductive La(d:Nat)(x y:V)(H:Hp)(Q:VK):Prop
 |mk(l m:Tr)(_:l.dep < d)(_:l.In)(_:m.In)(_:aR H (.tp l) x [])(_:aR H (.tp m) y [])(_:Q (.bl (hX (.tp l) (.tp m))) H)
def KE{d:Nat}(c:X.A.units+d+1 < cLine):fQ X (compareOp .Eq) (La d):=by intro p s n H x y v u Q I r R h;obtain⟨l,m,o,i,e,⟨f,a,z,rfl,g,t⟩,⟨j,b,B,rfl,k,T⟩,q⟩:=h;cases r;cases R;rwa[Lg I d (KD I d) N9 c i e f j g k t T X.prog X.w _ _ #[.bl _,H,I,Z,q]]
end
abbrev Gm:cc:=bV 27
abbrev Gn:cc:=bV 32
def dC{w:V}:eW (v::u::w::y) 2=δ w:=jG (j:=2) Z
def Ia{w:V}:eW (v::u::w::z::y) 3=δ z:=jG (j:=3) Z
def AQ{X:xD V}{i:Nat}{x:V}(h:X[i]?=δ x):X.drop i=x::X.drop (i+1):=by let#[H,e]:=ξ.mp h;rw[<- e,RF]
def kQ(h:gN H f i s a u)(k:am H b):gN b f i s a u:=by let#[c,g,e,S,E,d,j,l,m]:=h;rwa[#[c,g,e,S,E,k _ _ d,k _ _ j,k _ _ l,m.mono k]]
def dj:Sk->Tr
 | .rd c _=>ay [aM "read",ar c]
 | .cl f I _ _=>ay [aM "call",aM f,ay (I.map ar)]
 | .wr c i=>ay [aM "write",ar c,ar i]
 | .ask b=>ay [aM "ask",ar b]
 |_=>.nil
def KF{call:lB}{w:Sk}(h:gD M call C k L t e= .ok w i j):dj w=sR k e:=by
 let b:=Dg h;cases e with
 |ask d T=>rw[Xf b]at h;cases h;rfl
 |st p l=>
  cases l with
  |gv d T |st x d T=>unfold gD at h;rw[OT b]at h;cases h
  |rd x d T=>rw[ZB b]at h;cases h;rfl
  |wr d u T U=>rw[ZC b]at h;cases h;rfl
  |cl x f q g=>
   rw[qu b]at h;cases e:call f (g.map λc=>c.2.ev k) L (t+1) with
   |long |deep=>rw[e]at h;cases h
   |ok s a _L m=>rw[e]at h;cases h;show ay [_,_,ay ((g.map λc=>c.2.ev k).map ar)]=_;rw[RU];rfl
inductive mw(b:xD V)(H:Hp)(Q:VK)(a:XK):Prop
 |mk(u:V)(w:Sk)(_:b=[u])(_:eI H w u [])(_:w.ok ν)(_:∀(v:V) (H':Hp),aR H' (dj w) v []->aa H H'->Q v H')
inductive og(j:xD V)(H:Hp)(Q:VK)(b:XK):Prop
 |mk(f:ρ)(d:xD Int)(s:Sk)(a:Int)(c g e:ζ)(i:xD V)(k:Nat)(_:j=[.ref c,.int (k:Int)])(_:H c=δ (.tup [.str f,.ref g,.ref e,.int a]))(_:H e=δ (.tup i))(_:(∃(p h:ζ) (n:Int) (hs:xD Int) (u:V),i[k]?=↑p/\H p=δ (.tup [.int n,.ref h,u])/\H h=δ (.tup (hs.map tT))/\∀(v:V) (H':Hp),aR H' (ay [aM "go",ar n,ay (hs.map ar)]) v []->aa H H'->Q v H')\/(k=ry i/\∀(v:V) (H':Hp),aR H' (ay [aM "give",ar a]) v []->aa H H'->Q v H'))
def Lk:aj ["what"] ["what"] (ae Gm):=bQ
def Fj(F:xb K "deed_in" Gm f B):⇑1 f B ["what"] mw:=by
 erw[F.ok Lk λC A o s H V Q E l h=>?_]
 let#[u,w,Z,m,t,q]:=h;erw[#[_,(jd (jy (j8$ jw$ pv 0) (jg$ jo$ jI j9 (pv 0) jT$ jH jf) jp)$ jd (jy (j8$ jw$ pv 0) (jg$ jo$ jv jU (ji$ ja jm jb)$ jI j9 (jw$ pv 0) jT$ jH jf) jp)$ jg$ jo$ pv 0),?_]];cases w with
 |nil |st=>rwa[t.elim]
 |ask b=>let#[p,Z,d]:=m;erw[ai λk i=>(jr d Z #[Z,_,Z,aY N7$ i _ _ ?_])];erw[ai λk i=>(jr d Z #[Z,_,Z,aY N7$ i _ _ ?_])];rwa[#[_,Z,q _ _ (jE d$ jl Z jS$ jl Z jV jB)$ aa.refl _]]
 |wr b D=>let#[p,Z,d]:=m;erw[ai λk i=>(jr d Z #[Z,_,Z,aY N7$ i _ _ ?_])];erw[ai λk i=>(jr d Z #[Z,_,Z,aY N7$ i _ _ ?_])];rwa[#[_,Z,q _ _ (jE d$ jl Z jS$ jl Z jV$ jl Z jV jB)$ aa.refl _]]
 |rd b D=>let#[p,Z,d]:=m;erw[ai λk i=>(jr d Z #[Z,_,Z,c8 N7 #[_,Z,_,Z,p,_,Z,d,λr y l S=>q _ _ ?_ S]])];let l:y r=δ (.tup [.str "read",.int b]):=l;rwa[jE l$ jl Z jS$ jl Z jV jB]
 |cl f R s a=>let#[p,c,g,e,T,Z,d,G,I,U,W]:=m;erw[ai λk i=>(jr d Z #[Z,_,Z,aY N7$ i _ _ ?_])];erw[ai λk i=>(jr d Z #[Z,_,Z,c8 N7 #[iZ,λJ n=>(jr (aq d n) gQ #[_,Z,c,_,Z,aq G n,λL y v S=>#[J,L,_,_,Z,Z,S _ _ jc,v,iF,λM N j z=>q _ _ ?_ (((je n).trans S).trans z)]])]])];let j:N M=δ (.tup [.str "call",.str f,.ref g]):=j;rwa[jE j$ jl Z jS$ jl Z jS$ jl Z (za$ z _ _$ S _ _$ aq I n) jB]
def Ll:aj ["chain","number"] ["chain","number"] (ae Gn):=bQ
def Fk(F:xb K "goal_at" Gn f x)(M:mg "len"=θ):⇑1 f x ["chain","number"] og:=by
 erw[F.ok Ll λC A o s H V Q E U h=>?_]
 let#[f,I,s,a,c,g,e,y,k,Z,d,l,q]:=h;erw[#[_,(jd (jy (jz qr (pv 1) (jO jK Z M Pz$ ja (jw$ pv 0) jb)$ aF _) (jg$ jo$ ji$ ja jm$ ja (jw$ pv 0) jb) jp)$ jg$ jo$ jv jU (ji$ ja jm jb)$ jI j9 (jq jC (jw$ pv 0) (pv 1)) jT$ jH jf),?_]];let B:=aL;erw[ai λX m=>#[_,Z,jr d dC #[e,_,Z,.inr$ aC.of l,Z,_,Z,?_]]];rcases q with ⟨p,h,n,Y,u,r,D,G,q⟩ | ⟨J,q⟩
 .let L:=(ξ.mp r).1;erw[aY (OR λz=>?_)$ m _ _ ?_]
  .injection z with z;omega
  erw[#[iZ,λt N=>(jr (aq d N) dC #[_,Z,e,_,_,_,Z,Z,aC.of$ aq l N,jG r,_,Z,p,_,Z,aq D N,λO H1 i S=>#[t,O,_,_,Z,Z,S _ _ jc,i,iF,λR T b v=>q _ _ ?_ (((je N).trans S).trans v)]])]];let b:T R=δ (.tup [.str "go",.int n,.ref h]):=b;rwa[jE b$ jl Z jS$ jl Z jV$ jl Z (za$ v _ _$ S _ _$ aq G N) jB]
 .subst J;erw[c8 (OY Z)$ jr d Ia #[cj,λt N=>q _ _ (jE jc$ jl Z jS$ jl Z jV jB) (je N)]]
abbrev Cr:cc:=bV 7
abbrev Cu:cc:=bV 8
abbrev Cj:cc:=bV 9
abbrev aN:=xD Int
abbrev aO:=Int×xD Int×Sk
abbrev RA(a:Type):=Hp->V->a->Prop
def bh{a:Type}(R:RA a)(H:Hp):xD a->xD V->Prop
 | [],v=>v=[]
 |w::W,v=>∃x r,v=x::r/\R H x w/\bh R H W r
def L9{a:Type}(R:RA a):Prop:=∀(H h:Hp) (x:V) (w:a),am H h->R H x w->R h x w
section
variable {α:Type}{R:RA α}
theorem bh.mono(a:L9 R)(k:am H b):∀{W:xD α} {v:xD V},bh R H W v->bh R b W v
 | [],_,h=>h
 |_::_,_,z=>by let#[x,r,e,c,d]:=z;rwa[#[x,r,e,a _ _ _ _ k c,bh.mono a k d]]
theorem bh.app(a:bh R H b y):∀{W:xD α} {v:xD V},bh R H W v->bh R H (W++b) (v++y)
 | [],_,h=>by let e:_=[]:=h;rw[e];rwa[a]
 |_::_,_,z=>by let#[x,r,e,c,d]:=z;rwa[#[x,r++y,by rw[e];rfl,c,bh.app a d]]
theorem bh.len:∀{W:xD α} {v:xD V},bh R H W v->ry v=ry W
 | [],_,h=>by let e:_=[]:=h;rw[e];rfl
 |_::_,_,z=>by let#[x,r,e,b,a]:=z;rw[e];rwa[P' (·+1) (bh.len a)]
theorem bh.at:∀{W:xD α} {v:xD V},bh R H W v->∀{i:Nat} {x:V},v[i]?=δ x->∃w,W[i]?=δ w/\R H x w
 | [],_,h,i,x,a=>by let e:_=[]:=h;rw[e]at a;simp at a
 |w::_,_,q,0,x,a=>by let#[y,r,e,b,c]:=q;rw[e]at a;cases a;rwa[#[w,Z,b]]
 |w::W,_,q,i+1,x,a=>by let#[y,r,e,b,c]:=q;rw[e]at a;rwa[bh.at c (i:=i) (by simpa using a)]
def bh.one{w:α}(h:R H x w):bh R H [w] [x]:=#[x,[],Z,h,Z]
theorem bh.map{a:Type}{S:RA a}{g:α->a}{f:V->V}(h:∀x w,R H x w->S H (f x) (g w)):∀{W:xD α} {v:xD V},bh R H W v->bh S H (W.map g) (v.map f)
 | [],_,e=>by let e:_=[]:=e;rw[e];rfl
 |_::_,_,z=>by let#[x,r,e,b,c]:=z;rwa[#[f x,r.map f,by rw[e];rfl,h _ _ b,bh.map h c]]
end
def em:RA aN:=λH x p=>∃a,x= .ref a/\H a=δ (.tup$ p.map tT)
def bG:L9 em:=λ_ _ _ _ k #[a,e,h]=>#[a,e,k _ _ h]
def HX:RA (aN×Sk):=λH x w=>∃q p u,x= .ref q/\H q=δ (.tup [.ref p,u])/\H p=δ (.tup$ w.1.map tT)/\eI H w.2 u []
def pX:L9 HX:=λ_ _ _ _ k #[q,p,u,e,h,H,a]=>#[q,p,u,e,k _ _ h,k _ _ H,a.mono k]
def Sk.steps:Sk->xD aO
 | .st n h w r=>(n,h,w)::r.steps
 |_=>[]
def Sk.ws:Sk->aN->Nat->xD (aN×Sk)
 | .st _ _ w r,p,k=>((p++[(k:Int)],w)::w.ws (p++[(k:Int)]) 0)++r.ws p (k+1)
 | .cl _ _ s _,p,_=>s.ws p 0
 |_,_,_=>[]
def mf:xD aO->aN->Nat->xD (aN×Sk)
 | [],_,_=>[]
 |s::r,p,k=>((p++[(k:Int)],s.2.2)::s.2.2.ws (p++[(k:Int)]) 0)++mf r p (k+1)
theorem JG:∀{s:Sk},s.ok μ->∀p k,s.ws p k=mf s.steps p k
 | .nil,_,_,_=>rfl
 | .st _ _ w r,o,p,k=>by show _++r.ws p (k+1)=_++mf r.steps p (k+1);rw[JG o.2]
theorem Ji:∀(a b:xD aO) (p:aN) (k:Nat),mf (a++b) p k=mf a p k++mf b p (k+ry a)
 | [],_,_,_=>rfl
 |s::a,b,p,k=>by show _++mf (a++b) p (k+1)=(_++mf a p (k+1))++mf b p (k+(ry a+1));rw[Ji a b,Pt,show k+1+ry a=k+(ry a+1) by omega]
theorem zb:∀{b:Bool} {s:Sk},s.ok b->∀(p:aN) (k:Nat),(s.ws p k).length=s.size
 |true,.nil,_,_,_=>rfl
 |true,.st _ _ w r,o,p,k=>by let h:=zb (b:=ν) (s:=w) o.1 (p++[(k:Int)]) 0;let H:=zb (b:=μ) (s:=r) o.2 p (k+1);show(((p++[(k:Int)],w)::w.ws (p++[(k:Int)]) 0)++r.ws p (k+1)).length=w.size+r.size+1;rw[OL,Ph,h,H];omega
 |false,.cl _ _ s _,o,p,_=>zb (b:=μ) (s:=s) o p 0
 |false,.ask _,_,_,_ |false,.rd _ _,_,_,_ |false,.wr _ _,_,_,_=>rfl
def Ab(a:xD aO)(i:Nat)(p:aN)(k:Nat):(mf (a.take i) p k).length<=(mf a p k).length:=by let:=P' ry (Ji (a.take i) (a.drop i) p k);rw[T8,OL]at this;omega
inductive zJr(H:Hp)(s:Sk)(i:Nat)(x:V):Prop|mk(n b w p h u:_)(_:s.steps[i]?=δ (n,b,w))(_:w.ok ν)(_:w.dep<=s.dep)(_:w.size+1<=s.size)(_:x= .ref p)(_:H p=δ (.tup [.int n,.ref h,u]))(_:H h=δ (.tup$ b.map tT))(_:eI H w u [])
theorem zJ:∀{s:Sk} {S:xD V},s.ok μ->eI H s .non S->∀{i:Nat} {x:V},S[i]?=δ x->zJr H s i x
 | .nil,_,_,e,i,x,a=>by let e:_=[]:=e;rw[e]at a;simp at a
 | .st n b w r,_,o,q,0,x,a=>by let#[p,h,u,y,e,d,f,g,j]:=q;rw[e]at a;cases a;rwa[#[n,b,w,p,h,u,Z,o.1,Te _ _,by show w.size+1<=w.size+r.size+1;omega,Z,d,f,g]]
 | .st n b w r,_,o,q,i+1,x,a=>by let#[p,h,u,y,e,d,f,g,j]:=q;rw[e]at a;let#[N,c,W,k,l,U,t,T,m,z,v,A,B,C]:=zJ o.2 j (i:=i) (x:=x) (by simpa using a);rwa[#[N,c,W,k,l,U,t,T,O1 m$ SW _ _,by show W.size+1<=w.size+r.size+1;omega,v,A,B,C]]
theorem kU:∀{s:Sk} {S:xD V},s.ok μ->eI H s .non S->ry S=ry s.steps
 | .nil,_,_,e=>by let e:_=[]:=e;rw[e];rfl
 | .st n b w r,_,o,z=>by let#[p,h,u,y,e,c,d,f,a]:=z;rw[e];rwa[P' (·+1) (kU o.2 a)]
def sK(p:aN)(k:Nat):p.map tT++[tT (k:Int)]=(p++[(k:Int)]).map tT:=by rw[O4];rfl
inductive oy(n:Nat)(d:xD V)(H:Hp)(Q:VK)(a:XK):Prop
 |mk(b:ζ)(c:aN)(w:Sk)(u:V)(_:d=[.ref b,u])(_:H b=δ (.tup (c.map tT)))(_:ry c+n<=100)(_:eI H w u [])(_:w.ok ν)(_:w.dep < n)(_:w.size<=1000)(_:∀(r:ζ) (xs:xD V) (H':Hp),H r=θ->H' r=δ (.lst xs)->bh HX H' ((c,w)::w.ws c 0) xs->aa H H'->Q (.ref r) H')
inductive lY(n:Nat)(g:xD V)(H:Hp)(Q:VK)(b:XK):Prop
 |mk(d:ζ)(e:aN)(f:ρ)(c:xD Int)(s:Sk)(a:Int)(u:V)(_:g=[.ref d,u])(_:H d=δ (.tup (e.map tT)))(_:ry e+n+1<=100)(_:gN H f c s a u)(_:s.ok μ)(_:s.dep < n)(_:s.size<=1000)(_:∀(r:ζ) (xs:xD V) (H':Hp),H r=θ->H' r=δ (.lst xs)->bh HX H' (s.ws e 0) xs->aa H H'->Q (.ref r) H')
inductive Nu(h k:ζ)(j:aN)(u:V)(s:Sk)(H:Hp)(i:Nat)(m:_L.St)(a:Hp):Prop
 |mk(f g:xL V)(l:xD V)(b:m=[↑h,δ u,↑k,f,g])(c:a k=δ (.lst l))(d:bh HX a (mf (s.steps.take i) j 0) l)(e:aa H a)
def c7(p:aN)(w:Sk):xD aN:=p::(w.ws p 0).map (·.1)
def KS{w:Sk}(o:w.ok ν)(p:aN):(c7 p w).length=w.size+1:=by unfold c7;rw[Ph,OJ,zb o]
inductive ou(n:Nat)(d:xD V)(H:Hp)(Q:VK)(a:XK):Prop
 |mk(b:ζ)(c:aN)(w:Sk)(u:V)(_:d=[.ref b,u])(_:H b=δ (.tup (c.map tT)))(_:ry c+n<=100)(_:eI H w u [])(_:w.ok ν)(_:w.dep < n)(_:w.size<=1000)(_:∀(r:ζ) (xs:xD V) (H':Hp),H r=θ->H' r=δ (.lst xs)->bh em H' (c7 c w) xs->aa H H'->Q (.ref r) H')
def sX(H:Hp):V->V
 | .ref q=>match H q with
  |some (.tup (x::_))=>x
  |_=>.non
 |_=>.non
def Jo(l:xD V):(dn l.length).map (λi=>(l[i]?).getD .non)=l:=by erw[UA N8 λi H h=>?_];simp [OG h]
def Dq{H:Hp}(h:H q=δ (.tup [.ref p,u])):sX H (.ref q)= .ref p:=by show(match H q with |some (.tup (x::_))=>x |_=>V.non)=_;rw[h]
def DS:aj ["path","what","within"] z9z (ae Cr):=bQ
def xh{n:Nat}(F:xb K "whats_at" Cr f fd)(cI:‹2*n+2› fI f0 ["path","chain"] (lY n) "whats_in"):⇑(2*n+3) f fd z9z (oy$ n+1):=by
 erw[F.ok DS λc0 A O s H vs Q E hr h=>?_]
 let#[j,v,w,u,Z,U,h0,D,k,W,hz,q]:=h;erw[#[_,(jd (jA 2 DS.nd$ kN (j8$ jw$ pv 1) (cI.e hr.m$ ja (pv 0)$ ja (jw$ pv 1) jb)$ jF jb)$ jg$ jo$ jv zG (jF$ ja (ji$ ja (pv 0)$ ja (pv 1) jb) jb)$ pv 2),?_]];let b0:=aL;let fl:=zb k v 0;erw[ai λF1 G=>?_];suffices X:∀(l:ζ) (x:xD V) (d:Hp),d l=δ (.lst x)->bh HX d (w.ws v 0) x->aa H d->F1 [↑j,δ u,↑l] d by
  cases w with
  |nil |st=>rwa[k.elim]
  |ask b |rd c i |wr c i=>let#[p,Z,y]:=D;rwa[(jr y Z #[Z,_,Z,aY N7 #[g9,λl Y=>X l [] _ jc Z (je Y)]])]
  |cl f is s a=>let#[p,c,g,e,ss,Z,y,h2,h3,h4,h5]:=D;let W:s.dep+1 < n+1:=W;rwa[(jr y Z #[Z,_,Z,c8 N7 #[_,Z,jr y Z #[j,v,f,is,s,a,.ref c,Z,U,N09,#[c,g,e,ss,Z,h2,h3,h4,h5],k,N9,hz,λl x d Y I B S=>X l x d I B S]]])]
 intro l x d I B S;erw[G _ _ ?_];let lx:=B.len;erw[#[_,Z,_,Z,cj,λt J=>#[iZ,λL N=>#[_,Z,L,l,_,_,Z,Z,jc,aq (aq I J) N,by show 1+ry x<=_;omega,λr M=>?_]]]];let C:aa d (af (af (af d t$ .tup [.ref j,u]) L$ .lst [.ref t]) r$ .lst ([.ref t]++x)):=((je J).trans$ je N).trans (je M);let ht:af (af (af d t$ .tup [.ref j,u]) L$ .lst [.ref t]) r (.lst ([.ref t]++x)) t=δ (.tup [.ref j,u]):=aq (aq jc N) M;let R:H r=θ:=by
  cases z:H r with
  |none=>rfl
  |some o=>have:=((je (o:=.lst [.ref t]) N) _ _ ((je (o:=.tup [.ref j,u]) J) _ _ (S _ _ z)));rw[M]at this;cases this
 rwa[q r _ _ R jc #[.ref t,x,Z,#[t,j,u,Z,ht,C _ _$ S _ _ U,D.mono$ aa.tm$ S.trans C],B.mono pX$ aa.tm C] (S.trans C)]
def rN:aj ["path","chain","told","number","step"] ["path","chain"] (ae Cu):=bQ
def FG(F:xb K "whats_in" Cu f fd)(cA:‹2*n+1› fA f2 z9z (oy n) "whats_at")(U:mg "enumerate"=θ):⇑(2*n+2) f fd ["path","chain"] (lY n):=by
 erw[F.ok rN λc0 A V s H vs Q E Y h=>?_]
 let#[pa,k,f,is,s,a,u,Z,hp,h6,hc,d,hd,hz,q]:=h;erw[#[_,(jd (jA 2 rN.nd$ jF jb)$ jd (kf Po Z (KN Z U$ ja (jw$ pv 1) jb) (zV (n:=2) Z$ jD (jx (i:=3) rN.nd Z$ ω Z)$ jD (jx (i:=4) rN.nd Z$ ω Z) kB)$ jg$ jL$ jZ OV Ri Rh zD (pv 2)$ ja (cA.e Y.m$ ja (jv jU (pv 0)$ ji$ ja (pv 3) jb)$ ja (jw$ pv 4) jb) jb)$ jg$ jo$ pv 2),?_]];let b0:=aL;let#[c,g,e,ss,Z,h1,h2,h3,h4]:=hc;let fl:=zb d k 0;rw[JG d]at fl;let lt:=kU d h4;erw[ai λF1 v=>#[g9,λT N=>v _ _ ?_]];let s1:aa H (af H T$ .lst []):=je N;erw[ai λF1 v=>eX λJ j=>(jr (s1 _ _ h1) Z #[e,Z,#[_,aC.of$ s1 _ _ h3],j _ _ ?_])];erw[q9 (K:=K) (xs:=ss) (Nu pa T k (.ref c) s H) #[θ,θ,[],Z,jc,Z,s1] (λi σ Hx _ h=>?_) ?_ (λσ Hx h=>v _ _ ?_)]
 .let#[_,_,_,_,_,_,y]:=h;rwa[aC.of$ y _ _ h3]
 .intro E hE i x B σ O hx np f0 Gq l h;let#[o3,o4,xs,Z,R,W,y]:=h;let C:aa O (af O B$ .tup [.int i,x]):=je np;let e8:af O B (.tup [.int i,x]) B=δ (.tup [.int i,x]):=jc;erw[l ?_];generalize af O B (.tup [.int i,x])=H8 at C e8 ⊢;let S8:=y.trans C;let#[n1,D,w,p,hh,u,ht,o1,d0,s2,Z,h0,h7,hw]:=zJ d (h4.mono$ aa.tm S8) hx;erw[#[B,_,Z,aC.of e8,Z,_,_,Z,_,_,Z,Z,?_]];erw[#[_,Z,.inl #[Z,_,aK.of$ C _ _ R],_,Z,_,Z,iZ,λt nt=>#[pa,t,_,_,Z,Z,aq (S8 _ _ hp) nt,jc,by rw[OJ];show _+1<=_;omega,λr9 H9 e9 s9=>?_]]];let S9:=(je (o:=.tup [.int i]) nt).trans s9;rw[sK]at e9;erw[(jr (S9 _ _ h0) Z #[r9,_,w,u,Z,e9,by rw[OL];show _+1+_<=_;omega,hw.mono$ aa.tm S9,o1,N9,N9,λr X G nr Y I s0=>?_])];let S:=S9.trans s0;let L:=S _ _ (C _ _ R);let lx:=W.len;let l0:=I.len;let bl:=Ab s.steps (i+1) k 0;let h5:i < ry s.steps:=(ξ.mp ht).1;let et:s.steps.take (i+1)=s.steps.take i++[(n1,D,w)]:=by rw[Rb,ht];rfl
  let eb:mf [(n1,D,w)] k (0+(s.steps.take i).length)=(k++[(i:Int)],w)::w.ws (k++[(i:Int)]) 0:=by rw[Pf,RS$ RX h5,SQ];show(_::_)++[]=_;rw[Pj]
  rw[fl,et,Ji,eb]at bl;rw[OL]at bl;let M:am G (af G T$ .lst$ xs++X):=λb ys e=>by rw[jh$ jM e L nofun];rwa[e]
  erw[#[T,r,_,_,Z,Z,L,Y,N9,f0 _ _ #[_,_,xs++X,Z,jc,?_,λb o e=>?_]]]
  .rw[et,Ji,eb];rwa[(I.mono pX M).app ((W.mono pX$ aa.tm$ C.trans S).mono pX M)]
  .rw[jh$ jk e N];rwa[S _ _$ S8 _ _ e]
 .let#[o3,o4,xs,Z,R,W,y]:=h;rw[lt,Py,<- JG d]at W;rwa[#[_,Z,q T xs Hx N R W y]]
def EZ:⇑k f c ["path","chain"] (lY 0):=by
 let n:∀v H Q E,¬lY 0 v H Q E:=λv H Q E h=>by let#[p,d,f,i,s,a,u,_,_,_,_,_,z,_]:=h;omega
 rwa[#[λv H Q E h=>absurd h (n v H Q E),λA o s H b U v Q E _ _ _ _ h=>absurd h (n v H Q E)]]
theorem LW(F:xb K "whats_at" Cr g a)(B:aE K a z9z [])(M:mg "whats_at"=↑g)(b:xb K "whats_in" Cu c f)(d:aE K f ["path","chain"] [])(e:mg "whats_in"=↑c)(m:mg "enumerate"=θ):∀n,⇑(2*n+2) c f ["path","chain"] (lY n)
 |0=>EZ
 |n+1=>by let h:=LW F B M b d e m n;let H:=xh F #[h,d,b.kp,e];rwa[FG b #[H,B,F.kp,M] m]
def Lo:aj z9z z9z (ae Cj):=bQ
def uD:hJ:=#[.function,[(".0",.local),("one",.local),("done",.local)],ν,ν,[]]
def wK:(["one","done"]:xD ρ).Nodup:=by decide+kernel
def Ei:bo z9z (ae Cj) uD ["one","done"] 2 []:=oU
def Fu{n:Nat}(F:xb K "paths_at" Cj f I)(J:‹2*n+3› fA L z9z (oy$ n+1) "whats_at"):⇑(2*n+4) f I z9z (ou$ n+1):=by
 erw[F.ok Lo λM A O s H vs Q E R h=>?_]
 let#[y,p,w,u,Z,T,j,V,b,W,Y,q]:=h;erw[#[_,(jg$ jo$ @zn _ _ _ _ _ _ _ (["one","done"]) (2) ([]) _ _ _ _ Z (zw$ J.e R.m$ ja (pv 0)$ ja (pv 1) jb) Ei (λ_ _ _ _ _=>Z3 (K:=K) (n:=2) Z Z (jD (jx (i:=0) wK Z$ ω Z)$ jD (jx (i:=1) wK Z$ ω Z) kB) Z Z) (λ_ _ _ _ _=>(@zH _)) (λ_ _ _ _ _=>(pv 0)) (by intro _;rfl)),?_]];let b0:=aL;let fl:=zb b p 0;erw[#[_,Z,_,Z,y,p,w,u,Z,T,j,V,b,W,Y,λr X a nr c k C=>?_]];let lx:=k.len;rw[Ph,fl]at lx;let lm:(X.map$ sX a).length=ry X:=OJ _;erw[#[r,Z,#[_,aK.of c],YD (λi=>((X.map$ sX a)[i]?).getD .non) N9 (aK.of c) (λi x D=>?_) λl N=>q l (X.map$ sX a) _ ?_ ?_ ?_ (C.trans$ je N)]]
 .obtain⟨⟨p',w'⟩,_,t,v,U,rfl,g,G,g3⟩:=k.at D;erw[#[t,.ref v,U,Z,aC.of g,λQ d=>#[_,Z,?_]]];rw[O2,D]at d;let d:Q (sX a$ .ref t) a:=d;rw[Dq g]at d;rwa[d]
 .cases z:H l with
  |none=>rfl
  |some o=>rw[C _ _ z]at N;cases N
 .rw[jc,<- lm,Jo]
 .let e:c7 p w=((p,w)::w.ws p 0).map (·.1):=rfl;rw[e];rwa[(bh.map (S:=em) (f:=sX a) (λx w #[t,v,U,e0,g,G,g3]=>by subst e0;rw[Dq g];rwa[#[v,Z,G]]) k).mono bG (aa.tm$ je N)]
abbrev xV:cc:=bV 34
abbrev xU:cc:=bV 35
def nO(h:b6 k A):A.units+10+1 < cLine:=by let:=h.un;omega
theorem qD:∀{I J:xD Int},aD (I.map ar)=aD (J.map ar)->I=J
 | [],[],_=>rfl
 | [],_::_,e |_::_,[],e=>by cases e
 |i::I,j::J,e=>by let e:Tr.cons (ar i) (aD$ I.map ar)= .cons (ar j) (aD$ J.map ar):=e;injection e with E a;injection E with E;injection E with E;rw[E,qD a]
theorem zf:∀i:xD Int,(aD$ i.map ar).In
 | []=>trivial
 |_::i=>#[Z,zf i]
def Xk(n:Int)(h:xD Int):(aD [ar n,ay$ h.map ar]).In:=#[Z,zf h,trivial]
def pM(n:Int)(H:xD Int):(aD [ar n,ay$ H.map ar]).dep < 10:=by let h:=zg H;show max 0 (max ((aD$ H.map ar).dep+1) 0) < 10;omega
def sW(P:aO->Bool):Nat->xD aO->xL Nat
 |_,[]=>θ
 |k,s::r=>if P s=μ then δ k else sW P (k+1) r
def l8(P:aO->Bool)(os:xD aO)(m:Nat):xL Nat:=sW P m (os.drop m)
def YR{P:aO->Bool}{os:xD aO}(h:os[m]?=δ s):l8 P os m=if P s=μ then δ m else l8 P os (m+1):=by let#[H,e]:=ξ.mp h;unfold l8;rw[<- RF (h:=H),e];rfl
def pP{P:aO->Bool}{os:xD aO}(h:ry os<=m):l8 P os m=θ:=by unfold l8;rw[Vj h];rfl
theorem pQ{P:aO->Bool}:∀{os:xD aO} {k j:Nat},sW P k os=δ j->∃i s,j=k+i/\os[i]?=δ s/\P s=μ
 | [],_,_,h=>nomatch h
 |s::r,k,j,h=>by
  let h:(if P s=μ then δ k else sW P (k+1) r)=δ j:=h;by_cases H:P s=μ
  .rw[OT H]at h;cases h;rwa[#[0,s,Z,Z,H]]
  .rw[OU H]at h;let#[i,S,e,a,b]:=pQ h;rwa[#[i+1,S,N9,by simpa using a,b]]
def Jj{P:aO->Bool}{os:xD aO}(h:l8 P os m=δ j):m<=j/\∃s,os[j]?=δ s/\P s=μ:=by let#[i,s,e,H,a]:=pQ h;rw[Up]at H;rwa[#[N9,s,by rw[e];rwa[H],a]]
def lE:xL Nat->V
 |some j=>.int (j:Int)
 |none=>.non
def aX(n:Int)(h:xD Int)(s:aO):Bool:=decide (s.1=n/\s.2.1=h)
def di(f:ρ)(i:xD Int)(s:aO):Bool:=match s.2.2 with
 | .cl g j _ _=>decide (g=f/\j=i)
 |_=>ν
def gi(os:xD aO)(m:Nat):Sk->xL Nat
 | .cl f i _ _=>l8 (di f i) os m
 |_=>θ
def fo(os:xD aO)(m:Nat)(n:Int)(h:xD Int)(w:Sk):xL Nat:=match l8 (aX n h) os m with
 |some j=>δ j
 |none=>gi os m w
def AM{H h:xD Int}(e:ay [ar n,ay$ H.map ar]=ay [ar N,ay$ h.map ar]):n=N/\H=h:=by let e:Tr.tp (.cons (ar n)$ .cons (ay$ H.map ar) .nil)= .tp (.cons (ar N)$ .cons (ay$ h.map ar) .nil):=e;injection e with e;injection e with a A;injection A with b _;injection a with a;injection a with a;let b:Tr.tp (aD$ H.map ar)= .tp (aD$ h.map ar):=b;injection b with b;rwa[#[a,qD b]]
def wC{a H:xD Int}{w:Sk}:hX (ay [ar N,ay$ H.map ar]) (ay [ar n,ay$ a.map ar])=aX n a (N,H,w):=by
 by_cases h:N=n/\H=a
 .rw[h.1,h.2,zp Z];rwa[(OY #[Z,Z]).symm]
 .rw[zh λe=>h (AM e)];rwa[(OR h).symm]
def Js{i j:xD Int}(e:ay [aM "call",aM g,ay$ j.map ar]=ay [aM "call",aM f,ay$ i.map ar]):g=f/\j=i:=by let e:Tr.tp (.cons (aM "call")$ .cons (aM g)$ .cons (ay$ j.map ar) .nil)= .tp (.cons (aM "call")$ .cons (aM f)$ .cons (ay$ i.map ar) .nil):=e;injection e with e;injection e with _ e;injection e with a A;injection A with b _;injection a with a;injection a with a;let b:Tr.tp (aD$ j.map ar)= .tp (aD$ i.map ar):=b;injection b with b;rwa[#[a,qD b]]
def qh(e:ay (aM a::x)=ay (aM b::y)):a=b:=by let e:Tr.tp (.cons (aM a)$ aD x)= .tp (.cons (aM b)$ aD y):=e;injection e with e;injection e with e _;injection e with e;injection e
def EH{n':Int}{hs':xD Int}{w:Sk}(o:w.ok ν):hX (dj w) (dj$ .cl f i s a)=di f i (n',hs',w):=by
 cases w with
 |nil |st _ _ _ _=>rwa[o.elim]
 |ask b |rd b c |wr b c=>show hX (ay _) (ay _)=_;rw[zh λe=>absurd (qh e) Oa];rfl
 |cl g j S A=>
  by_cases h:g=f/\j=i
  .rw[h.1,h.2];show hX (ay _) (ay _)=_;rw[zp Z];rwa[(OY #[Z,Z]).symm]
  .show hX (ay _) (ay _)=_;rw[zh λe=>h (Js e)];rwa[(OR h).symm]
def pN{w:Sk}(o:w.ok ν):∃l,dj w= .tp l/\l.dep < 10/\l.In/\∃v t,l= .cons (aM v) t/\(v="call"↔∃f i s a,w= .cl f i s a):=by
 cases w with
 |nil |st _ _ _ _=>rwa[o.elim]
 |ask b |rd b B=>rwa[#[_,Z,by show max 0 (max 0 0) < 10;decide,#[Z,Z,trivial],_,_,Z,λe=>absurd e Oa,λ#[_,_,_,_,e]=>nomatch e]]
 |wr b B=>rwa[#[_,Z,by show max 0 (max 0 (max 0 0)) < 10;decide,#[Z,Z,Z,trivial],_,_,Z,λe=>absurd e Oa,λ#[_,_,_,_,e]=>nomatch e]]
 |cl f i s a=>rwa[#[_,Z,by show max 0 (max 0 (max ((aD (i.map ar)).dep+1) 0)) < 10;rw[zg];decide,#[Z,Z,zf i,trivial],_,_,Z,λ_=>#[_,_,_,_,Z],λ_=>Z]]
inductive lS(f:xD V)(H:Hp)(Q:VK)(a:XK):Prop
 |mk(e:ζ)(d:xD V)(s:Sk)(m:Nat)(n:Int)(c:xD Int)(b:V)(_:f=[.ref e,.int (m:Int),b])(_:H e=δ (.tup d))(_:eI H s .non d)(_:s.ok μ)(_:s.size<=1000)(_:m<=1000)(_:aR H (ay [ar n,ay (c.map ar)]) b [])(_:∀H',aa H H'->Q (lE (l8 (aX n c) s.steps m)) H')
inductive lR(d:xD V)(H:Hp)(Q:VK)(a:XK):Prop
 |mk(e:ζ)(c:xD V)(s w:Sk)(m:Nat)(b:V)(_:d=[.ref e,.int (m:Int),b])(_:H e=δ (.tup c))(_:eI H s .non c)(_:s.ok μ)(_:s.size<=1000)(_:m<=1000)(_:aR H (dj w) b [])(_:w.ok ν)(_:∀H',aa H H'->Q (lE (gi s.steps m w)) H')
def yl:aj ["steps","mark","cut","at"] ["steps","mark","cut"] (ae xV):=bQ
def Br(F:xb K "like_from" xV f T)(R:mg "len"=θ)(U:mg "range"=θ):⇑1 f T ["steps","mark","cut"] lS:=by
 erw[F.ok yl λV A O s H vs Q E W h=>?_]
 let#[e,v,s,m,n,c,C,Z,G,g,k,Y,hm,hc,q]:=h;erw[#[_,(jd (kf Po Z (qH Z U$ ja (pv 1)$ ja (jO jK Z R Pz$ ja (pv 0) jb) jb) (jx (i:=3) yl.nd Z$ ω Z)$ jg$ jy (jz (KE (d:=10)$ nO W) (jI j9 (jq jC (pv 0) (pv 3)) jT$ jH jf) (pv 2)$ aF _) (jg$ jo$ pv 3) jp)$ jg$ jo$ @kl _ _ _),?_]];let b0:=aL;let l0:=kU k g;let l1:=qW k g;erw[ai λF1 f1=>eX λJ j=>#[_,Z,_,Z,e,_,Z,.inr$ aC.of G,_,_,Z,#[N9,N9,N9,N9],j _ _ ?_]];erw[zc (λi x I=>(∃y,x=[↑e,δ$ .int (m:Int),δ C,y])/\aa H I/\l8 (aX n c) s.steps m=l8 (aX n c) s.steps (m+i)) #[#[_,Z],aa.refl _,Z] ?_ (λx I h=>f1 _ _ ?_)]
 .intro L rt i x H2 hi fE X l h;obtain⟨⟨y,rfl⟩,S,b⟩:=h;erw[l ?_];let e0:(m:Int)+(i:Int)=((m+i:Nat):Int):=by omega
  rw[e0];let o:m+i < ry v:=by omega
  let#[N,a,w,p,h,u,ht,o1,_,_,ex,hp,hh,_]:=zJ k (g.mono$ aa.tm S) (OG o);let B:v[m+i]?=↑p:=by rw[OG o,ex]
  show iR _ _ _ L _ _;erw[oW λG1 kT kF=>#[_,Z,_,Z,e,_,_,_,Z,Z,aC.of$ S _ _ G,jG B,_,Z,p,_,Z,hp,λq2 H1 D r=>#[_,Z,_,_,pM N a,Xk N a,Xk n c,jE D$ jl Z jV$ jl Z (za$ r _ _ hh) jB,hc.mono$ aa.tm$ S.trans r,_,Z,?_]]];rw[show hX (.tp$ aD [ar N,ay$ a.map ar]) (.tp$ aD [ar n,ay$ c.map ar])=aX n c (N,a,w) from wC];let t:=YR (P:=aX n c) ht;cases M:aX n c (N,a,w) with
  |true=>erw[kT _ ?_];show iG _ L _ _;unfold iG;rw[rt];rw[OT M]at t;let z:=q _ (S.trans r);rw[b,t]at z;rwa[#[_,Z,z]]
  |false=>rw[OU (by rw[M];intro z;cases z)]at t;rwa[kF _$ fE _ _ #[#[_,Z],S.trans r,by rw[b,t];rfl]]
 .obtain⟨⟨y,rfl⟩,S,b⟩:=h;let z:=q _ S;rw[b,pP N9]at z;rwa[z]
def yk:aj ["steps","mark","deed","at"] ["steps","mark","deed"] (ae xU):=bQ
def Bq(F:xb K "lender_from" xU f fd)(cI:‹1› fI f0 ["what"] mw "deed_in")(ml:mg "len"=θ)(mr:mg "range"=θ):⇑2 f fd ["steps","mark","deed"] lR:=by
 erw[F.ok yk λc0 A O s H vs Q E hr h=>?_]
 let#[e,D,s,w,m,dv,Z,he,c,g,h0,hm,G,L,q]:=h;erw[#[_,(jd (jy (jz QH (jw$ pv 2) jm$ aF _) (jg$ jo$ @kl _ _ _) jp)$ jd (kf Po Z (qH Z mr$ ja (pv 1)$ ja (jO jK Z ml Pz$ ja (pv 0) jb) jb) (jx (i:=3) yk.nd Z$ ω Z)$ jg$ jy (jz (KE (d:=10)$ nO hr) (cI.e hr.m$ ja (jw$ jq jC (pv 0) (pv 3)) jb) (pv 2)$ aF _) (jg$ jo$ pv 3) jp)$ jg$ jo$ @kl _ _ _),?_]];let b0:=aL;let l0:=kU g c;let l1:=qW g c;let#[l,el,dl,il,v0,ts,ev,r]:=pN L;rw[el]at G;let#[_,da,ds,Z,M,t]:=id G;rw[ev]at t;obtain⟨_,_,y0,y1,rfl,⟨rfl,_⟩,_⟩:=t;erw[ai λF1 y=>(jr M dQ #[Z,_,Z,?_])];by_cases B:v0="call"
 .let#[f,I,s1,a1,Z]:=r.mp B;subst B;erw[aY N7$ y _ _ ?_];erw[ai λF1 y=>eX λJ j=>#[_,Z,_,Z,e,_,Z,.inr$ aC.of he,_,_,Z,#[N9,N9,N9,N9],j _ _ ?_]];erw[zc (λi N R=>(∃T,N=[↑e,δ$ .int (m:Int),↑da,T])/\aa H R/\l8 (di f I) s.steps m=l8 (di f I) s.steps (m+i)) #[#[_,Z],aa.refl _,Z] ?_ (λN R h=>y _ _ ?_)]
  .intro E2 rt i N H2 hi fE Gq n h;obtain⟨⟨T,rfl⟩,S,b⟩:=h;erw[n ?_];let e0:(m:Int)+(i:Int)=((m+i:Nat):Int):=by omega
   rw[e0];let v:m+i < ry D:=by rwa[N09]
   let#[n',hs',w,p,h,u,ht,o,_,_,ex,hp,hh,hw]:=zJ g (c.mono$ aa.tm S) (OG v);let U:D[m+i]?=↑p:=by rw[OG v,ex]
   let#[l',x,W,X,_]:=pN o;show iR _ _ _ E2 _ _;erw[oW λG1 kT kF=>#[_,Z,_,Z,e,_,_,_,Z,Z,aC.of$ S _ _ he,jG U,p,_,_,_,Z,Z,aC.of hp,dC,u,w,Z,hw,o,λv1 H1 Y k=>#[_,Z,l',l,W,X,il,x▸Y,G.mono$ aa.tm$ S.trans k,_,Z,?_]]];rw[<- x,<- el,EH (n':=n') (hs':=hs') o];let C:=YR (P:=di f I) ht;cases hb:di f I (n',hs',w) with
   |true=>erw[kT _ ?_];show iG _ E2 _ _;unfold iG;rw[rt];rw[OT hb]at C;let z:Q (lE$ l8 (di f I) s.steps m) H1:=q _ (S.trans k);rw[b,C]at z;rwa[#[_,Z,z]]
   |false=>rw[OU (by rw[hb];intro z;cases z)]at C;rwa[kF _$ fE _ _ #[#[_,Z],S.trans k,by rw[b,C];rfl]]
  .obtain⟨⟨T,rfl⟩,S,b⟩:=h;let z:Q (lE$ l8 (di f I) s.steps m) R:=q _ S;rw[b,pP N09]at z;rwa[z]
 .erw[c8 ?_ ?_]
  .show(!decide (tz v0=tz "call"))=μ;rw[OR λz=>B (by injection z)];rfl
  let z:=q _ (aa.refl _);let en:gi s.steps m w=θ:=by
   cases w with
   |cl f I s a=>rwa[absurd (r.mpr #[f,I,s,a,Z]) B]
   |_=>rfl
  rw[en]at z;rwa[z]
abbrev xN:cc:=bX (bV 41) 0
abbrev BY:cc:=bX (bV 41) 1
abbrev BZ:cc:=bX (bV 41) 2
def dM(a:ζ):xD (ρ×V):=[("anew",.ref a)]
def AB(a:ζ):Tl (dM a):=#[Nat.le_of_ble_eq_true Z,Z,Z,Z,Z]
inductive nj(C:ζ)(e:xD V)(H:Hp)(Q:VK)(a:XK):Prop
 |mk(r c d b:ζ)(m:Int)(_:e=[.ref r,.ref d,.ref b,.int m])(_:H r=δ (.ins C c []))(_:∀lA aA,H lA=θ->H aA=θ->lA≠aA->Q .non (af (af (af H lA (.dK [])) aA (.lst [])) r (.ins C c (dI (dM aA) b lA d m 0))))
def Gx:aj z6z z6z (ae xN):=bQ
def Bm{R:ζ}(F:aS K "__init__" "AgainRun.__init__" xN f y)(B:RK K C)(D:a9 K C "anew")(G:⇑2 I k z6z (iP C))(J:aE K k z6z [])(M:mg "BookRun"=↑R)(L:uS K R "__init__" I):⇑3 f y z6z (nj C):=by
 erw[F.ok Gx λO A o s H V Q E S h=>?_]
 let#[r,d,p,c,m,Z,g,q]:=h;erw[#[_,(jd (jL$ @ZT _ _ _ _ _ _ _ _ _ _ _ _ _ _ _ _ _ _ _ _ Z M L G S.m J .nil bY (ja (pv 0)$ ja (pv 1)$ ja (pv 2)$ ja (pv 3) jb) Oa N6 N6 N6)$ jg$ @qw _ _ _ _ _ _ _ _ (pv 0) (jF jb) Z),?_]];erw[ai λW x=>#[_,Z,_,Z,_,Z,_,Z,r,d,p,c,m,Z,g,λl N=>x _ _ ?_]];let T:l≠r:=(jk g N).symm;erw[#[g9,λa n=>#[_,Z,r,C,d,_,Z,aq jc n,B.cl,D,(by show 5 < 1000;decide),?_]]];let t:a≠r:=λz=>by rw[z,jc]at n;cases n
 rw[jh t]at n;let i:l≠a:=λz=>by rw[<- z,jc]at n;cases n
 rw[jh i.symm]at n;let e:af (af (af (af H l$ .dK []) r$ .ins C d$ dI [] c l p m 0) a$ .lst []) r (.ins C d$ dI (dM a) c l p m 0)=af (af (af H l$ .dK []) a$ .lst []) r (.ins C d$ dI (dM a) c l p m 0):=by
  funext b;by_cases j:b=r
  .rw[j,jc,jc]
  .rw[jh j,jh j];by_cases u:b=a
   .rw[u,jc,jc]
   .rw[jh u,jh j,jh u]
 rwa[e▸q l a N n i]
abbrev Au:=aN×aN
structure Ly where
 k:xD Au
 t:xD Au
 f:xD aN
 d:xD aN
def Ly.app(a b:Ly):Ly:=#[a.k++b.k,a.t++b.t,a.f++b.f,a.d++b.d]
def Ly.nil:Ly:=#[[],[],[],[]]
def Ly.tot(a:Ly):Nat:=ry a.k+ry a.t+ry a.f+ry a.d
def Ly.app_assoc(a b c:Ly):(a.app b).app c=a.app (b.app c):=by unfold Ly.app;simp [Pt]
def Ly.app_nil(a:Ly):a.app .nil=a:=by unfold Ly.app Ly.nil;simp
def Ly.nil_app(a:Ly):Ly.nil.app a=a:=rfl
def Ly.tot_app(a b:Ly):(a.app b).tot=a.tot+b.tot:=by unfold Ly.app Ly.tot;simp only[OL];omega
def Sk.fnd:Sk->Int
 | .ask b=>b
 | .rd _ i | .wr _ i=>i
 | .cl _ _ _ a=>a
 |_=>0
def sL:Sk->xD aO
 | .cl _ _ s _=>s.steps
 |_=>[]
def MJ(p:aN)(os:xD aO)(m j:Nat):xD aN:=(mf ((os.drop m).take$ j - m) p m).map (·.1)
def one(p:aN)(o:aO)(a:aN)(n:Int)(h:xD Int)(w:Sk):Ly:=
 if aX n h o=μ then (if o.2.2.fnd=w.fnd then #[[(p,a)],[],[],[]] else #[[],[(p,a)],[],[]]) else #[[],[],[a],[p]]
def iJ:Sk->aN->xD aO->Nat->aN->Nat->Ly
 | .st n h w r,p,os,m,a,k=>match fo os m n h w with
  |none=>(#[[],[],c7 (a++[(k:Int)]) w,[]]:Ly).app (iJ r p os m a (k+1))
  |some j=>match os[j]? with
   |none=>.nil
   |some o=>((#[[],[],[],MJ p os m j]:Ly).app ((one (p++[(j:Int)]) o (a++[(k:Int)]) n h w).app (iJ w (p++[(j:Int)]) (sL o.2.2) 0 (a++[(k:Int)]) 0))).app (iJ r p os (j+1) a (k+1))
 | .cl _ _ s _,p,os,m,a,k=>iJ s p os m a k
 | .nil,p,os,m,_,_=>#[[],[],[],MJ p os m os.length]
 |_,_,_,_,_,_=>.nil
def KU{w:Sk}{os:xD aO}(h:fo os m n H w=θ):iJ (.st n H w r) a os m p k=(#[[],[],c7 (p++[(k:Int)]) w,[]]:Ly).app (iJ r a os m p$ k+1):=by show(match fo os m n H w with |none=>_ |some j=>_)=_;rw[h]
def KW{w:Sk}{os:xD aO}(h:fo os m n H w=δ j)(b:os[j]?=δ o):iJ (.st n H w r) p os m a k=((#[[],[],[],MJ p os m j]:Ly).app ((one (p++[(j:Int)]) o (a++[(k:Int)]) n H w).app$ iJ w (p++[(j:Int)]) (sL o.2.2) 0 (a++[(k:Int)]) 0)).app (iJ r p os (j+1) a$ k+1):=by show(match fo os m n H w with |none=>_ |some j=>match os[j]? with |none=>Ly.nil |some o=>_)=_;rw[h];dsimp only;rw[b]
abbrev DF:=ρ->Int->xD Int->Tr
def Dt(D:DF):ρ->Sk->Prop
 |f,.st n h w r=>dj w=D f n h/\Dt D f w/\Dt D f r
 |_,.cl g _ s _=>Dt D g s
 |_,_=>True
theorem ZF:∀{s:Sk},Dt D f s->∀{j:Nat} {o:aO},s.steps[j]?=δ o->dj o.2.2=D f o.1 o.2.1/\Dt D f o.2.2
 | .st n H w r,h,0,o,e=>by cases e;rwa[#[h.1,h.2.1]]
 | .st n H w r,h,j+1,o,e=>ZF h.2.2 (j:=j) (by let e:((n,H,w)::r.steps)[j+1]?=δ o:=e;simpa using e)
 | .nil,_,j,o,e | .ask _,_,j,o,e | .rd _ _,_,j,o,e | .wr _ _,_,j,o,e | .cl _ _ _ _,_,j,o,e=>by let e:([]:xD aO)[j]?=δ o:=e;simp at e
def zB{os:xD aO}{w:Sk}(h:fo os m n d w=δ j):m<=j/\∃o,os[j]?=δ o/\(aX n d o=μ\/∃f I s a,w= .cl f I s a/\di f I o=μ):=by
 unfold fo at h;cases e:l8 (aX n d) os m with
 |some i=>rw[e]at h;cases h;let#[H,s,b,c]:=Jj e;rwa[#[H,s,b,.inl c]]
 |none=>
  rw[e]at h;let h:gi os m w=δ j:=h;cases w with
  |cl f I s a=>let#[H,S,b,c]:=Jj (show l8 (di f I) os m=δ j from h);rwa[#[H,S,b,.inr #[f,I,s,a,Z,c]]]
  |_=>cases h
def wB(h:aX n H o=μ):o.1=n/\o.2.1=H:=Pw h
def ZG(h:di f i o=μ):∃s a,o.2.2= .cl f i s a:=by
 unfold di at h;split at h
 .rename_i g j s a e
  let#[Z,Z]:=Pw h;rwa[#[s,a,e]]
 .cases h
def KG{w:Sk}(o:w.ok ν)(e:dj w=dj (.cl f i s a)):∃S A,w= .cl f i S A:=by
 cases w with
 |nil |st _ _ _ _=>rwa[o.elim]
 |ask b |rd b c |wr b c=>rwa[absurd (qh e) Oa]
 |cl g j S A=>let#[Z,Z]:=Js e;rwa[#[S,A,Z]]
def G7{os s:Sk}{w:Sk}(r:os.ok μ)(k:Dt D f os)(h:fo os.steps m n l w=δ j)(b:os.steps[j]?=δ o)(O:o.2.2.ok ν)(p:dj w=D f n l):∀g i s a,w= .cl g i s a->∃S A,o.2.2= .cl g i S A:=by
 intro g i s a e;let#[_,t,H,c]:=zB h;rw[b]at H;cases H;rcases c with c | ⟨F,I,S,A,E,c⟩
 .let#[C,q]:=wB c;let#[d,_]:=ZF k b;rw[C,q,<- p,e]at d;rwa[KG O d]
 .rw[e]at E;cases E;rwa[ZG c]
def oO:RA Au:=λH x p=>∃q a b,x= .ref q/\H q=δ (.tup [.ref a,.ref b])/\H a=δ (.tup$ p.1.map tT)/\H b=δ (.tup$ p.2.map tT)
def gJ:L9 oO:=λ_ _ _ _ k #[q,a,b,e,h,H,c]=>#[q,a,b,e,k _ _ h,k _ _ H,k _ _ c]
structure L4(H:Hp)(ob:HO)(r kA tA fA dA:ζ)(y:Ly):Prop where
 ins:H r=δ ob
 kv:∃xs,H kA=δ (.lst xs)/\bh oO H y.k xs
 tv:∃xs,H tA=δ (.lst xs)/\bh oO H y.t xs
 fv:∃xs,H fA=δ (.lst xs)/\bh em H y.f xs
 dv:∃xs,H dA=δ (.lst xs)/\bh em H y.d xs
 ne:kA≠tA/\kA≠fA/\kA≠dA/\tA≠fA/\tA≠dA/\fA≠dA
 nl:∀xs,ob≠ .lst xs
abbrev Lt(H:Hp)(z k t f d:ζ)(y:Ly):Prop:=L4 H (.tup [.ref k,.ref t,.ref f,.ref d]) z k t f d y
def db(a b c d:ζ)(H h:Hp):Prop:=∀x o,x≠a->x≠b->x≠c->x≠d->H x=δ o->h x=δ o
def db.of_same(s:aa H h):db a b c d H h:=λ_ _ _ _ _ _ e=>s _ _ e
def db.trans(h:db a b c d H i)(k:db a b c d i j):db a b c d H j:=λx o n N f g e=>k x o n N f g (h x o n N f g e)
section
variable {H H':Hp}{ob:HO}{r kA tA fA dA:ζ}{y:Ly}
def L4.tm(h:L4 H ob r kA tA fA dA y)(k:db kA tA fA dA H H'):am H H':=λb x e=>by let#[_,a,_]:=h.kv;let#[_,c,_]:=h.tv;let#[_,d,_]:=h.fv;let#[_,f,_]:=h.dv;rwa[k b _ (jM e a nofun) (jM e c nofun) (jM e d nofun) (jM e f nofun) e]
def L4.same(h:L4 H ob r kA tA fA dA y)(s:aa H H'):L4 H' ob r kA tA fA dA y:=by let#[x,a,g]:=h.kv;let#[X,b,G]:=h.tv;let#[c,d,g3]:=h.fv;let#[e,f,i]:=h.dv;rwa[#[s _ _ h.ins,#[x,s _ _ a,g.mono gJ$ aa.tm s],#[X,s _ _ b,G.mono gJ$ aa.tm s],#[c,s _ _ d,g3.mono bG$ aa.tm s],#[e,s _ _ f,i.mono bG$ aa.tm s],h.ne,h.nl]]
def JH{o:HO}(h:H a=δ (.lst x)):am H (af H a o):=λb Y e=>by rw[jh$ jM e h nofun];rwa[e]
def L4.setK(h:L4 H ob r kA tA fA dA y)(a:H kA=δ (.lst x))(g:bh oO H p Y):L4 (af H kA$ .lst$ x++Y) ob r kA tA fA dA (y.app #[p,[],[],[]])/\db kA tA fA dA H (af H kA$ .lst$ x++Y):=by
 let T:=JH (o:=.lst (x++Y)) a;let#[v,c,G]:=h.kv;let#[X,i,j]:=h.tv;let#[k,l,g3]:=h.fv;let#[m,n,q]:=h.dv;let#[N,s,u,z,B,C]:=h.ne;rw[c]at a;cases a;erw[#[#[?_,#[_,jc,(bh.app g G).mono gJ T],#[X,?_,?_],#[k,?_,?_],#[m,?_,?_],h.ne,h.nl],λb o A D E F e=>by rw[jh A];rwa[e]]]
 .rw[jh$ jM h.ins c$ h.nl _];rwa[h.ins]
 .rw[jh$ Pk N];rwa[i]
 .show bh oO _ (y.t++[]) _;rw[Pj];rwa[j.mono gJ T]
 .rw[jh$ Pk s];rwa[l]
 .show bh em _ (y.f++[]) _;rw[Pj];rwa[g3.mono bG T]
 .rw[jh$ Pk u];rwa[n]
 .show bh em _ (y.d++[]) _;rw[Pj];rwa[q.mono bG T]
def L4.setT(h:L4 H ob r kA tA fA dA y)(a:H tA=δ (.lst x))(g:bh oO H p Y):L4 (af H tA$ .lst$ x++Y) ob r kA tA fA dA (y.app #[[],p,[],[]])/\db kA tA fA dA H (af H tA$ .lst$ x++Y):=by
 let t:=JH (o:=.lst (x++Y)) a;let#[X,i,G]:=h.kv;let#[z,c,j]:=h.tv;let#[l,m,g3]:=h.fv;let#[n,q,s]:=h.dv;let#[N,B,C,u,v,D]:=h.ne;rw[c]at a;cases a;erw[#[#[?_,#[X,?_,?_],#[_,jc,(bh.app g j).mono gJ t],#[l,?_,?_],#[n,?_,?_],h.ne,h.nl],λb o E A F I e=>by rw[jh A];rwa[e]]]
 .rw[jh$ jM h.ins c$ h.nl _];rwa[h.ins]
 .rw[jh N];rwa[i]
 .show bh oO _ (y.k++[]) _;rw[Pj];rwa[G.mono gJ t]
 .rw[jh$ Pk u];rwa[m]
 .show bh em _ (y.f++[]) _;rw[Pj];rwa[g3.mono bG t]
 .rw[jh$ Pk v];rwa[q]
 .show bh em _ (y.d++[]) _;rw[Pj];rwa[s.mono bG t]
def L4.setF(h:L4 H ob r kA tA fA dA y)(a:H fA=δ (.lst x))(f:bh em H p Y):L4 (af H fA$ .lst$ x++Y) ob r kA tA fA dA (y.app #[[],[],p,[]])/\db kA tA fA dA H (af H fA$ .lst$ x++Y):=by
 let T:=JH (o:=.lst (x++Y)) a;let#[X,g,G]:=h.kv;let#[i,j,l]:=h.tv;let#[v,c,g3]:=h.fv;let#[m,n,q]:=h.dv;let#[z,N,B,s,C,u]:=h.ne;rw[c]at a;cases a;erw[#[#[?_,#[X,?_,?_],#[i,?_,?_],#[_,jc,(bh.app f g3).mono bG T],#[m,?_,?_],h.ne,h.nl],λb o D E A F e=>by rw[jh A];rwa[e]]]
 .rw[jh$ jM h.ins c$ h.nl _];rwa[h.ins]
 .rw[jh N];rwa[g]
 .show bh oO _ (y.k++[]) _;rw[Pj];rwa[G.mono gJ T]
 .rw[jh s];rwa[j]
 .show bh oO _ (y.t++[]) _;rw[Pj];rwa[l.mono gJ T]
 .rw[jh$ Pk u];rwa[n]
 .show bh em _ (y.d++[]) _;rw[Pj];rwa[q.mono bG T]
def L4.setD(h:L4 H ob r kA tA fA dA y)(a:H dA=δ (.lst x))(d:bh em H p Y):L4 (af H dA$ .lst$ x++Y) ob r kA tA fA dA (y.app #[[],[],[],p])/\db kA tA fA dA H (af H dA$ .lst$ x++Y):=by
 let T:=JH (o:=.lst (x++Y)) a;let#[X,g,G]:=h.kv;let#[i,j,l]:=h.tv;let#[m,n,g3]:=h.fv;let#[v,c,q]:=h.dv;let#[z,B,N,C,s,u]:=h.ne;rw[c]at a;cases a;erw[#[#[?_,#[X,?_,?_],#[i,?_,?_],#[m,?_,?_],#[_,jc,(bh.app d q).mono bG T],h.ne,h.nl],λb o D E F A e=>by rw[jh A];rwa[e]]]
 .rw[jh$ jM h.ins c$ h.nl _];rwa[h.ins]
 .rw[jh N];rwa[g]
 .show bh oO _ (y.k++[]) _;rw[Pj];rwa[G.mono gJ T]
 .rw[jh s];rwa[j]
 .show bh oO _ (y.t++[]) _;rw[Pj];rwa[l.mono gJ T]
 .rw[jh u];rwa[n]
 .show bh em _ (y.f++[]) _;rw[Pj];rwa[g3.mono bG T]
end
def C9(a:aN)(m:Nat)(p:aN):Prop:=∃(j:Nat) (q:aN),m<=j/\p=a++(j:Int)::q
def GJ(p:aN)(m:Nat):C9 p m (p++[(m:Int)]):=#[m,[],OM _,Z]
def C9.le{a:aN}{m M:Nat}{p:aN}(h:C9 a m p)(l:M<=m):C9 a M p:=let #[j,q,H,b]:=h;#[j,q,O1 l H,b]
def C9.up{a:aN}{m j i:Nat}{p:aN}(h:C9 (a++[(j:Int)]) i p)(l:m<=j):∃q,p=a++(j:Int)::q/\q≠[]:=by let#[k,q,_,e]:=h;rwa[#[(k:Int)::q,by rw[e,Pt];rfl,λz=>by cases z]]
theorem QM:∀(s:Sk) (p:aN) (k:Nat),∀q∈(s.ws p k).map (·.1),C9 p 0 q
 | .st _ _ w r,p,k,q,h=>by
  let h:q∈(((p++[(k:Int)],w)::w.ws (p++[(k:Int)]) 0)++r.ws p (k+1)).map (·.1):=h;rw[O4,Rl]at h;rcases bm.mp h with h |h
  .rcases Ξ.mp h with rfl |h
   .rwa[(GJ p k).le (OS _)]
   .let#[Q,e,_]:=(QM w _ 0 q h).up (m:=0) (OS _);rwa[#[k,Q,OS _,e]]
  .rwa[QM r p (k+1) q h]
 | .cl _ _ s _,p,_,q,h=>QM s p 0 q h
 | .nil,_,_,_,h | .ask _,_,_,_,h | .rd _ _,_,_,_,h | .wr _ _,_,_,_,h=>nomatch h
def rg{w:Sk}{p:aN}{k:Nat}{q:aN}(h:q∈c7 (p++[(k:Int)]) w):∃Q,q=p++(k:Int)::Q:=by
 rcases Ξ.mp h with rfl |h
 .rwa[#[[],Z]]
 .let#[Q,e,_]:=(QM w _ 0 q h).up (m:=0) (OS _);rwa[#[Q,e]]
def Yj(s:aO)(r:xD aO)(p:aN)(k:Nat):(mf (s::r) p k).map (·.1)=c7 (p++[(k:Int)]) s.2.2++(mf r p$ k+1).map (·.1):=by show((_::_)++_).map _=_;rw[O4];rfl
theorem Ac:∀(os:xD aO) (p:aN) (k:Nat),∀q∈(mf os p k).map (·.1),∃(i:Nat) (Q:aN),k<=i/\i < k+ry os/\q=p++(i:Int)::Q
 | [],_,_,_,h=>nomatch h
 |s::r,p,k,q,h=>by
  rw[Yj]at h;rcases bm.mp h with h |h
  .let#[Q,e]:=rg h;rwa[#[k,Q,OM _,by show k < k+(ry r+1);omega,e]]
  .let#[i,Q,H,a,e]:=Ac r p (k+1) q h;rwa[#[i,Q,N9,by show i < k+(ry r+1);omega,e]]
theorem Xx:∀(p x y:aN),gI (p++x) (p++y)=gI x y
 | [],_,_=>rfl
 |a::p,x,y=>by show(if a=a then gI (p++x) (p++y) else _)=_;rw[OT Z,Xx p]
def A7{p q Q:aN}{i j:Nat}(h:i < j):gI (p++(i:Int)::q) (p++(j:Int)::Q)=μ:=by rw[Xx];show(if (i:Int)=(j:Int) then _ else decide ((i:Int) < (j:Int)))=μ;rw[OU N9];rwa[OY N9]
def Bc{p q:aN}{i:Nat}:gI p (p++(i:Int)::q)=μ:=by let:=Xx p [] ((i:Int)::q);rw[Pj]at this;rwa[this]
abbrev D4(l:xD aN):Prop:=l.Pairwise λa b=>gI a b=μ
def uN:∀(s:Sk) (p:aN) (k:Nat),s.ok μ->∀q∈(s.ws p k).map (·.1),C9 p k q
 |s,p,k,o,q,h=>by rw[JG o]at h;let#[i,Q,H,_,e]:=Ac _ _ _ q h;rwa[#[i,Q,H,e]]
def GS{a b:xD aN}(H:D4 a)(c:D4 b)(h:∀x∈a,∀y∈b,gI x y=μ):D4 (a++b):=List.pairwise_append.mpr #[H,c,h]
theorem ZH:∀{b:Bool} {s:Sk},s.ok b->∀(p:aN) (k:Nat),D4 ((s.ws p k).map (·.1))
 |true,.nil,_,_,_=>iu
 |true,.st _ _ w r,o,p,k=>by
  show D4 ((((p++[(k:Int)],w)::w.ws (p++[(k:Int)]) 0)++r.ws p (k+1)).map (·.1));rw[O4];erw[GS ?_ (ZH o.2 p$ k+1) λx H y h=>?_]
  .rw[Rl];erw[rb.mpr #[λy h=>?_,ZH o.1 _ 0]];let#[i,q,_,e]:=QM w _ 0 y h;rw[e];rwa[Bc]
  .let#[q,e]:=rg (w:=w) (show x∈c7 (p++[(k:Int)]) w from H);let#[i,Q,a,E]:=uN r p (k+1) o.2 y h;rw[e,E];rwa[A7 a]
 |false,.cl _ _ s _,o,p,_=>ZH (b:=μ) (s:=s) o p 0
 |false,.ask _,_,_,_ |false,.rd _ _,_,_,_ |false,.wr _ _,_,_,_=>iu
def fq:Sk->xD aO->Nat->aN->Nat->xD aN
 | .st n h w r,os,m,p,k=>match fo os m n h w with
  |none=>c7 (p++[(k:Int)]) w++fq r os m p (k+1)
  |some j=>match os[j]? with
   |none=>[]
   |some o=>(if aX n h o=μ/\o.2.2.fnd=w.fnd then [] else [p++[(k:Int)]])++(fq w (sL o.2.2) 0 (p++[(k:Int)]) 0++fq r os (j+1) p (k+1))
 | .cl _ _ s _,os,m,p,k=>fq s os m p k
 |_,_,_,_,_=>[]
def Az(os:xD aO)(m:Nat)(n:Int)(h:xD Int)(w:Sk)(p:aN)(k:Nat):xD aN:=match fo os m n h w with
 |none=>c7 (p++[(k:Int)]) w
 |some j=>match os[j]? with
  |none=>[]
  |some o=>(if aX n h o=μ/\o.2.2.fnd=w.fnd then [] else [p++[(k:Int)]])++fq w (sL o.2.2) 0 (p++[(k:Int)]) 0
def Hs(m:Nat):xL Nat->Nat
 |none=>m
 |some j=>j+1
def XN{n:Int}{H:xD Int}{w r:Sk}{os:xD aO}{m:Nat}{p:aN}{k:Nat}:fq (.st n H w r) os m p k=Az os m n H w p k++fq r os (Hs m$ fo os m n H w) p (k+1):=by
 show(match fo os m n H w with |none=>_ |some j=>_)=_;unfold Az;cases h:fo os m n H w with
 |none=>rfl
 |some j=>let#[_,o,a,_]:=zB h;dsimp only;rw[a];dsimp only;rw[Pt];rfl
def EL:Sk->xD aO->Nat->Nat
 | .st n h w r,os,m=>EL r os (Hs m (fo os m n h w))
 |_,_,m=>m
theorem u5{n:Int}{hs:xD Int}{w:Sk}{os:xD aO}{pn:aN}:∀{s:Sk} {m k:Nat},s.ok μ->fq (Sk.put n hs w s) os m pn k=fq s os m pn k++Az os (EL s os m) n hs w pn (k+ry s.steps)/\EL (Sk.put n hs w s) os m=Hs (EL s os m) (fo os (EL s os m) n hs w)
 | .nil,m,k,_=>by show fq (.st n hs w .nil) os m pn k=[]++_/\_;rw[XN];rwa[#[Pj _,Z]]
 | .st N H W r,m,k,h=>by
  let i:=u5 (n:=n) (hs:=hs) (w:=w) (os:=os) (pn:=pn) (s:=r) (m:=Hs m (fo os m N H W)) (k:=k+1) h.2;let e:Sk.put n hs w (.st N H W r)= .st N H W (Sk.put n hs w r):=rfl;erw[#[?_,?_]]
  .rw[e,XN,XN,i.1,Pt];show _=_++(_++Az os (EL r os$ Hs m$ fo os m N H W) n hs w pn (k+((N,H,W)::r.steps).length));rw[Ph,show k+1+ry r.steps=k+(ry r.steps+1) by omega]
  .rw[e];rwa[i.2]
 | .ask _,_,_,h | .rd _ _,_,_,h | .wr _ _,_,_,h | .cl _ _ _ _,_,_,h=>h.elim
def Ly.an(y:Ly):xD aN:=y.t.map (·.2)++y.f
def Xl(a b:Ly):(a.app b).an.Perm (a.an++b.an):=by show((a.t++b.t).map (·.2)++(a.f++b.f)).Perm ((a.t.map (·.2)++a.f)++(b.t.map (·.2)++b.f));rw[O4,Pt,Pt];erw[Tx _ ?_];rw[<- Pt,<- Pt];rwa[List.Perm.append_right _ Ua]
theorem JI:∀(s:Sk) (a:aN) (os:xD aO) (m:Nat) (p:aN) (k:Nat),(iJ s a os m p k).an.Perm (fq s os m p k)
 | .st n H w r,a,os,m,p,k=>by
  rw[XN];unfold Az;cases h:fo os m n H w with
  |none=>rw[KU h];rwa[(Xl _ _).trans (Tx _$ JI r a os m p$ k+1)]
  |some j=>
   let#[_,o,b,_]:=zB h;rw[KW h b];dsimp only;rw[b];dsimp only;erw[(Xl _ _).trans (Vt ?_$ JI r a os (j+1) p$ k+1)];erw[(Xl _ _).trans ?_];show((one _ o _ n H w).app _).an.Perm _;erw[(Xl _ _).trans (Vt ?_$ JI w _ _ _ _ _)];unfold one;by_cases c:aX n H o=μ
   .rw[OT c];by_cases f:o.2.2.fnd=w.fnd
    .rw[OT f,OT #[c,f]];rwa[Rx _]
    .rw[OU f,OU (λz=>f z.2)];rwa[Rx _]
   .rw[OU c,OU (λz=>c z.1)];rwa[Rx _]
 | .cl _ _ s _,a,os,m,p,k=>JI s a os m p k
 | .nil,_,_,_,_,_ | .ask _,_,_,_,_,_ | .rd _ _,_,_,_,_,_ | .wr _ _,_,_,_,_,_=>Rx _
theorem qX:∀{b:Bool} {s:Sk},s.ok b->∀(os:xD aO) (m:Nat) (p:aN) (k:Nat),(b=ν->k=0)->(fq s os m p k).Sublist ((s.ws p k).map (·.1))
 |true,.nil,_,_,_,_,_,_=>Sq _
 |true,.st n H w r,o,os,m,p,k,_=>by
  rw[XN];show List.Sublist _ ((((p++[(k:Int)],w)::w.ws (p++[(k:Int)]) 0)++r.ws p (k+1)).map (·.1));rw[O4];erw[List.Sublist.append ?_$ qX o.2 os _ p (k+1) (λz=>by cases z)];unfold Az;cases h:fo os m n H w with
  |none=>rwa[Sq _]
  |some j=>
   let#[_,O,a,_]:=zB h;dsimp only;rw[a];dsimp only;let i:=qX o.1 (sL O.2.2) 0 (p++[(k:Int)]) 0 (λ_=>Z);rw[Rl];split
   .rwa[i.cons _]
   .rwa[i.cons_cons _]
 |false,.cl _ _ s _,o,os,m,p,k,z=>by cases z Z;rwa[qX (b:=μ) (s:=s) o os m p 0 (λz=>by cases z)]
 |false,.ask _,_,_,_,_,_,_ |false,.rd _ _,_,_,_,_,_,_ |false,.wr _ _,_,_,_,_,_,_=>Sq _
def u6{s:Sk}(o:s.ok μ)(os:xD aO)(m:Nat)(p:aN)(k:Nat):D4 (fq s os m p k):=(ZH o p k).sublist (qX o os m p k (λz=>by cases z))
def Xm{s:Sk}(o:s.ok μ)(os:xD aO)(m:Nat)(p:aN)(k:Nat):(fq s os m p k).length<=s.size:=by let:=(qX o os m p k (λz=>by cases z)).length_le;rw[OJ,zb o]at this;rwa[this]
def uZ{s:Sk}(o:s.ok μ){os:xD aO}{m:Nat}{a:aN}{k:Nat}{p:aN}(h:p∈fq s os m a k):p≠[]:=by let#[i,q,_,e]:=QM s a k p ((qX o os m a k (λz=>by cases z)).subset h);rw[e];simp
def yD{l:xD aN}(h:D4 l):l.Nodup:=h.imp λ{a b} z e=>by subst e;let:=Jq z;rw[z]at this;cases this
abbrev Gw:cc:=bV 40
def Ds{M:Nat}{call:lB}{C L f:aU}{p:dJ}{m t i:Nat}{g:Gd}{n:Int}{H:xD Int}{a:Int}{w r:Sk}(h:f8 M call C p m g L t= .ok (.st n H w r) a f i):∃(N:Nat) (c:DZ) (l:aU) (T d:Nat),n=(N:Int)/\g= .go N H/\p.cs[N]?=δ c/\gD M call C (aQ c.nm H) L t c.e= .ok w l T/\f8 M call C p d (nU p c H w.wh) l T= .ok r a f i:=by
 cases g with
 |give b=>let#[e,_]:=Yg h;cases e
 |go N j=>let#[c,W,l,T,R,d,k,o,e,q]:=wb h;injection e with E s u v;subst E;subst s;subst u;subst v;rwa[#[N,c,l,T,d,Z,Z,k,o,q]]
def Eu{M:Nat}{call:lB}{C L l:aU}{p:dJ}{m t T:Nat}{g:Gd}{a:Int}(h:f8 M call C p m g L t= .ok .nil a l T):g= .give a/\l=L:=by
 cases g with
 |give b=>let#[_,e,E]:=Yg h;rwa[#[by rw[e],E]]
 |go n H=>let#[_,_,_,_,_,_,_,_,e,_]:=wb h;cases e
def uR(p:xD dJ)(f:ρ)(i:xD Int)(s:Sk)(a:Int):Prop:=∃(M:Nat) (C:aU) (j:Nat) (L:aU) (t:Nat) (l:aU) (T:Nat),aV M p C j f i L t= .ok s a l T
def Hr(a:Int):xD aO->Gd
 | []=>.give a
 |s::_=>.go s.1.toNat s.2.1
structure Mt(pds:xD dJ)(pd:dJ)(a:Int)(s:aO)(r:xD aO):Prop where
 ex:∃(n:Nat) (cd:DZ),s.1=(n:Int)/\pd.cs[n]?=δ cd/\dj s.2.2=sR (aQ cd.nm s.2.1) cd.e/\Hr a r=nU pd cd s.2.1 s.2.2.wh
 cl:∀f is s' b,s.2.2= .cl f is s' b->uR pds f is s' b
def v6{M:Nat}{call:lB}{C L l:aU}{p:dJ}{m t T:Nat}{g:Gd}{a:Int}{s:Sk}(o:s.ok μ)(h:f8 M call C p m g L t= .ok s a l T):g=Hr a s.steps:=by
 cases s with
 |nil=>rwa[(Eu h).1]
 |st n H w r=>let#[N,c,b,d,f,e,E,_]:=Ds h;rw[E,e];rfl
 |ask _ |rd _ _ |wr _ _ |cl _ _ _ _=>rwa[o.elim]
def sS{M:Nat}{d:xD dJ}{call:lB}(o:∀f i L t s a m n,call f i L t= .ok s a m n->uR d f i s a){C k L r:aU}{t u:Nat}{e:DD}{w:Sk}(h:gD M call C k L t e= .ok w r u):∀f i s b,w= .cl f i s b->uR d f i s b:=by
 intro f i s b E;subst E;by_cases H:t < M
 .cases e with
  |ask p T=>rw[Xf H]at h;cases h
  |st p l=>
   cases l with
   |rd x a T=>rw[ZB H]at h;cases h
   |wr a b T U=>rw[ZC H]at h;cases h
   |cl x g q v=>
    rw[qu H]at h;cases j:call g (v.map λc=>c.2.ev k) L (t+1) with
    |ok S A m n=>rw[j]at h;cases h;rwa[o _ _ _ _ _ _ _ _ j]
    |long |deep=>rw[j]at h;cases h
   |st x a T |gv a T=>unfold gD at h;rw[OT H]at h;cases h
 .rw[Kf H]at h;cases h
theorem wc{M:Nat}{p:xD dJ}{call:lB}(i:∀f I L t s a l T,call f I L t= .ok s a l T->uR p f I s a){C:aU}{j:dJ}{a:Int}:∀{s:Sk} {L l:aU} {m t T:Nat} {g:Gd},s.ok μ->f8 M call C j m g L t= .ok s a l T->∀{k:Nat} {st:aO},s.steps[k]?=δ st->Mt p j a st (s.steps.drop$ k+1)
 | .nil,_,_,_,_,_,_,_,_,k,st,c=>by simp [Sk.steps]at c
 | .st n u w r,L,l,m,t,T,g,o,h,k,st,c=>by
  let#[N,q,v,x,y,e,E,d,H,b]:=Ds h;cases k with
  |zero=>cases c;rwa[#[#[N,q,e,d,KF H,(v6 o.2 b).symm],sS i H]]
  |succ k=>rwa[wc i o.2 b (by simpa [Sk.steps] using c)]
 | .ask _,_,_,_,_,_,_,o,_,_,_,_ | .rd _ _,_,_,_,_,_,_,o,_,_,_,_ | .wr _ _,_,_,_,_,_,_,o,_,_,_,_ | .cl _ _ _ _,_,_,_,_,_,_,o,_,_,_,_=>o.elim
def uR.steps{b:xD dJ}{f:ρ}{i:xD Int}{s:Sk}{a:Int}{p:dJ}(h:uR b f i s a)(H:eZ b f=δ p)(o:s.ok μ):gg (nR p) (cy p.way.sets$ aQ p.ps i) p.way.goal=Hr a s.steps/\∀{k:Nat} {st:aO},s.steps[k]?=δ st->Mt b p a st (s.steps.drop$ k+1):=by
 let#[M,C,j,L,t,l,T,h]:=h;cases j with
 |zero=>cases h
 |succ j=>have h:(match eZ b f with |none=>OC.long |some p=>f8 M (aV M b C j) C p (M+2) (gg (nR p) (cy p.way.sets$ aQ p.ps i) p.way.goal) L t)= .ok s a l T:=h;rw[H]at h;rwa[#[v6 o h,wc (λf i L t s a l T z=>#[M,C,j,L,t,l,T,z]) o h]]
def dX(a b c:ζ)(H h:Hp):Prop:=∀x o,x≠a->x≠b->x≠c->H x=δ o->h x=δ o
def dX.of2{a b c:ζ}{H d:Hp}(h:bf a b H d):dX a b c H d:=λ_ _ n N _ e=>h _ _ n N e
def dX.of_same{a b c:ζ}{H d:Hp}(h:aa H d):dX a b c H d:=λ_ _ _ _ _ e=>h _ _ e
def dX.trans{a b c:ζ}{H d f:Hp}(h:dX a b c H d)(k:dX a b c d f):dX a b c H f:=λx o n N g e=>k x o n N g (h x o n N g e)
def Hm(a b c:ζ)(H h:Hp):Prop:=∀x o,x≠a->x≠b->x≠c->NX o->H x=δ o->h x=δ o
def Fl.next3{E:XK}{L a b c:ζ}{H:Hp}(h:Fl E L (Hm a b c H)):Fl (mq E) L (Hm a b c H):=λd l k x T t c e f m g=>by cases e;rwa[h d _ λb o N i j n e=>qf (H:=H) (k b o N i j n e) n f g]
def i5.next3{A B:Prop}{E:XK}{T t a b c:ζ}{H:Hp}(h:i5 A B E T t (Hm a b c H)):i5 A B (mq E) T t (Hm a b c H):=#[λa=>(h.1 a).next3,λb=>(h.2 b).next3]
structure An(H:Hp)(aA:ζ)(X:xD aN):Prop where
 ex:∃(as:xD V) (qs:xD aN),H aA=δ (.lst as)/\bh em H qs as/\qs.Perm X
def An.pm{H:Hp}{a:ζ}{X Y:xD aN}(h:An H a X)(l:X.Perm Y):An H a Y:=let #[A,q,b,c,d]:=h.ex;#[A,q,b,c,d.trans l]
def An.keep{H b:Hp}{a:ζ}{X:xD aN}(h:An H a X)(k:am H b)(e:∀o,H a=δ o->b a=δ o):An b a X:=let #[A,q,c,d,f]:=h.ex;#[A,q,e _ c,d.mono bG k,f]
def An.same{H a:Hp}{A:ζ}{X:xD aN}(h:An H A X)(s:aa H a):An a A X:=h.keep (aa.tm s) λo e=>s _ _ e
def An.ne{H:Hp}{C r d:ζ}{e:xD (ρ×V)}{c l p a:ζ}{m:Int}{t:Nat}{X:xD aN}{L f:aU}(h:An H a X)(R:Rn H C r d e c l p m t L f):a≠r/\a≠l/\a≠c:=let #[A,_,b,_]:=h.ex;#[jM b R.ins nofun,jM b R.lf nofun,jM b R.ce nofun]
def An.tm{H a:Hp}{C r d:ζ}{E:xD (ρ×V)}{c l p A:ζ}{m:Int}{t:Nat}{X:xD aN}{L f:aU}(h:An H A X)(R:Rn H C r d E c l p m t L f)(k:dX r l A H a):am H a:=λb x e=>by let#[i,_,g,_]:=h.ex;rwa[k b _ (jM e R.ins nofun) (jM e R.lf nofun) (jM e g nofun) e]
def An.add{H:Hp}{A:ζ}{a y:xD V}{q r X:xD aN}(h:H A=δ (.lst a))(c:bh em H q a)(d:bh em H r y)(p:(q++r).Perm X):An (af H A$ .lst$ a++y) A X:=by
 let t:am H (af H A$ .lst$ a++y):=λb x e=>by rw[jh$ jM e h nofun];rwa[e]
 rwa[#[a++y,q++r,jc,bh.app (d.mono bG t)$ c.mono bG t,p]]
theorem vU{P:aO->Bool}{os:xD aO}:∀(d m:Nat),l8 P os m=θ->∀{s:aO},os[m+d]?=δ s->P s=ν
 |d,m,h,s,e=>by
  let a:m < ry os:=by let:=(ξ.mp e).1;omega
  let H:=h;rw[YR$ OG a]at H;by_cases c:P os[m]=μ
  .rw[OT c]at H;cases H
  .rw[OU c]at H;cases d with
   |zero=>rw[Y',OG a]at e;cases e;simpa using c
   |succ d=>rwa[vU d (m+1) H (by rw[show m+1+d=m+(d+1) by omega];rwa[e])]
inductive my(g:xD V)(H:Hp)(Q:VK)(b:XK):Prop
 |mk(e:ζ)(d:xD V)(_:H e=δ (.tup d))(_:(g=[.ref e,.non]/\Q .non H)\/∃(p h:ζ) (k:Nat) (n:Int) (u:V) (w:Sk),g=[.ref e,.int (k:Int)]/\d[k]?=↑p/\H p=δ (.tup [.int n,.ref h,u])/\eI H w u []/\w.ok ν/\∀ov,(((∀f is s a,w≠ .cl f is s a)/\ov= .non)\/∃(f:ρ) (is:xD Int) (s:Sk) (a:Int) (c:ζ),w= .cl f is s a/\ov= .ref c/\gN H f is s a (.ref c))->Q ov H)
inductive GN(C l i z:ζ)(j:Nat)(I:xD V)(H:Hp)(Q:VK)(E:XK):Prop
 |mk(M:Nat)(r u n o y D g:ζ)(F:aN)(b t:Nat)(X:xD aN)(m:Sk->xD aN)(L h k:aU)(B G:V)(e:DD)(K:xD ρ)(p:xD Df)(A:xD Nat)(J:xD V)(d:xD dJ)(_:I=[.ref r,.ref g,B,G,.int (b:Int)])(_:b+j=15)(_:Rn H C r u (dM n) o y D M t L h)(_:An H n X)(_:ry X<=t)(_:ry L<=t)(_:t<=M)(_:Ps H z D p A J d)(_:H g=δ (.tup (F.map tT)))(_:ry F+j<=60)(_:F≠[])(_:aR H (sR k e) G [])(_:uT H K e)(_:GT k)(_:e.Cs ((p.map Df.f).zip A))(_:(B= .non/\m=λw=>(c7 F w).tail)\/∃(p0:ζ) (x f:ρ) (q:ζ) (ts:xD (ζ×Tm)) (s:Sk) (a:Int) (c:ζ),e= .st p0 (.cl x f q ts)/\B= .ref c/\gN H f (ts.map λc=>c.2.ev k) s a (.ref c)/\s.ok μ/\s.size<=1000/\uR d f (ts.map λc=>c.2.ev k) s a/\m=λw=>fq w s.steps 0 F 0)(_:∀(w:Sk) (v:V) (L':aU) (H':Hp),gD M (aV M d h j) h k L t e= .ok w L' (t+1+w.size)->eI H' w v []->w.ok ν->HL e w.wh->w.dep<=j->Rn H' C r u (dM n) o y D M (t+1+w.size) L' h->ry L'<=t+1+w.size->t+1+w.size<=M->An H' n (X++m w)->dX r y n H H'->Q v H')(_:i5 (gD M (aV M d h j) h k L t e= .long) (gD M (aV M d h j) h k L t e= .deep) E l i (Hm r y n H))
inductive n8(C k h u:ζ)(j:Nat)(B:xD V)(H:Hp)(Q:VK)(E:XK):Prop
 |mk(M:Nat)(r p l n s x f c:ζ)(y:aN)(b t i:Nat)(X:xD aN)(L g:aU)(A:Sk)(m:Int)(d:Df)(o:xD Df)(w:xD Nat)(D:xD V)(e:xD dJ)(q:xD Int)(_:B=[.ref r,.ref f,.ref c,.int (b:Int)])(_:b+j=16)(_:1<=j)(_:Rn H C r p (dM l) n s x M t L g)(_:An H l X)(_:ry X<=t)(_:ry L<=t)(_:t<=M)(_:Ps H u x o w D e)(_:H f=δ (.tup (y.map tT)))(_:ry y+j<=60)(_:o[i]?=δ d)(_:w[i]?=δ q.length)(_:∀z∈q,hV z)(_:gN H d.f q A m (.ref c))(_:A.ok μ)(_:A.size<=1000)(_:uR e d.f q A m)(_:∀(v:V) (sk:Sk) (a:Int) (L':aU) (H':Hp),aV M e g j d.f q L t= .ok sk a L' (t+sk.size)->gN H' d.f q sk a v->sk.ok μ->sk.dep+1<=j->hV a->Rn H' C r p (dM l) n s x M (t+sk.size) L' g->ry L'<=t+sk.size->t+sk.size<=M->An H' l (X++fq sk A.steps 0 y 0)->dX r s l H H'->Q v H')(_:i5 (aV M e g j d.f q L t= .long) (aV M e g j d.f q L t= .deep) E k h (Hm r s l H))
def gN.mono'{H b:Hp}{f:ρ}{i:xD Int}{s:Sk}{a:Int}{u:V}(h:gN H f i s a u)(k:am H b):gN b f i s a u:=let #[c,g,e,S,E,d,j,l,m]:=h;#[c,g,e,S,E,k _ _ d,k _ _ j,k _ _ l,m.mono k]
def vA(x:V)(X:xD V):aT (x::X) (δ 1) θ=X:=by unfold aT HT.sIx;simp
def xI{H:Hp}{p:aN}{w:Sk}{X:xD V}(b:p≠[])(h:bh em H (c7 p w) X):∃y,aT X (δ 1) θ=y/\ry y=(w.ws p 0).length/\bh em H (c7 p w).tail y:=by let#[x,r,Z,_,a]:=h;rwa[#[r,vA _ _,by rw[a.len,OJ],a]]
def Lp:aj ["steps","at"] ["steps","at"] (ae Gw):=bQ
def FE{f:ζ}{t:bS}(F:xb K "chain_taken" Gw f t):⇑1 f t ["steps","at"] my:=by
 erw[F.ok Lp (len:=by rintro _ _ _ _⟨e,S,_,⟨rfl,_⟩ | ⟨p,h,k,n,u,w,rfl,_⟩⟩<;>rfl) λC A o s H V Q E N h=>?_]
 let#[e,S,j,h]:=h;rcases h with ⟨rfl,q⟩ | ⟨p,h,k,n,u,w,rfl,l,m,v,r,q⟩
 .erw[#[_,(jd (jy (PW.pt$ Kl (YI$ @xu _ _ _ _ _$ pv 1)$ qQ$ jz QH (jw$ jq jC (jq jC (pv 0) (pv 1)) jf) jm$ aF _) (jg$ jo$ @kl _ _ _) jp)$ jg$ jo$ jw$ jq jC (jq jC (pv 0) (pv 1)) jf),?_]];try dsimp only[gR,Cx.nox,Cx.wish]
  rwa[ai λx d=>#[_,Z,_,Z,c8 (by rw[OY Z]) q]]
 erw[#[_,(jd (jy (PW.pt$ Kl (YI$ @xu _ _ _ _ _$ pv 1)$ qQ$ jz QH (jw$ jq jC (jq jC (pv 0) (pv 1)) jf) jm$ aF _) (jg$ jo$ @kl _ _ _) jp)$ jg$ jo$ jw$ jq jC (jq jC (pv 0) (pv 1)) jf),?_]];let B:=aL;cases w with
 |nil |st _ _ _ _=>rwa[r.elim]
 |ask _ |rd _ _ |wr _ _=>let#[i,Z,G]:=v;erw[ai λx d=>#[_,Z,_,Z,aY (by rw[OR nofun]) #[_,Z,_,Z,e,_,_,_,Z,Z,aC.of j,jG l,p,_,_,_,Z,Z,aC.of m,dC,i,_,_,_,Z,Z,aC.of G,dQ,Z,_,Z,c8 N7$ q _$ .inl #[λf I s a z=>(by cases z),Z]]]]
 |cl f I s a=>let#[i,c,g,D,Y,Z,G,J,g3,L,M]:=v;erw[ai λx d=>#[_,Z,_,Z,aY (by rw[OR nofun]) #[_,Z,_,Z,e,_,_,_,Z,Z,aC.of j,jG l,p,_,_,_,Z,Z,aC.of m,dC,i,_,_,_,Z,Z,aC.of G,dQ,Z,_,Z,aY N7$ d _ _ ?_]]];rwa[#[_,Z,_,Z,e,_,_,_,Z,Z,aC.of j,jG l,p,_,_,_,Z,Z,aC.of m,dC,i,_,_,_,Z,Z,aC.of G,gQ,q _$ .inr #[f,I,s,a,c,Z,Z,#[c,g,D,Y,Z,J,g3,L,M]]]]
def DO:aj ["self","path","old","deed","deep","what"] z26z (ae BZ):=bQ
def IP{f:ζ}{fd:bS}{j:Nat}{C TL TD nA fW fT fA fD fP:ζ}{f0 f2 f3 f4 f5:bS}(F:aS K "what_along" "AgainRun.what_along" BZ f fd)(ck:RK K C)(n6:a9 K C "anew")(GW:ah P w K mg base (dH P w) (2*j+13) fW f0 z11z (iQ C TL TD nA j))(bW:aE K f0 z11z [])(m0:bj K C "what_of" fW)(GT:ah P w K mg base (dH P w) 1 fT f2 ["self"] (gw C TL))(bT:aE K f2 ["self"] [])(m1:bj K C "take_turn" fT)(GA:ah P w K mg base (dH P w) (2*j+38) fA f3 z15z (n8 C TL TD nA j))(bA:aE K f3 z15z [])(m2:bj K C "chain_along" fA)(GD:ah P w K mg base (dH P w) 1 fD f4 ["deep"] (dS TD))(bD:aE K f4 ["deep"] [])(kD:fJ K (.ref fD)=μ)(mD:mg "deeper"=↑fD)(cP:‹36› fP f5 z9z (ou 17) "paths_at"):ah P w K mg base (dH P w) (2*j+39) f fd z26z (GN C TL TD nA j):=by
 erw[F.ok1 DO λc0 A o1 s H vs Q E hr h=>?_]
 let#[M,r,D,l,G,y,I,R,ps,u,t,X,Yf,L,Cs,k,ov,ud,e,ys,ds,ns,xs,U,Z,h3,n,hA,h4,h5,ht,hP,N,h6,h7,h8,h0,gk,h1,h',q,J]:=h;erw[#[_,(jd (jy (jz qv (pv 2) (@kl _ _ _)$ aF _) (jd (jA 5 DO.nd$ kh (pv 0) ck.cl m0 GW hr.m bW .nil ke$ ja (pv 3)$ ja (pv 4) jb)$ jd (jL$ jZ OV Ri Rh zD (kY (pv 0) Z)$ ja (jI km (cP.e hr.m$ ja (pv 1)$ ja (pv 5) jb) (jH jf) jT) jb)$ jg$ jo$ pv 5) jp)$ jd (jL$ XT (pv 0) ck.cl m1 GT hr.m bT .nil ke)$ jg$ jo$ ji$ ja jm$ ja (kh (pv 0) ck.cl m2 GA hr.m bA .nil ke$ ja (pv 1)$ ja (pv 2)$ ja (kC GD hr.m Z mD kD bD .nil ke$ ja (pv 4) jb) jb) jb),?_]];let b0:=aL;let hM:=n.hm;let#[nr,nl,nc]:=hA.ne n;rcases h' with ⟨rfl,rfl⟩ | ⟨p0,x,f',q',ts,so,ao,c,rfl,rfl,a0,o2,s0,h2,rfl⟩
 .erw[ai λF1 B=>#[_,Z,Z,_,Z,c8 (OY Z) ?_]];erw[ai λF1 B=>#[_,Z,r,D,_,Z,n.ins,n.tl.w,_,Z,_,Z,M,r,D,dM l,G,y,I,u,t,L,Cs,k,ud,e,ys,ds,ns,xs,U,Z,h3,n,h5,ht,hP,h8,h0,gk,h1,λw v _L V e1 hw W ft d0 R2 l2 t2 k2=>B _ _ ?_,(i5.next$ J.mono λV Y=>λb o O n2 _ nx e=>Y b o O n2 nx e)]];let t0:=n.tm k2;let#[as,qs,a1,a3,aP]:=(hA.keep t0 λo e=>k2 _ _ nr nl e).ex;let a2:ry as<=t:=by rw[a3.len,aP.length_eq];rwa[h4]
  erw[ai λF1 B=>#[_,Z,r,C,D,_,_,Z,R2.ins,ck.cl,n6,Z,.inl #[Z,_,aK.of a1],_,Z,_,Z,R,ps,w,v,Z,t0 _ _ N,N9,hw,W,N9,N9,λrl x H3 n0 a5 a' s3=>#[_,Z,rl,x,Z,aK.of a5,λp np=>?_]]];let#[zs,ez,lz,hz]:=xI h7 a';let e0:aT x (δ 1) θ=zs:=ez;rw[zb W]at lz;let S:aa V (af H3 p$ .lst$ aT x (δ 1) θ):=s3.trans (je np);let e4:af H3 p (.lst$ aT x (δ 1) θ) p=δ (.lst zs):=by rw[<- e0];rwa[jc]
  let t1:am H3 (af H3 p$ .lst$ aT x (δ 1) θ):=aa.tm (je np);generalize af H3 p (.lst$ aT x (δ 1) θ)=H4 at S e4 t1 ⊢;let a4:=S _ _ a1;erw[#[l,p,as,zs,Z,Z,a4,e4,N9,B _ _ ?_]];let A5:An (af H4 l$ .lst$ as++zs) l (X++(c7 ps w).tail):=An.add a4 (a3.mono bG$ aa.tm S) (hz.mono bG t1) (aP.append_right _);let b5:dX r y l H4 (af H4 l$ .lst$ as++zs):=λb o _ _ n3 e=>by rw[jh n3];rwa[e]
  let t3:am H4 (af H4 l$ .lst$ as++zs):=λb xs e=>by rw[jh$ jM e a4 nofun];rwa[e]
  let R5:Rn (af H4 l$ .lst$ as++zs) C r D (dM l) G y I M (t+1+w.size) _L Cs:=#[by rw[jh nr.symm];rwa[S _ _ R2.ins],by rw[jh nl.symm];rwa[S _ _ R2.lf],by rw[jh nc.symm];rwa[S _ _ R2.ce],R2.iL,R2.iC,R2.cl,R2.tl,R2.hm];rwa[#[_,Z,q w v _L _ e1 ((hw.mono$ aa.tm S).mono t3) W ft d0 R5 l2 t2 A5 (((dX.of2 k2).trans$ dX.of_same S).trans b5)]]
 .let#[i,d,hd,hn,Z]:=hP.find h1;let#[_,_,_,o3,_]:=h0;erw[ai λF1 B=>#[_,Z,Z,_,Z,aY (OR (λz=>by cases z))$ B _ _ ?_]];erw[ai λF1 B=>#[_,Z,r,D,_,Z,n.ins,n.tl.t,r,D,dM l,G,y,I,M,t,Z,n.ins,n.tl,λlt=>B _ _ ?_,λge=>((J.1$ Kf N9).mono λH' Y=>λb o _ _ _ nx e=>Y b o nx e).nextK]];let T:am H (af H r$ .ins C D$ dI (dM l) G y I M$ t+1):=λb xs e=>by rw[jh$ jM e n.ins nofun];rwa[e]
  let R1:Rn (af H r$ .ins C D$ dI (dM l) G y I M$ t+1) C r D (dM l) G y I M (t+1) L Cs:=#[jc,by rw[jh n.rl.1.symm];rwa[n.lf],by rw[jh n.rl.2.symm];rwa[n.ce],n.iL,n.iC,n.cl,n.tl,n.hm];let k1:dX r y l H (af H r$ .ins C D$ dI (dM l) G y I M$ t+1):=λb o O _ _ e=>by rw[jh O];rwa[e]
  let A1:An (af H r$ .ins C D$ dI (dM l) G y I M$ t+1) l X:=hA.keep T λo e=>by rw[jh nr];rwa[e]
  generalize af H r (.ins C D$ dI (dM l) G y I M$ t+1)=H1 at T R1 k1 A1;let lt':t+1<=M:=by omega
  erw[#[_,Z,r,D,_,Z,R1.ins,Z,_,Z,_,Z,_,Z,(u:Int),Z,λdl=>?_,λdg=>((J.2 (by let z:j=0:=N9;rw[qu N9,z];rfl)).mono λV Y=>λb o O n2 n3 nx e=>Y b o nx (k1 b o O n2 n3 e)).nextK]];erw[#[M,r,D,l,G,y,I,R,c,ps,u+1,t+1,i,X,L,Cs,so,ao,d,ds,ns,xs,U,ts.map λc=>c.2.ev k,Z,N9,N9,R1,A1,N9,N9,lt',hP.mono T,T _ _ N,h6,hd,by rw[OJ];rwa[hn],λz hz=>?_,gN.mono' a0 T,o2,s0,h2,λv sk a L' V eq hc ok dp ia R2 l2 t2 A2 k2=>?_,i5.next3 ((J.imp (λz=>by rw[qu N9,z];rfl) (λz=>by rw[qu N9,z];rfl)).mono λV Y=>λb o O n2 n3 nx e=>Y b o O n2 n3 nx (k1 b o O n2 n3 e))]]
  .let#[c,hc,Z]:=dr.mp hz;rwa[Jc gk (o3.2.2 c hc).1]
  .let#[c2,g,ee,ss,Z,c1,c3,c4,c5]:=hc;erw[#[cj,λv2 nv=>?_]];let s2:aa V (af V v2$ .tup [.str "call",.ref c2]):=je nv;rwa[q (.cl d.f (ts.map λc=>c.2.ev k) sk a) _ L' _ (by rw[qu N9,eq];rfl) #[v2,c2,g,ee,ss,Z,jc,s2 _ _ c1,s2 _ _ c3,s2 _ _ c4,c5.mono$ aa.tm s2] ok ia (by show sk.dep+1<=j;rwa[N09]) (R2.same s2) l2 t2 (A2.same s2) ((k1.trans k2).trans$ dX.of_same s2)]
inductive lO(b:xD V)(H:Hp)(Q:VK)(a:XK):Prop
 |mk(u:V)(w:Sk)(_:b=[u])(_:eI H w u [])(_:w.ok ν)(_:Q (.int w.fnd) H)
def LU{w W:Sk}(o:w.ok ν)(O:W.ok ν)(h:dj w=dj W)(f:w.fnd=W.fnd):w.wh=W.wh:=by
 let n:∀{a b:ρ} {x y:xD Tr},a≠b->ay (aM a::x)=ay (aM b::y)->False:=λH e=>H (qh e);cases w with
 |nil |st _ _ _ _=>rwa[o.elim]
 |ask b=>
  cases W with
  |nil |st _ _ _ _=>rwa[O.elim]
  |ask B=>rwa[P' Wh.ask f]
  |rd _ _ |wr _ _ |cl _ _ _ _=>rwa[(n Oa h).elim]
 |rd c i=>
  cases W with
  |nil |st _ _ _ _=>rwa[O.elim]
  |ask B |wr _ _ |cl _ _ _ _=>rwa[(n Oa h).elim]
  |rd C I=>
   let f:i=I:=f;let e:c=C:=by injection h with h;injection h with _ h;injection h with h _;injection h with h;injection h
   show Wh.rd c i=Wh.rd C I;rw[e,f]
 |wr c i=>
  cases W with
  |nil |st _ _ _ _=>rwa[O.elim]
  |ask B |rd _ _ |cl _ _ _ _=>rwa[(n Oa h).elim]
  |wr C I=>
   let f:i=I:=f;let e:c=C:=by injection h with h;injection h with _ h;injection h with h _;injection h with h;injection h
   show Wh.wr c i=Wh.wr C I;rw[e,f]
 |cl g j s a=>
  cases W with
  |nil |st _ _ _ _=>rwa[O.elim]
  |ask B |rd _ _ |wr _ _=>rwa[(n Oa h).elim]
  |cl G d S A=>have f:a=A:=f;let#[E,k]:=Js h;show Wh.cl g j a=Wh.cl G d A;rw[E,k,f]
def Io{H:Hp}{y:xD ρ}{k:aU}{e:DD}(h:uT H y e):∃w:Sk,w.ok ν/\dj w=sR k e/\∀f i s a,w= .cl f i s a->∃g x q d,e= .st g (.cl x f q d)/\i=d.map λc=>c.2.ev k:=by
 cases e with
 |ask t T=>rwa[#[.ask (if T.ev k=0 then 0 else 1),trivial,Z,λf i s a z=>by cases z]]
 |st p l=>
  let#[v,_,_,_,C]:=h;cases l with
  |rd x a T=>rwa[#[.rd (T.ev k) 0,trivial,Z,λf i s a z=>by cases z]]
  |wr a b T U=>rwa[#[.wr (T.ev k) (U.ev k),trivial,Z,λf i s a z=>by cases z]]
  |cl x f q d=>
   erw[#[.cl f (d.map λc=>c.2.ev k) .nil 0,trivial,?_,λF i s a z=>?_]]
   .show ay [aM "call",aM f,ay ((d.map λc=>c.2.ev k).map ar)]=ay [aM "call",aM f,ay$ d.map λc=>ar (c.2.ev k)];rw[RU];rfl
   .cases z;rwa[#[p,x,q,d,Z,Z]]
  |st x a T |gv a T=>cases C
def AN{H:Hp}{y:xD ρ}{k:aU}{e:DD}(h:uT H y e){f:ρ}{i:xD Int}{s:Sk}{a:Int}(d:dj (.cl f i s a)=sR k e):∃p x q t,e= .st p (.cl x f q t)/\i=t.map λc=>c.2.ev k:=by
 let#[w,o,D,j]:=Io (k:=k) h;rw[<- D]at d;cases w with
 |nil |st _ _ _ _=>rwa[o.elim]
 |ask b |rd b c |wr b c=>rwa[absurd (qh d) Oa]
 |cl g J S A=>let#[E,l]:=Js d;subst E;subst l;rwa[j _ _ _ _ Z]
def vX{H:Hp}{c:xD V}{k:Nat}{S:Sk}{A:Int}{Q:VK}(d:eI H S .non c)(o:S.ok μ)(x:k<=ry c)(g:∀st,S.steps[k]?=δ st->∃n:Nat,st.1=(n:Int))(q:∀v a,aR a (Mg$ Hr A$ S.steps.drop k) v []->aa H a->Q v a):(∃(p h:ζ) (n:Int) (d:xD Int) (u:V),c[k]?=↑p/\H p=δ (.tup [.int n,.ref h,u])/\H h=δ (.tup$ d.map tT)/\∀(v:V) (a:Hp),aR a (ay [aM "go",ar n,ay$ d.map ar]) v []->aa H a->Q v a)\/(k=ry c/\∀(v:V) (a:Hp),aR a (ay [aM "give",ar A]) v []->aa H a->Q v a):=by
 let L:=kU o d;by_cases h:k < ry c
 .let#[n,b,w,p,i,u,f,_,_,_,j,l,m,_]:=zJ o d (OG h);erw[.inl #[p,i,n,b,u,by rw[<- j];rwa[OG h],l,m,λv a t s=>q v a ?_ s]];let e:S.steps.drop k=(n,b,w)::S.steps.drop (k+1):=by let#[r,e]:=ξ.mp f;rw[U2 r,e]
  let#[N,E]:=g _ f;let E:n=(N:Int):=E;rw[e];show aR a (ay [aM "go",ar ((n.toNat:Nat):Int),ay$ b.map ar]) v [];rw[E]at t ⊢;rwa[t]
 .erw[.inr #[N9,λv a t s=>q v a ?_ s]];rw[List.drop_eq_nil_iff.mpr N9];rwa[t]
def Yk{os:xD aO}{m j:Nat}{w:Sk}(h:gi os m w=δ j):∃f i s a,w= .cl f i s a/\l8 (di f i) os m=δ j:=by
 cases w with
 |cl f i s a=>rwa[#[f,i,s,a,Z,h]]
 |_=>cases h
def Md(os:xD aO)(p:aN)(t:xL Nat)(Y:Sk->xD aN):Prop:=match t with
 |none=>Y=λw=>(c7 p w).tail
 |some j=>∃o,os[j]?=δ o/\((∃f i s a,o.2.2= .cl f i s a/\Y=λw=>fq w s.steps 0 p 0)\/((∀f i s a,o.2.2≠ .cl f i s a)/\Y=λw=>(c7 p w).tail))
def yU{w:Sk}(o:w.ok ν)(p:aN):(c7 p w).tail.length=w.size:=by show((w.ws p 0).map (·.1)).length=_;rw[OJ,zb o]
def Md.len{os:xD aO}{p:aN}{t:xL Nat}{Y:Sk->xD aN}(h:Md os p t Y){w:Sk}(o:w.ok ν):(Y w).length<=w.size:=by
 let k:Y=(λw=>(c7 p w).tail)\/∃s:Sk,Y=λw=>fq w s.steps 0 p 0:=by
  cases t with
  |none=>rwa[.inl h]
  |some j=>
   obtain⟨o,_,⟨f,i,s,a,_,e⟩ | ⟨_,e⟩⟩:=h
   .rwa[.inr #[s,e]]
   .rwa[.inl e]
 rcases k with rfl | ⟨s,rfl⟩
 .rwa[TZ$ yU o p]
 .let:=(qX (b:=ν) o s.steps 0 p 0 (λ_=>Z)).length_le;rw[OJ,zb o]at this;rwa[this]
def AA{w:Sk}(o:w.ok ν)(n:∀f i s a,w≠ .cl f i s a)(os:xD aO)(p:aN):(c7 p w).tail=[]/\fq w os 0 p 0=[]:=by
 cases w with
 |nil |st _ _ _ _=>rwa[o.elim]
 |cl f i s a=>rwa[absurd Z (n f i s a)]
 |_=>rwa[#[Z,Z]]
def Ea{os:xD aO}{m:Nat}{n:Int}{h:xD Int}{w:Sk}{pn:aN}{k:Nat}{t:xL Nat}{Y:Sk->xD aN}(c:fo os m n h w=t)(H:Md os (pn++[(k:Int)]) t Y)(O:w.ok ν)(d:∀j o,t=δ j->os[j]?=δ o->(∀f i s a,o.2.2≠ .cl f i s a)->∀f i s a,w≠ .cl f i s a):
  ((∀j o,t=δ j->os[j]?=δ o->¬(aX n h o=μ/\o.2.2.fnd=w.fnd))->(Y w++[pn++[(k:Int)]]).Perm (Az os m n h w pn k))/\(∀j o,t=δ j->os[j]?=δ o->aX n h o=μ->o.2.2.fnd=w.fnd->(Y w).Perm (Az os m n h w pn k)):=by
 unfold Az;rw[c];cases t with
 |none=>have H:Y=λw=>(c7 (pn++[(k:Int)]) w).tail:=H;subst H;erw[#[λ_=>?_,λj o z=>by cases z]];show((w.ws (pn++[(k:Int)]) 0).map (·.1)++[pn++[(k:Int)]]).Perm ((pn++[(k:Int)])::(w.ws (pn++[(k:Int)]) 0).map (·.1));rwa[Ua]
 |some j=>
  let#[o,b,l]:=H;dsimp only;rw[b];dsimp only;let p:Y w=fq w (sL o.2.2) 0 (pn++[(k:Int)]) 0:=by
   rcases l with ⟨f,i,s,a,e,rfl⟩ | ⟨N,rfl⟩
   .rw[e];rfl
   .let#[g,E]:=AA O (d j o Z b N) (sL o.2.2) (pn++[(k:Int)]);rw[E];rwa[g]
  rw[p];erw[#[λq=>?_,λJ v g E r u=>?_]]
  .rw[OU$ q j o Z b];rwa[Ua]
  .cases g;rw[b]at E;cases E;rw[OT #[r,u]];rwa[Rx _]
def wz{os:xD aO}{m:Nat}{w W:Sk}(o:w.ok ν)(O:W.ok ν)(h:dj w=dj W):gi os m w=gi os m W:=by
 by_cases c:∃f i s a,W= .cl f i s a
 .let#[f,i,s,a,Z]:=c;let#[S,A,Z]:=KG o h;rfl
 .let e:gi os m W=θ:=by
   cases W with
   |cl f i s a=>rwa[absurd #[f,i,s,a,Z] c]
   |_=>rfl
  let E:gi os m w=θ:=by
   cases w with
   |cl f i s a=>let#[S,A,Z]:=KG O h.symm;rwa[absurd #[_,_,_,_,Z] c]
   |_=>rfl
  rw[e,E]
def Nr(e:DD)(k:aU)(os:xD aO)(m:Nat):xL Nat->Prop
 |none=>True
 |some j=>m<=j/\∃o,os[j]?=δ o/\∀f i s a,o.2.2= .cl f i s a->∃p x q t,e= .st p (.cl x f q t)/\i=t.map λc=>c.2.ev k
def LO{H:Hp}{e:ζ}{v J:xD V}{Q:VK}{E:XK}{S:Sk}{N:Int}{d:DD}{k:aU}{m:Nat}{T:xL Nat}{b:xD dJ}{R:dJ}(z:J=[.ref e,lE T])(U:H e=δ (.tup v))(g:eI H S .non v)(O:S.ok μ)(W:S.size<=1000)(A:∀{k:Nat} {st:aO},S.steps[k]?=δ st->Mt b R N st (S.steps.drop$ k+1))(B:Nr d k S.steps m T)(C:aN)(q:∀(y:V) (Y:Sk->xD aN),((y= .non/\Y=λw=>(c7 C w).tail)\/∃(D:ζ) (x f:ρ) (q:ζ) (t:xD (ζ×Tm)) (s:Sk) (a:Int) (c:ζ),d= .st D (.cl x f q t)/\y= .ref c/\gN H f (t.map λc=>c.2.ev k) s a (.ref c)/\s.ok μ/\s.size<=1000/\uR b f (t.map λc=>c.2.ev k) s a/\Y=λw=>fq w s.steps 0 C 0)->Md S.steps C T Y->Q y H):
  my J H Q E:=by
 subst z;erw[#[e,v,U,?_]];cases T with
 |none=>rwa[.inl #[Z,q _ _ (.inl #[Z,Z]) Z]]
 |some j=>
  let#[_,o,i,F]:=B;let X:=kU O g;let L:j < ry v:=by rw[X];rwa[(ξ.mp i).1]
  let#[n,hs,w,p,h,u,M,l,_,r,ex,h2,h3,h4]:=zJ O g (OG L);rw[i]at M;cases M;erw[.inr #[p,h,j,n,u,w,Z,by rw[<- ex];rwa[OG L],h2,h4,l,λy G=>?_]];rcases G with ⟨no,rfl⟩ | ⟨f,is,s,a,c,rfl,rfl,I⟩
  .rwa[q _ _ (.inl #[Z,Z]) #[_,i,.inr #[no,Z]]]
  .let#[D,x,q',t,e1,e2]:=F f is s a Z;subst e2;let r:s.size+1<=S.size:=r;rwa[q _ _ (.inr #[D,x,f,q',t,s,a,c,e1,Z,I,l,N9,(A i).cl _ _ _ _ Z,Z]) #[_,i,.inl #[f,_,s,a,Z,Z]]]
abbrev Mh:=Hs
inductive Nc(M:Nat)(a:lB)(pd:dJ)(u:OC)(T C r A y z R Z s c sl:ζ)(d:Df)(b t j:Nat)(X:xD aN)(Y:xD aO)(ps:aN)(w:aU)(v:V)(ss:xD V)(H:Hp)(Q:Nat)(σ:_L.St)(x:Hp):Prop
 |mk(U W o p q:xL V)(P:V)(g:Gd)(m S:Nat)(sk:Sk)(n:xD V)(L:aU)(B:σ=[↑r,↑s,↑c,δ (.int (b:Int)),δ v,↑sl,δ (.int (m:Int)),δ P,U,W,o,p,q])(D:x sl=δ (.lst n))(E:eI x sk .non n)(F:sk.ok μ)(G:sk.dep+1<=j)(I:m<=ry ss)(J:HN x T d P g)(K:Rn x C r A (dM y) z R Z M (t+sk.size) L w)(N:An x y (X++fq sk Y 0 ps 0))(O:ry L<=t+sk.size)(e:t+sk.size<=M)(f:dX r R y H x)(h:Q+t+sk.size=M+1)(i:(f8 M a w pd S g L (t+sk.size)).pre sk=u)(k:M+2<=S+(t+sk.size))(l:m=EL sk Y 0)
def tV{f:ζ}{k:bS}(F:xb K "found_in" ij f k):⇑1 f k ["what"] lO:=by
 erw[F.ok ms λC A o s H v Q E x h=>?_]
 let#[u,w,Z,m,d,q]:=h;erw[#[_,(jg$ jo$ kN (j8$ jw$ pv 0) (jw$ jq jC (pv 0) jf)$ jq jC (pv 0) (xw YJ jf)),?_]];cases w with
 |nil |st _ _ _ _=>rwa[d.elim]
 |ask b |rd a i |wr a i=>let#[p,Z,n]:=m;rwa[(jr n dQ #[Z,_,Z,aY N7 #[_,Z,_,Z,p,_,_,_,Z,Z,aC.of n,Z,q]])]
 |cl f I s i=>let#[p,c,g,e,S,Z,r,t,_]:=m;rwa[(jr r dQ #[Z,_,Z,c8 N7$ jr r gQ #[c,_,_,_,Z,Z,aC.of t,jG (j:=3) Z,q]])]
def gV:aj ["self","path","old","deep","part","steps","mark","goal","here","like","deed","taken","step"] z15z (ae BY):=bQ
def IN{f:ζ}{fd:bS}{j:Nat}{C TL TD nA fN fG fL fV fI fE fO fK fF fW:ζ}{j4 j5 j' k0 k1 k2 k3 k4 k5 f0:bS}(F:aS K "chain_along" "AgainRun.chain_along" BY f fd)(ck:RK K C)(n6:a9 K C "anew")(cN:‹2› fN j4 ["parts","f"] lT "part_of")(cG:‹1› fG j5 ["chain","number"] og "goal_at")(cL:‹1› fL j' ["steps","mark","cut"] lS "like_from")(cV:‹2› fV k0 ["steps","mark","deed"] lR "lender_from")(cI:‹1› fI k1 ["what"] mw "deed_in")(cE:‹9› fE k2 z8z (fc nA) "deed_at")(cO:‹9› fO k3 ["part","step"] (pH nA) "onward")(cK:‹1› fK k4 ["steps","at"] my "chain_taken")(cF:‹1› fF k5 ["what"] lO "found_in")(GW:ah P w K mg base (dH P w) (2*j+39) fW f0 z26z (GN C TL TD nA j))(bW:aE K f0 z26z [])(m0:bj K C "what_along" fW)(ml:mg "len"=θ)(m1:mg "tuple"=θ):ah P w K mg base (dH P w) (2*j+40) f fd z15z (n8 C TL TD nA$ j+1):=by
 erw[F.ok1 gV λr' A k6 s H vs Q E hr h=>?_]
 symm;let#[M,r,dx,aA,cA,lA,pA,p1,c,ps,d0,t,i,X,L,O,U,ao,d,ds,ns,xs,I,is,Z,t8,t',hR,hA,u0,k7,ht,hP,d5,u1,hd,hn,k8,k',o1,s0,d6,q,t5]:=h;erw[#[_,(jd (jA 4 gV.nd$ cN.e hr.m$ ja (kY (pv 0) Z)$ ja (jw$ pv 2) jb)$ jd (jA 5 gV.nd$ jF jb)$ jd (jA 6 gV.nd jf)$ jd (jA 7 gV.nd$ cG.e hr.m$ ja (pv 2)$ ja (pv 6) jb)$ jd (KI Vi (j8$ jw$ pv 7)$ jd (jA 8 gV.nd$ jv jU (pv 1)$ ji$ ja (jO jK Z ml Pz$ ja (pv 5) jb) jb)$ jd (jA 9 gV.nd$ cL.e hr.m$ ja (jw$ pv 2)$ ja (pv 6)$ ja (jI j9 (pv 7) (jH jf) jT) jb)$ jd (jy (jz qv (pv 9) (@kl _ _ _)$ aF _) (jd (jA 10 gV.nd$ cE.e hr.m$ ja (pv 4)$ ja (jw$ pv 7)$ ja (jw$ pv 7) jb)$ jg$ jA 11 gV.nd$ cV.e hr.m$ ja (jw$ pv 2)$ ja (pv 6)$ ja (pv 10) jb)$ jd (jA 10 gV.nd$ cI.e hr.m$ ja (jw$ jq jC (jq jC (pv 2) jf) (pv 9)) jb)$ jg$ jA 11 gV.nd$ pv 9)$ jd (jA 6 gV.nd$ kN (jz qv (pv 11) (@kl _ _ _)$ aF _) (pv 6)$ jv jY (pv 11) jf)$ jd (jA 12 gV.nd$ jv jU (jI j9 (pv 7) (jH jf) jT)$ ji$ ja (kh (pv 0) ck.cl m0 GW hr.m bW .nil ke$ ja (pv 8)$ ja (cK.e hr.m$ ja (jw$ pv 2)$ ja (pv 11) jb)$ ja (pv 10)$ ja (pv 3) jb) jb)$ jd (jL$ jZ OV O8 O7 jQ (pv 5)$ ja (pv 12) jb)$ jg$ jy (PW.pt$ qR (jz BL (pv 9) (@kl _ _ _)$ aF _)$ qd$ jz qr (cF.e hr.m$ ja (jw$ pv 12) jb) (cF.e hr.m$ ja (jw$ jq jC (jq jC (pv 2) jf) (pv 9)) jb)$ aF _) (jg$ jA 7 gV.nd$ cG.e hr.m$ ja (pv 2)$ ja (pv 6) jb)$ jd (jL$ jZ OV O8 O7 jQ (kY (pv 0) Z)$ ja (pv 8) jb)$ jg$ jA 7 gV.nd$ cO.e hr.m$ ja (pv 4)$ ja (pv 12) jb)$ jg$ jo$ ji$ ja (jw$ pv 2)$ ja (jw$ pv 2)$ ja (jJ jN Z m1 RI$ ja (pv 5) jb)$ ja (jw$ pv 7) jb),?_]];let u3:=aL;let hM:=hR.hm;symm;let#[c',gA,eA,ss,ec,hc,hg,he,b7]:=k';cases ec;let#[v,hv,_,l6,l']:=hP.at hd;let#[ys,B,m2,u4,pr,d7]:=hP.part hd hv;let#[m3,a5]:=d6.steps d7 o1;let l3:=kU o1 b7;let u8:=qW o1 b7;let b':∀(k:Nat) (st:aO),U.steps[k]?=δ st->∃n:Nat,st.1=(n:Int):=λ(k:Nat) (st:aO) h=>let #[#[n,_,e,_],_]:=a5 h;#[n,e]
 let c1:aV M I O (j+1) d.f is L t=f8 M (aV M I O j) O B (M+2) (gg (nR B) (cy B.way.sets$ aQ B.ps is) B.way.goal) L t:=by show(match eZ I d.f with |none=>OC.long |some B=>f8 M (aV M I O j) O B (M+2) (gg (nR B) (cy B.way.sets$ aQ B.ps is) B.way.goal) L t)=_;rw[d7]
 right;generalize aV M I O (j+1) d.f is L t=t3 at q t5 c1;sleep 5;erw[ai λF1 y=>#[_,Z,r,C,dx,_,_,Z,hR.ins,ck.cl,ck.n5,Z,jr hc dQ #[pA,d.f,xs,i,v,Z,hP.at',hv,l6,l',y _ _ ?_]]];left;erw[ai λF1 y=>#[g9,λsl n0=>y _ _ ?_]];left;let s1:aa H (af H sl$ .lst []):=je n0;let l1:af H sl (.lst []) sl=δ (.lst []):=jc;generalize af H sl (.lst [])=H1 at s1 l1 ⊢;erw[ai λF1 y=>y _ _ ?_];left;erw[ai λF1 y=>#[_,Z,_,Z,d.f,is,U,ao,c,gA,eA,ss,0,Z,s1 _ _ hc,s1 _ _ he,vX (b7.mono$ aa.tm s1) o1 (OS _) (b' 0) λgl H2 h3 s2=>y _ _ ?_]];left;let S2:=s1.trans s2;let gz:GT (aQ B.ps is):=qV k8;let h3:aR H2 (Mg$ Hr ao U.steps) gl []:=h3;rw[<- m3]at h3;let g1:=Xh (H:=H) (nA:=nA) (d:=d) (by rw[YQ,pr.nms];rwa[h3]) (qe pr.wv.sets gz) pr.wv.goal;rw[pr.nms]at g1;let d8:sl≠r:=Pk (jk hR.ins n0);let d':sl≠lA:=Pk (jk hR.lf n0);let m4:cA≠sl:=jk hR.ce n0;let s9:aA≠sl:=by let#[as,_,h1,_]:=hA.ex;rwa[jk h1 n0]
 erw[ai λF1 y=>?_];erw[pI (Nc M (aV M I O j) B t3 nA C r dx aA cA lA pA p1 c sl d d0 t (j+1) X U.steps ps O v ss H) (M+1 - t) #[θ,θ,θ,θ,θ,gl,_,0,M+2,.nil,[],L,Z,s2 _ _ l1,Z,trivial,by show 0+1<=j+1;rwa[N09],OS _,g1,hR.same S2,(by show An H2 aA (X++[]);rw[Pj];rwa[hA.same S2]),k7,ht,dX.of_same S2,by show M+1 - t+t+0=M+1;omega,by rw[c1];show OC.pre .nil (f8 M (aV M I O j) O B (M+2) _ L t)=_;cases f8 M (aV M I O j) O B (M+2) (gg (nR B) (cy B.way.sets$ aQ B.ps is) B.way.goal) L t<;>rfl,by show M+2<=M+2+(t+0);omega,Z] ?_];intro kk σ H3 E' rt fE F kT cF.k Gq kq hW;symm;let#[o8,o9,u9,u',o7,gl,gd,m,mm,sk,N,L1,Z,w1,w2,w3,w4,w5,w6,w7,w8,w9,f4,w',v1,W,v3,m5]:=hW;obtain⟨mm,rfl⟩:∃m',mm=m'+1:=#[mm - 1,N9];let t0:=hA.tm hR w';let r9:=qW w3 w2;cases w6 with
 |give gp a e6 h5 ia=>subst e6;erw[kq$ jr h5 Z #[Z,_,Z,?_]];rw[show decide (tz (Str.ofString "give")=tz (Str.ofString "go"))=ν by decide+kernel];erw[cF.k _$ y _ _ ?_];erw[(jr (t0 _ _ hc) dQ$ jr (t0 _ _ hc) gQ #[_,Z,sl,N,Z,.inl #[aK.of w1,λl2 m6=>?_]])];let s4:aa H3 (af H3 l2$ .tup N):=je m6;erw[(jr (s4 _ _ h5) gQ #[sg,λv2 nv=>?_])];let s5:=s4.trans (je (o:=.tup [.str d.f,.ref gA,.ref l2,.int a]) nv);let W:OC.ok (sk.app .nil) a L1 (t+sk.size)=t3:=W;rw[KQ w3]at W;rwa[q _ sk a L1 _ W.symm #[v2,gA,l2,N,Z,jc,s5 _ _$ t0 _ _ hg,aq jc nv,w2.mono$ aa.tm s5] w3 w4 ia (w7.same s5) w9 f4 (w8.same s5) (w'.trans$ dX.of_same s5)]
 |go gp h8 n Y hs e6 h5 h6 b2 hl hi=>
  subst e6;erw[kq$ jr h5 Z #[Z,_,Z,?_]];rw[show decide (tz (Str.ofString "go")=tz (Str.ofString "go"))=μ by decide+kernel];erw[kT _ ?_];clear kT cF.k y;let P1:=m2.mono t0;symm;let#[pa,ca,wv,cs,v4,v5,_,_,m7]:=P1.parts;let#[ka,na,wa,dv,v7,_,f5]:=P1.cut m7 b2;let m8:n < ry B.cs:=by rw[pr.len];rwa[(ξ.mp b2).1]
  obtain⟨cd,c4⟩:∃cd,B.cs[n]?=δ cd:=#[_,OG m8];let cr:=(pr.cs n Y cd b2 c4).mono t0;let#[m9,e,c0]:=cd;let#[c5,ed,d1,p2,p3,p4]:=cr;let c5:m9=canon Y.M:=c5;subst c5;let W:OC.pre sk (match B.cs[n]? with
   |none=>OC.long
   |some c=>match gD M (aV M I O j) O (aQ c.nm hs) L1 (t+sk.size) c.e with
    | .ok w L1 t1=>(f8 M (aV M I O j) O B mm (nU B c hs w.wh) L1 t1).cons (n:Int) hs w
    | .long=>.long
    | .deep=>.deep)=t3:=W
  rw[c4]at W;let W:OC.pre sk (match gD M (aV M I O j) O (aQ (canon Y.M) hs) L1 (t+sk.size) e with
    | .ok w L1 t1=>(f8 M (aV M I O j) O B mm (nU B #[canon Y.M,e,c0] hs w.wh) L1 t1).cons (n:Int) hs w
    | .long=>.long
    | .deep=>.deep)=t3:=W
  let gk:GT (aQ (canon Y.M) hs):=qV hi;let f6:e.Cs ((ds.map Df.f).zip ns):=by
   symm;cases e with
   |ask=>right;trivial
   |st p0 l=>cases l<;>first |trivial |rwa[hP.cs hd _ p2]
  let h':=t0 _ _ hc;let a0:=t0 _ _ he;let h0:=b7.mono t0;let iF:ry N<=M:=by omega
  sleep 6;erw[ai λF1 y=>#[_,Z,_,Z,sl,_,Z,.inl$ aK.of w1,iZ,λq1 n7=>#[p1,q1,ps.map tT,_,Z,Z,aq (t0 _ _ d5) n7,jc,(by rw[OJ];show ry ps+1<=τ;omega),λq2 H4 e4 s4=>y _ _ ?_]]];left;let S4:aa H3 H4:=(je n7).trans s4;let e4:H4 q2=δ (.tup ((ps++[(N.length:Int)]).map tT)):=by rw[O4];rwa[e4]
  erw[ai λF1 y=>(jr (S4 _ _ h') dC #[_,Z,_,Z,_,Z,gp,_,Z,S4 _ _ h5,λq3 H5 e5 s5=>?_])];let S5:=S4.trans s5;let e5:H5 q3=δ (.tup [.int (n:Int),.ref h8]):=e5;erw[#[eA,ss,U,m,(n:Int),hs,.ref q3,Z,S5 _ _ a0,h0.mono$ aa.tm S5,o1,s0,N9,jE e5$ jl Z jV$ jl Z (za$ S5 _ _ h6) jB,λH6 s6=>y _ _ ?_]];let S6:=S5.trans s6;erw[ai λF1 y=>?_];let nx:∀(lk tk:xL Nat) (ud:V) (H7:Hp),aa H3 H7->H7 q2=δ (.tup ((ps++[(N.length:Int)]).map tT))->aR H7 (sR (aQ (canon Y.M) hs) e) ud []->Nr e (aQ (canon Y.M) hs) U.steps m tk->(∀J,lk=δ J->tk=δ J/\∃o,U.steps[J]?=δ o/\o.2.2.ok ν/\dj o.2.2=sR (aQ (canon Y.M) hs) e/\Hr ao (U.steps.drop$ J+1)=nU B #[canon Y.M,e,c0] hs o.2.2.wh/\aX (n:Int) hs o=μ)->(∀w:Sk,w.ok ν->dj w=sR (aQ (canon Y.M) hs) e->fo U.steps m (n:Int) hs w=tk)->(∀J o,tk=δ J->U.steps[J]?=δ o->aX (n:Int) hs o=μ->lk=δ J)->F1 [↑r,↑p1,↑c,δ$ .int (d0:Int),δ v,↑sl,δ$ .int (m:Int),↑gp,↑q2,δ$ lE lk,δ ud,δ$ lE tk,o7] H7:=by
   intro lk tk ud H7 S7 p5 h4 f7 b3 p6 f9;erw[y _ _ ?_];left;let p7:Mh m tk<=ry ss:=by
    symm;cases tk with
    |none=>rwa[w5]
    |some J=>let#[_,o,ho,_]:=f7;let:=(ξ.mp ho).1;show J+1<=ry ss;omega
   erw[ai λF1 y=>?_];let n':F1 [↑r,↑p1,↑c,δ$ .int (d0:Int),δ v,↑sl,δ$ .int ((Mh m tk:Nat):Int),↑gp,↑q2,δ$ lE lk,δ ud,δ$ lE tk,o7] H7:=by
    erw[y _ _ ?_];left;erw[ai λF1 y=>#[_,Z,_,Z,gp,_,Z,S7 _ _ h5,λq4 H8 e8 s8=>?_]];let S8:=S7.trans s8;let e8:H8 q4=δ (.tup [.int (n:Int),.ref h8]):=e8;let R8:=w7.same S8;let A8:=w8.same S8;let t7:=t0.trans (aa.tm S8);let g2:=s8 _ _ p5;erw[#[_,Z,r,dx,_,Z,R8.ins,Z,_,Z,jr (S8 _ _ h') dC #[_,Z,LO Z (S8 _ _ a0) (h0.mono$ aa.tm S8) o1 s0 a5 f7 (ps++[(N.length:Int)]) λov Yf p9 hY=>?_]]];erw[#[_,Z,_,Z,M,r,dx,aA,cA,lA,pA,q2,ps++[(N.length:Int)],d0,t+sk.size,X++fq sk U.steps 0 ps 0,Yf,L1,O,aQ (canon Y.M) hs,ov,ud,e,ys,ds,ns,xs,I,Z,N9,R8,A8,(by rw[OL];let:=Xm w3 U.steps 0 ps 0;omega),w9,f4,hP.mono t7,g2,by rw[OL];show ry ps+1+j<=60;omega,N8,h4.mono$ aa.tm s8,d1.mono$ aa.tm S8,gk,f6,p9,λw vv L' H9 e9 p' o4 ft q0 R9 l9 t9 A9 k9=>?_,i5.next3 ((t5.imp (λz=>by rw[z]at W;rwa[W.symm]) (λz=>by rw[z]at W;rwa[W.symm])).mono λH9 kk=>λb o n1 n2 n3 nx e=>kk b o n1 n2 n3 nx (S8 _ _$ w' _ _ n1 n2 n3 e))]];let t4:=A8.tm R8 k9;erw[#[iZ,λq5 g4=>#[q4,q5,_,_,Z,Z,aq (t4 _ _ e8) g4,jc,(by show 2+1<=τ;omega),λq6 S e7 q7=>y _ _ ?_]]];left;let S1:aa H9 S:=(je g4).trans q7;let K1:dX r lA aA H3 S:=((dX.of_same S8).trans k9).trans (dX.of_same S1);let t6:am H3 S:=w8.tm w7 K1;let e7:S q6=δ (.tup [.int (n:Int),.ref h8,vv]):=e7;let l0:S sl=δ (.lst N):=K1 _ _ d8 d' s9.symm w1;let R3:=R9.same S1;let A3:=A9.same S1;let v0:=p'.mono (aa.tm S1);let g5:S q2=δ (.tup ((ps++[(N.length:Int)]).map tT)):=S1 _ _ (t4 _ _ g2);erw[ai λF1 y=>#[_,Z,.inl #[Z,_,aK.of l0],_,Z,sl,_,_,Z,Z,l0,N9,y _ _ ?_]];left;let b1:aI sl S (af S sl$ .lst$ N++[.ref q6]):=λb o nb e=>by rw[jh nb];rwa[e]
    let D:am S (af S sl$ .lst$ N++[.ref q6]):=λb xs e=>b1 _ _ (jM e l0 nofun) e;let l4:af S sl (.lst$ N++[.ref q6]) sl=δ (.lst$ N++[.ref q6]):=jc;generalize af S sl (.lst$ N++[.ref q6])=H0 at b1 D l4;let g:=t6.trans D;let h7:w.wh.side < ry Y.ws:=by
     rw[f5.v.len,<- ed];symm;cases e with
     |ask ta T=>show _ < 2;unfold Wh.side;split<;>(try split)<;>omega
     |st p0 l=>show _ < 1;symm;cases w<;>first |rwa[Nat.one_pos] |rwa[o4.elim] | (cases l<;>rwa[ft.elim])
    symm;obtain⟨w0,c2⟩:∃w0,c0[w.wh.side]?=δ w0:=#[_,OG (by rw[p3];rwa[h7])];let#[g6,b4]:=p4 _ _ w0 (OG h7) c2;let c6:nU B #[canon Y.M,e,c0] hs w.wh=gg (nR B) (cy w0.sets$ oR e w.wh$ aQ (canon Y.M) hs) w0.goal:=by show(match c0[w.wh.side]? with |some wd=>gg (nR B) (cy wd.sets$ oR e w.wh$ aQ (canon Y.M) hs) wd.goal |none=>Gd.give 0)=_;rw[c2]
    rw[e9]at W;let W:OC.pre sk ((f8 M (aV M I O j) O B mm (nU B #[canon Y.M,e,c0] hs w.wh) L'$ t+sk.size+1+w.size).cons (n:Int) hs w)=t3:=W;rw[Ye _ w3]at W;let g7:=KP (n:=(n:Int)) (hs:=hs) (w:=w) w3;let ez:t+sk.size+1+w.size=t+(Sk.put (n:Int) hs w sk).size:=by rw[g7];omega
    let R1:Rn H0 C r dx (dM aA) cA lA pA M (t+sk.size+1+w.size) L' O:=#[b1 _ _ d8.symm R3.ins,b1 _ _ d'.symm R3.lf,b1 _ _ m4 R3.ce,R3.iL,R3.iC,R3.cl,R3.tl,R3.hm];let A2:An H0 aA ((X++fq sk U.steps 0 ps 0)++Yf w):=A3.keep D λo e=>b1 _ _ s9 e;rw[ez]at R1 l9 t9 W;let e':=p6 w o4 (KF e9);let l5:ry N=ry sk.steps:=kU w3 w2;let e3:=u5 (n:=(n:Int)) (hs:=hs) (w:=w) (os:=U.steps) (pn:=ps) (m:=0) (k:=0) w3;rw[<- m5,SQ,<- l5]at e3;let#[r0,r1]:=Ea (pn:=ps) (k:=N.length) e' hY o4 (λJ o e1 e2 no f is s a ew=>by
     subst ew;rw[e1]at e';let#[_,o2,g8,h2]:=zB e';rw[e2]at g8;cases g8;rcases h2 with h2 | ⟨f',i0,s',a',ew,h2⟩
     .let#[_,o3,g',r2,d3,_]:=b3 J (f9 J o e1 e2 h2);rw[e2]at g';cases g';let#[s',a',z]:=KG r2 (d3.trans (KF e9).symm);rwa[no _ _ _ _ z]
     .let#[s2,a2,z]:=ZG h2;rwa[no _ _ _ _ z])
    let i1:∀(g0:V) (H':Hp),am H0 H'->(∀b o,b≠aA->H0 b=δ o->H' b=δ o)->An H' aA (X++fq (Sk.put (n:Int) hs w sk) U.steps 0 ps 0)->aR H' (Mg$ nU B #[canon Y.M,e,c0] hs w.wh) g0 []->E'.nx [↑r,↑p1,↑c,δ$ .int (d0:Int),δ v,↑sl,δ$ .int ((Mh m tk:Nat):Int),δ g0,↑q2,δ$ lE lk,δ ud,δ$ lE tk,↑q6] H':=by
     intro g0 H' G b0 A1 h3;let i2:=Xh (H:=H3) (nA:=nA) (d:=d) (by rw[YQ,pr.nms,<- c6];rwa[h3]) (qe b4.sets$ YO ft gk) b4.goal;rw[pr.nms,<- c6]at i2;let n4:=A2.ne R1;erw[fE (kk - (w.size+1)) _ _ N9 #[_,_,_,_,_,g0,_,Mh m tk,mm,Sk.put (n:Int) hs w sk,N++[.ref q6],L',Z,b0 _ _ s9.symm l4,xJ (G _ _$ D _ _ e7) (G _ _$ g _ _ h6) ((v0.mono D).mono G) w3 ((w2.mono g).mono G),Xu o4 w3,?_,p7,i2,#[b0 _ _ n4.1.symm R1.ins,b0 _ _ n4.2.1.symm R1.lf,b0 _ _ n4.2.2.symm R1.ce,R1.iL,R1.iC,R1.cl,R1.tl,R1.hm],A1,l9,t9,?_,by rw[g7];omega,W,N9,by rw[e3.2,e']]]
     .let:=Xv (n:=(n:Int)) (hs:=hs) (w:=w) (j:=j) q0 w3 N9;omega
     .intro b o n1 n2 n3 e;rwa[b0 _ _ n3$ b1 _ _ (jk e n0)$ K1 _ _ n1 n2 n3$ w' _ _ n1 n2 n3 e]
    erw[oW λG1 yT yF=>?_];let i3:(∀J o,tk=δ J->U.steps[J]?=δ o->¬(aX (n:Int) hs o=μ/\o.2.2.fnd=w.fnd))->G1 ν H0:=by
     intro r3;erw[yF _ ?_];symm;let#[as,qs,a1,a3,aP]:=A2.ex;let a2:ry as<=t+sk.size+w.size:=by rw[a3.len,aP.length_eq,OL,OL];let:=Xm w3 U.steps 0 ps 0;let:=hY.len o4;omega
     erw[ai λF1 y=>#[_,Z,r,C,dx,_,_,Z,R1.ins,ck.cl,n6,Z,.inl #[Z,_,aK.of a1],_,Z,aA,as,_,Z,Z,a1,N9,y _ _ ?_]];left;let i4:=D _ _ g5;let A1:An (af H0 aA$ .lst$ as++[.ref q2]) aA (X++fq (Sk.put (n:Int) hs w sk) U.steps 0 ps 0):=An.add a1 a3 (bh.one (R:=em) (w:=ps++[(N.length:Int)]) #[q2,Z,i4]) (by rw[e3.1];erw[(aP.append_right _).trans ?_];rw[Pt,Pt];rwa[((r0 r3).append_left _).append_left _]);let G:am H0 (af H0 aA$ .lst$ as++[.ref q2]):=λb xs e=>by rw[jh$ jM e a1 nofun];rwa[e]
     let b0:∀b o,b≠aA->H0 b=δ o->af H0 aA (.lst$ as++[.ref q2]) b=δ o:=λb o nb e=>by rw[jh nb];rwa[e]
     generalize af H0 aA (.lst$ as++[.ref q2])=H' at A1 G b0;let t2:=g.trans G;let sv:mh H' nA d ys v q6 n h8 vv Y hs w.wh e w0:=#[P1.mono t2,G _ _$ D _ _ e7,b2,t2 _ _ h6,hl,hi,(LV o4 v0).mono$ D.trans G,ed,d1.mono t2,ft,by rw[g6];rwa[OG h7],b4.mono t2];erw[#[_,Z,_,Z,v,vv,q6,h8,n,d,ys,Y,hs,w.wh,e,w0,Z,sv,λu2 i' b8 c9=>i1 u2 i' (G.trans$ aa.tm c9) (λb o nb e=>c9 _ _ (b0 _ _ nb e)) (A1.same c9) ?_]];let b8:aR i' (oY (eO nA d) (cy w0.sets$ oR e w.wh$ aQ (canon Y.M) hs) w0.goal) u2 []:=b8;rw[YQ,pr.nms,<- c6]at b8;rwa[b8]
    symm;cases lk with
    |none=>rwa[#[_,Z,Z,_,Z,aY (by show(!decide (V.non=V.non))=ν;rw[OY Z];rfl) (i3 λJ o e1 e2 z=>by let:=f9 J o e1 e2 z.1;cases this)]]
    |some J=>
     let#[j0,o,ho,o5,r4,j1,d2]:=b3 J Z;subst j0;let a4:J < ry ss:=by rw[l3];rwa[(ξ.mp ho).1]
     let#[n2,v8,wo,p,h,u,z1,_,_,_,ex,hp,hh,hw]:=zJ o1 h0 (OG a4);rw[ho]at z1;cases z1;let hk:ss[J]?=↑p:=by rw[<- ex];rwa[OG a4]
     erw[#[_,Z,Z,_,Z,c8 (by rw[OR nofun];rfl)$ jr (D _ _ e7) dC #[vv,w,Z,v0.mono D,o4,jr (g _ _ h') dC #[_,Z,eA,_,_,_,Z,Z,aC.of$ g _ _ a0,jG hk,p,_,_,_,Z,Z,aC.of$ g _ _ hp,dC,u,wo,Z,hw.mono g,o5,Z,_,Z,?_]]]];symm;by_cases hf:w.fnd=wo.fnd
     .right;rw[OY (show tT w.fnd=tT wo.fnd by rw[hf])];erw[yT _ ?_];let ew:w.wh=wo.wh:=LU o4 o5 ((KF e9).trans r4.symm) hf;erw[#[_,Z,_,Z,d.f,is,U,ao,c,gA,eA,ss,J+1,Z,g _ _ h',g _ _ a0,vX (h0.mono g) o1 a4 (b'$ J+1) λg0 H' h3 d4=>i1 g0 H' (aa.tm d4) (λb o _ e=>d4 _ _ e) ((A2.pm (by rw[e3.1,Pt];rwa[((r1 J _ Z ho d2 hf.symm).append_left _).append_left _])).same d4) ?_]];rw[ew,<- j1];rwa[h3]
     .right;rw[OR (show ¬tT w.fnd=tT wo.fnd from λz=>hf (by injection z))];rwa[i3 λj2 o2 e1 e2 z=>by cases e1;rw[ho]at e2;cases e2;rwa[hf z.2.symm]]
   symm;cases tk with
   |none=>rwa[#[_,Z,Z,_,Z,c8 (OY Z) #[_,Z,n']]]
   |some J=>rwa[#[_,Z,Z,_,Z,aY (OR (λz=>by cases z)) #[_,Z,_,_,Z,Z,n']]]
  let j3:=s6 _ _ (s5 _ _ e4);cases b9:l8 (aX (n:Int) hs) U.steps m with
  |none=>
   erw[#[_,Z,Z,_,Z,c8 (OY Z) ?_]];erw[ai λF2 f2=>#[_,Z,jr (S6 _ _ h5) Z$ jr (S6 _ _ h5) Z #[v,n,h8,d,ys,Y,hs,e,Z,P1.mono$ aa.tm S6,b2,S6 _ _ h6,hl,hi,ed,d1.mono$ aa.tm S6,λud H7 h4 s7=>f2 _ _ ?_]]];left;let S7:=S6.trans s7;symm;let#[wE,o',dE,hE]:=Io (k:=aQ (canon Y.M) hs) d1;refine#[_,Z,c,_,_,_,Z,Z,aC.of$ S7 _ _ h',dC,_,Z,_,Z,eA,ss,U,wE,m,ud,Z,S7 _ _ a0,h0.mono$ aa.tm S7,o1,s0,N9,by rw[dE];rwa[h4],o',λH8 s8=>nx θ _ ud H8 (S7.trans s8) (s8 _ _$ s7 _ _ j3) (h4.mono$ aa.tm s8) ?_ (λJ z=>by cases z) (λw ow hw=>by unfold fo;rw[b9];rwa[wz ow o'$ hw.trans dE.symm]) (λJ o e1 e2 z=>by
    symm;let#[f',i0,s',a',_,b5]:=Yk e1;let#[hm,_]:=Jj b5;let:=vU (J - m) m b9 (s:=o) (by rw[show m+(J - m)=J by omega];rwa[e2]);rw[z]at this;cases this)]
   cases r5:gi U.steps m wE with
   |none=>trivial
   |some J=>symm;let#[f',i0,s',a',Z,b5]:=Yk r5;let#[hm,o,ho,r6]:=Jj b5;let#[p0,x,q',ts,e1,e2]:=hE _ _ _ _ Z;let#[s2,a2,eo]:=ZG r6;erw[#[hm,o,ho,λf3 v9 s3 a3 z=>?_]];rw[eo]at z;symm;cases z;rwa[#[p0,x,q',ts,e1,e2]]
  |some J=>
   erw[#[_,Z,Z,_,Z,aY (OR (λz=>by cases z)) ?_]];symm;let#[hm,o,ho,b3]:=Jj b9;let#[en,r7]:=wB b3;obtain⟨⟨n2,v',r8,c3,e0,e6⟩,_⟩:=a5 ho;let e2:n2=n:=by rw[en]at r8;omega
   subst e2;rw[c4]at c3;cases c3;rw[r7]at e0 e6;let a4:J < ry ss:=by rw[l3];rwa[(ξ.mp ho).1]
   let#[n3,x0,wo,p,h,u,z1,o6,_,_,ex,hp,hh,hw]:=zJ o1 h0 (OG a4);rw[ho]at z1;cases z1;let hk:ss[J]?=↑p:=by rw[<- ex];rwa[OG a4]
   erw[ai λF2 f2=>(jr (S6 _ _ h') dC #[_,Z,eA,_,_,_,Z,Z,aC.of$ S6 _ _ a0,jG hk,p,_,_,_,Z,Z,aC.of$ S6 _ _ hp,dC,u,wo,Z,hw.mono$ aa.tm S6,o6,λud H7 h4 s7=>f2 _ _ ?_])];left;let e0:dj wo=sR (aQ (canon Y.M) hs) e:=e0;rw[e0]at h4;erw[#[_,Z,nx (δ J) (δ J) ud H7 (S6.trans s7) (s7 _ _ j3) h4 #[hm,_,ho,λf' i0 s' a' z=>?_] (λj2 z=>?_) (λw ow hw=>by unfold fo;rw[b9]) (λj2 o2 e1 _ _=>e1)]]
   .let z:wo= .cl f' i0 s' a':=z;symm;subst z;rwa[AN d1 e0]
   .symm;cases z;rwa[#[Z,_,ho,o6,e0,e6,b3]]
abbrev Gh:cc:=bV 42
inductive rO(g f n:ζ)(s:xD V)(H:Hp)(Q:VK)(E:XK):Prop
 |mk(M:Nat)(q j c:ζ)(i:Nat)(e:aU)(r:Sk)(h:Int)(d:Df)(k:xD Df)(o:xD Nat)(t:xD V)(b:xD dJ)(m:xD Int)(_:s=[.ref q,.ref c,.ref j,.int (M:Int)])(_:M<=60)(_:Ps H n q k o t b)(_:k[i]?=δ d)(_:o[i]?=δ m.length)(_:∀z∈m,hV z)(_:H j=δ (.dK e))(_:GT e)(_:gN H d.f m r h (.ref c))(_:r.ok μ)(_:r.size<=1000)(_:uR b d.f m r h)(_:∀(p l:ζ) (v:V) (ws:xD V) (sk:Sk) (a:Int) (L':aU) (H':Hp),aV M b e 16 d.f m [] 0= .ok sk a L' sk.size->H' p=δ (.tup [v,.ref l])->H' l=δ (.lst ws)->bh em H' (fq sk r.steps 0 [] 0) ws->gN H' d.f m sk a v->sk.ok μ->sk.dep<=15->sk.size<=M->aa H H'->Q (.ref p) H')(_:i5 (aV M b e 16 d.f m [] 0= .long) (aV M b e 16 d.f m [] 0= .deep) E g f (Kp H))
theorem ZI{H:Hp}:∀{b:xD aN} {a:xD V},ry a=ry b->(∀(i:Nat) (v:V) (p:aN),a[i]?=δ v->b[i]?=δ p->em H v p)->bh em H b a
 | [],[],_,_=>rfl
 | [],_::_,e,_ |_::_,[],e,_=>by cases e
 |p::b,v::a,e,h=>#[v,a,Z,h 0 v p Z Z,ZI (by simpa using e) λi x q c d=>h (i+1) x q (by simpa using c) (by simpa using d)]
def pO{H a:Hp}(s:aa H a){x:ζ}(h:a x=θ):H x=θ:=by
 cases z:H x with
 |none=>rfl
 |some o=>have:=s _ _ z;rw[h]at this;cases this
def ye:aj ["parts","old","cells","most","running","chain"] z30z (ae Gh):=bQ
def Fc{f:ζ}{fd:bS}{C TL TD nA fI fA:ζ}{t u:bS}(F:xb K "again" Gh f fd)(ck:RK K C)(n6:a9 K C "anew")(mk:Mk K C fI)(GI:⇑3 fI t z6z (nj C))(bI:aE K t z6z [])(mC:mg "AgainRun"=↑C)(GA:ah P w K mg base (dH P w) 70 fA u z15z (n8 C TL TD nA 16))(bA:aE K u z15z [])(m0:bj K C "chain_along" fA)(m1:mg "sorted"=θ):ah P w K mg base (dH P w) 71 f fd z30z (rO TL TD nA):=by
 erw[F.ok1 ye λc0 A o1 s H vs Q E hr h=>?_]
 let#[M,j,k,c,i,Cs,S,ao,d,ds,ns,xs,z,is,Z,hM,hP,hd,hn,h0,B,h3,h4,o2,s6,G,q,t0]:=h;erw[#[_,(jd (jA 4 ye.nd$ Xo mk GI hr.m Z mC bI .nil bY$ ja (pv 0)$ ja (pv 2)$ ja (pv 3) jb)$ jd (jA 5 ye.nd$ kh (pv 4) ck.cl m0 GA hr.m bA .nil ke$ ja (ji jb)$ ja (pv 1)$ ja jf jb)$ jg$ jo$ ji$ ja (pv 5)$ ja (jO qo Z m1 Th$ ja (kY (pv 4) Z) jb) jb),?_]];let b0:=aL;erw[ai λF1 I=>#[_,Z,_,Z,_,Z,λr D W nd ne=>?_]];let s0:aa H (af (af H D$ .own r) r$ .ins C D []):=λc o e=>by rw[jh$ jk e W,jh$ jk e nd];rwa[e]
 erw[#[r,D,j,k,M,Z,jc,λL g nl na n0=>#[Z,I _ _ ?_]]];let n1:L≠r:=λe=>by rw[e,jc]at nl;cases nl
 let n2:g≠r:=λe=>by rw[e,jc]at na;cases na
 let n:=pO s0 nl;let N:=pO s0 na;let J:aa H (af (af (af (af (af H D$ .own r) r$ .ins C D []) L$ .dK []) g$ .lst []) r$ .ins C D$ dI (dM g) k L j M 0):=λc o e=>by rw[jh$ jk e W,jh$ jk e N,jh$ jk e n];rwa[s0 _ _ e]
 let R1:Rn (af (af (af (af (af H D$ .own r) r$ .ins C D []) L$ .dK []) g$ .lst []) r$ .ins C D$ dI (dM g) k L j M 0) C r D (dM g) k L j M 0 [] Cs:=#[jc,by rw[jh n1,jh n0];rwa[jc],J _ _ B,GT.nil,h3,jk B n,AB g,N9];let A1:An (af (af (af (af (af H D$ .own r) r$ .ins C D []) L$ .dK []) g$ .lst []) r$ .ins C D$ dI (dM g) k L j M 0) g []:=#[[],[],by rw[jh n2];rwa[jc],Z,Rx _];generalize (af (af (af (af (af H D$ .own r) r$ .ins C D []) L$ .dK []) g$ .lst []) r$ .ins C D$ dI (dM g) k L j M 0)=H1 at J R1 A1;erw[ai λF1 I=>#[_,Z,r,D,_,Z,R1.ins,Z,g9,λpa n3=>#[_,Z,?_]]];let R:aa H1 (af H1 pa$ .tup []):=je n3;let T:=aa.tm (J.trans R);erw[#[M,r,D,g,k,L,j,pa,c,[],0,0,i,[],[],Cs,S,ao,d,ds,ns,xs,z,is,Z,Z,Oa,R1.same R,A1.same R,OM _,OM _,OS _,hP.mono T,jc,Oa,hd,hn,h0,gN.mono' h4 T,o2,s6,G,λv X a L' U eq h5 O d0 ia R3 l3 t3 A3 k3=>I _ _ ?_,i5.next3$ t0.mono λH' kk=>λb o nx e=>kk b o (jk e W) (jk e n) (jk e N) nx (R _ _$ J _ _ e)]];rw[SQ]at eq t3;let A3:An U g (fq X S.steps 0 [] 0):=A3;let s3:aa H U:=λb o e=>k3 _ _ (jk e W) (jk e n) (jk e N) (R _ _$ J _ _ e);let#[as,qs,a1,a3,Y]:=A3.ex;let sr:=u6 O S.steps 0 [] 0;let ln:=Xm O S.steps 0 [] 0;let a2:=Y.length_eq;let a4:=a3.len;erw[#[_,Z,_,Z,r,C,D,_,_,Z,R3.ins,ck.cl,n6,Z,g,as,qs,Z,aK.of a1,a4,N9,λi x p h1 h2=>?_,Y.nodup_iff.mpr$ yD sr,λl ws rs n4 g1 g2 g3 g4=>?_]]
 .let#[p',V,y,e1,e2]:=a3.at h1;rw[h2]at V;cases V;rwa[#[y,e1,e2,uZ O$ Y.mem_iff.mp$ Pd h2]]
 let e0:rs=fq X S.steps 0 [] 0:=u7 g2 sr (g1.trans Y);subst e0;let l0:bh em U (fq X S.steps 0 [] 0) ws:=ZI g3 λi x p h1 h2=>let #[y,e1,e2,_]:=g4 i x p h1 h2;#[y,e1,e2]
 let s4:aa U (af U l$ .lst ws):=je n4;erw[#[cj,λp np=>?_]];let s5:=je (o:=.tup [v,.ref l]) np;rwa[q p l v ws X a L' _ eq jc (s5 _ _ jc) (l0.mono bG$ aa.tm$ s4.trans s5) (gN.mono' h5$ aa.tm$ s4.trans s5) O N9 t3 ((s3.trans s4).trans s5)]
def tI:Sk->aN->xD aO->Nat->xD aN
 | .st n h w r,p,os,m=>match fo os m n h w with
  |none=>tI r p os m
  |some j=>match os[j]? with
   |none=>[]
   |some o=>((if aX n h o=μ then [p++[(j:Int)]] else [])++tI w (p++[(j:Int)]) (sL o.2.2) 0)++tI r p os (j+1)
 | .cl _ _ s _,p,os,m=>tI s p os m
 |_,_,_,_=>[]
def Yl{w:Sk}{os:xD aO}(h:fo os m n H w=θ):tI (.st n H w r) p os m=tI r p os m:=by show(match fo os m n H w with |none=>_ |some j=>_)=_;rw[h]
def Ym{w:Sk}{os:xD aO}(h:fo os m n H w=δ j)(a:os[j]?=δ o):tI (.st n H w r) p os m=((if aX n H o=μ then [p++[(j:Int)]] else [])++tI w (p++[(j:Int)]) (sL o.2.2) 0)++tI r p os (j+1):=by show(match fo os m n H w with |none=>_ |some j=>match os[j]? with |none=>([]:xD aN) |some o=>_)=_;rw[h];dsimp only;rw[a]
def Jk:decide (tz a=tz b)=decide (a=b):=by
 by_cases h:a=b
 .rw[OY h,OY (by rw[h])]
 .rw[OR h,OR λz=>h (by injection z)]
def Ki{w:Sk}(o:w.ok ν)(h:eI H w u []):∃p v r,u= .ref p/\H p=δ (.tup (.str v::r))/\(v="call"↔∃f i s a,w= .cl f i s a):=by
 cases w with
 |nil |st _ _ _ _=>rwa[o.elim]
 |ask b |rd b c |wr b c=>let#[p,e,h]:=h;rwa[#[p,_,_,e,h,λe=>absurd e Oa,λ#[_,_,_,_,e]=>nomatch e]]
 |cl f i s a=>let#[p,c,g,E,S,e,h,_]:=h;rwa[#[p,_,_,e,h,λ_=>#[_,_,_,_,Z],λ_=>Z]]
abbrev Gr:cc:=bV 77
abbrev B0:cc:=bV 78
abbrev uu:cc:=bV 79
abbrev Ci:cc:=bV 80
def DB:Sk->V->V
 | .cl _ _ _ a,_=>.int a
 |_,u=>u
inductive oi(b:xD V)(H:Hp)(Q:VK)(a:XK):Prop
 |mk(p h:ζ)(n:Int)(u:V)(w:Sk)(_:b=[.ref p])(_:H p=δ (.tup [.int n,.ref h,u]))(_:eI H w u [])(_:w.ok ν)(_:Q (DB w u) H)
def Es{w W:Sk}(o:w.ok ν)(O:W.ok ν)(e:dj w=dj W):(w.fnd=W.fnd->(∃f I s a S A,w= .cl f I s a/\W= .cl f I S A/\a=A)\/(w=W/\∀f I s a,w≠ .cl f I s a))/\(w.fnd≠W.fnd->(∃f I s a S A,w= .cl f I s a/\W= .cl f I S A/\a≠A)\/∃c i d,w= .rd c i/\W= .rd c d/\i≠d):=by
 cases w with
 |nil |st _ _ _ _=>rwa[o.elim]
 |cl f I s a=>let#[S,A,Z]:=KG O e.symm;rwa[#[λh=>.inl #[f,I,s,a,S,A,Z,Z,h],λh=>.inl #[f,I,s,a,S,A,Z,Z,h]]]
 |ask b=>
  cases W with
  |nil |st _ _ _ _=>rwa[O.elim]
  |ask B=>have e:Tr.tp (.cons (aM "ask")$ .cons (ar b) .nil)= .tp (.cons (aM "ask")$ .cons (ar B) .nil):=e;injection e with e;injection e with _ e;injection e with e _;injection e with e;injection e with e;subst e;rwa[#[λ_=>.inr #[Z,λ_ _ _ _ z=>nomatch z],λh=>absurd Z h]]
  |rd _ _ |wr _ _ |cl _ _ _ _=>rwa[absurd (qh e) Oa]
 |rd b i=>
  cases W with
  |nil |st _ _ _ _=>rwa[O.elim]
  |rd B d=>have e:Tr.tp (.cons (aM "read")$ .cons (ar b) .nil)= .tp (.cons (aM "read")$ .cons (ar B) .nil):=e;injection e with e;injection e with _ e;injection e with e _;injection e with e;injection e with e;subst e;rwa[#[λ(h:i=d)=>by subst h;rwa[.inr #[Z,λ_ _ _ _ z=>nomatch z]],λh=>.inr #[b,i,d,Z,Z,h]]]
  |ask _ |wr _ _ |cl _ _ _ _=>rwa[absurd (qh e) Oa]
 |wr b i=>
  cases W with
  |nil |st _ _ _ _=>rwa[O.elim]
  |wr B d=>have e:Tr.tp (.cons (aM "write")$ .cons (ar b)$ .cons (ar i) .nil)= .tp (.cons (aM "write")$ .cons (ar B)$ .cons (ar d) .nil):=e;injection e with e;injection e with _ e;injection e with E e;injection e with g _;injection E with E;injection E with E;injection g with g;injection g with g;subst E;subst g;rwa[#[λ_=>.inr #[Z,λ_ _ _ _ z=>nomatch z],λh=>absurd Z h]]
  |ask _ |rd _ _ |cl _ _ _ _=>rwa[absurd (qh e) Oa]
def yA{w:Sk}(o:w.ok ν)(h:∀f i s a,w≠ .cl f i s a):∃l,nZ w= .tp l/\l.dep < 10/\l.In:=by
 cases w with
 |nil |st _ _ _ _=>rwa[o.elim]
 |cl f i s a=>rwa[absurd Z (h f i s a)]
 |ask b=>rwa[#[_,Z,by show max 0 (max 0 0) < 10;decide,Z,Z,trivial]]
 |rd b B |wr b B=>rwa[#[_,Z,by show max 0 (max 0 (max 0 0)) < 10;decide,Z,Z,Z,trivial]]
def wA{w:Sk}(h:∀f i s a,w≠ .cl f i s a):DB w u=u:=by
 cases w with
 |cl f i s a=>rwa[absurd Z (h f i s a)]
 |_=>rfl
inductive YSr(x:V)(y:V)(H:Hp)(Q:VK):Prop|mk(a b c:_)(_:x= .ref a)(_:y= .ref b)(_:H a=δ (.lst c))(_:H b=δ (.lst []))(_:Q (.bl c.isEmpty) H)
def YS{X:Cx}(d:X.A.units < cLine):fQ X (compareOp .Eq) YSr:=by
 intro p s J H x y v u Q I l m h;let#[a,b,c,Z,Z,n,o,q]:=h;cases l;cases m;let#[t,R,f,_]:=I.list (aK.of n);let#[B,C,g,_]:=I.list (aK.of o);let E:B=[]:=C.nil_iff.mpr Z;subst E;cases i:c with
 |nil=>subst i;let D:t=[]:=R.nil_iff.mpr Z;subst D;erw[Wm (e:=λ_=>μ) f.isList g.isList Z d (λj F M=>absurd F N8) X.prog X.w _ _ ?_];rwa[#[.bl μ,H,I,Z,q]]
 |cons z r=>subst i;let L:=R.length;erw[Wl f.isList g.isList (by simp [<- L]) d X.prog X.w _ _ ?_];rwa[#[.bl ν,H,I,Z,q]]
def Jz{lo:Int}{n:Nat}{t:TT}{Q:xD V->Hp->Prop}(Pv:Nat->xD V->Hp->Prop)(j:Pv 0 [] H)(k:n<=τ)(c:∀i Y h,Pv i Y h->ry Y<=i)
  (l:∀i Y h,i < n->Pv i Y h->t (δ (.int$ lo+i)::d) h λb f=>if b=μ then T (δ (.int$ lo+i)::d) f λy o=>Pv (i+1) (Y++[y]) o else Pv (i+1) Y f) (q:∀Y h,Pv n Y h->Q Y h):
  fe (uV lo n) 1 d (bH 0) t T Q H:=by
 erw[#[λi m Y h=>m=n - i/\i<=n/\Pv i Y h,#[n,N8,OS _,j],?_]];rintro i m Y h ⟨rfl,u,p⟩;by_cases a:i < n
 .erw[.inr #[a,Rm (c i Y h p)$ O3 a k,Pv$ i+1,λr f s=>#[n - (i+1),N09,Z,a,s],λx f z g y=>?_]];let#[e,y]:=y;subst e y;let#[v,Z]:=tG g;rwa[#[#[[δ _],Z,Z],l i Y _ a p]]
 .let e:i=n:=by omega
  subst e;rwa[.inl #[OM _,q Y h p]]
def Qg{K:β}{a:ζ}{xs:xD V}{t:TT}{Q:xD V->Hp->Prop}(A:ry xs<=τ)(Pv:Nat->xD V->Hp->Prop)(n:Pv 0 [] H)
  (o:∀i Y h,Pv i Y h->aK K h a xs/\ry Y<=i) (q:∀i x Y h,xs[i]?=δ x->Pv i Y h->t (δ x::c) h λb d=>if b=μ then T (δ x::c) d λy r=>Pv (i+1) (Y++[y]) r else Pv (i+1) Y d) (s:∀Y h,Pv xs.length Y h->Q Y h):
  fe (Ae K a) 1 c (bH 0) t T Q H:=by
 erw[#[λi m Y h=>m=ry xs - i/\i<=ry xs/\Pv i Y h,#[xs.length,N8,OS _,n],?_]];intro i m Y h g;let#[Z,B,p]:=g;let#[j,C]:=o i Y h p;by_cases f:i < ry xs
 .erw[.inr #[#[xs,xs[i],j,OG f],N9,Pv$ i+1,λu d z=>#[ry xs - (i+1),N9,Z,f,z],λv d D k y=>?_]];let#[e,y]:=y;subst e;let#[w,Z]:=tG k;rwa[#[#[[δ _],Z,Z],q i v Y d (y xs j) p]]
 .let e:i=ry xs:=by omega
  subst e;rwa[.inl #[#[xs,j,OM _],s Y h p]]
def kK{X:Cx}{K:β}(h:X.K=K):HR X (dh K):=by subst h;rwa[jC]
def iM(P:aO->Bool):Nat->xD aO->xD Nat
 |_,[]=>[]
 |k,s::r=>if P s=μ then k::iM P (k+1) r else iM P (k+1) r
def dm(P:aO->Bool)(os:xD aO)(m:Nat):xD Nat:=iM P m (os.drop m)
def KH{P:aO->Bool}{os:xD aO}(h:os[m]?=δ s):dm P os m=if P s=μ then m::dm P os (m+1) else dm P os (m+1):=by let#[H,e]:=ξ.mp h;unfold dm;rw[<- RF (h:=H),e];rfl
def Kj{P:aO->Bool}{os:xD aO}(h:ry os<=m):dm P os m=[]:=by unfold dm;rw[Vj h];rfl
theorem Q8(P:aO->Bool):∀(k:Nat) (os:xD aO),(iM P k os).head?=sW P k os
 |_,[]=>rfl
 |k,s::r=>by
  show(if P s=μ then k::iM P (k+1) r else iM P (k+1) r).head?=if P s=μ then δ k else sW P (k+1) r;by_cases h:P s=μ
  .rw[OT h,OT h];rfl
  .rw[OU h,OU h,Q8 P]
def Yn(P:aO->Bool)(os:xD aO)(m:Nat):(dm P os m).head?=l8 P os m:=Q8 P m _
theorem Yo(P:aO->Bool):∀(k:Nat) (os:xD aO),(iM P k os).length<=ry os
 |_,[]=>OM 0
 |k,s::r=>by
  let:=Yo P (k+1) r;show(if P s=μ then k::iM P (k+1) r else iM P (k+1) r).length<=ry r+1;by_cases h:P s=μ
  .rw[OT h];show _+1<=_;omega
  .rw[OU h];omega
def Xy(P:aO->Bool)(os:xD aO)(m:Nat):(dm P os m).length<=ry os:=O1 (Yo P m _) (by rw[Ry];rwa[N09])
def gf(s:aO):Bool:=match s.2.2 with
 | .cl _ _ _ _=>μ
 |_=>ν
def Dc(P:aO->Bool)(os:xD aO)(j:Nat):Bool:=match os[j]? with
 |some s=>P s
 |none=>ν
theorem Qh{P Q:aO->Bool}(h:∀s,P s=μ->Q s=μ)(os:xD aO):∀(n m:Nat),n=ry os - m->(dm Q os m).filter (Dc P os)=dm P os m
 |0,m,e=>by rw[Kj N9,Kj N9];rfl
 |n+1,m,e=>by
  let c:m < ry os:=by rwa[N09]
  let a:=OG c;rw[KH a,KH a];let i:=Qh h os n (m+1) N9;let E:Dc P os m=P os[m]:=by unfold Dc;rw[a]
  by_cases H:P os[m]=μ
  .rw[OT$ h _ H,OT H,Ve (by rw[E];rwa[H]),i]
  .rw[OU H];by_cases b:Q os[m]=μ
   .rw[OT b,Vf (by rw[E];rwa[H]),i]
   .rw[OU b,i]
def IG(s:aO)(h:di f i s=μ):gf s=μ:=by let#[S,a,e]:=ZG h;unfold gf;rw[e]
def nH(s:Sk)(p:aN)(os:xD aO)(m:Nat)(a:aN)(k:Nat):Ly:=#[(iJ s p os m a k).k,(iJ s p os m a k).t,(iJ s p os m a k).f,tI s p os m]
def BA(p:aN)(o:aO)(a:aN)(n:Int)(h:xD Int)(w:Sk):Ly:=
 if aX n h o=μ then (if o.2.2.fnd=w.fnd then #[[(p,a)],[],[],[p]] else #[[],[(p,a)],[],[p]]) else #[[],[],[a],[]]
def Yp{w:Sk}{os:xD aO}(h:fo os m n H w=θ):nH (.st n H w r) a os m p k=(#[[],[],c7 (p++[(k:Int)]) w,[]]:Ly).app (nH r a os m p$ k+1):=by unfold nH;rw[KU h,Yl h];rfl
def ve{w r:Sk}{po:aN}{os:xD aO}{pn:aN}{k:Nat}(h:fo os m n b w=δ j)(c:os[j]?=δ o):nH (.st n b w r) po os m pn k=(BA (po++[(j:Int)]) o (pn++[(k:Int)]) n b w).app ((nH w (po++[(j:Int)]) (sL o.2.2) 0 (pn++[(k:Int)]) 0).app$ nH r po os (j+1) pn$ k+1):=by
 unfold nH;rw[KW h c,Ym h c];unfold BA one Ly.app;by_cases H:aX n b o=μ
 .rw[OT H,OT H,OT H];by_cases a:o.2.2.fnd=w.fnd
  .rw[OT a,OT a];simp
  .rw[OU a,OU a];simp
 .rw[OU H,OU H,OU H];simp
def vb{w:Sk}{os:xD aO}(o:w.ok ν)(h:∀f i s a,w≠ .cl f i s a):nH w p os m b k= .nil:=by
 cases w with
 |nil |st _ _ _ _=>rwa[o.elim]
 |cl f i s a=>rwa[absurd Z (h f i s a)]
 |_=>rfl
inductive gL(n:Nat)(e:xD V)(H:Hp)(Q:VK)(b:XK):Prop
 |mk(d:ζ)(p:aN)(f:ρ)(c:xD Int)(s:Sk)(a:Int)(u:V)(_:e=[u,.ref d])(_:H d=δ (.tup (p.map tT)))(_:ry p+n<=100)(_:gN H f c s a u)(_:s.ok μ)(_:s.dep < n)(_:s.size<=1000)(_:∀(r:ζ) (xs:xD V) (H':Hp),H r=θ->H' r=δ (.lst xs)->bh em H' ((s.ws p 0).map (·.1)) xs->aa H H'->Q (.ref r) H')
inductive Hu(h j:ζ)(p:aN)(u:V)(s:Sk)(H:Hp)(i:Nat)(l:_L.St)(a:Hp):Prop
 |mk(f g:xL V)(k:xD V)(b:l=[δ u,↑h,↑j,f,g])(c:a j=δ (.lst k))(d:bh em a ((mf (s.steps.take i) p 0).map (·.1)) k)(e:aa H a)
inductive iW(n:Nat)(t:xD V)(H:Hp)(Q:VK)(a:XK):Prop
 |mk(D:DF)(z k s h g m c l b:ζ)(p o:aN)(f:ρ)(i j:xD Int)(q r:Sk)(d e:Int)(y:Ly)(_:t=[.ref c,.ref b,.ref m,.ref l,.ref z])(_:Lt H z k s h g y)(_:H m=δ (.tup (p.map tT)))(_:H l=δ (.tup (o.map tT)))(_:ry p+n<=49)(_:ry o+n<=49)(_:gN H f i q d (.ref c))(_:q.ok μ)(_:q.dep<=15)(_:q.size<=1000)(_:gN H f j r e (.ref b))(_:r.ok μ)(_:r.dep < n)(_:r.dep<=15)(_:r.size<=1000)(_:Dt D f q)(_:Dt D f r)(_:(y.app (nH r p q.steps 0 o 0)).tot<=100000)(_:∀H',Lt H' z k s h g (y.app (nH r p q.steps 0 o 0))->db k s h g H H'->Q .non H')
inductive Nf(D:DF)(z B P A n J c C b:ζ)(M L:aN)(f:ρ)(K:xD aO)(O:xD V)(N:Sk)(k:Ly)(H:Hp)(i:Nat)(Q:_L.St)(l:Hp):Prop
 |mk(E F G I d e g h j:xL V)(m:Nat)(a:Sk)(y:Ly)(o:Q=[↑c,↑b,↑J,↑C,↑z,δ (.int (m:Int)),E,F,G,I,d,e,g,h,j])(p:Lt l z B P A n y)(q:eI l a .non (O.drop i))(r:a.ok μ)(s:a.dep<=N.dep)(t:a.size<=N.size)(u:Dt D f a)(v:m<=ry K)(w:y.app (nH a M K m L i)=k)(x:db B P A n H l)
def dN(l:xD Nat):xD V:=l.map λ(j:Nat)=>tT (j:Int)
def Ln:aj ["_law_step"] ["_law_step"] (ae Gr):=bQ
def Fp(F:xb K "_law_found" Gr f l):⇑1 f l ["_law_step"] oi:=by
 erw[F.ok Ln λC A o s H v Q E t h=>?_]
 let#[p,h,n,u,w,Z,b,i,d,q]:=h;erw[#[_,(jd (jy (j8$ jw$ jq jC (pv 0) jf) (jg$ jo$ jw$ jq jC (jq jC (pv 0) jf) jf) jp)$ jg$ jo$ jw$ pv 0),?_]];cases w with
 |nil |st _ _ _ _=>rwa[d.elim]
 |ask _ |rd _ _ |wr _ _=>let#[x,Z,G]:=i;erw[ai λm j=>(jr b dC #[x,_,_,_,Z,Z,aC.of G,dQ,Z,_,Z,aY N7$ j _ _ ?_])];rwa[(jr b dC q)]
 |cl f I s a=>let#[x,c,g,e,S,Z,G,r,_]:=i;rwa[ai λm j=>(jr b dC #[x,_,_,_,Z,Z,aC.of G,dQ,Z,_,Z,c8 N7$ jr b dC #[x,_,_,_,Z,Z,aC.of G,gQ,c,_,_,_,Z,Z,aC.of r,Ia,q]])]
def rG:aj ["_law_chain","_law_at","_law_found_here","_law_k","_law_step"] z16z (ae B0):=bQ
def Fd(F:xb K "_law_all_in" B0 f fd)(cS:‹n+1› fS f0 z16z (gL n) "_law_all_in")(m0:mg "enumerate"=θ):⇑(n+2) f fd z16z (gL$ n+1):=by
 erw[F.ok rG λc0 A o1 s H vs Q E hr h=>?_]
 let#[M,p,f,is,s,a,u,Z,hp,h',hc,d,hd,hz,q]:=h;erw[#[_,(jd (jA 2 rG.nd$ jF jb)$ jd (kf Po Z (KN Z m0$ ja (jw$ pv 0) jb) (zV (n:=2) Z$ jD (jx (i:=3) rG.nd Z$ ω Z)$ jD (jx (i:=4) rG.nd Z$ ω Z) kB)$ jd (jL$ jZ OV O8 O7 jQ (pv 2)$ ja (jv jU (pv 1)$ ji$ ja (pv 3) jb) jb)$ jg$ jy (j8$ jw$ jq jC (pv 4) jf) (jg$ jL$ jZ OV Ri Rh zD (pv 2)$ ja (cS.e hr.m$ ja (jw$ jq jC (pv 4) jf)$ ja (jv jU (pv 1)$ ji$ ja (pv 3) jb) jb) jb) jp)$ jg$ jo$ pv 2),?_]];let b1:=aL;let#[c,g,e,ss,Z,h1,h2,h3,h4]:=hc;let lt:=kU d h4;let fl:=zb d p 0;rw[JG d]at fl;erw[ai λF1 B=>#[g9,λT N=>B _ _ ?_]];let s1:aa H (af H T$ .lst []):=je N;erw[ai λF1 B=>eX λJ j=>(jr (s1 _ _ h1) dC #[e,Z,#[_,aC.of$ s1 _ _ h3],j _ _ ?_])];erw[q9 (K:=K) (xs:=ss) (Hu M T p (.ref c) s H) #[θ,θ,[],Z,jc,Z,s1] (λi σ Hx _ h=>?_) ?_ (λσ Hx h=>B _ _ ?_)]
 .let#[_,_,_,_,_,_,W]:=h;rwa[aC.of$ W _ _ h3]
 .intro E hE i x X σ H7 hx np Y Gq U h;let#[o3,o4,xs,Z,w1,w2,W]:=h;let s8:aa H7 (af H7 X$ .tup [.int i,x]):=je np;let e8:af H7 X (.tup [.int i,x]) X=δ (.tup [.int i,x]):=jc;erw[U ?_];generalize af H7 X (.tup [.int i,x])=H8 at s8 e8 ⊢;let S8:=W.trans s8;let#[n1,h6,w,q,hh,u,ht,O,d0,s0,Z,h0,a0,hw]:=zJ d (h4.mono$ aa.tm S8) hx;erw[#[X,_,Z,aC.of e8,Z,_,_,Z,_,_,Z,Z,?_]];let h7:i < ry s.steps:=(ξ.mp ht).1;let et:s.steps.take (i+1)=s.steps.take i++[(n1,h6,w)]:=by rw[Rb,ht];rfl
  let eb:(mf (s.steps.take$ i+1) p 0).map (·.1)=(mf (s.steps.take i) p 0).map (·.1)++c7 (p++[(i:Int)]) w:=by rw[et,Ji,O4,Pf,RS$ RX h7,SQ,Yj];show _++(_++[])=_;rw[Pj]
  let bl:=Ab s.steps (i+1) p 0;let b0:=P' ry eb;rw[OL,OJ,KS O]at b0;let lx:=w2.len;rw[fl]at bl;show eQ _ _ E [↑c,↑M,↑T,δ$ .int i,↑q] H8;erw[ai λF1 B=>#[_,Z,.inl #[Z,_,aK.of$ s8 _ _ w1],_,Z,_,Z,iZ,λt nt=>#[M,t,_,_,Z,Z,aq (S8 _ _ hp) nt,jc,by rw[OJ];show _+1<=_;omega,λR C e9 s9=>?_]]];let S9:aa H8 C:=(je (o:=.tup [.int i]) nt).trans s9;let e9:C R=δ (.tup$ p.map tT++[.int (i:Int)]):=e9;rw[sK]at e9;let w9:=S9 _ _ (s8 _ _ w1);erw[#[T,xs,_,Z,Z,w9,N9,B _ _ ?_]];let G:am C (af C T$ .lst$ xs++[.ref R]):=JH w9;let k:af C T (.lst$ xs++[.ref R]) T=δ (.lst$ xs++[.ref R]):=jc;let k0:∀b o,b≠T->C b=δ o->af C T (.lst$ xs++[.ref R]) b=δ o:=λb o nb e=>by rw[jh nb];rwa[e]
  generalize af C T (.lst$ xs++[.ref R])=v at G k k0;let r:am H8 v:=(aa.tm S9).trans G;let I:aa H v:=λb o e=>k0 _ _ (jk e N) (S9 _ _$ S8 _ _ e);let x0:bh em v ((mf (s.steps.take i) p 0).map (·.1)++[p++[(i:Int)]]) (xs++[.ref R]):=bh.app (bh.one #[R,Z,G _ _ e9]) (((w2.mono bG$ aa.tm s8).mono bG r));let#[p3,v3,r3,eu,h8,h5]:=Ki O (hw.mono r);subst eu;erw[oW λG1 yT yF=>(jr (r _ _ h0) dC #[p3,_,_,_,Z,Z,aC.of h8,dQ,Z,_,Z,?_])];rw[Jk];by_cases hv:v3="call"
  .let#[g',L,D,a',Z]:=h5.mp hv;rw[OY hv];let#[x1,c1,g1,e1,s2,e2,k1,k2,k3,k4,k5]:=hw.mono r;cases e2;let d0:D.dep+1<=s.dep:=d0;let s0:D.size+1<=s.size:=s0;erw[yT _ #[_,Z,.inl #[Z,_,aK.of k],jr (r _ _ h0) dC #[p3,_,_,_,Z,Z,aC.of k1,gQ,_,Z,_,Z,iZ,λt2 n0=>#[M,t2,_,_,Z,Z,aq (I _ _ hp) n0,jc,by rw[OJ];show _+1<=_;omega,λr0 H0 y s3=>?_]]]];let S:aa v H0:=(je (o:=.tup [.int i]) n0).trans s3;let y:H0 r0=δ (.tup$ p.map tT++[.int (i:Int)]):=y;rw[sK]at y;erw[#[r0,_,g',L,D,a',.ref c1,Z,y,by rw[OL];show _+1+_<=_;omega,#[c1,g1,e1,s2,Z,S _ _ k2,S _ _ k3,S _ _ k4,k5.mono$ aa.tm S],O,N9,N9,λl zs H1 nl hl hz s4=>?_]];let z:=S.trans s4;let lz:=hz.len;rw[OJ,zb (show D.ok μ from O)]at lz;let ez:(xs++[vr R]).length=ry xs+1:=by rw[OL];rfl
   let s5:(Sk.cl g' L D a').size=D.size:=rfl;erw[#[T,l,_,_,Z,Z,z _ _ k,hl,N9,Y _ _ #[_,_,_,Z,jc,?_,λb o e=>?_]]]
   .rw[eb];let t0:am H1 (af H1 T$ .lst$ xs++[.ref R]++zs):=JH (z _ _ k);let e0:c7 (p++[(i:Int)]) (.cl g' L D a')=[p++[(i:Int)]]++(D.ws (p++[(i:Int)]) 0).map (·.1):=rfl;rw[e0,<- Pt];rwa[(bh.app hz$ x0.mono bG$ aa.tm z).mono bG t0]
   .rw[jh$ jk e N];rwa[z _ _$ I _ _ e]
  .rw[OR hv];erw[yF _$ Y _ _ #[_,_,_,Z,k,?_,I]];rw[eb];let e0:c7 (p++[(i:Int)]) w=[p++[(i:Int)]]:=by
    cases w with
    |nil |st _ _ _ _=>rwa[O.elim]
    |cl f is s a=>rwa[absurd (h5.mpr #[f,is,s,a,Z]) hv]
    |_=>rfl
   rw[e0];rwa[x0]
 .let#[o3,o4,xs,Z,w1,w2,W]:=h;rw[lt,Py,<- JG d]at w2;rwa[#[_,Z,q T xs Hx N w1 w2 W]]
def EU:⇑k f c z16z (gL 0):=by
 let n:∀{v H Q E},¬gL 0 v H Q E:=by rintro v H Q E ⟨d,p,f,i,s,a,u,_,_,_,_,_,z,_⟩;omega
 rwa[#[λv H Q E h=>(n h).elim,λA o s H b U v Q E e g j l h=>(n h).elim]]
theorem HZ(F:xb K "_law_all_in" B0 f a)(b:aE K a z16z [])(M:mg "_law_all_in"=↑f)(m:mg "enumerate"=θ):∀n,⇑(n+1) f a z16z (gL n)
 |0=>EU
 |n+1=>Fd F #[(HZ F b M m n),b,F.kp,M] m
section
open SeqAt
variable {X:Cx}
def MU(I:au X p σ H s)(n:Nat)(G:∀(t:Tr) {A:bU},t.dep<=n->A.units+n < cLine->t.In->t.isL=ν->∀{u:Tr} {x y:V},u.In->u.isL=ν->aR H t x []->aR H u y []->∀a b,aJ x a->aJ y b->EqAt A s a b (hX t u)){l m:Tr}(hn:l.dep<=n)(hu:A.units+n+1 < cLine)(J:l.In)(L:m.In)(d:l.isL=μ)(f:m.isL=μ)(M:H g=δ (.tup i))(N:H B=δ (.tup o))(T:aR H l .non i)(q:aR H m .non o):RcNeAt A s (.ref g) (.ref B) (!hX (.tp l) (.tp m)):=by
 let#[v,r,O,_]:=I.tuple (aC.of (K:=X.K) M);let#[C,R,Q,_]:=I.tuple (aC.of (K:=X.K) N);let#[S,U]:=qC d J T;let#[W,Y]:=qC f L q;let z:=RcNeAt.tuples (A:=A) (e:=me l m) (show s.heap.IsTuple g v.toArray from O) (show s.heap.IsTuple B C.toArray from Q) N9 (λj h1 h2=>?_)
 .rw[Yi d f T q (by rw[ON,<- r.length,S]) (by rw[ON,<- R.length,W])]at z;let E:hX (.tp l) (.tp m)=hX l m:=by
   by_cases c:l=m
   .rw[zp c,zp (by rw[c])]
   .rw[zh c,zh (λk=>c (by injection k))]
  rw[E];rwa[z]
 .let la:=r.length;let lb:=R.length;let D:j < ry i:=by simp at h1;omega
  let h:j < ry o:=by simp at h2;omega
  let#[u1,q1,r1]:=r.get (OG D);let#[u2,q2,r2]:=R.get (OG h);let e1:v.toArray[j]=u1:=by let#[_,e]:=ξ.mp q1;simpa using e
  let E:C.toArray[j]=u2:=by let#[_,e]:=ξ.mp q2;simpa using e
  rw[e1,E];let#[F,g1,g2,g3,g4,g5]:=U j _ (OG D);let#[u',k1,k2,k3,k4,k5]:=Y j _ (OG h);let et:me l m j=hX F u':=by unfold me;rw[g1,k1]
  rw[et];rwa[G F (A:=A.in1) N9 (by show A.units+1+n < cLine;omega) g3 g2 k3 k2 g5 k5 _ _ r1 r2]
inductive Gc(d:Nat)(x y:V)(H:Hp)(Q:VK):Prop
 |mk(l m:Tr)(_:l.dep < d)(_:l.In)(_:m.In)(_:aR H (.tp l) x [])(_:aR H (.tp m) y [])(_:Q (.bl (!hX (.tp l) (.tp m))) H)
def FL{d:Nat}(c:X.A.units+d+1 < cLine):fQ X (compareOp .NotEq) (Gc d):=by intro p s n H x y v u Q I r R h;obtain⟨l,m,o,i,e,⟨f,a,z,rfl,g,t⟩,⟨j,b,B,rfl,k,T⟩,q⟩:=h;cases r;cases R;rwa[MU I d (KD I d) N9 c i e f j g k t T X.prog X.w _ _ #[.bl _,H,I,Z,q]]
end
def NB(r R:R2):R2:=λx y H Q=>r x y H Q\/R x y H Q
def FM{X:Cx}(b:fQ X o c)(d:fQ X o e):fQ X o (NB c e):=λp s a H x y v u Q I r R h=>h.elim (b p s a H x y v u Q I r R) (d p s a H x y v u Q I r R)
def mG(os:xD aO)(m:Nat)(n:Int)(h:xD Int)(w:Sk):xD Nat:=if dm (aX n h) os m=[] then (match w with
 | .cl f i _ _=>dm (di f i) os m
 |_=>[]) else []
def JM(os:xD aO)(m:Nat)(n:Int)(h:xD Int)(w:Sk):(dm (aX n h) os m++mG os m n h w).head?=fo os m n h w:=by
 let H:=Yn (aX n h) os m;unfold fo mG;cases e:dm (aX n h) os m with
 |cons j r=>rw[e]at H;rw[<- H];rfl
 |nil=>
  rw[e]at H;rw[<- H,OT Z];show(match w with | .cl f i _ _=>dm (di f i) os m |_=>[]).head?=gi os m w;cases w with
  |cl f i s a=>rwa[Yn (di f i) os m]
  |_=>rfl
def LN(l:xD Nat):l.take 1=match l.head? with |some j=>[j] |none=>[]:=by cases l<;>rfl
def A4(os:xD aO)(m:Nat)(n:Int)(h:xD Int)(w:Sk):(mG os m n h w).length<=ry os:=by
 unfold mG;split
 .split
  .rwa[Xy _ _ _]
  .rwa[OS _]
 .rwa[OS _]
def Ik(l:xD Nat):aT (dN l) θ (δ 1)=dN (l.take 1):=by
 unfold aT dN;let e:HT.sIx (l.map λ(j:Nat)=>tT (j:Int)).length 0 θ=0:=rfl;rw[e,Ug,SX,Ti];cases l with
 |nil=>simp
 |cons a r=>
  let E:HT.sIx ((a::r).map λ(j:Nat)=>tT (j:Int)).length ((a::r).map λ(j:Nat)=>tT (j:Int)).length (δ 1)=1:=by unfold HT.sIx;simp
  rw[E]
def Yq(l:xD Nat):(dN l).isEmpty=l.isEmpty:=by cases l<;>rfl
def Xz(a b:xD Nat):dN a++dN b=dN (a++b):=by unfold dN;rw[O4]
def Kk(l:xD Nat):(dN l).length=ry l:=OJ _
inductive XOr(H:Hp)(s:Sk)(S:xD V)(j:Nat)(o:aO):Prop|mk(p h u:_)(_:S[j]?=↑p)(_:H p=δ (.tup [.int o.1,.ref h,u]))(_:H h=δ (.tup$ o.2.1.map tT))(_:eI H o.2.2 u [])(_:o.2.2.ok ν)(_:o.2.2.dep<=s.dep)(_:o.2.2.size+1<=s.size)
def XO{H:Hp}{s:Sk}{S:xD V}{j:Nat}{o:aO}(O:s.ok μ)(h:eI H s .non S)(a:s.steps[j]?=δ o):XOr H s S j o:=by let l:=kU O h;let k:=(ξ.mp a).1;obtain⟨x,b⟩:∃x,S[j]?=δ x:=#[_,OG N9];let#[n,m,w,p,c,u,t,T,d,e,Z,f,g,i]:=zJ O h b;rw[a]at t;cases t;rwa[#[p,c,u,b,f,g,i,T,d,e]]
def Ef{w:Sk}(o:w.ok ν)(h:eI H w u []):∃p v r,u= .ref p/\H p=δ (.tup (.str v::r))/\∀n c,decide (v="call")=gf (n,c,w):=by
 let#[p,v,r,e,g,d]:=Ki o h;erw[#[p,v,r,e,g,λn c=>?_]];by_cases b:v="call"
 .let#[f,i,s,a,Z]:=d.mp b;rw[OY b];rfl
 .rw[OR b];cases w with
  |cl f i s a=>rwa[absurd (d.mpr #[f,i,s,a,Z]) b]
  |_=>rfl
def A0{j i:xD Int}:hX (ay [aM g,ay$ j.map ar]) (ay [aM f,ay$ i.map ar])=di f i (n,H,.cl g j s a):=by
 by_cases h:g=f/\j=i
 .rw[h.1,h.2,zp Z];rwa[(OY #[Z,Z]).symm]
 .rw[zh]
  .rwa[(OR h).symm]
  intro e;let e:Tr.tp (.cons (aM g)$ .cons (ay$ j.map ar) .nil)= .tp (.cons (aM f)$ .cons (ay$ i.map ar) .nil):=e;injection e with e;injection e with A c;injection c with b _;injection A with A;injection A with A;let b:Tr.tp (aD$ j.map ar)= .tp (aD$ i.map ar):=b;injection b with b;rwa[h #[A,qD b]]
def DE(f:ρ)(i:xD Int):(aD [aM f,ay$ i.map ar]).In:=#[Z,zf i,trivial]
def ET(f:ρ)(i:xD Int):(aD [aM f,ay$ i.map ar]).dep < 10:=by let h:=zg i;show max 0 (max ((aD$ i.map ar).dep+1) 0) < 10;omega
def wm{P:aO->Bool}{os:xD aO}(b:os[m+i]?=δ o)(h:a++dN (dm P os$ m+i)=dN (dm P os m)):(P o=μ->(a++[.int ((m:Int)+(i:Int))])++dN (dm P os$ m+(i+1))=dN (dm P os m))/\(P o=ν->a++dN (dm P os$ m+(i+1))=dN (dm P os m)):=by
 rw[KH b]at h;let e:(m:Int)+(i:Int)=((m+i:Nat):Int):=by omega
 erw[#[λH=>?_,λH=>?_]]
 .rw[OT H]at h;rw[<- h,e,Pt];rfl
 .rw[OU (by rw[H];intro z;cases z)]at h;rwa[h]
theorem pT{P:aO->Bool}{os:xD aO}(h:os[j]?=δ o)(H:P o=μ):∀(d m:Nat),j=m+d->j∈dm P os m
 |0,m,e=>by let e:j=m:=e;subst e;rw[KH h,OT H];rwa[O5]
 |d+1,m,e=>by
  let b:=(ξ.mp h).1;let a:m < ry os:=by omega
  rw[KH$ OG a];let i:=pT h H d (m+1) N9;split
  .rwa[Pe _ i]
  .rwa[i]
theorem pS(P:aO->Bool):∀(k:Nat) (os:xD aO),∀j∈iM P k os,∃i s,j=k+i/\os[i]?=δ s/\P s=μ
 |_,[],_,h=>nomatch h
 |k,s::r,j,h=>by
  let h:j∈(if P s=μ then k::iM P (k+1) r else iM P (k+1) r):=h;let g:j∈iM P (k+1) r->∃i S,j=k+i/\(s::r)[i]?=δ S/\P S=μ:=λz=>by let#[i,S,e,a,b]:=pS P (k+1) r j z;rwa[#[i+1,S,N9,by simpa using a,b]]
  by_cases H:P s=μ
  .rw[OT H]at h;rcases Ξ.mp h with rfl |h
   .rwa[#[0,s,Z,Z,H]]
   .rwa[g h]
  .rw[OU H]at h;rwa[g h]
def YT{P:aO->Bool}{os:xD aO}{m j:Nat}(h:j∈dm P os m):m<=j/\∃s,os[j]?=δ s/\P s=μ:=by let#[i,s,e,H,a]:=pS P m _ j h;rw[Up]at H;rwa[#[N9,s,by rw[e];rwa[H],a]]
def Ah(os:xD aO)(m:Nat)(n:Int)(h:xD Int)(w:Sk)(p a:aN)(k:Nat):Ly:=match dm (aX n h) os m with
 | []=>#[[],[],[a++[(k:Int)]],[]]
 |j::_=>match os[j]? with
  |some o=>if o.2.2.fnd=w.fnd then #[[(p++[(j:Int)],a++[(k:Int)])],[],[],[p++[(j:Int)]]] else #[[],[(p++[(j:Int)],a++[(k:Int)])],[],[p++[(j:Int)]]]
  |none=>.nil
def vg{os:xD aO}{w:Sk}{po pn:aN}{k:Nat}(h:fo os m n H w=δ j)(b:os[j]?=δ o):Ah os m n H w po pn k=BA (po++[(j:Int)]) o (pn++[(k:Int)]) n H w:=by
 let a:=JM os m n H w;rw[h]at a;let#[d,_]:=zB h;unfold Ah BA;cases e:dm (aX n H) os m with
 |cons J r=>rw[e]at a;injection a with a;subst a;let#[_,s,c,f]:=YT (P:=aX n H) (os:=os) (m:=m) (j:=J) (by rw[e];rwa[O5]);rw[b]at c;cases c;rw[OT f];dsimp only;rw[b]
 |nil=>rw[OU];intro g;let:=pT b g (j - m) m N09;rw[e]at this;cases this
def vf{os:xD aO}{w:Sk}(h:fo os m n H w=θ):Ah os m n H w b p k=#[[],[],[p++[(k:Int)]],[]]:=by
 let a:=JM os m n H w;rw[h]at a;unfold Ah;cases e:dm (aX n H) os m with
 |cons j r=>rw[e]at a;cases a
 |nil=>rfl
def AD(os:xD aO)(m:Nat)(n:Int)(h:xD Int)(w:Sk)(p a:aN)(k:Nat):(Ah os m n h w p a k).tot<=2:=by
 unfold Ah;split
 .rwa[Rk 1]
 .split
  .split
   .rwa[OM 2]
   .rwa[OM 2]
  .rwa[OS 2]
def vP{W b:Sk}(o:W.ok ν)(O:b.ok ν)(E:dj W=dj b)(I:eI c W u [])(j:eI c b U [])(G:V->Hp->Prop)(h:G (.bl (!decide (W.fnd=b.fnd))) c):(NB NA$ Gc 10) (DB W u) (DB b U) c G:=by
 let#[F,k]:=Es o O E;by_cases H:W.fnd=b.fnd
 .rw[OY H]at h;rcases F H with ⟨f,i,S,A,s,a,rfl,rfl,e⟩ | ⟨rfl,n⟩
  .erw[.inl #[Z,?_]];rw[show decide (DB (.cl f i S A) u=DB (.cl f i s a) U)=μ from OY (by show tT A=tT a;rw[e])];rwa[h]
  .let#[l,m,dl,g]:=yA o n;rw[wA n,wA n];let T:=JS o I (λ_=>Z) (λz=>nomatch z);let t:=JS o j (λ_=>Z) (λz=>nomatch z);rw[m]at T t;erw[.inr #[l,l,dl,g,g,T,t,?_]];rw[zp Z];rwa[h]
 .rw[OR H]at h;rcases k H with ⟨f,i,S,A,s,a,rfl,rfl,e⟩ | ⟨C,p,d,rfl,rfl,e⟩
  .erw[.inl #[Z,?_]];rw[show decide (DB (.cl f i S A) u=DB (.cl f i s a) U)=ν from OR λz=>e (by injection z)];rwa[h]
  .let T:=JS o I (λ_=>Z) (λz=>nomatch z);let t:=JS O j (λ_=>Z) (λz=>nomatch z);erw[.inr #[aD [aM "read",ar C,ar p],aD [aM "read",ar C,ar d],by show max 0 (max 0$ max 0 0) < 10;decide,#[Z,Z,Z,trivial],#[Z,Z,Z,trivial],T,t,?_]];rw[zh]
   .rwa[h]
   intro z;injection z with z;injection z with _ z;injection z with _ z;injection z with z _;injection z with z;injection z with z;rwa[e z]
def L4.new(h:L4 H o r k t f d y)(n:H x=θ):x≠k/\x≠t/\x≠f/\x≠d:=by let#[_,a,_]:=h.kv;let#[_,b,_]:=h.tv;let#[_,c,_]:=h.fv;let#[_,e,_]:=h.dv;rwa[#[(jk a n).symm,(jk b n).symm,(jk c n).symm,(jk e n).symm]]
def db.kept(b:db k t f d H a)(n:x≠k/\x≠t/\x≠f/\x≠d)(h:H x=δ o):a x=δ o:=b _ _ n.1 n.2.1 n.2.2.1 n.2.2.2 h
def zE(s:aa H h)(n:h x=θ):H x=θ:=by
 cases z:H x with
 |none=>rfl
 |some o=>rw[s _ _ z]at n;cases n
def Ng(os:xD aO)(m i:Nat)(P:aO->Bool)(H:Hp)(z:xD V)(h:Hp):Prop:=aa H h/\ry z<=i/\z++dN (dm P os$ m+i)=dN (dm P os m)
def eP:aj z40z z19z (ae uu):=bQ
def uA:hJ:=#[.function,[(".0",.local),("_law_j",.local),("_law_old",.free),("_law_step",.free)],ν,ν,[]]
def wH:(z31z:xD ρ).Nodup:=by decide+kernel
def vo:bo z40z (ae uu) uA z31z 1 [0,7]:=oU
def uB:hJ:=#[.function,[(".0",.local),("_law_j",.local),("_law_old",.free)],ν,ν,[]]
def EO:(["_law_j","_law_old"]:xD ρ).Nodup:=by decide+kernel
def Eg:bo z40z (ae uu) uB ["_law_j","_law_old"] 1 [0]:=oU
def Fg(F:xb K "_law_beside" uu f fd)(cF:‹1› fF m3 ["_law_step"] oi "_law_found")(cW:‹18› fW m4 z16z (gL 17) "_law_all_in")(cS:‹n+20› fS m5 z19z (iW n) "_law_beside")(m0:mg "enumerate"=θ)(ml:mg "len"=θ)(mr:mg "range"=θ)(mi:mg "int"=θ):⇑(n+21) f fd z19z (iW$ n+1):=by
 erw[F.ok eP λm6 A o' s H vs Q E hr h=>?_]
 symm;let#[D,z,kA,tA,fA,dA,oa,c,na,b,po,pn,f,is,js,S,s1,a0,a1,y,Z,hL,b9,d3,m7,m8,d4,o1,m9,m',d5,d6,p0,m2,h6,D0,D1,b',q]:=h;erw[#[_,(jd (jA 5 eP.nd jf)$ jg$ kf Po Z (KN Z m0$ ja (jw$ pv 1) jb) (zV (n:=2) Z$ jD (jx (i:=6) eP.nd Z$ ω Z)$ jD (jx (i:=7) eP.nd Z$ fz Z) kB)$ jd (jA 8 eP.nd$ jv jU (pv 3)$ ji$ ja (pv 6) jb)$ jd (@qG _ _ _ _ _ _ _ _ _ _ (10) (z31z) (1) ([0,7]) _ _ _ _ eP.nd Z (ω Z) Z (qH Z mr$ ja (pv 5)$ ja (jO jK Z ml Pz$ ja (jw$ pv 0) jb) jb) vo (λ_ _ _ _ _=>(jx (i:=0) wH Z$ ω Z)) (λ_ _ _ _ _=>(@Kw _ _ _$ jz (KE (d:=10)$ nO hr) (jI j9 (jq (r:=dh K) (kK (K:=K) Z) (jq (r:=dh K) (kK (K:=K) Z) (pv 1) jf) (pv 0)) jT$ jH jf) (jI j9 (pv 2) jT$ jH jf)$ aF _)) (λ_ _ _ _ _=>(pv 0)) N6 (by first |rwa[.inl Z] |rwa[.inr Z]) (by intro _;rfl))$ jd (jA 11 eP.nd$ jF jb)$ jd (jy (PW.pt$ qR (jz (YS$ Sf$ zR hr) (pv 10) (jF jb)$ aF _)$ qd$ j8$ jw$ jq jC (pv 7) jf) (jd (@qG _ _ _ _ _ _ _ _ _ _ (12) (["_law_j","_law_old"]) (1) ([0]) _ _ _ _ eP.nd Z (ω Z) Z (qH Z mr$ ja (pv 5)$ ja (jO jK Z ml Pz$ ja (jw$ pv 0) jb) jb) Eg (λ_ _ _ _ _=>(jx (i:=0) EO Z$ ω Z)) (λ_ _ _ _ _=>(@Kw _ _ _$ jz qr (jq (r:=dh K) (kK (K:=K) Z) (jq (r:=dh K) (kK (K:=K) Z) (jq (r:=dh K) (kK (K:=K) Z) (jq (r:=dh K) (kK (K:=K) Z) (pv 1) jf) (pv 0)) jf) jf) jm$ aF _)) (λ_ _ _ _ _=>(pv 0)) N6 (by first |rwa[.inl Z] |rwa[.inr Z]) (by intro _;rfl))$ jg$ @qG _ _ _ _ _ _ _ _ _ _ (11) (z31z) (1) ([0,7]) _ _ _ _ eP.nd Z (ω Z) Z (zw$ pv 12) vo (λ_ _ _ _ _=>(jx (i:=0) wH Z$ ω Z)) (λ_ _ _ _ _=>(@Kw _ _ _$ jz (KE (d:=10)$ nO hr) (jI j9 (jq (r:=dh K) (kK (K:=K) Z) (jq (r:=dh K) (kK (K:=K) Z) (jq (r:=dh K) (kK (K:=K) Z) (jq (r:=dh K) (kK (K:=K) Z) (pv 1) jf) (pv 0)) jf) jf) jT$ jH jf) (jI j9 (jq (r:=dh K) (kK (K:=K) Z) (jq (r:=dh K) (kK (K:=K) Z) (pv 2) jf) jf) jT$ jH jf)$ aF _)) (λ_ _ _ _ _=>(pv 0)) N6 (by first |rwa[.inl Z] |rwa[.inr Z]) (by intro _;rfl)) jp)$ jd (jy (jz (YS$ Sf$ zR hr) (pv 10) (jF jb)$ aF _) (jg$ jL$ jZ OV O8 O7 jQ (jw$ pv 4)$ ja (pv 8) jb)$ jd (jA 13 eP.nd$ ji$ ja (jv jU (pv 2)$ ji$ ja (jq ju (pv 10) jf) jb)$ ja (pv 8) jb)$ jd (jL$ jZ OV O8 O7 jQ (jq jC (pv 4) (jJ qI Z mi Wc$ ja (zS (FM QH$ FL (d:=10)$ nO hr) (cF.e hr.m$ ja (jq jC (jw$ pv 0) (jq ju (pv 10) jf)) jb) (cF.e hr.m$ ja (pv 7) jb)$ aF _) jb))$ ja (pv 13) jb)$ jg$ jL$ jZ OV O8 O7 jQ (jw$ pv 4)$ ja (jw$ pv 13) jb)$ jd (jA 14 eP.nd$ jI km (jv zG (pv 10)$ pv 11) jT$ jH jf)$ jd (kf Po Z (zw$ pv 14) (jx (i:=9) eP.nd Z$ ω Z)$ jd (jA 5 eP.nd$ jv jY (pv 9) jf)$ jg$ jy (j8$ jw$ jq jC (pv 7) jf) (jg$ jL$ cS.e hr.m$ ja (jq jC (jw$ jq jC (jq jC (pv 0) jf) (pv 9)) jf)$ ja (jw$ jq jC (pv 7) jf)$ ja (jv jU (pv 2)$ ji$ ja (pv 9) jb)$ ja (pv 8)$ ja (pv 4) jb) jp)$ jg$ jy (PW.pt$ qR (jz (YS$ Sf$ zR hr) (pv 14) (jF jb)$ aF _)$ qd$ j8$ jw$ jq jC (pv 7) jf) (jg$ jL$ jZ OV Ri Rh zD (jw$ pv 4)$ ja (cW.e hr.m$ ja (jw$ jq jC (pv 7) jf)$ ja (pv 8) jb) jb) jp),?_]];let p1:=aL;symm;let#[_,g0,e0,s8,d7,h1,h2,h3,h4]:=id d4;cases d7;let#[_,g1,e1,s',d8,k1,k2,k3,k4]:=id d5;cases d8;let p2:=kU o1 h4;let p4:=qW o1 h4;erw[ai λF1 v=>v _ _ ?_];left;erw[eX λJ jj=>(jr k1 dC #[e1,Z,#[_,aC.of k3],jj _ _ ?_])];erw[q9 (K:=K) (xs:=s') (Nf D z kA tA fA dA oa c na b po pn f S.steps s' s1 (y.app$ nH s1 po S.steps 0 pn 0) H) #[θ,θ,θ,θ,θ,θ,θ,θ,θ,0,s1,y,Z,hL,k4,d6,OM _,OM _,D1,OS _,Z,λ_ _ _ _ _ _ e=>e] (λk σ Hx _ h=>?_) ?_ (λσ Hx h=>?_)]
 .symm;let#[_,_,_,_,_,_,_,_,_,_,_,_,_,_,_,_,_,_,_,_,_,b7]:=h;rwa[aC.of$ hL.tm b7 _ _ k3]
 .intro E rt k x pp σ H4 d' f5 fE Gq kq h;symm;let#[o6,o7,o8,o9,o4,o5,O,C,o2,m,r2,y4,Z,L4,w2,w3,w4,w5,w6,w7,w8,b4]:=h;let s5:aa H4 (af H4 pp$ .tup [.int k,x]):=je f5;let e5:af H4 pp (.tup [.int k,x]) pp=δ (.tup [.int k,x]):=jc;erw[kq ?_];generalize af H4 pp (.tup [.int k,x])=H5 at s5 e5 ⊢;let b5:=b4.trans (db.of_same s5);let t':=hL.tm b5;let L5:=L4.same s5;erw[#[pp,_,Z,aC.of e5,Z,_,_,Z,_,_,Z,Z,?_]];rw[AQ d']at w2;let w2:=w2.mono (aa.tm s5);symm;cases r2 with
  |nil=>rwa[nomatch (show _::_=[] from w2)]
  |ask _ |rd _ _ |wr _ _ |cl _ _ _ _=>rwa[w3.elim]
  |st N p w r1=>
   let#[p',h',u',y',ex,i1,i2,i3,i4]:=w2;injection ex with ex ey;subst ex;subst ey;let d0:w.dep<=s1.dep:=O1 (Te _ _) w4;let d2:r1.dep<=s1.dep:=O1 (SW _ _) w4;let w5:w.size+r1.size+1<=s1.size:=w5;show eQ (eK _ _) (eQ _ _) E [↑c,↑b,↑oa,↑na,↑z,δ$ .int (m:Int),δ$ .int k,↑p',o8,o9,o4,o5,O,C,o2] H5;sleep 7;erw[ai λF1 v=>#[_,Z,_,Z,iZ,λt nt=>#[na,t,_,_,Z,Z,aq (t' _ _ d3) nt,jc,by rw[OJ];show _+1<=_;omega,λr9 H9 e9 s9=>v _ _ ?_]]];left;let S9:aa H5 H9:=(je (o:=.tup [.int k]) nt).trans s9;let e9:H9 r9=δ (.tup$ pn.map tT++[.int (k:Int)]):=e9;rw[sK]at e9;let t6:=hL.tm (b5.trans$ db.of_same S9);erw[ai λF1 v=>#[_,Z,jr (t6 _ _ h1) dC #[e0,_,Z,.inr$ aC.of$ t6 _ _ h3,_,_,Z,#[N9,N9,N9,N9],?_]]];erw[Jz (lo:=(m:Int)) (n:=((s8.length:Int) - (m:Int)).toNat) (λi B Hx=>Ng S.steps m i (aX N p) H9 B Hx) #[aa.refl _,OM 0,Z] N9 (λi B Hx h=>h.2.1) ?_ ?_]
   .intro i B Hx hi h;symm;let#[W,lz,ez]:=h;let h8:m+i < ry S.steps:=by omega
    let X:=OG h8;right;generalize S.steps[m+i]=o at X;symm;let#[q,hq,uq,q1,q2,q3,_,_,_,_]:=XO o1 (h4.mono$ t6.trans$ aa.tm W) X;let ei:(m:Int)+(i:Int)=((m+i:Nat):Int):=by omega
    let#[gy,gn]:=wm X ez;erw[(jr (W _ _$ t6 _ _ h1) dC #[_,Z,e0,_,_,_,Z,Z,aC.of$ W _ _$ t6 _ _ h3,by rw[ei];rwa[jG q1],_,Z,q,_,Z,q2,λt1 Hy a2 sy=>#[_,Z,_,Z,p',_,Z,sy _ _$ W _ _$ S9 _ _ i1,λt2 Hz h6 sz=>#[_,_,pM o.1 o.2.1,Xk o.1 o.2.1,Xk N p,jE (sz _ _ a2)$ jl Z jV$ jl Z (za$ sz _ _$ sy _ _ q3) jB,jE h6$ jl Z jV$ jl Z (za$ sz _ _$ sy _ _$ W _ _$ S9 _ _ i2) jB,_,Z,?_]]])];rw[show hX (.tp$ aD [ar o.1,ay$ o.2.1.map ar]) (.tp$ aD [ar N,ay$ p.map ar])=aX N p o from wC (w:=o.2.2)];let c0:=(W.trans sy).trans sz;cases hb:aX N p o with
    |true=>rwa[nQ #[_,Z,c0,by rw[OL];show _+1<=_;omega,gy hb]]
    |false=>rwa[nP #[c0,N9,gn hb]]
   intro B HA h sl n5;symm;let#[sA,_,ez]:=h;rw[Kj N9]at ez;let ez:B=dN (dm (aX N p) S.steps m):=by rw[<- ez];rwa[(Pj _).symm]
   subst ez;erw[v _ _ ?_];left;let sB:aa HA (af HA sl$ .lst$ dN$ dm (aX N p) S.steps m):=je n5;let eB:af HA sl (.lst$ dN$ dm (aX N p) S.steps m) sl=δ (.lst$ dN$ dm (aX N p) S.steps m):=jc;generalize af HA sl (.lst$ dN$ dm (aX N p) S.steps m)=HB at sB eB ⊢;erw[ai λF1 v=>#[g9,λlA n6=>v _ _ ?_]];left;let sC:aa HB (af HB lA$ .lst []):=je n6;let eC:af HB lA (.lst []) lA=δ (.lst []):=jc;generalize af HB lA (.lst [])=HC at sC eC ⊢;let SC:aa H5 HC:=((S9.trans sA).trans sB).trans sC;let eB:=sC _ _ eB;let t9:=t'.trans (aa.tm SC);let e9:=sC _ _ (sB _ _$ sA _ _ e9);let n7:H5 lA=θ:=zE ((S9.trans sA).trans sB) n6;let f6:H5 sl=θ:=zE (S9.trans sA) n5;let p6:=Xy (aX N p) S.steps m;let p7:=A4 S.steps m N p w;erw[ai λF1 v=>?_];suffices g2:∀(l2:ζ) (O:xL V) (HD:Hp),H5 l2=θ->aa HC HD->HD l2=δ (.lst$ dN$ mG S.steps m N p w)->F1 [↑c,↑b,↑oa,↑na,↑z,δ$ .int (m:Int),δ$ .int k,↑p',↑r9,o9,↑sl,↑l2,O,C,o2] HD by
    left;erw[#[_,Z,g9,λl0 n0=>#[sl,l0,_,Z,Z,aq eB n0,jc,_,Z,?_]]];let sD:aa HC (af HC l0$ .lst []):=je n0;generalize af HC l0 (.lst [])=HD at sD ⊢;let SD:=SC.trans sD;rw[Yq];cases e2:dm (aX N p) S.steps m with
    |cons j0 r0=>
     erw[aY Z$ aY Z$ g2 lA O HD n7 sD ?_];let z:mG S.steps m N p w=[]:=by unfold mG;rw[e2];rfl
     rw[z];rwa[sD _ _ eC]
    |nil=>
     erw[c8 Z ?_];symm;let#[p3,v3,r3,eu,h7,h0]:=Ki w3.1 (i3.mono$ aa.tm SD);subst eu;erw[(jr (SD _ _ i1) dC #[p3,_,_,_,Z,Z,aC.of h7,dQ,Z,_,Z,?_])];rw[Jk];symm;by_cases hv:v3="call"
     .erw[c8 (OY hv) ?_];symm;let#[g,L,sw,aw,Z]:=h0.mp hv;let zl:mG S.steps m N p (.cl g L sw aw)=dm (di g L) S.steps m:=by unfold mG;rw[OT e2]
      rw[zl]at g2;let#[x1,c1,g4,e4,s3,e3,j1,j2,j3,j4,j5]:=i3.mono (aa.tm SD);cases e3;let t0:=t9.trans (aa.tm sD);erw[ai λF2 f2=>#[_,Z,jr (t0 _ _ h1) dC #[e0,_,Z,.inr$ aC.of$ t0 _ _ h3,_,_,Z,#[N9,N9,N9,N9],?_]]];erw[Jz (lo:=(m:Int)) (n:=((s8.length:Int) - (m:Int)).toNat) (λi B Hx=>Ng S.steps m i gf HD B Hx) #[aa.refl _,OM 0,Z] N9 (λi B Hx h=>h.2.1) ?_ ?_]
      .intro i B Hx hi h;symm;let#[W,lz,ez]:=h;let h8:m+i < ry S.steps:=by omega
       let X:=OG h8;right;generalize S.steps[m+i]=o at X;symm;let#[q,hq,uq,q1,q2,q3,q4,q5,_,_]:=XO o1 (h4.mono$ t0.trans$ aa.tm W) X;let ei:(m:Int)+(i:Int)=((m+i:Nat):Int):=by omega
       let#[gy,gn]:=wm X ez;let#[p5,v5,r5,eu,f7,f9]:=Ef q5 q4;subst eu;erw[(jr (W _ _$ t0 _ _ h1) dC #[_,Z,e0,_,_,_,Z,Z,aC.of$ W _ _$ t0 _ _ h3,by rw[ei];rwa[jG q1],q,_,_,_,Z,Z,aC.of q2,dC,p5,_,_,_,Z,Z,aC.of f7,dQ,Z,_,Z,?_])];rw[Jk,f9 o.1 o.2.1];cases hb:gf o with
       |true=>rwa[nQ #[_,Z,W,by rw[OL];show _+1<=_;omega,gy hb]]
       |false=>rwa[nP #[W,N9,gn hb]]
      intro B HE h ca f';symm;let#[sE,_,ez]:=h;rw[Kj N9]at ez;let ez:B=dN (dm gf S.steps m):=by rw[<- ez];rwa[(Pj _).symm]
      subst ez;erw[f2 _ _ ?_];left;let sF:aa HE (af HE ca$ .lst$ dN$ dm gf S.steps m):=je f';let eF:af HE ca (.lst$ dN$ dm gf S.steps m) ca=δ (.lst$ dN$ dm gf S.steps m):=jc;generalize af HE ca (.lst$ dN$ dm gf S.steps m)=HF at sF eF ⊢;let SF:=(sD.trans sE).trans sF;let t3:=t9.trans (aa.tm SF);let S6:=SC.trans SF;let p9:=Xy gf S.steps m;erw[#[_,Z,ca,Z,#[_,aK.of eF],?_]];erw[Qg (K:=K) (a:=ca) (xs:=dN (dm gf S.steps m)) (by rw[Kk];omega) (λi B Hx=>aa HF Hx/\ry B<=i/\B=dN (((dm gf S.steps m).take i).filter$ Dc (di g L) S.steps)) #[aa.refl _,OM 0,Z] (λi B Hx h=>#[aK.of$ h.1 _ _ eF,h.2.1]) ?_ ?_]
      .intro i x B Hx G h;symm;let#[W,lz,ez]:=h;unfold dN at G;rw[O2]at G;let#[j,hj,Z]:=cv.mp G;let#[_,o,X,g7]:=YT (Pd hj);let et:(dm gf S.steps m).take (i+1)=(dm gf S.steps m).take i++[j]:=by rw[Rb,hj];rfl
       let#[q,hq,uq,q1,q2,q3,q4,q5,_,_]:=XO o1 (h4.mono$ t3.trans$ aa.tm W) X;let#[no,h5,wo]:=o;let q4:eI Hx wo uq []:=q4;let ea:Dc (di g L) S.steps j=di g L (no,h5,wo):=by unfold Dc;rw[X]
       let f0:∀Hz,aa Hx Hz->di g L (no,h5,wo)=μ->aa HF Hz/\(B++[tT (j:Int)]).length<=i+1/\B++[tT (j:Int)]=dN (((dm gf S.steps m).take$ i+1).filter$ Dc (di g L) S.steps):=λHz sz hb=>by rw[et,Tk,<- Xz,<- ez];rwa[#[W.trans sz,by rw[OL];show _+1<=_;omega,by rw[Ve (by rw[ea];rwa[hb])];rfl]]
       let f3:∀Hz,aa Hx Hz->di g L (no,h5,wo)=ν->aa HF Hz/\ry B<=i+1/\B=dN (((dm gf S.steps m).take$ i+1).filter$ Dc (di g L) S.steps):=λHz sz hb=>by rw[et,Tk,<- Xz,<- ez];rwa[#[W.trans sz,N9,by rw[Vf (by rw[ea,hb];intro z;cases z)];rwa[(Pj _).symm]]]
       cases wo with
       |cl g5 l3 c2 a5=>
        let#[x5,c5,g6,e',c3,Z,y1,y2,y3,_]:=q4;erw[(jr (W _ _$ t3 _ _ h1) dC #[_,Z,e0,_,_,_,Z,Z,aC.of$ W _ _$ t3 _ _ h3,jG q1,q,_,_,_,Z,Z,aC.of q2,dC,x5,_,_,_,Z,Z,aC.of y1,gQ,_,Z,c5,_,Z,y2,λt1 Hy a2 sy=>?_])];let Sy:=(S6.trans W).trans sy;erw[(jr (Sy _ _ i1) dC #[p3,_,_,_,Z,Z,aC.of$ sy _ _$ W _ _$ sF _ _$ sE _ _ j1,gQ,_,Z,c1,_,Z,sy _ _$ W _ _$ sF _ _$ sE _ _ j2,λt2 Hz h6 sz=>#[_,_,ET g5 l3,DE g5 l3,DE g L,jE (sz _ _ a2)$ jl Z jS$ jl Z (za$ sz _ _$ sy _ _ y3) jB,jE h6$ jl Z jS$ jl Z (za$ sz _ _$ sy _ _$ W _ _$ sF _ _$ sE _ _ j3) jB,_,Z,?_]])];rw[show hX (.tp$ aD [aM g5,ay$ l3.map ar]) (.tp$ aD [aM g,ay$ L.map ar])=di g L (no,h5,.cl g5 l3 c2 a5) from A0];cases hb:di g L (no,h5,.cl g5 l3 c2 a5) with
        |true=>rwa[nQ #[_,Z,f0 Hz (sy.trans sz) hb]]
        |false=>rwa[nP (f3 Hz (sy.trans sz) hb)]
       |_=>cases g7
      intro B HG h l2 n';symm;let#[sG,_,ez]:=h;rw[Kk,Py,Qh (λs hs=>IG s hs) S.steps _ m Z]at ez;subst ez;rwa[g2 l2 _ _ (zE (S6.trans sG) n') ((SF.trans sG).trans$ je n') jc]
     .erw[aY (OR hv)$ g2 lA O HD n7 sD ?_];let z:mG S.steps m N p w=[]:=by
       unfold mG;rw[OT e2];symm;cases w with
       |cl f is s a=>rwa[absurd (h0.mpr #[f,is,s,a,Z]) hv]
       |_=>right;rfl
      rw[z];rwa[sD _ _ eC]
   intro l2 O HD n2 sD eD;erw[v _ _ ?_];left;let SD:=SC.trans sD;let t0:=t9.trans (aa.tm sD);let LD:=L5.same SD;let eS:=sD _ _ eB;let e9:=sD _ _ e9;let bD:=b5.trans (db.of_same SD);let a3:=SD _ _ i1;let q0:=SD _ _ i2;let i0:=i3.mono (aa.tm SD);let g8:=i4.mono (aa.tm SD);let tt:=b';rw[<- w8,Ly.tot_app]at tt;let q':=AD S.steps m N p w po pn k;erw[ai λF1 v=>?_];suffices I:∀(C:xL V) (HE:Hp),Lt HE z kA tA fA dA (y4.app$ Ah S.steps m N p w po pn k)->db kA tA fA dA HD HE->F1 [↑c,↑b,↑oa,↑na,↑z,δ$ .int (m:Int),δ$ .int k,↑p',↑r9,o9,↑sl,↑l2,O,C,o2] HE by
    left;erw[#[_,Z,g9,λl0 n0=>#[sl,l0,_,Z,Z,aq eS n0,jc,_,Z,?_]]];let s2:aa HD (af HD l0$ .lst []):=je n0;generalize af HD l0 (.lst [])=HE at s2 ⊢;let LE:=LD.same s2;let ty:ry y4.f<=y4.tot/\ry y4.k<=y4.tot/\ry y4.t<=y4.tot/\ry y4.d<=y4.tot:=by unfold Ly.tot;omega
    rw[Yq];unfold Ah at I;cases e2:dm (aX N p) S.steps m with
    |nil=>rw[e2]at I;erw[c8 Z ?_];symm;let#[xs,G,lx]:=LE.fv;let l4:=lx.len;erw[(jr LE.ins dC #[.inl #[Z,_,aK.of G],_,Z,fA,_,_,Z,Z,G,N9,?_])];symm;let#[L3,b3]:=LE.setF G (bh.one (R:=em) (w:=pn++[(k:Int)]) #[r9,Z,s2 _ _ e9]);rwa[I C _ L3 ((db.of_same s2).trans b3)]
    |cons j r=>
     symm;let#[g',o,X,j']:=YT (P:=aX N p) (os:=S.steps) (m:=m) (j:=j) (by rw[e2];rwa[O5]);rw[e2]at I;dsimp only at I;rw[X]at I;dsimp only at I;let#[l1,l5]:=wB j';let#[d1,_]:=ZF D0 X;let dd:dj o.2.2=dj w:=by rw[d1,l1,l5,w6.1]
     let c4:HE sl=δ (.lst (tT (j:Int)::dN r)):=by let z:=s2 _ _ eS;rw[e2]at z;rwa[z]
     erw[aY Z ?_];erw[ai λF2 f2=>#[_,Z,_,Z,sl,_,_,_,Z,Z,aK.of c4,dQ,iZ,λt nt=>#[oa,t,_,_,Z,Z,aq (s2 _ _$ t0 _ _ b9) nt,jc,by rw[OJ];show _+1<=_;omega,λM H0 T s7=>#[_,Z,cj,λpr k0=>f2 _ _ ?_]]]];left;let u:aa HE H0:=(je (o:=.tup [.int (j:Int)]) nt).trans s7;let T:H0 M=δ (.tup$ po.map tT++[.int (j:Int)]):=T;rw[sK]at T;let s4:aa H0 (af H0 pr$ .tup [.ref M,.ref r9]):=je k0;let e6:af H0 pr (.tup [.ref M,.ref r9]) pr=δ (.tup [.ref M,.ref r9]):=jc;generalize af H0 pr (.tup [.ref M,.ref r9])=H1 at s4 e6 ⊢;let U:=(s2.trans u).trans s4;let t4:=t0.trans (aa.tm U);let Y:=LD.same U;symm;let#[q,hq,uq,q1,q2,q3,q4,q5,_,_]:=XO o1 (h4.mono t4) X;let rp:oO H1 (.ref pr) (po++[(j:Int)],pn++[(k:Int)]):=#[pr,M,r9,Z,e6,s4 _ _ T,U _ _ e9];let e7:H1 sl=δ (.lst (tT (j:Int)::dN r)):=s4 _ _ (u _ _ c4);by_cases hf:o.2.2.fnd=w.fnd
     .rw[OT hf]at I;let#[xs,G,lx]:=Y.kv;let l4:=lx.len;erw[ai λF2 f2=>#[_,Z,jr (t4 _ _ h1) dC #[_,Z,sl,_,_,_,Z,Z,aK.of e7,dQ,e0,_,_,_,Z,Z,aC.of$ t4 _ _ h3,jG q1,q,hq,o.1,uq,o.2.2,Z,q2,q4,q5,_,Z,p',h',N,u',w,Z,U _ _ a3,i0.mono$ aa.tm U,w3.1,vP q5 w3.1 dd q4 (i0.mono$ aa.tm U) _$ .inr #[_,Eq.refl _,z,_,_,vr kA,Z,Z,aC.of Y.ins,by rw[OY hf];rfl,.inl #[Z,_,aK.of G],_,Z,kA,_,_,Z,Z,G,N9,f2 _ _ ?_]]]];left;symm;let#[L0,b0]:=Y.setK G (bh.one (R:=oO) rp);let t5:=Y.tm b0;right;generalize af H1 kA (.lst$ xs++[.ref pr])=H2 at L0 b0 t5 ⊢;symm;let#[B,hz,lz]:=L0.dv;let l6:ry B=ry y4.d:=by rw[lz.len];show(y4.d++[]).length=_;rw[Pj]
      erw[(jr L0.ins Ia #[.inl #[Z,_,aK.of hz],jr (t5 _ _ e6) dQ #[dA,_,_,Z,Z,hz,N9,?_]])];symm;let#[L1,b1]:=L0.setD hz (bh.one (R:=em) (w:=po++[(j:Int)]) #[M,Z,t5 _ _$ s4 _ _ T]);rw[Ly.app_assoc]at L1;rwa[I _ _ L1 (((db.of_same U).trans b0).trans b1)]
     .rw[OU hf]at I;let#[xs,G,lx]:=Y.tv;let l4:=lx.len;erw[ai λF2 f2=>#[_,Z,jr (t4 _ _ h1) dC #[_,Z,sl,_,_,_,Z,Z,aK.of e7,dQ,e0,_,_,_,Z,Z,aC.of$ t4 _ _ h3,jG q1,q,hq,o.1,uq,o.2.2,Z,q2,q4,q5,_,Z,p',h',N,u',w,Z,U _ _ a3,i0.mono$ aa.tm U,w3.1,vP q5 w3.1 dd q4 (i0.mono$ aa.tm U) _$ .inr #[_,Eq.refl _,z,_,_,vr tA,Z,Z,aC.of Y.ins,by rw[OR hf];rfl,.inl #[Z,_,aK.of G],_,Z,tA,_,_,Z,Z,G,N9,f2 _ _ ?_]]]];left;symm;let#[L0,b0]:=Y.setT G (bh.one (R:=oO) rp);let t5:=Y.tm b0;right;generalize af H1 tA (.lst$ xs++[.ref pr])=H2 at L0 b0 t5 ⊢;symm;let#[B,hz,lz]:=L0.dv;let l6:ry B=ry y4.d:=by rw[lz.len];show(y4.d++[]).length=_;rw[Pj]
      erw[(jr L0.ins Ia #[.inl #[Z,_,aK.of hz],jr (t5 _ _ e6) dQ #[dA,_,_,Z,Z,hz,N9,?_]])];symm;let#[L1,b1]:=L0.setD hz (bh.one (R:=em) (w:=po++[(j:Int)]) #[M,Z,t5 _ _$ s4 _ _ T]);rw[Ly.app_assoc]at L1;rwa[I _ _ L1 (((db.of_same U).trans b0).trans b1)]
   intro C HE LE bE;erw[v _ _ ?_];left;let t7:=LD.tm bE;let c6:=t0.trans t7;let nS:=L5.new f6;let k5:=L5.new n2;let eS:=bE.kept nS eS;let eD:=bE.kept k5 eD;let e9:=t7 _ _ e9;let k6:=t7 _ _ a3;let k7:=i0.mono t7;let k8:=g8.mono t7;let k9:=bD.trans bE;let r6:=(db.of_same SD).trans bE;let r7:=Kk (dm (aX N p) S.steps m);let r8:=Kk (mG S.steps m N p w);sleep 2;erw[ai λF1 v=>#[_,Z,_,Z,sl,l2,_,_,Z,Z,eS,eD,N9,λcA c9=>#[_,Z,cA,_,Z,aK.of jc,λbA n4=>v _ _ ?_]]];left;let sF:aa HE (af (af HE cA$ .lst$ dN (dm (aX N p) S.steps m)++dN (mG S.steps m N p w)) bA$ .lst$ aT (dN (dm (aX N p) S.steps m)++dN (mG S.steps m N p w)) θ$ δ 1):=(je c9).trans (je n4);let eF:af (af HE cA$ .lst$ dN (dm (aX N p) S.steps m)++dN (mG S.steps m N p w)) bA (.lst$ aT (dN (dm (aX N p) S.steps m)++dN (mG S.steps m N p w)) θ$ δ 1) bA=δ (.lst$ dN ((dm (aX N p) S.steps m++mG S.steps m N p w).take 1)):=by rw[jc,Xz,Ik]
   generalize af (af HE cA$ .lst$ dN (dm (aX N p) S.steps m)++dN (mG S.steps m N p w)) bA (.lst$ aT (dN (dm (aX N p) S.steps m)++dN (mG S.steps m N p w)) θ$ δ 1)=HF at sF eF n4 ⊢;rw[LN,JM]at eF;let LF:=LE.same sF;let t3:=c6.trans (aa.tm sF);let b2:=k9.trans (db.of_same sF);let i':=sF _ _ k6;let a4:=k7.mono (aa.tm sF);let a':=k8.mono (aa.tm sF);let c':=sF _ _ e9;symm;let#[p3,v3,r3,eu,h7,h0]:=Ki w3.1 a4;subst eu;right;cases ht:fo S.steps m N p w with
   |none=>
    rw[ht]at eF;let eF:HF bA=δ (.lst []):=eF;rw[vf ht]at LF;rw[Yp ht]at w8;let t8:=tt;rw[Yp ht,Ly.tot_app]at t8;let pl:=KS w3.1 (pn++[(k:Int)]);let z2:(#[[],[],c7 (pn++[(k:Int)]) w,[]]:Ly).tot=w.size+1:=by show 0+0+(c7 (pn++[(k:Int)]) w).length+0=_;rw[pl];omega
    rw[z2]at t8;erw[ai λF1 v=>eX λJ jj=>#[_,Z,bA,Z,#[_,aK.of eF],jj _ _ ?_]];erw[JL (K:=K) (a:=bA) (xs:=[]) (λ_ σ H'=>σ=[↑c,↑b,↑oa,↑na,↑z,δ$ .int (m:Int),δ$ .int k,↑p',↑r9,o9,↑sl,↑l2,O,C,↑bA]/\H'=HF) #[Z,Z] (λi σ H' _ h=>by rw[h.2];rwa[aK.of eF]) (λE2 r4 i x σ H' G=>absurd G N8) (λσ H' h=>v _ _ ?_)];left;symm;let#[Z,Z]:=h;erw[oW λG1 yT yF=>#[_,Z,g9,λl0 n0=>#[bA,l0,_,Z,Z,aq eF n0,jc,_,Z,?_]]];let sG:aa H' (af H' l0$ .lst []):=je n0;generalize af H' l0 (.lst [])=HG at sG ⊢;erw[c8 Z$ jr (sG _ _ i') dC #[p3,_,_,_,Z,Z,aC.of$ sG _ _ h7,dQ,Z,_,Z,?_]];let LG:=LF.same sG;rw[Jk];symm;by_cases hv:v3="call"
    .let#[g,L,sw,aw,Z]:=h0.mp hv;right;rw[OY hv];symm;let#[x1,c1,g4,e4,s3,e3,j1,j2,j3,j4,j5]:=a4.mono (aa.tm sG);cases e3;let#[xs,G,lx]:=LG.fv;let l4:ry xs=ry y4.f+1:=by rw[lx.len];rwa[OL]
     let ty:ry y4.f<=y4.tot:=by unfold Ly.tot;omega
     let d0:sw.dep+1<=s1.dep:=d0;let o3:sw.ok μ:=w3.1;let k':(Sk.cl g L sw aw).size=sw.size:=rfl;erw[yT _$ jr LG.ins dC #[.inl #[Z,_,aK.of G],jr (sG _ _ i') dC #[p3,_,_,_,Z,Z,aC.of j1,gQ,_,Z,r9,pn++[(k:Int)],g,L,sw,aw,.ref c1,Z,sG _ _ c',by rw[OL];show _+1+_<=_;omega,#[c1,g4,e4,s3,Z,j2,j3,j4,j5],o3,N9,N9,λl B HI nl hl hz sI=>?_]]];let lz:=hz.len;rw[OJ,zb o3]at lz;symm;let#[L7,b7]:=(LG.same sI).setF (sI _ _ G) hz;erw[#[fA,l,_,_,Z,Z,sI _ _ G,hl,N9,fE _ _ #[_,_,_,_,_,_,_,_,_,m,r1,_,Z,L7,?_,w3.2,d2,N9,w6.2.2,w7,?_,?_]]]
     .rwa[(a'.mono$ aa.tm$ sG.trans sI).mono ((LG.same sI).tm b7)]
     .rw[<- w8,Ly.app_assoc,Ly.app_assoc,<- Ly.app_assoc _ _ (nH r1 po S.steps m pn$ k+1)];rfl
     .rwa[(b2.trans$ db.of_same$ sG.trans sI).trans b7]
    .right;rw[OR hv];erw[yF _$ fE _ _ #[_,_,_,_,_,_,_,_,_,m,r1,_,Z,LG,a'.mono$ aa.tm sG,w3.2,d2,N9,w6.2.2,w7,?_,b2.trans$ db.of_same sG]];let e0:c7 (pn++[(k:Int)]) w=[pn++[(k:Int)]]:=by
      let o3:=w3.1;symm;cases w with
      |nil |st _ _ _ _=>rwa[o3.elim]
      |cl f is s a=>rwa[absurd (h0.mpr #[f,is,s,a,Z]) hv]
      |_=>right;rfl
     rw[e0]at w8;rw[Ly.app_assoc];rwa[w8]
   |some j=>
    rw[ht]at eF;let eF:HF bA=δ (.lst [tT (j:Int)]):=eF;symm;let#[g',o,X,r']:=zB ht;let u0:=(ξ.mp X).1;let bs:=ve (r:=r1) (po:=po) (pn:=pn) (k:=k) ht X;rw[<- vg (po:=po) (pn:=pn) (k:=k) ht X]at bs;let t8:=tt;rw[bs,Ly.tot_app,Ly.tot_app]at t8;rw[bs]at w8;let n3:bA≠kA/\bA≠tA/\bA≠fA/\bA≠dA:=(LE.same$ je c9).new n4;erw[ai λF1 v=>eX λJ jj=>#[_,Z,bA,Z,#[_,aK.of eF],jj _ _ ?_]];erw[JL (K:=K) (a:=bA) (xs:=[tT (j:Int)]) (λi σ H'=>(i=0/\σ=[↑c,↑b,↑oa,↑na,↑z,δ$ .int (m:Int),δ$ .int k,↑p',↑r9,o9,↑sl,↑l2,O,C,↑bA]/\H'=HF)\/(i=1/\σ=[↑c,↑b,↑oa,↑na,↑z,δ$ .int ((j+1:Nat):Int),δ$ .int k,↑p',↑r9,δ$ .int (j:Int),↑sl,↑l2,O,C,↑bA]/\Lt H' z kA tA fA dA ((y4.app$ Ah S.steps m N p w po pn k).app$ nH w (po++[(j:Int)]) (sL o.2.2) 0 (pn++[(k:Int)]) 0)/\db kA tA fA dA HF H')) (.inl #[Z,Z,Z]) (λi σ H' _ h=>?_) ?_ (λσ H' h=>v _ _ ?_)]
    .symm;rcases h with ⟨_,_,rfl⟩ | ⟨_,_,_,b8⟩
     .rwa[aK.of eF]
     .rwa[aK.of$ b8.kept n3 eF]
    .clear v;left;intro E2 r4 i x σ H' G f4 Gq kq h;symm;rcases h with ⟨rfl,rfl,rfl⟩ | ⟨rfl,_⟩
     .cases G;erw[kq ?_];show eQ (eK _ _) _ E2 [↑c,↑b,↑oa,↑na,↑z,δ$ .int (m:Int),δ$ .int k,↑p',↑r9,δ$ .int (j:Int),↑sl,↑l2,O,C,↑bA] H';erw[ai λF2 f2=>#[_,Z,_,_,Z,Z,f2 _ _ ?_]];left;let ej:(j:Int)+1=((j+1:Nat):Int):=by omega
      show iR _ _ _ E2 [↑c,↑b,↑oa,↑na,↑z,δ$ .int ((j:Int)+1),δ$ .int k,↑p',↑r9,δ$ .int (j:Int),↑sl,↑l2,O,C,↑bA] H';rw[ej];erw[oW λG1 yT yF=>(jr i' dC #[p3,_,_,_,Z,Z,aC.of h7,dQ,Z,_,Z,?_])];rw[Jk];symm;by_cases hv:v3="call"
      .let#[g,L,sw,aw,Z]:=h0.mp hv;right;rw[OY hv];symm;let#[q,hq,uq,q1,q2,q3,q4,q5,q6,q7]:=XO o1 (h4.mono t3) X;let#[s6,ao,e8]:=G7 (s:=.nil) o1 D0 ht X q5 w6.1 g L sw aw Z;let#[no,h5,wo]:=o;let e8:wo= .cl g L s6 ao:=e8;subst e8;let#[x5,c5,g6,e',c3,Z,y1,y2,y3,y0,y5]:=q4;let#[x1,c1,g4,e4,s3,e3,j1,j2,j3,j4,j5]:=a4;cases e3;let d0:sw.dep+1<=s1.dep:=d0;let q6:s6.dep+1<=S.dep:=q6;let q7:s6.size+1<=S.size:=q7;let k':(Sk.cl g L sw aw).size=sw.size:=rfl;erw[yT _$ jr (t3 _ _ h1) dC #[_,Z,e0,_,_,_,Z,Z,aC.of$ t3 _ _ h3,jG q1,q,_,_,_,Z,Z,aC.of q2,dC,x5,_,_,_,Z,Z,aC.of y1,gQ,jr i' dC #[p3,_,_,_,Z,Z,aC.of j1,gQ,_,Z,_,Z,iZ,λt nt=>#[oa,t,_,_,Z,Z,aq (t3 _ _ b9) nt,jc,by rw[OJ];show _+1<=_;omega,λM H0 T s7=>?_]]]];let u:aa H' H0:=(je (o:=.tup [.int (j:Int)]) nt).trans s7;let T:H0 M=δ (.tup$ po.map tT++[.int (j:Int)]):=T;rw[sK]at T;let l9:Dt D g s6:=(ZF D0 X).2;let l':Dt D g sw:=w6.2.1;erw[#[_,Z,_,Z,D,z,kA,tA,fA,dA,M,c5,r9,c1,po++[(j:Int)],pn++[(k:Int)],g,L,L,s6,sw,ao,aw,_,Z,LF.same u,T,u _ _ c',by rw[OL];show _+1+_<=_;omega,by rw[OL];show _+1+_<=_;omega,#[c5,g6,e',c3,Z,u _ _ y2,u _ _ y3,u _ _ y0,y5.mono$ aa.tm u],q5,N9,N9,#[c1,g4,e4,s3,Z,u _ _ j2,u _ _ j3,u _ _ j4,j5.mono$ aa.tm u],w3.1,N9,N9,N9,l9,l',?_,λH1 Y m1=>f4 _ _ (.inr #[Z,Z,Y,(db.of_same u).trans m1])]];let u1:y4.tot+((Ah S.steps m N p (.cl g L sw aw) po pn k).tot+((nH sw (po++[(j:Int)]) s6.steps 0 (pn++[(k:Int)]) 0).tot+(nH r1 po S.steps (j+1) pn$ k+1).tot))<=100000:=t8;rw[Ly.tot_app,Ly.tot_app];omega
      .right;rw[OR hv];erw[yF _$ f4 _ _$ .inr #[Z,Z,?_,λ_ _ _ _ _ _ e=>e]];rw[vb w3.1 (λf is s a e=>hv (h0.mpr #[f,is,s,a,e])),Ly.app_nil];rwa[LF]
     .rwa[absurd G N8]
    .symm;rcases h with ⟨z0,_⟩ | ⟨_,rfl,L8,b8⟩
     .rwa[absurd z0 N8]
     erw[oW λG1 yT yF=>#[_,Z,g9,λl0 n0=>#[bA,l0,_,Z,Z,aq (b8.kept n3 eF) n0,jc,_,Z,aY Z$ yF _$ fE _ _ #[_,_,_,_,_,_,_,_,_,j+1,r1,_,Z,L8.same$ je n0,?_,w3.2,d2,N9,w6.2.2,N9,?_,?_]]]]
     .rwa[(a'.mono$ LF.tm b8).mono (aa.tm$ je n0)]
     .rw[Ly.app_assoc,Ly.app_assoc];rwa[w8]
     .rwa[(b2.trans b8).trans (db.of_same$ je n0)]
 .symm;let#[o6,o7,o8,o9,o4,o5,O,C,o2,m,r2,y4,Z,L4,w2,w3,w4,w5,w6,w7,w8,b4]:=h;rw[List.drop_length]at w2;cases r2 with
  |st n hs w r=>let#[_,_,_,_,z,_]:=w2;cases z
  |ask _ |rd _ _ |wr _ _ |cl _ _ _ _=>rwa[w3.elim]
  |nil=>have w8:y4.app .nil=_:=w8;rw[Ly.app_nil]at w8;rwa[q Hx (w8▸L4) b4]
def Iv(H:Hp)(p:aN):η->Bool
 | .ref a=>match H a with
  |some (.tup x)=>decide (x=p.map tT)
  |_=>ν
 |_=>ν
def wq{p q:aN}:p.map tT=q.map tT↔p=q:=#[λh=>(VH λa b e=>by injection e).mp h,λh=>by rw[h]]
def vI{H:Hp}{q:aN}(h:H a=δ (.tup$ q.map tT)):Iv H p (.ref a)=decide (q=p):=by
 show(match H a with |some (.tup x)=>decide (x=p.map tT) |_=>ν)=_;rw[h];dsimp only;by_cases e:q=p
 .rw[OY e,OY (by rw[e])]
 .rw[OR e,OR λz=>e (wq.mp z)]
def CT{p q:aN}:hX (ay$ q.map ar) (ay$ p.map ar)=decide (q=p):=by
 by_cases e:q=p
 .rw[OY e,e,zp Z]
 .rw[OR e,zh];intro z;let z:Tr.tp (aD$ q.map ar)= .tp (aD$ p.map ar):=z;injection z with z;rwa[e$ qD z]
theorem pK:∀{b:xD aN} {X:xD V} {u:xD η},bh em H b X->aG X u->u.any (Iv H p)=decide (p∈b)
 | [],_,_,h,r=>by let h:_=[]:=h;subst h;cases r;simp
 |q::b,_,_,Q,r=>by
  obtain⟨x,y,e,⟨a,E,c⟩,h⟩:=Q;subst e;subst E;cases r with
  |cons R d=>
   cases R;rw[SY,pK h d,vI c];by_cases e:q=p
   .subst e;simp
   .rw[OR e];simp [Pk e]
theorem wG:∀{p:xD aN} {X:xD V} {U:xD η},bh em H p X->aG X U->∀u∈U,∃(a:ζ) (q:aN),u= .ref a/\H a=δ (.tup$ q.map tT)
 | [],_,_,h,r,u,hu=>by let h:_=[]:=h;subst h;cases r;cases hu
 |q::p,_,_,Q,r,u,hu=>by
  obtain⟨x,y,e,⟨a,E,b⟩,h⟩:=Q;subst e;subst E;cases r with
  |cons R c=>
   cases R;rcases Ξ.mp hu with rfl |hu
   .rwa[#[a,q,Z,b]]
   .rwa[wG h c u hu]
inductive ujr(x:V)(y:V)(H:Hp)(Q:VK):Prop|mk(a l:ζ)(p:aN)(c:xD aN)(f:xD V)(_:x= .ref a)(_:y= .ref l)(_:H a=δ (.tup$ p.map tT))(_:H l=δ (.lst f))(_:bh em H c f)(_:Q (.bl$ decide$ p∉c) H)
def uj{X:Cx}(k:X.A.in1.units+10 < cLine):fQ X (compareOp .NotIn) ujr:=by
 intro g s B H x y v u Q I R m h;let#[a,l,p,c,f,Z,Z,n,o,L,q]:=h;cases R;cases m;let#[i,r,t,C]:=I.list (aK.of (K:=X.K) o);erw[PySem.SeqAt.notIn_listAt (Iv H p) t.isList (λw z=>?_) #[.bl _,H,I,Z,?_]]
 .let#[b,d,Z,j]:=wG L r w (by simpa using z);rw[vI j,<- CT];rwa[KD I 10 (ay$ d.map ar) (by show(aD$ d.map ar).dep+1<=10;rw[zg];decide) k (show(ay$ d.map ar).In from zf d) Z (u:=ay (p.map ar)) (show(ay$ p.map ar).In from zf p) Z (za j) (za n) _ _ Z Z]
 .rw[show i.toArray.any (Iv H p)=i.any (Iv H p) by simp,pK L r];let e:(!decide (p∈c))=decide (p∉c):=by by_cases h:p∈c<;>simp [h]
  rw[e];rwa[q]
def tq(h:b6 k A):A.in1.units+10 < cLine:=by let:=h.un;show A.units+1+10 < cLine;omega
inductive rV(k:xD V)(H:Hp)(Q:VK)(a:XK):Prop
 |mk(D:DF)(c b:ζ)(f:ρ)(g h:xD Int)(i j:Sk)(d e:Int)(_:k=[.ref c,.ref b])(_:gN H f g i d (.ref c))(_:i.ok μ)(_:i.dep<=15)(_:i.size<=60)(_:gN H f h j e (.ref b))(_:j.ok μ)(_:j.dep<=15)(_:j.size<=60)(_:Dt D f i)(_:Dt D f j)(_:∀(z kA tA fA dA:ζ) (xt xf:xD V) (fs:xD aN) (H':Hp),H' z=δ (.tup [.ref kA,.ref tA,.ref fA,.ref dA])->H' tA=δ (.lst xt)->bh oO H' (iJ j [] i.steps 0 [] 0).t xt->H' fA=δ (.lst xf)->bh em H' fs xf->fs.Perm (iJ j [] i.steps 0 [] 0).f->aa H H'->Q (.ref z) H')
theorem Jl:∀{b:Bool} {s:Sk},s.ok b->∀(a:aN) (os:xD aO) (m:Nat) (p:aN) (k:Nat),(iJ s a os m p k).k.length+(iJ s a os m p k).t.length+(iJ s a os m p k).f.length<=s.size
 |true,.nil,_,_,_,_,_,_=>OM 0
 |true,.st n H w r,o,a,os,m,p,k=>by
  show _<=w.size+r.size+1;cases h:fo os m n H w with
  |none=>rw[KU h];let d:=Jl o.2 a os m p (k+1);let c:=KS o.1 (p++[(k:Int)]);show([]++_:xD Au).length+([]++_:xD Au).length+(c7 (p++[(k:Int)]) w++_).length<=_;rw[UF,UF,OL,c];omega
  |some j=>
   let#[e,x,g,_]:=zB h;rw[KW h g];let c:=Jl o.1 (a++[(j:Int)]) (sL x.2.2) 0 (p++[(k:Int)]) 0;let d:=Jl o.2 a os (j+1) p (k+1);let i:(one (a++[(j:Int)]) x (p++[(k:Int)]) n H w).k.length+(one (a++[(j:Int)]) x (p++[(k:Int)]) n H w).t.length+(one (a++[(j:Int)]) x (p++[(k:Int)]) n H w).f.length<=1:=by
    unfold one;split
    .split<;>rwa[OM 1]
    .rwa[OM 1]
   show(([]++(_++_))++_:xD Au).length+(([]++(_++_))++_:xD Au).length+(([]++(_++_))++_:xD aN).length<=_;simp only[OL,UF];omega
 |false,.cl _ _ s _,o,a,os,m,p,k=>Jl (b:=μ) (s:=s) o a os m p k
 |false,.ask _,_,_,_,_,_,_ |false,.rd _ _,_,_,_,_,_,_ |false,.wr _ _,_,_,_,_,_,_=>OS _
theorem Jm:∀{b:Bool} {s:Sk},s.ok b->∀(p:aN) (os:xD aO) (m:Nat),(tI s p os m).length<=s.size
 |true,.nil,_,_,_,_=>OS _
 |true,.st n H w r,o,p,os,m=>by
  show _<=w.size+r.size+1;cases h:fo os m n H w with
  |none=>rw[Yl h];let:=Jm o.2 p os m;omega
  |some j=>
   let#[a,x,c,_]:=zB h;rw[Ym h c,OL,OL];let d:=Jm o.1 (p++[(j:Int)]) (sL x.2.2) 0;let e:=Jm o.2 p os (j+1);let f:(if aX n H x=μ then [p++[(j:Int)]] else ([]:xD aN)).length<=1:=by
    split
    .rwa[OM 1]
    .rwa[OS 1]
   omega
 |false,.cl _ _ s _,o,p,os,m=>Jm (b:=μ) (s:=s) o p os m
 |false,.ask _,_,_,_,_ |false,.rd _ _,_,_,_,_ |false,.wr _ _,_,_,_,_=>OS _
def EW:⇑k f d z19z (iW 0):=by
 let n:∀{v H Q E},¬iW 0 v H Q E:=by rintro v H Q E ⟨D,z,e,t,F,g,O,c,N,b,p,i,f,I,j,S,l,m,q,y,_,_,_,_,_,_,_,_,_,_,_,_,z,_⟩;omega
 rwa[#[λv H Q E h=>(n h).elim,λA o s H a u v Q E r x B C h=>(n h).elim]]
theorem Ib(FB:xb K "_law_beside" uu f a)(b:aE K a z19z [])(M:mg "_law_beside"=↑f)(c:‹1› j h ["_law_step"] oi "_law_found")(C:‹18› k i z16z (gL 17) "_law_all_in")(m:mg "enumerate"=θ)(d:mg "len"=θ)(e:mg "range"=θ)(g:mg "int"=θ):∀n,⇑(n+20) f a z19z (iW n)
 |0=>EW
 |n+1=>Fg FB c C #[(Ib FB b M c C m d e g n),b,FB.kp,M] m d e g
def yj:aj ["_law_old","_law_new","_law_found_here","_law_gone"] ["_law_old","_law_new"] (ae Ci):=bQ
def uC:hJ:=#[.function,[(".0",.local),("_law_path",.local),("_law_found_here",.free)],ν,ν,[]]
def EQ:(["_law_path","_law_found_here"]:xD ρ).Nodup:=by decide+kernel
def Eh:bo ["_law_old","_law_new","_law_found_here","_law_gone"] (ae Ci) uC ["_law_path","_law_found_here"] 1 [2]:=oU
def Fq(F:xb K "_law_laid" Ci f fd)(cB:‹36› fB f0 z19z (iW 16) "_law_beside")(cW:‹18› fW f2 z16z (gL 17) "_law_all_in")(m0:mg "sorted"=θ):⇑37 f fd ["_law_old","_law_new"] rV:=by
 erw[F.ok yj λc0 A o1 s H vs Q E hr h=>?_]
 let#[D,c,b,f,is,js,d,S,a0,a1,Z,J,C,h0,h7,h3,O,h4,h8,D0,D1,q]:=h;erw[#[_,(jd (kX (i:=2) yj.nd Z (fz Z)$ ji$ ja (jF jb)$ ja (jF jb)$ ja (jF jb)$ ja (jF jb) jb)$ jd (jL$ cB.e hr.m$ ja (pv 0)$ ja (pv 1)$ ja (ji jb)$ ja (ji jb)$ ja (pv 2) jb)$ jd (@qG _ _ _ _ _ _ _ _ _ _ (3) (["_law_path","_law_found_here"]) (1) ([2]) _ _ _ _ yj.nd Z (ω Z) Z (zw$ cW.e hr.m$ ja (pv 0)$ ja (ji jb) jb) Eh (λ_ _ _ _ _=>(jx (i:=0) EQ Z$ ω Z)) (λ_ _ _ _ _=>(@Kw _ _ _$ jz (uj$ tq hr) (pv 0) (jq (r:=dh K) (kK (K:=K) Z) (pv 1) jf) Z)) (λ_ _ _ _ _=>(pv 0)) N6 (by first |rwa[.inl Z] |rwa[.inr Z]) (by intro _;rfl))$ jg$ jo$ ji$ ja (jw$ pv 2)$ ja (jw$ pv 2)$ ja (jO qo Z m0 Th$ ja (jw$ pv 2) jb)$ ja (pv 3) jb),?_]];let b1:=aL;erw[ai λF1 u=>#[g9,λk L=>#[g9,λT G=>#[g9,λg N=>#[g9,λj n=>#[sg,λz M=>u _ _ ?_]]]]]];let tk:T≠k:=λz=>by rw[z,jc]at G;cases G
 let ft:g≠T:=λz=>by rw[z,jc]at N;cases N
 let fk:g≠k:=λz=>by rw[z,jh tk.symm,jc]at N;cases N
 let df:j≠g:=λz=>by rw[z,jc]at n;cases n
 let dt:j≠T:=λz=>by rw[z,jh ft.symm,jc]at n;cases n
 let dk:j≠k:=λz=>by rw[z,jh fk.symm,jh tk.symm,jc]at n;cases n
 let n0:=zE (je (o:=.lst []) L) G;let n1:=zE ((je (o:=.lst []) L).trans$ je (o:=.lst []) G) N;let n2:=zE (((je (o:=.lst []) L).trans$ je (o:=.lst []) G).trans$ je (o:=.lst []) N) n;let s1:aa H (af (af (af (af (af H k$ .lst []) T$ .lst []) g$ .lst []) j$ .lst []) z$ .tup [.ref k,.ref T,.ref g,.ref j]):=((((je L).trans$ je G).trans$ je N).trans$ je n).trans (je M);let L1:Lt (af (af (af (af (af H k$ .lst []) T$ .lst []) g$ .lst []) j$ .lst []) z$ .tup [.ref k,.ref T,.ref g,.ref j]) z k T g j .nil:=#[jc,#[[],aq (aq (aq (aq jc G) N) n) M,Z],#[[],aq (aq (aq jc N) n) M,Z],#[[],aq (aq jc n) M,Z],#[[],aq jc M,Z],#[tk.symm,fk.symm,dk.symm,ft.symm,dt.symm,df.symm],λ_ z=>nomatch z];generalize af (af (af (af (af H k$ .lst []) T$ .lst []) g$ .lst []) j$ .lst []) z (.tup [.ref k,.ref T,.ref g,.ref j])=H1 at s1 L1 ⊢;let t0:=Jl O [] d.steps 0 [] 0;let l3:=Jm O [] d.steps 0;let b0:(nH S [] d.steps 0 [] 0).tot<=1000:=by unfold nH Ly.tot;dsimp only;omega
 erw[ai λF1 u=>#[_,Z,_,Z,g9,λpa n3=>#[g9,λpb R=>#[_,Z,?_]]]];let s2:aa H1 (af (af H1 pa$ .tup []) pb$ .tup []):=(je n3).trans (je R);let S2:=s1.trans s2;erw[#[D,z,k,T,g,j,pa,c,pb,b,[],[],f,is,js,d,S,a0,a1,.nil,Z,L1.same s2,aq jc R,jc,Oa,Oa,kQ J$ aa.tm S2,C,h0,N9,kQ h3$ aa.tm S2,O,N9,h4,N9,D0,D1,by rw[Ly.nil_app];omega,λH3 L3 b3=>u _ _ ?_]];rw[Ly.nil_app]at L3;let S3:aa H H3:=λx o e=>b3 _ _ (jk e L) (jk e n0) (jk e n1) (jk e n2) (S2 _ _ e);let#[xd,h5,l0]:=L3.dv;erw[ai λF1 u=>#[_,Z,g9,λpe n4=>?_]];let s4:aa H3 (af H3 pe$ .tup []):=je n4;erw[#[pe,[],f,is,d,a0,.ref c,Z,jc,Oa,kQ J$ aa.tm$ S3.trans s4,C,N9,N9,λal xa H5 n7 U V s5=>?_]];let S5:=s4.trans s5;let l1:=V.len;rw[OJ,zb C]at l1;erw[#[al,Z,#[_,aK.of U],?_]];erw[Qg (K:=K) (a:=al) (xs:=xa) N9 (λi B Hx=>Hx=H5/\ry B<=i) #[Z,OM 0] (λi B Hx h=>#[by rw[h.1];rwa[aK.of U],h.2]) ?_ ?_]
 .intro i x B Hx hx h;let#[Z,lz]:=h;let#[p,hp,a,Z,ha]:=V.at hx;erw[#[_,Z,jr (S5 _ _ L3.ins) Ia #[a,j,p,_,xd,Z,Z,ha,S5 _ _ h5,l0.mono bG$ aa.tm S5,_,Z,?_]]];show if decide (p∉tI S [] d.steps 0)=μ then _ else _;by_cases hm:p∈tI S [] d.steps 0
  .rw[OR (λz=>z hm)];rwa[nP #[Z,N9]]
  .rw[OY hm];rwa[nQ #[_,Z,Z,by rw[OL];show _+1<=_;omega]]
 intro B H6 h I n5;let#[Z,_]:=h;erw[u _ _ ?_];let s7:aa H6 (af H6 I$ .lst B):=je n5;let e7:af H6 I (.lst B) I=δ (.lst B):=jc;generalize af H6 I (.lst B)=H7 at s7 e7 ⊢;let S7:=S5.trans s7;let W:=L3.same S7;let#[xf,h6,l]:=W.fv;let l:bh em H7 (iJ S [] d.steps 0 [] 0).f xf:=l;let l2:=l.len;let pm:=JI S [] d.steps 0 [] 0;let n:((iJ S [] d.steps 0 [] 0).t.map (·.2)++(iJ S [] d.steps 0 [] 0).f).Nodup:=pm.nodup_iff.mpr (yD$ u6 O d.steps 0 [] 0);erw[(jr W.ins dQ$ jr W.ins gQ$ jr W.ins dC #[g,xf,(iJ S [] d.steps 0 [] 0).f,Z,aK.of h6,l2,N9,λi v p h1 h2=>?_,(List.nodup_append.mp n).2.1,λsf ws rs n6 g1 g2 g3 g4=>#[_,Z,sg,λtp X=>?_]])]
 .let#[p',Y,a,ea,ha]:=l.at h1;rw[h2]at Y;cases Y;rwa[#[a,ea,ha,uZ O$ pm.mem_iff.mp$ O9 _$ Pd h2]]
 let s8:aa H7 (af (af H7 sf$ .lst ws) tp$ .tup [.ref k,.ref T,.ref sf,.ref I]):=(je n6).trans (je X);let L8:=W.same s8;let#[xt,ht,lt]:=L8.tv;rwa[q tp k T sf I xt ws rs _ jc ht lt (aq jc X) ((ZI g3 λi x p h1 h2=>let #[y,e1,e2,_]:=g4 i x p h1 h2;#[y,e1,e2]).mono bG$ aa.tm s8) g1 ((S3.trans S7).trans s8)]
abbrev o0:cc:=bV 75
def BU(a:aU)(k:cg)(v:V):(bN a k v).length<=ry a+1:=qB
inductive lv(b:xD V)(H:Hp)(Q:VK)(a:XK):Prop
 |mk(p:ζ)(_:b=[.ref p])(_:ax H p)(_:∀(l:ζ) (C:aU) (H':Hp),H l=θ->H' l=δ (.dK C)->GT C->ry C<=13->ax H' p->aI p H H'->Q (.ref l) H')
inductive CL(p l:ζ)(H:Hp)(i:Nat)(k:_L.St)(a:Hp):Prop
 |mk(h j:xL V)(C:aU)(b:k=[↑p,↑l,h,j])(c:a l=δ (.dK C))(d:GT C)(e:ry C<=i)(f:ax a p)(g:aI p H a)
def wO:NX (.lst x):=λa z=>by cases z
def Fb:NX (.tup x):=λa z=>by cases z
def Kp.tm(k:Kp H h):am H h:=λb x e=>k b _ Fb e
def Kp.seq{K:β}(e:Kp H b)(h:aK K H a x):aK K b a x:=by
 rcases h with (h | ⟨o,h⟩) |h
 .rwa[.inl$ .inl$ e _ _ wO h]
 .rwa[.inl$ .inr #[o,e _ _ (by intro c z;cases z) h]]
 .rwa[.inr h]
def FS{H:Hp}{D:xD Df}{n:xD Nat}(h:nK H D n){i:Nat}{d:Df}{p:xD ρ}(a:D[i]?=δ d)(c:H d.pa=δ (.tup$ p.map tz)):n[i]?=δ p.length:=by let f:i < ry D:=(ξ.mp a).1;let b:n[i]?=δ (n[i]'(by rw[<- h.1];rwa[f])):=OG _;let#[g,e,l,_]:=h.2 i d _ a b;rw[c]at e;injection e with e;injection e with e;let:=P' ry e;rw[OJ,OJ]at this;rw[b,<- l,this]
def DH:NX (.dK x):=λa z=>by cases z
def ax.kp(B:ax H p)(k:Kp H h):ax h p:=by let#[a,b,c,d,f,e]:=B;rwa[#[a,b,c,d,f,k _ _ wO e]]
structure C4(H:Hp)(nA pA ag cA:ζ)(i:Nat)(Cs:aU)(d:Df)(ds:xD Df)(ns:xD Nat)(xs:xD V)(pds:xD dJ)(is:xD Int):Prop where
 ps:Ps H nA pA ds ns xs pds
 xl:ry xs<=1000
 hd:ds[i]?=δ d
 hn:ns[i]?=δ is.length
 ag:H ag=δ (.tup$ is.map tT)
 hi:∀z∈is,hV z
 il:ry is<=100
 ce:H cA=δ (.dK Cs)
 gc:GT Cs
def C4.kp(h:C4 H n a A c i C d D N x p I)(k:Kp H b):C4 b n a A c i C d D N x p I:=#[h.ps.mono k.tm,h.xl,h.hd,h.hn,k.tm _ _ h.ag,h.hi,h.il,k _ _ DH h.ce,h.gc]
inductive oj(K:β)(d:xD V)(H:Hp)(Q:VK)(b:XK):Prop
 |mk(a:ζ)(c:xD Int)(_:d=[.ref a])(_:aK K H a (c.map tT))(_:ry c<=63)(_:∀H',Q (.bl μ) H')
def io:aj ["_law_box_here","_law_cells_here","_law_k","_law_cell"] z2z (ae o0):=bQ
def wR(F:xb K "_law_cells" o0 f fd)(r:‹1› fT f0 z0z bg "_law_take")(cU:‹2› fU f2 z2z iX "_law_number")(mr:mg "range"=θ):⇑3 f fd z2z lv:=by
 erw[F.ok io λc0 A O s H vs Q E g h=>?_]
 let#[p,Z,B,q]:=h;erw[#[_,(jd (jA 1 io.nd XX)$ jd (kf Po Z (zd Z mr$ ja (r.e g.m$ ja (pv 0)$ ja jf jb) jb) (jx (i:=2) io.nd Z$ ω Z)$ jd (jA 3 io.nd$ r.e g.m$ ja (pv 0)$ ja jf jb)$ jd (jy (zr$ r.e g.m$ ja (pv 0)$ ja jf jb) (jg$ jA 3 io.nd$ jv zi (jv zi (jv Ku jf jf) jf)$ r.e g.m$ ja (pv 0)$ ja jf jb) jp)$ jg$ Jf (zR g) (pv 1) (pv 3) (cU.e g.m$ ja (pv 0) jb) Z)$ jg$ jo$ pv 1),?_]];let b0:=aL;let t0:=sj;erw[ai λt a=>λl N=>a _ _ ?_];let S:aa H (af H l$ .dK []):=je N;let I:af H l (.dK []) l=δ (.dK []):=jc;generalize af H l (.dK [])=H1 at S I;let L:l≠p:=B.ne N;let B1:=B.same S;erw[ai λt a=>eX λJ j=>#[_,Z,p,14,Z,B1,Oa,Oa,λd H2 d0 d1 B2 M=>#[_,Z,N9,N9,j _ _ ?_]]];erw[zc (lo:=0) (CL p l H) #[θ,θ,[],Z,by rw[M l L];rwa[I],_K.GT.nil,OM _,B2,(aI.of_same S).trans$ aI.of_eq M] ?_ (λσ H' h=>a _ _ ?_)]
 .clear a;intro E0 _ i σ H3 hi fE Gq o h;let#[o2,o3,C,Z,x,G,lC,y,D]:=h;erw[o ?_];show eQ (eK _ _) _ E0 _ _;erw[ai λt a=>#[_,Z,p,14,Z,y,Oa,Oa,λc4 H4 d2 d3 B4 R=>a _ _ ?_]];erw[ai λt a=>?_];let c:∀(u:Int) (v:Hp),ax v p->(∀b,b≠p->v b=H3 b)->t [↑p,↑l,δ$ .int (0+(i:Int)),δ$ .int u] v:=λu v BH T=>a _ _ (by
   erw[#[_,Z,p,Z,BH,λm H7 m0 m1 B7 U=>?_]];let h7:H7 l=δ (.dK C):=by rw[U l L,T l L];rwa[x]
   let pl:=BU C (.inl u) (.int m);rwa[#[_,Z,_,Z,l,_,Z,oH.k (k:=.inl u) h7 N9,fE _ _ #[_,_,_,Z,jc,G.put _ #[m0,m1],N9,B7.eq$ jh$ Pk L,(D.trans ((aI.of_eq T).trans$ aI.of_eq U)).upd_own N]]])
  erw[oW λG1 yT yF=>#[_,Z,p,8,Z,B4,Oa,Oa,λd5 H5 d4 d7 W X=>#[Z,_,Z,?_]]];by_cases Y:d5=0
  .rw[Y,OY (Z:tT 0=tT 0)];erw[yT _ #[_,_,Z,Z,#[Oa,Oa,Oa],_,_,Z,Z,_,Z,p,4,Z,W,Oa,Oa,λd6 H6 d8 d' B6 e6=>#[_,_,Z,Z,c _ H6 B6 λb n=>(e6 b n).trans ((X b n).trans$ R b n)]]]
  .rw[OR (λz=>Y (by injection z))];rwa[yF _$ c _ H5 W λb n=>(X b n).trans (R b n)]
 .let#[o2,o3,C,Z,x,G,lC,y,D]:=h;rwa[#[_,Z,q l C H' N x G N9 y D]]
structure Xb(K:β)(mg:ρ->xL η)(B TL TD:ζ):Prop where
 g:mg "BookError"=↑B
 h:clsIn K B≠θ
 t:typeIn K (.ref B)=δ (.type "type")
 m:mroIn K B (.type "BaseException")=δ μ
 L:mroIn K TL (.ref B)=δ μ
 D:mroIn K TD (.ref B)=δ μ
abbrev pj:cc:=bV 81
abbrev Gp:cc:=bV 84
inductive oh(l:ζ)(o:xD V)(H:Hp)(Q:VK)(b:XK):Prop
 |mk(n g h:ζ)(i:Nat)(f:aU)(d:Df)(j:xD Df)(m:xD Nat)(p:xD V)(e:xD dJ)(k:xD Int)(_:o=[.ref n,.str d.f,.ref g,.ref h])(_:C4 H l n g h i f d j m p e k)(_:∀(c:ζ) (sk:Sk) (a:Int) (L':aU) (H':Hp),aV 60 e f 16 d.f k [] 0= .ok sk a L' sk.size->gN H' d.f k sk a (.ref c)->sk.ok μ->sk.dep<=15->sk.size<=60->Kp H H'->Q (.ref c) H')(_:(∀sk a L' t',aV 60 e f 16 d.f k [] 0≠ .ok sk a L' t')->∀H',Kp H H'->Q .non H')
inductive rS(n:ζ)(s:xD V)(H:Hp)(Q:VK)(b:XK):Prop
 |mk(q g c j:ζ)(i:Nat)(f:aU)(r:Sk)(h:Int)(d:Df)(k:xD Df)(o:xD Nat)(t:xD V)(e:xD dJ)(m:xD Int)(_:s=[.ref q,.ref c,.ref j])(_:C4 H n q g j i f d k o t e m)(_:gN H d.f m r h (.ref c))(_:r.ok μ)(_:r.size<=1000)(_:uR e d.f m r h)(_:∀(p l:ζ) (v:V) (ws:xD V) (sk:Sk) (a:Int) (L':aU) (H':Hp),aV 60 e f 16 d.f m [] 0= .ok sk a L' sk.size->H' p=δ (.tup [v,.ref l])->H' l=δ (.lst ws)->bh em H' (fq sk r.steps 0 [] 0) ws->gN H' d.f m sk a v->sk.ok μ->sk.dep<=15->sk.size<=60->Kp H H'->Q (.ref p) H')(_:(∀sk a L' t',aV 60 e f 16 d.f m [] 0≠ .ok sk a L' t')->∀H',Kp H H'->Q .non H')
def lh:aj ["_law_parts","_law_f","_law_args","_law_cells_here","_law_book_here"] z32z (ae pj):=bQ
def wW{f:ζ}{W:bS}{B Y TD nA r:ζ}{l:bS}(F:xb K "_law_book" pj f W)(GR:ah P w K mg base (dH P w) 45 r l z29z (rZ Y TD nA))(bR:aE K l z29z [])(kR:fJ K (.ref r)=μ)(mR:mg "run"=↑r)(X:Xb K mg B Y TD)(M:mg "dict"=θ):⇑46 f W z32z (oh nA):=by
 erw[F.ok lh λc0 A v s H vs Q E hr h=>?_]
 let#[y,G,I,i,j,d,ds,ns,xs,p,is,Z,c,q1,q2]:=h;erw[#[_,(jd (jA 4 lh.nd$ @kl _ _ _)$ jd (@ZZ _ _ _ _ _ _ _ _ _ _ _ Z Z (@ZQ _ _ _ _ (4) _ _ lh.nd Z (ω Z) (@XZ _ _ _ _ _ _ _ _ _ _ _ _ _ _ GR hr.m Z mR kR bR .nil (ja (pv 0)$ ja (pv 1)$ ja (pv 2)$ ja (jJ JK Z M WQ$ ja (pv 3) jb)$ ja jf jb) Oa N6 N6) N6 (by first |rwa[.inl Z] |rwa[.inr Z])) Z X.g X.h X.t X.m (λ_=>(jg$ jA 4 lh.nd$ @kl _ _ _)) Oa)$ jg$ jo$ pv 4),?_]];erw[ai λF1 k=>k _ _ ?_];erw[ai λF1 k=>?_];show yR _ _ _ _ _ [↑y,δ$ .str d.f,↑G,↑I,δ .non] H;erw[#[_,Z,_,Z,_,Z,_,Z,I,j,Z,c.ce,λO not=>?_]];let S:aa H (af H O$ .dK j):=je not;let e1:af H O (.dK j) O=δ (.dK j):=jc;generalize af H O (.dK j)=H1 at S e1 ⊢;let c:=c.kp (Kp.of_same S);erw[#[60,y,G,O,i,j,d,ds,ns,xs,p,is,Z,Oa,c.ps,c.hd,c.hn,c.ag,c.hi,e1,c.gc,λu sk a L' H2 q hc ok dp sz s2=>?_,λq=>?_,λq=>?_]]
 .let#[c',_,_,_,Z,_,_,_,_]:=id hc;rwa[k _ _ #[_,Z,q1 c' sk a L' H2 q hc ok dp sz$ Kp.of_same$ S.trans s2]]
 .intro _ H7 J x C T R U hT V;cases R;erw[#[X.L,λT' n=>k _ _ #[_,Z,q2 (λ_ _ _ _ z=>by rw[q]at z;cases z) _ ?_]]];rwa[λb o N e=>qf (H:=H) (J _ _ N$ S _ _ e) N U n]
 .intro _ H7 J x C T R U hT V;cases R;erw[#[X.D,λT' n=>k _ _ #[_,Z,q2 (λ_ _ _ _ z=>by rw[q]at z;cases z) _ ?_]]];rwa[λb o N e=>qf (H:=H) (J _ _ N$ S _ _ e) N U n]
def rJ:aj ["_law_parts","_law_book_here","_law_cells_here","_law_told"] z22z (ae Gp):=bQ
def Fn{f:ζ}{fd:bS}{B TL TD nA I:ζ}{r:bS}(F:xb K "_law_along" Gp f fd)(GR:ah P w K mg base (dH P w) 71 I r z30z (rO TL TD nA))(bR:aE K r z30z [])(kR:fJ K (.ref I)=μ)(mR:mg "again"=↑I)(X:Xb K mg B TL TD)(M:mg "dict"=θ):⇑72 f fd z22z (rS nA):=by
 erw[F.ok rJ λc0 A J s H vs Q E hr h=>?_]
 let#[R,ag,c,U,i,k,so,ao,d,ds,ns,xs,u,is,Z,j,V,W,Y,y,q1,q2]:=h;erw[#[_,(jd (jA 3 rJ.nd$ @kl _ _ _)$ jd (@ZZ _ _ _ _ _ _ _ _ _ _ _ Z Z (@ZQ _ _ _ _ (3) _ _ rJ.nd Z (ω Z) (@XZ _ _ _ _ _ _ _ _ _ _ _ _ _ _ GR hr.m Z mR kR bR .nil (ja (pv 0)$ ja (pv 1)$ ja (jJ JK Z M WQ$ ja (pv 2) jb)$ ja jf jb) Oa N6 N6) N6 (by first |rwa[.inl Z] |rwa[.inr Z])) Z X.g X.h X.t X.m (λ_=>(jg$ jA 3 rJ.nd$ @kl _ _ _)) Oa)$ jg$ jo$ pv 3),?_]];erw[ai λF1 q=>q _ _ ?_];erw[ai λF1 q=>?_];show yR _ _ _ _ _ [↑R,↑c,↑U,δ .non] H;erw[#[_,Z,_,Z,_,Z,U,k,Z,j.ce,λO not=>?_]];let S:aa H (af H O$ .dK k):=je not;let e1:af H O (.dK k) O=δ (.dK k):=jc;generalize af H O (.dK k)=H1 at S e1 ⊢;let j:=j.kp (Kp.of_same S);erw[#[60,R,O,c,i,k,so,ao,d,ds,ns,xs,u,is,Z,OM _,j.ps,j.hd,j.hn,j.hi,e1,j.gc,gN.mono' V$ aa.tm S,W,Y,y,λp l v ws sk a L' H2 G hp hl hw hc ok dp sz s2=>?_,λG=>?_,λG=>?_]]
 .rwa[q _ _ #[_,Z,q1 p l v ws sk a L' H2 G hp hl hw hc ok dp sz$ Kp.of_same$ S.trans s2]]
 .intro _ H7 k7 x C T eC hx hT h0;cases eC;erw[#[X.L,λT' n=>q _ _ #[_,Z,q2 (λ_ _ _ _ z=>by rw[G]at z;cases z) _ ?_]]];rwa[λb o N e=>qf (H:=H) (k7 _ _ N$ S _ _ e) N hx n]
 .intro _ H7 k7 x C T eC hx hT h0;cases eC;erw[#[X.D,λT' n=>q _ _ #[_,Z,q2 (λ_ _ _ _ z=>by rw[G]at z;cases z) _ ?_]]];rwa[λb o N e=>qf (H:=H) (k7 _ _ N$ S _ _ e) N hx n]
abbrev Cm:cc:=bV 83
def Aj:xD aO->Nat
 | []=>0
 |s::r=>s.2.2.size+1+Aj r
theorem Qi:∀{s:Sk},s.ok μ->Aj s.steps=s.size
 | .nil,_=>rfl
 | .st n h w r,o=>by show w.size+1+Aj r.steps=w.size+r.size+1;rw[Qi o.2];omega
 | .ask _,o | .rd _ _,o | .wr _ _,o | .cl _ _ _ _,o=>o.elim
def AR{os:xD aO}{i:Nat}{x:aO}(h:os[i]?=δ x):Aj (os.drop i)=x.2.2.size+1+Aj (os.drop$ i+1):=by let#[H,e]:=ξ.mp h;rw[<- RF H,e];rfl
inductive iY(n:Nat)(d:xD V)(H:Hp)(Q:VK)(b:XK):Prop
 |mk(f:ρ)(c:xD Int)(s:Sk)(a:Int)(u:V)(_:d=[u])(_:gN H f c s a u)(_:s.ok μ)(_:s.dep < n)(_:s.size<=60)(_:∀(l:ζ) (cs:xD Int) (H':Hp),H l=θ->H' l=δ (.lst (cs.map tT))->ry cs<=s.size->aa H H'->Q (.ref l) H')
inductive Nq(c l:ζ)(s:Sk)(H:Hp)(i:Nat)(j:_L.St)(a:Hp):Prop
 |mk(h:xL V)(b:xD Int)(d:j=[↑c,↑l,h])(e:a l=δ (.lst (b.map tT)))(f:ry b+Aj (s.steps.drop i)<=Aj s.steps)(g:aa H a)
def yq:aj ["_law_chain","_law_found_here","_law_step"] ["_law_chain"] (ae Cm):=bQ
def Fx{f:ζ}{fd:bS}{n:Nat}{fS:ζ}{f0:bS}(F:xb K "_law_reads" Cm f fd)(cS:‹n+1› fS f0 ["_law_chain"] (iY n) "_law_reads"):⇑(n+2) f fd ["_law_chain"] (iY$ n+1):=by
 erw[F.ok yq λc0 A o1 s H vs Q E hr h=>?_]
 let#[f,is,s,a,u,Z,hc,y,hd,hz,q]:=h;erw[#[_,(jd (jA 1 yq.nd$ jF jb)$ jd (kf Po Z (z9$ jw$ pv 0) (jx (i:=2) yq.nd Z$ ω Z)$ jd (jy (j8$ jw$ jq jC (pv 2) jf) (jg$ jL$ jZ OV O8 O7 jQ (pv 1)$ ja (jw$ jq jC (pv 2) jf) jb) jp)$ jg$ jy (j8$ jw$ jq jC (pv 2) jf) (jg$ jL$ jZ OV Ri Rh zD (pv 1)$ ja (cS.e hr.m$ ja (jw$ jq jC (pv 2) jf) jb) jb) jp)$ jg$ jo$ pv 1),?_]];let b0:=aL;let#[c,g,e,ss,Z,h1,h2,h3,h4]:=id hc;let ls:=kU y h4;let zs:=Qi y;erw[ai λX k=>#[g9,λl N=>k _ _ ?_]];let Y:aa H (af H l$ .lst []):=je N;let l1:af H l (.lst []) l=δ (.lst (([]:xD Int).map tT)):=jc;generalize af H l (.lst [])=H1 at Y l1 ⊢;erw[ai λX k=>eX λJ j=>(jr (Y _ _ h1) dC #[e,Z,#[_,aC.of$ Y _ _ h3],j _ _ ?_])];erw[Jp (K:=K) (a:=e) (xs:=ss) (Nq c l s H) #[θ,[],Z,l1,(by show 0+Aj (s.steps.drop 0)<=_;rw[Ug];omega),Y] (λi σ B _ h=>?_) ?_ (λσ B h=>k _ _ ?_)]
 .let#[_,_,_,_,_,b]:=h;rwa[aC.of$ b _ _ h3]
 .intro E rt i x σ M h0 fE Gq L h;let#[o2,C,Z,W,w3,D]:=h;erw[L ?_];let#[n0,h6,w,p,hv,v,h5,O,d0,s0,Z,hp,_,R]:=zJ y h4 h0;let t0:=aa.tm D;let R:=R.mono t0;let d:=D _ _ hp;let ds:=AR h5;let ds:Aj (s.steps.drop i)=w.size+1+Aj (s.steps.drop$ i+1):=ds;let pl:p≠l:=jk hp N;let nx:∀(t:xD Int) (B:Hp),B l=δ (.lst$ t.map tT)->ry t<=ry C+(w.size+1)->aa H B->E.nx [↑c,↑l,↑p] B:=λt B x1 x2 x3=>fE _ _ #[_,t,Z,x1,N9,x3];show eQ (iR _ _ _) (iR _ _ _) E [↑c,↑l,↑p] M;cases w with
  |nil |st=>rwa[O.elim]
  |ask b |wr b b'=>let#[r,Z,G]:=R;erw[ai λX k=>(jr d dC #[r,_,_,_,Z,Z,aC.of G,dQ,Z,_,Z,aY N7$ k _ _ ?_])];rwa[(jr d dC #[r,_,_,_,Z,Z,aC.of G,dQ,Z,_,Z,aY N7$ nx C _ W N9 D])]
  |rd c' i'=>
   let#[r,Z,G]:=R;let l0:(C.map tT).length=ry C:=OJ _;erw[ai λX k=>(jr d dC #[r,_,_,_,Z,Z,aC.of G,dQ,Z,_,Z,c8 N7 #[_,Z,.inl #[Z,_,aK.of W],jr d dC #[r,_,_,_,Z,Z,aC.of G,gQ,l,_,_,Z,Z,W,N9,k _ _ ?_]]])];let S:∀b o,b≠l->M b=δ o->af M l (.lst$ C.map tT++[tT c']) b=δ o:=λb o nb e=>by rw[jh nb];rwa[e]
   let e4:af M l (.lst$ C.map tT++[tT c']) l=δ (.lst ((C++[c']).map tT)):=by rw[O4];rwa[jc]
   generalize af M l (.lst$ C.map tT++[tT c'])=H4 at S e4;let p0:r≠l:=jM G W nofun;let d:=S _ _ pl d;let G:=S _ _ p0 G;rwa[(jr d dC #[r,_,_,_,Z,Z,aC.of G,dQ,Z,_,Z,aY N7$ nx _ _ e4 (by rw[OL];show ry C+1<=_;omega) λb o e=>S _ _ (jk e N) (D _ _ e)])]
  |cl f' T U a'=>let#[r,c1,g',e1,y0,Z,G,g2,g3,g4,g5]:=R;let z1:U.size+1<=s.size:=s0;let z2:(Sk.cl f' T U a').size=U.size:=rfl;let l0:(C.map tT).length=ry C:=OJ _;erw[ai λX k=>(jr d dC #[r,_,_,_,Z,Z,aC.of G,dQ,Z,_,Z,aY N7$ k _ _ ?_])];erw[(jr d dC #[r,_,_,_,Z,Z,aC.of G,dQ,Z,_,Z,c8 N7 #[_,Z,.inl #[Z,_,aK.of W],jr d dC #[r,_,_,_,Z,Z,aC.of G,gQ,f',T,U,a',.ref c1,Z,#[c1,g',e1,y0,Z,g2,g3,g4,g5],O,by let:U.dep+1<=s.dep:=d0;omega,N9,λl2 I H4 n1 e2 l3 S=>?_]]])];let l4:(I.map tT).length=ry I:=OJ _;erw[#[l,l2,_,_,Z,Z,S _ _ W,e2,N9,?_]];erw[nx (C++I) _ (by rw[O4];rwa[jc]) (by rw[OL];omega) λb o e=>?_];rw[jh$ jk e N];rwa[S _ _$ D _ _ e]
 .let#[o2,C,Z,W,w3,D]:=h;rwa[#[_,Z,q l C B N W N9 D]]
theorem ZJ:∀{b:Bool} {s:Sk},s.ok b->(nZ s).In
 |true,.nil,_=>trivial
 |true,.st n h w r,o=>#[#[Z,zf h,ZJ o.1,trivial],ZJ o.2]
 |false,.ask _,_=>#[Z,Z,trivial]
 |false,.rd _ _,_ |false,.wr _ _,_=>#[Z,Z,Z,trivial]
 |false,.cl f i s a,o=>#[Z,#[Z,zf i,ZJ (b:=μ) o,Z,trivial],trivial]
def vk{f:ρ}{i:xD Int}{s:Sk}{a:Int}(o:s.ok μ):(Hq f i s a).In:=#[Z,zf i,ZJ (b:=μ) o,Z,trivial]
def AX{M:Nat}{call:lB}{C L f:aU}{p:dJ}{m t g n:Nat}{H:xD Int}{a:Int}{R:Sk}(h:f8 M call C p (m+1) (.go n H) L t= .ok R a f g):∃c w l T r,p.cs[n]?=δ c/\gD M call C (aQ c.nm H) L t c.e= .ok w l T/\R= .st (n:Int) H w r/\f8 M call C p m (nU p c H w.wh) l T= .ok r a f g:=by
 unfold f8 at h;cases e:p.cs[n]? with
 |none=>rw[e]at h;cases h
 |some c=>
  rw[e]at h;dsimp only at h;cases E:gD M call C (aQ c.nm H) L t c.e with
  |long |deep=>rw[E]at h;cases h
  |ok w l T=>
   rw[E]at h;dsimp only at h;cases d:f8 M call C p m (nU p c H w.wh) l T with
   |long |deep=>rw[d]at h;cases h
   |ok r b _L i=>rw[d]at h;cases h;rwa[#[c,w,l,T,r,Z,E,Z,d]]
def Mf(p:xD dJ):DF:=λf n h=>match eZ p f with
 |none=>.nil
 |some a=>match a.cs[n.toNat]? with
  |none=>.nil
  |some c=>sR (aQ c.nm h) c.e
def Mo(D:DF)(call:lB):Prop:=∀f i L t s a l T,call f i L t= .ok s a l T->Dt D f s
def Iq{M:Nat}{D:DF}{call:lB}{C k L i:aU}{t j:Nat}{e:DD}{w:Sk}(H:Mo D call)(h:gD M call C k L t e= .ok w i j)(g:ρ):Dt D g w:=by
 let b:=Dg h;cases e with
 |ask d T=>rw[Xf b]at h;cases h;trivial
 |st p l=>
  cases l with
  |gv d T |st x d T=>unfold gD at h;rw[OT b]at h;cases h
  |rd x d T=>rw[ZB b]at h;cases h;trivial
  |wr d u T U=>rw[ZC b]at h;cases h;trivial
  |cl x f q m=>
   rw[qu b]at h;cases e:call f (m.map λc=>c.2.ev k) L (t+1) with
   |long |deep=>rw[e]at h;cases h
   |ok s a _L n=>rw[e]at h;cases h;show Dt D f s;rwa[H _ _ _ _ _ _ _ _ e]
theorem Dr{M:Nat}{p:xD dJ}{call:lB}{j:aU}{c:dJ}{f:ρ}(H:Mo (Mf p) call)(d:eZ p f=δ c):∀(m:Nat) {g:Gd} {L l:aU} {t T:Nat} {R:Sk} {a:Int},f8 M call j c m g L t= .ok R a l T->Dt (Mf p) f R
 |0,_,_,_,_,_,_,_,h=>by cases h
 |m+1,.give b,_,_,_,_,_,_,h=>by cases h;trivial
 |m+1,.go n k,_,_,_,_,_,_,h=>by let#[C,w,s,u,r,o,i,Z,q]:=AX h;erw[#[?_,Iq H i f,Dr H d m q]];rw[KF i];show _=(match eZ p f with |none=>Tr.nil |some c=>match c.cs[((n:Int)).toNat]? with |none=>Tr.nil |some C=>sR (aQ C.nm k) C.e);rw[d];dsimp only;rw[PQ,o]
theorem YU{M:Nat}{p:xD dJ}{C:aU}:∀j,Mo (Mf p) (aV M p C j)
 |0=>λf i L t s a l T h=>by cases h
 |j+1=>λf i L t s a l T h=>by
  let h:(match eZ p f with |none=>OC.long |some b=>f8 M (aV M p C j) C b (M+2) (gg (nR b) (cy b.way.sets$ aQ b.ps i) b.way.goal) L t)= .ok s a l T:=h;cases e:eZ p f with
  |none=>rw[e]at h;cases h
  |some b=>rw[e]at h;rwa[Dr (YU j) e (M+2) h]
abbrev Cn:cc:=bV 85
section
open SeqAt
variable {X:Cx}
inductive Nz(x y:V)(H:Hp)(Q:VK):Prop
 |mk(a c b d:ζ)(u v:V)(l:Tr)(f g:xD V)(e:xD aN)(_:x= .ref a)(_:y= .ref c)(_:H a=δ (.tup [u,.ref b]))(_:H c=δ (.tup [v,.ref d]))(_:l.dep < 100)(_:l.In)(_:aR H (.tp l) u [])(_:aR H (.tp l) v [])(_:H b=δ (.lst f))(_:H d=δ (.lst g))(_:bh em H e f)(_:bh em H e g)(_:Q (.bl μ) H)
def Ic{a:xD (ζ×gs)}{C:_L.St}{H:Hp}{s:ι}(I:au X a C H s){L b:ζ}{u v:V}{l:Tr}{W c:xD V}{i:xD aN}{x y:η}(hu:X.A.units+102 < cLine)(hd:l.dep < 100)(k:l.In)(hl:l.isL=μ)(T:aR H (.tp l) u [])(D:aR H (.tp l) v [])(d:H L=δ (.lst W))(f:H b=δ (.lst c))(m:bh em H i W)(n:bh em H i c)(E:aJ u x)(F:aJ v y)(j:Nat)(g:j < (ε [x,Θ L]).size)(o:j < (ε [y,Θ b]).size):EqAt X.A.in1 s ((ε [x,Θ L])[j]) ((ε [y,Θ b])[j]) μ:=by
 match j,g,o with
 |0,_,_=>have z:=KD I 100 (.tp l) (A:=X.A.in1) (by show l.dep+1<=100;omega) (by show X.A.units+1+100 < cLine;omega) k Z (u:=.tp l) k Z T D _ _ E F;rw[zp Z]at z;rwa[z]
 |1,_,_=>
  show EqAt X.A.in1 s (Θ L) (Θ b) μ;by_cases e:L=b
  .rw[e];rwa[EqAt.same _]
  .let#[q,r,J,_]:=I.list (aK.of (K:=X.K) d);let#[M,R,N,_]:=I.list (aK.of (K:=X.K) f);let ka:=r.length;let kb:=R.length;let lw:=m.len;let lz:=n.len;let z:=RcAt.lists (A:=X.A.in1) (e:=λ_=>μ) J.isList N.isList (by simp;omega) (by show X.A.units+1 < cLine;omega) λj g o=>by
    let t:j < ry W:=by simp at g;omega
    let h:j < ry c:=by omega
    let#[U,Q,S]:=r.get (OG t);let#[O,Y,B]:=R.get (OG h);let e1:q.toArray[j]=U:=by let#[_,e]:=ξ.mp Q;simpa using e
    let e2:M.toArray[j]=O:=by let#[_,e]:=ξ.mp Y;simpa using e
    rw[e1,e2];let#[p,g1,y1,f1,f2]:=m.at (OG t);let#[p',G,y2,f3,f4]:=n.at (OG h);rw[g1]at G;cases G;rw[f1]at S;rw[f3]at B;let hp:=zg p;let z:=KD I 5 (ay$ p.map ar) (A:=X.A.in1.in1) (by show(aD$ p.map ar).dep+1<=5;omega) (by show X.A.units+1+1+5 < cLine;omega) (zf p) Z (u:=ay (p.map ar)) (zf p) Z (za f2) (za f4) _ _ S B;rw[zp Z]at z;rwa[z]
   let ea:((dn q.toArray.size).all λ_=>μ)=μ:=by simp
   rw[ea]at z;rwa[WM e z]
def BK(f:X.A.units+102 < cLine):fQ X (compareOp .Eq) Nz:=by
 intro p s O H x y V U Q I g i h;let#[a,c,S,W,u,v,l,Y,zs,ps,Z,Z,k,m,n,o,t,T,b,d,z,B,q]:=h;cases g;cases i;let#[ia,r,C,_]:=I.tuple (aC.of (K:=X.K) k);let#[ib,R,D,_]:=I.tuple (aC.of (K:=X.K) m);let#[E,_]:=id t;cases r with
 |cons F r=>
  cases r with
  |cons G r=>
   cases r;cases R with
   |cons J R=>
    cases R with
    |cons L R=>cases R;cases G;cases L;rwa[WR (e:=λ_=>μ) (show s.heap.IsTuple a _ from C) (show s.heap.IsTuple c _ from D) N9 (λj M N=>Ic I f n o E t T b d z B F J j M N) X.prog X.w _ _ #[.bl μ,H,I,Z,q]]
end
def Du{A:bU}{k:Nat}(h:b6 k A):A.units+102 < cLine:=by let:=h.un;omega
inductive rY(n:ζ)(r:xD V)(H:Hp)(Q:VK)(a:XK):Prop
 |mk(p h c k:ζ)(i:Nat)(f e g:aU)(q:Sk)(j:Int)(d:Df)(l:xD Df)(o:xD Nat)(s:xD V)(b:xD dJ)(m:xD Int)(_:r=[.ref p,.ref c,.ref k])(_:C4 H n p h k i f d l o s b m)(_:gN H d.f m q j (.ref c))(_:q.ok μ)(_:q.dep<=15)(_:q.size<=60)(_:aV 60 b e 16 d.f m [] 0= .ok q j g q.size)(_:∀H',Kp H H'->Q (.bl μ) H')
def rL:aj z45z z22z (ae Cn):=bQ
def uE:hJ:=#[.function,[(".0",.local),("_law_pair",.local)],ν,ν,[]]
def ER:(["_law_pair"]:xD ρ).Nodup:=by decide+kernel
def Ej:bo z45z (ae Cn) uE ["_law_pair"] 1 []:=oU
def Fy{f:ζ}{fd:bS}{nA fB fY fL:ζ}{f2 f3 f4:bS}(F:xb K "_law_right" Cn f fd)(cB:‹46› fB f2 z32z (oh nA) "_law_book")(cY:‹72› fY f3 z22z (rS nA) "_law_along")(cL:‹37› fL f4 ["_law_old","_law_new"] rV "_law_laid")(m0:mg "sorted"=θ):⇑73 f fd z22z (rY nA):=by
 erw[F.ok rL λc0 A o2 s H vs Q E hr h=>?_]
 let#[pA,ag,c,cA,i,M,C0,L0,b,ao,d,ds,ns,xs,j,I,Z,ak,h0,o1,d0,s0,D,q]:=h;erw[#[_,(jd (jA 3 rL.nd$ cB.e hr.m$ ja (pv 0)$ ja (jw$ pv 1)$ ja (jw$ pv 1)$ ja (pv 2) jb)$ jd (jA 4 rL.nd$ cY.e hr.m$ ja (pv 0)$ ja (pv 1)$ ja (pv 2) jb)$ jd (jy (PW.pt$ Kl (jz qv (pv 3) (@kl _ _ _)$ aF _)$ qQ$ jz qv (pv 4) (@kl _ _ _)$ aF _) (jg$ jo$ FX (zS qv (pv 3) (@kl _ _ _)$ aF _)$ F'$ zS qv (pv 4) (@kl _ _ _)$ aF _) jp)$ jd (jA 5 rL.nd$ cL.e hr.m$ ja (pv 1)$ ja (pv 3) jb)$ jg$ jo$ zS (BK$ Du hr) (pv 4) (ji$ ja (pv 3)$ ja (jO qo Z m0 Th$ ja (jv zG (@zn _ _ _ _ _ _ _ (["_law_pair"]) (1) ([]) _ _ _ _ Z (zw$ jw$ pv 5) Ej (λ_ _ _ _ _=>(jx (i:=0) ER Z$ ω Z)) (λ_ _ _ _ _=>(@zH _)) (λ_ _ _ _ _=>(jq (r:=dh K) jC (pv 0) jf)) (by intro _;rfl))$ jw$ pv 5) jb) jb)$ aF _),?_]];let b0:=aL;let#[c',g,e,ss,ec,N,O,h3,h4]:=id h0;cases ec;let o3:uR j d.f I b ao:=#[60,C0,16,[],0,L0,b.size,D];let ak:C4 H nA pA g cA i M d ds ns xs j I:={ ak with ag:=O };erw[ai λF1 k=>?_];let f0:∀(u3:V) (G:Hp),Kp H G->((u3= .non/\∀S a T t',aV 60 j M 16 d.f I [] 0≠ .ok S a T t')\/∃(C:ζ) (S:Sk) (a:Int) (T:aU),u3= .ref C/\aV 60 j M 16 d.f I [] 0= .ok S a T S.size/\gN G d.f I S a (.ref C)/\S.ok μ/\S.dep<=15/\S.size<=60)->F1 [↑pA,↑c,↑cA,δ u3,θ,θ] G:=by
  intro u3 G J hu;erw[k _ _ ?_];let a0:=ak.kp J;let L:=kQ h0 J.tm;erw[ai λF1 k=>#[_,Z,_,Z,_,Z,pA,g,c,cA,i,M,b,ao,d,ds,ns,xs,j,I,Z,a0,L,o1,N9,o3,λp l v ws S a T H2 eq hp hl hw hc o dp sz k2=>k _ _ ?_,λno H2 k2=>k _ _ ?_]]
  .clear k;rcases hu with ⟨_,no⟩ | ⟨C,s1,a1,L1,rfl,B,h8,o4,d1,iZ⟩
   .rwa[absurd eq$ no _ _ _ _]
   rw[eq]at B;injection B with z1 z2 z3 z4;subst z1;subst z2;let h5:=kQ L k2.tm;let h6:=kQ h8 k2.tm;erw[ai λF1 k=>#[_,Z,Z,_,Z,aY (OR nofun) #[_,Z,Z,_,Z,aY (OR nofun)$ k _ _ ?_]]];erw[ai λF1 k=>#[_,Z,_,Z,Mf j,c,C,d.f,I,I,b,S,ao,a,Z,h5,o1,d0,s0,h6,o,dp,sz,YU 16 _ _ _ _ _ _ _ _ D,YU 16 _ _ _ _ _ _ _ _ eq,λz kA tA fA dA xt X fs H3 hz ht lt hf lf pf s3=>k _ _ ?_]];let pm:((iJ S [] b.steps 0 [] 0).t.map (·.2)++fs).Perm (fq S b.steps 0 [] 0):=(pf.append_left _).trans (JI S [] b.steps 0 [] 0);let sr:=u6 o b.steps 0 [] 0;let ln:=Xm o b.steps 0 [] 0;let l5:=pm.length_eq;let l0:=lt.len;let l9:=lf.len;let l':((iJ S [] b.steps 0 [] 0).t.map (·.2)++fs).length=(iJ S [] b.steps 0 [] 0).t.length+ry fs:=by rw[OL,OJ]
   erw[#[_,Z,_,Z,jr hz gQ #[tA,Z,#[_,aK.of ht],Q3 (K:=K) (xs:=xt) N9 (λi n u=>u=H3/\bh em H3 (((iJ S [] b.steps 0 [] 0).t.take i).map (·.2)) n) #[Z,Z] (λi n u h=>?_) (λi x n u hx h=>?_) (λn u h l2 n0=>?_)]]]
   .let#[Z,h]:=h;rwa[#[aK.of ht,by rw[h.len,OJ,Pf];rwa[T7 _ _]]]
   .let#[Z,h]:=h;let#[pr,h',y,pa,pb,Z,e1,e2,e3]:=lt.at hx;erw[(jr e1 gQ #[Z,?_])];rw[Rb,h',O4];rwa[bh.app (bh.one (R:=em) #[pb,Z,e3]) h]
   let#[Z,h]:=h;rw[l0,Py]at h;let s4:aa u (af u l2$ .lst n):=je n0;let l1:=h.len;rw[OJ]at l1;erw[(jr (s4 _ _ hz) dC #[l2,fA,_,_,Z,Z,jc,s4 _ _ hf,N9,λl3 n1=>?_])];let s5:aa u (af (af u l2$ .lst n) l3$ .lst$ n++X):=s4.trans (je n1);let e5:af (af u l2$ .lst n) l3 (.lst$ n++X) l3=δ (.lst$ n++X):=jc;generalize af (af u l2$ .lst n) l3 (.lst$ n++X)=U at s5 e5 ⊢;let la:bh em U ((iJ S [] b.steps 0 [] 0).t.map (·.2)++fs) (n++X):=bh.app (lf.mono bG$ aa.tm s5) (h.mono bG$ aa.tm s5);erw[#[l3,n++X,((iJ S [] b.steps 0 [] 0).t.map (·.2)++fs),Z,aK.of e5,la.len,by rw[OL];omega,λi x p N O=>?_,pm.nodup_iff.mpr$ yD sr,λl6 W rs n2 g1 g2 g3 g4=>?_]]
   .let#[p',h7,y,e1,e2]:=la.at N;rw[O]at h7;cases h7;rwa[#[y,e1,e2,uZ o$ pm.mem_iff.mp$ Pd O]]
   let e0:rs=fq S b.steps 0 [] 0:=u7 g2 sr (g1.trans pm);subst e0;let l4:bh em U (fq S b.steps 0 [] 0) W:=ZI g3 λi x p N O=>let #[y,e1,e2,_]:=g4 i x p N O;#[y,e1,e2]
   let s6:aa U (af U l6$ .lst W):=je n2;erw[#[cj,λp7 n3=>?_]];let s7:aa (af U l6$ .lst W) (af (af U l6$ .lst W) p7$ .tup [.ref C,.ref l6]):=je n3;let Y:=s3.trans ((s5.trans s6).trans s7);rwa[#[p,p7,l,l6,v,.ref C,Hq d.f I S a,ws,W,fq S b.steps 0 [] 0,Z,Z,Y _ _ hp,jc,vj o dp,vk o,ZE (kQ hc$ aa.tm Y) o,ZE (kQ h6$ aa.tm Y) o,Y _ _ hl,s7 _ _ jc,hw.mono bG$ aa.tm Y,l4.mono bG$ aa.tm$ s6.trans s7,q _ ((J.trans k2).trans$ Kp.of_same Y)]]
  .clear k;rcases hu with ⟨rfl,_⟩ | ⟨C,s1,a1,L1,rfl,B,_⟩
   .erw[ai λF1 k=>#[_,Z,Z,_,Z,c8 Z$ c8 Z ?_]];rwa[#[_,Z,Z,μ,Z,nQ #[_,Z,Z,q H2$ J.trans k2]]]
   .rwa[absurd B$ no _ _ _ _]
 rwa[#[_,Z,jr N dQ$ jr N gQ #[_,Z,pA,g,cA,i,M,d,ds,ns,xs,j,I,Z,ak,λC S a T G eq hc o dp sz J=>f0 _ G J (.inr #[C,S,a,T,Z,eq,hc,o,dp,sz]),λno G J=>f0 _ G J (.inl #[Z,no])]]]
abbrev gU:cc:=bV 86
def uQ(p:ζ)(H h:Hp):Prop:=∀b o,b≠p->NX o->H b=δ o->h b=δ o
def uQ.trans{p:ζ}{H h d:Hp}(a:uQ p H h)(b:uQ p h d):uQ p H d:=λc o n N e=>b c o n N (a c o n N e)
def uQ.of_kp{p:ζ}{H h:Hp}(k:Kp H h):uQ p H h:=λb o _ n e=>k b o n e
def uQ.of_but{p:ζ}{H h:Hp}(k:aI p H h):uQ p H h:=λb o n _ e=>k b o n e
inductive Nj(a r m l e c p:ζ)(f:ρ)(H:Hp)(n:_L.St)(d:Hp):Prop
 |mk(j k b:xL V)(g:n=[↑a,↑r,δ (.str f),↑m,↑l,↑e,↑c,↑p,j,k,b])(h:Kp H d)(i:ax d p)
def gr:aj ["_law_script","_law_program","_law_f","_law_args","_law_parts","_law_cells_here","_law_book_here","_law_box_here","_law_k","_law_reads_here","_law_other"] ["_law_script"] (ae gU):=bQ
def Fo{f:ζ}{fd:bS}{nA fB fT fU fG fM fC fK fD fR:ζ}{f0 f2 f3 f4 f5 f6 f7 f9 f':bS}(F:xb K "law" gU f fd)(cB:‹1› fB f0 ["_law_script","_law_k"] (rQ K) "_law_box")(cT:‹1› fT f2 z0z bg "_law_take")(cU:‹2› fU f3 z2z iX "_law_number")(cG:‹23› fG f4 z2z ny "_law_case")(cM:‹65› fM f5 ["program"] (nB K nA) "made")(cC:‹3› fC f6 z2z lv "_law_cells")(cK:‹46› fK f7 z32z (oh nA) "_law_book")(cD:‹18› fD f9 ["_law_chain"] (iY 17) "_law_reads")(cR:‹73› fR f' z22z (rY nA) "_law_right")(m0:mg "dict"=θ)(ml:mg "len"=θ)(mr:mg "range"=θ):⇑74 f fd ["_law_script"] (oj K):=by
 erw[F.ok gr λc1 A o2 s H vs Q E u h=>?_]
 let#[a,ns,Z,hS,hn,q]:=h;erw[#[_,(jd (zu (cG.e u.m$ ja (cB.e u.m$ ja (pv 0)$ ja jf jb) jb)$ zV (n:=3) Z$ jD (jx (i:=1) gr.nd Z$ ω Z)$ jD (jx (i:=2) gr.nd Z$ ω Z)$ jD (jx (i:=3) gr.nd Z$ ω Z) kB)$ jd (jA 4 gr.nd$ cM.e u.m$ ja (pv 1) jb)$ jd (jA 5 gr.nd$ cC.e u.m$ ja (cB.e u.m$ ja (pv 0)$ ja jf jb) jb)$ jd (jA 6 gr.nd$ cK.e u.m$ ja (pv 4)$ ja (pv 2)$ ja (pv 3)$ ja (pv 5) jb)$ jd (jy (jz qv (pv 6) (@kl _ _ _)$ aF _) (jg$ jo$ @DJ _ _ _ _) jp)$ jd (jA 7 gr.nd$ cB.e u.m$ ja (pv 0)$ ja jf jb)$ jd (kf Po Z (zd Z mr$ ja jf jb) (jx (i:=8) gr.nd Z$ ω Z)$ jd (jA 9 gr.nd$ jv zG (cD.e u.m$ ja (pv 6) jb)$ jF$ ja (cT.e u.m$ ja (pv 7)$ ja jf jb) jb)$ jd (jA 10 gr.nd$ jJ JK Z m0 WQ$ ja (pv 5) jb)$ jd (Jf (zR u) (pv 10) (jq ju (pv 9) (cT.e u.m$ ja (pv 7)$ ja (jO jK Z ml Pz$ ja (pv 9) jb) jb)) (cU.e u.m$ ja (pv 7) jb) Z)$ jg$ jy (PW.pt$ Kl (xF$ xH$ cR.e u.m$ ja (pv 4)$ ja (pv 6)$ ja (pv 10) jb)$ qQ$ xF$ xH$ cR.e u.m$ ja (pv 4)$ ja (pv 6)$ ja (pv 5) jb) (jg$ jo$ @DJ _ _ _ _) jp)$ jg$ jo$ zS (KE (d:=100)$ Sf$ Du u) (pv 6) (cK.e u.m$ ja (pv 4)$ ja (pv 2)$ ja (pv 3)$ ja (pv 5) jb)$ aF _),?_]];let c3:=aL;let t0:=sj;erw[ai λM g=>#[_,Z,a,ns,1,Z,hS,Oa,Oa,λp0 H1 np B1 e1=>#[p0,Z,B1,λt r v2 v3 ds zs H3 ht u hD h1 h8 nl hN h4 a5 B3 k3=>#[t,_,Z,aC.of ht,Z,_,_,Z,_,_,Z,_,_,Z,Z,g _ _ ?_]]]];let s1:aa H H1:=λb o e=>by rw[e1 b$ jk e np];rwa[e]
 let s3:aa H H3:=λb o e=>k3 _ _ (jk e np) (s1 _ _ e);let#[d,ps,T,S,hd,Z,a',Z,b0,b1,h2,b2]:=a5;show eQ (eK _ _) _ _ [↑a,↑r,δ$ .str d.f,↑T,θ,θ,θ,θ,θ,θ,θ] H3;erw[ai λM g=>#[_,Z,r,ds,zs,Z,u,hD,N9,λd hd=>(hN.1 d hd).1,λv H4 hv s4=>g _ _ ?_]];let#[U,X,Z,b3,b4]:=Kg hv;let S4:=s3.trans s4;erw[ai λM g=>#[_,Z,a,ns,2,Z,S4.seq hS,Oa,Oa,λp5 H5 n1 B5 e5=>#[p5,Z,B5,λN x H6 n7 b5 gC lC B6 k6=>g _ _ ?_]]];let s6:aa H4 H6:=λb o e=>k6 _ _ (jk e n1) (by rw[e5 b$ jk e n1];rwa[e]);let S6:=S4.trans s6;let T0:=aa.tm (s4.trans s6);let#[i,hi,ei]:=ir.mp hd;let h5:ds[i]?=δ d:=by rw[<- ei];rwa[OG hi]
 let h6:=FS h4 h5 a';rw[<- b1]at h6;let#[I,hP]:=I9 (s6 _ _ b3) (b4.mono$ aa.tm s6) #[zs,hD.mono T0] hN (h4.mono T0);let lx:=zo hP.tr;rw[OJ]at lx;let ak:C4 H6 nA U T N i x d ds nl X I S:=#[hP,N9,h5,h6,T0 _ _ b0,b2,h2,b5,gC];let kS:Kp H H6:=Kp.of_same S6;erw[ai λM g=>#[_,Z,_,Z,_,Z,_,Z,U,T,N,i,x,d,ds,nl,X,I,S,Z,ak,λc so ao L0 H7 D h3 y d0 s0 k7=>g _ _ ?_,λno H7 k7=>g _ _ ?_]]
 .clear g;erw[ai λM g=>#[_,Z,Z,_,Z,aY (OR nofun)$ g _ _ ?_]];let k2:=kS.trans k7;erw[ai λM g=>#[_,Z,a,ns,3,Z,k2.seq hS,Oa,Oa,λp H8 n2 B8 e8=>g _ _ ?_]];let s8:aa H7 H8:=λb o e=>by rw[e8 b$ jk e n2];rwa[e]
  let R:=ak.kp k7;show eQ _ _ _ [↑a,↑r,δ$ .str d.f,↑T,↑U,↑N,↑c,↑p,θ,θ,θ] H8;erw[ai λM g=>eX λJ j=>#[_,Z,Oa,Oa,j _ _ ?_]];erw[zc (lo:=0) (λi σ H'=>Nj a r T U N c p d.f H7 σ H') #[_,_,_,Z,Kp.of_same s8,B8] ?_ (λσ H' h=>g _ _ ?_)]
  .clear g;intro E rt ii σ H9 c4 fE Gq kq h;let#[o8,o9,o1,Z,k9,B9]:=h;erw[kq ?_];let n3:H7 p=θ:=n2;let a0:=R.kp k9;let h7:=kQ h3 k9.tm;show eQ (eK _ _) _ E [↑a,↑r,δ$ .str d.f,↑T,↑U,↑N,↑c,↑p,δ$ .int (0+(ii:Int)),o9,o1] H9;erw[ai λM g=>#[_,Z,d.f,S,so,ao,.ref c,Z,h7,y,N9,s0,λl B HA n6 b7 l1 sA=>#[_,Z,p,14,Z,B9.same sA,Oa,Oa,λG HB d4 d5 BB eB=>#[iZ,λl2 n0=>?_]]]];let pl:l≠p:=(B9.ne n6);let b8:HB l=δ (.lst$ B.map tT):=by rw[eB l pl];rwa[b7]
   let lm:(B.map tT).length=ry B:=OJ _;erw[#[l,l2,_,_,Z,Z,aq b8 n0,jc,by show(B.map tT).length+1<=_;omega,λL n4=>g _ _ ?_]];let sC:aa HB (af (af HB l2$ .lst [.int G]) L$ .lst$ B.map tT++[.int G]):=(je n0).trans (je n4);let eC:af (af HB l2$ .lst [.int G]) L (.lst$ B.map tT++[.int G]) L=δ (.lst ((B++[G]).map tT)):=by rw[O4];rwa[jc]
   let BC:=BB.same sC;let l0:L≠p:=λz=>by let:=(BB.same$ je n0).ne n4;rwa[this z]
   generalize af (af HB l2$ .lst [.int G]) L (.lst$ B.map tT++[.int G])=HC at sC eC BC ⊢;let k0:uQ p H9 HC:=((uQ.of_kp$ Kp.of_same sA).trans$ uQ.of_but$ aI.of_eq eB).trans (uQ.of_kp$ Kp.of_same sC);let pc:N≠p:=λz=>by let:=R.ce;rw[z,n3]at this;cases this
   let h':HC N=δ (.dK x):=k0 _ _ pc DH a0.ce;erw[ai λM g=>#[_,Z,N,x,Z,h',λO not=>g _ _ ?_]];let sD:aa HC (af HC O$ .dK x):=je not;let eD:af HC O (.dK x) O=δ (.dK x):=jc;let BD:=BC.same sD;let op:O≠p:=BC.ne not;generalize af HC O (.dK x)=HD at sD eD BD ⊢;let W:=sD _ _ eC;let ll:((B++[G]).map tT).length=ry B+1:=by rw[OJ,OL];rfl
   erw[ai λM g=>#[_,Z,p,Z,BD,λe6 HE e2 e3 BE eE=>#[_,Z,_,Z,_,Z,_,Z,L,_,Z,.inl$ aK.of (by rw[eE L l0];rwa[W]),p,_,Z,BE,by rw[ll];omega,by rw[ll];omega,λd2 Y d6 d3 BF eF=>?_]]];rw[ll]at d3;obtain⟨kk,rfl⟩:∃kk:Nat,d2=(kk:Int):=#[d2.toNat,N9];let b9:kk < (B++[G]).length:=by rw[OL];show kk < ry B+1;omega
   let hx:((B++[G]).map tT)[kk]?=δ (.int ((B++[G])[kk])):=by rw[O2,OG b9];rfl
   let a1:Y L=δ (.lst ((B++[G]).map tT)):=by rw[eF L l0,eE L l0];rwa[W]
   let a3:Y O=δ (.dK x):=by rw[eF O op,eE O op];rwa[eD]
   erw[#[L,_,_,_,Z,Z,aK.of a1,jG hx,O,_,Z,oH.k (k:=.inl ((B++[G])[kk])) a3 N9,g _ _ ?_]];generalize (B++[G])[kk]=C;let gG:=gC.put (.inl C) (i:=e6) #[e2,e3];let kF:aI p HD Y:=(aI.of_eq eE).trans (aI.of_eq eF);let bZ:∀b o,b≠O->Y b=δ o->af Y O (.dK$ bN x (.inl C)$ .int e6) b=δ o:=λb o nb e=>by rw[jh nb];rwa[e]
   let eG:af Y O (.dK$ bN x (.inl C)$ .int e6) O=δ (.dK$ bN x (.inl C)$ .int e6):=jc;let BG:ax (af Y O$ .dK$ bN x (.inl C)$ .int e6) p:=BF.eq (jh$ Pk op);generalize af Y O (.dK$ bN x (.inl C)$ .int e6)=HG at bZ eG BG ⊢;let n5:∀o,H7 O=δ o->NX o->False:=λo e nx=>by
    by_cases z:O=p
    .rwa[op z]
    .let:=k0 _ _ z nx (k9 _ _ nx e);rw[not]at this;cases this
   let k1:Kp H7 HG:=λb o nx e=>by
    let nb:b≠p:=λz=>by rw[z,n3]at e;cases e
    let no:b≠O:=λz=>by subst z;rwa[n5 _ e nx]
    rwa[bZ _ _ no$ kF _ _ nb$ sD _ _$ k0 _ _ nb nx$ k9 _ _ nx e]
   let a4:=R.kp k1;let h0:=kQ h3 k1.tm;refine#[_,Z,_,Z,_,Z,U,T,c,O,i,_,x,L0,so,ao,d,ds,nl,X,I,S,Z,{ a4 with ce:=eG,gc:=gG },h0,y,d0,s0,D,λHH kH=>#[_,Z,aY Z ?_]];let b':=a4.kp kH;erw[#[_,Z,_,Z,_,Z,U,T,c,N,i,x,x,L0,so,ao,d,ds,nl,X,I,S,Z,b',kQ h0 kH.tm,y,d0,s0,D,λHI kI=>#[_,Z,aY Z$ fE _ _ #[_,_,_,Z,(k1.trans kH).trans kI,(BG.kp kH).kp kI]]]]
  .let#[o8,o9,o1,Z,k9,B9]:=h;let a0:=R.kp k9;erw[#[_,Z,_,Z,_,Z,_,Z,_,Z,U,T,N,i,x,d,ds,nl,X,I,S,Z,a0,λc2 s2 a2 _L HA e0 c0 o3 d7 cj kA=>?_,λno HA kA=>absurd D (no _ _ _ _)]];rw[D]at e0;injection e0 with z1 z2 z3 z4;subst z1;subst z2;erw[#[Hq d.f S so ao,Hq d.f S so ao,vj y d0,vk y,vk y,ZE (kQ h3 (k9.trans kA).tm) y,ZE c0 y,?_]];rw[zp Z];rwa[q _]
 .rwa[ai λM g=>#[_,Z,Z,_,Z,c8 Z$ q _]]
def IL{f:ζ}{F:bS}{k:Nat}{C T a n:ζ}:ah P w K mg base (dH P w) k f F z15z (n8 C T a n 0):=by
 let N:∀{v H Q E},¬n8 C T a n 0 v H Q E:=by rintro v H Q E ⟨M,r,g,j,l,m,q,p,c,u,D,t,x,i,L,y,S,B,d,G,I,X,e,J,_,_,z,_⟩;omega
 rwa[#[λv H Q E h=>(N h).elim,λA o s H b U v Q E O R V W h=>(N h).elim]]
theorem Nv{C T t n h z A B i fP fN fG fL fV fI fE fO fK fF:ζ}{f F a b c k l o p q r s u v x:bS}(y:RK K C)(N:a9 K C "anew")(D:aS K "chain_along" "AgainRun.chain_along" BY h f)(E:aE K f z15z [])(m:bj K C "chain_along" h)(G:aS K "what_along" "AgainRun.what_along" BZ z F)(H:aE K F z26z [])(M:bj K C "what_along" z)
  (I:∀j,ah P w K mg base (dH P w) (2*j+13) A a z11z$ iQ C T t n j) (J:aE K a z11z []) (d:bj K C "what_of" A) (GT:ah P w K mg base (dH P w) 1 B b ["self"] (gw C T)) (L:aE K b ["self"] []) (e:bj K C "take_turn" B) (O:ah P w K mg base (dH P w) 1 i c ["deep"] (dS t)) (Q:aE K c ["deep"] []) (R:fJ K (.ref i)=μ) (S:mg "deeper"=↑i) (U:‹36› fP k z9z (ou 17) "paths_at")
  (V:‹2› fN l ["parts","f"] lT "part_of") (W:‹1› fG o ["chain","number"] og "goal_at") (X:‹1› fL p ["steps","mark","cut"] lS "like_from") (Y:‹2› fV q ["steps","mark","deed"] lR "lender_from") (cI:‹1› fI r ["what"] mw "deed_in") (cE:‹9› fE s z8z (fc n) "deed_at") (cO:‹9› fO u ["part","step"] (pH n) "onward") (cK:‹1› fK v ["steps","at"] my "chain_taken") (cF:‹1› fF x ["what"] lO "found_in") (ml:mg "len"=θ) (g:mg "tuple"=θ):∀j,ah P w K mg base (dH P w) (2*j+38) h f z15z (n8 C T t n j)
 |0=>IL
 |j+1=>IN D y N V W X Y cI cE cO cK cF (IP G y N (I j) J d GT L e (Nv y N D E m G H M I J d GT L e O Q R S U V W X Y cI cE cO cK cF ml g j) E m O Q R S U) H M ml g
def EX{f:ζ}{F:bS}{k:Nat}:⇑k f F ["_law_chain"] (iY 0):=by
 let n:∀{v H Q E},¬iY 0 v H Q E:=by rintro v H Q E ⟨f,i,s,a,u,_,_,_,z,_⟩;cases z
 rwa[#[λv H Q E h=>(n h).elim,λA o s H b U v Q E c d e g h=>(n h).elim]]
theorem Lh{f:ζ}{a:bS}(F:xb K "_law_reads" Cm f a)(b:aE K a ["_law_chain"] [])(m:mg "_law_reads"=↑f):∀n,⇑(n+1) f a ["_law_chain"] (iY n)
 |0=>EX
 |n+1=>Fx F #[(Lh F b m n),b,F.kp,m]
@[elab_as_elim] theorem NY{P:xD η->Prop}(u:xD η)(h:ry u=1)(q:∀a,P [a]):P u:=by
 cases u with
 |nil=>cases h
 |cons a r=>
  cases r with
  |nil=>rwa[q a]
  |cons _ _=>cases h
def _root_._L.aS.b1{K:β}{st:cc}{p:xD ρ}(F:aS K x q st f g)(h:∀(kV d b:η) (A:xL ζ) (c C a:η),bindArgs (ti x q (cf st) (bL st) (ae st) .none kV d b A c C) #[[a],[]]=pure (p.zip [a]):=by intros;rfl)(e:↥(ry p=1)):aE K g p []:=F.binds λkV d b A c C u H=>NY u (H.trans e) λa=>h kV d b A c C a
@[elab_as_elim] theorem NZ{P:xD η->Prop}(u:xD η)(h:ry u=2)(q:∀a b,P [a,b]):P u:=by
 cases u with
 |nil=>cases h
 |cons a r=>
  cases r with
  |nil=>cases h
  |cons b R=>
   cases R with
   |nil=>rwa[q a b]
   |cons _ _=>cases h
def _root_._L.aS.b2{K:β}{st:cc}{p:xD ρ}(F:aS K x q st f i)(h:∀(kV d g:η) (A:xL ζ) (c C a b:η),bindArgs (ti x q (cf st) (bL st) (ae st) .none kV d g A c C) #[[a,b],[]]=pure (p.zip [a,b]):=by intros;rfl)(e:↥(ry p=2)):aE K i p []:=F.binds λkV d g A c C u H=>NZ u (H.trans e) λa b=>h kV d g A c C a b
@[elab_as_elim] theorem N0{P:xD η->Prop}(u:xD η)(h:ry u=3)(q:∀a b c,P [a,b,c]):P u:=by
 cases u with
 |nil=>cases h
 |cons a r=>
  cases r with
  |nil=>cases h
  |cons b R=>
   cases R with
   |nil=>cases h
   |cons c d=>
    cases d with
    |nil=>rwa[q a b c]
    |cons _ _=>cases h
def _root_._L.aS.b3{K:β}{st:cc}{p:xD ρ}(F:aS K x q st f j)(h:∀(kV d g:η) (A:xL ζ) (C i a b c:η),bindArgs (ti x q (cf st) (bL st) (ae st) .none kV d g A C i) #[[a,b,c],[]]=pure (p.zip [a,b,c]):=by intros;rfl)(e:↥(ry p=3)):aE K j p []:=F.binds λkV d g A C i u H=>N0 u (H.trans e) λa b c=>h kV d g A C i a b c
@[elab_as_elim] theorem N4{P:xD η->Prop}(u:xD η)(h:ry u=4)(q:∀a b c d,P [a,b,c,d]):P u:=by
 cases u with
 |nil=>cases h
 |cons a r=>
  cases r with
  |nil=>cases h
  |cons b R=>
   cases R with
   |nil=>cases h
   |cons c e=>
    cases e with
    |nil=>cases h
    |cons d f=>
     cases f with
     |nil=>rwa[q a b c d]
     |cons _ _=>cases h
def _root_._L.aS.b4{K:β}{st:cc}{p:xD ρ}(F:aS K x q st f j)(h:∀(kV D g:η) (A:xL ζ) (C i a b c d:η),bindArgs (ti x q (cf st) (bL st) (ae st) .none kV D g A C i) #[[a,b,c,d],[]]=pure (p.zip [a,b,c,d]):=by intros;rfl)(e:↥(ry p=4)):aE K j p []:=F.binds λkV D g A C i u H=>N4 u (H.trans e) λa b c d=>h kV D g A C i a b c d
@[elab_as_elim] theorem N5{P:xD η->Prop}(u:xD η)(h:ry u=5)(q:∀a b c d e,P [a,b,c,d,e]):P u:=by
 cases u with
 |nil=>cases h
 |cons a r=>
  cases r with
  |nil=>cases h
  |cons b R=>
   cases R with
   |nil=>cases h
   |cons c f=>
    cases f with
    |nil=>cases h
    |cons d g=>
     cases g with
     |nil=>cases h
     |cons e i=>
      cases i with
      |nil=>rwa[q a b c d e]
      |cons _ _=>cases h
def _root_._L.aS.b5{K:β}{st:cc}{p:xD ρ}(F:aS K x q st f j)(h:∀(kV D g:η) (A:xL ζ) (C i a b c d e:η),bindArgs (ti x q (cf st) (bL st) (ae st) .none kV D g A C i) #[[a,b,c,d,e],[]]=pure (p.zip [a,b,c,d,e]):=by intros;rfl)(e:↥(ry p=5)):aE K j p []:=F.binds λkV D g A C i u H=>N5 u (H.trans e) λa b c d e=>h kV D g A C i a b c d e
def fh(K:β)(p q:ρ)(st:cc)(f:ζ):Prop:=∃(o:η) (O:xL ζ) (kV d a:η) (A:xL ζ) (c C:η) (s:Array (xL η)),K.lookup f=δ #[o,O,.func$ ti p q (cf st) (bL st) (ae st) .none kV d a A c C,s]/\codeIn K c q=μ/\fJ K (.ref f)=μ
def cq(K:β)(p:ρ)(st:cc)(f:ζ):Prop:=nsIn K Ψ p=δ (↑f)/\fh K p p st f
section
variable {K:β}{py q:ρ}{st:cc}{f:ζ}{oc:η}{od:xL ζ}{kV dc pm:η}{an:xL ζ}{cd ct:η}{sl:Array (xL η)}
def Nw(l:K.lookup f=δ #[oc,od,.func$ ti py q (cf st) (bL st) (ae st) .none kV dc pm an cd ct,sl])(c:codeIn K cd q=μ)(k:fJ K (.ref f)=μ):fh K py q st f:=#[_,_,_,_,_,_,_,_,_,l,c,k]
def M'(a:nsIn K Ψ py=δ (↑f))(l:K.lookup f=δ #[oc,od,.func$ ti py py (cf st) (bL st) (ae st) .none kV dc pm an cd ct,sl])(c:codeIn K cd py=μ)(k:fJ K (.ref f)=μ):cq K py st f:=#[a,Nw l c k]
def fh.go(h:fh K py q st f):∃F,aS K py q st f F/\fJ K (.ref f)=μ:=by let#[oc,od,kV,dc,pm,an,cd,ct,sl,l,c,k]:=h;rwa[#[_,vV l c k,k]]
def cq.go{mg:ρ->xL η}(t:cq K py st f)(X:K.In h)(G:h.Ns Ψ mg):∃a,aS K py py st f a/\fJ K (.ref f)=μ/\mg py=↑f:=by let#[a,F,k]:=t.2.go;rwa[#[a,F,k,Uj X G t.1]]
end
def D9{l:rm}{w:bF}{K:β}{mg:ρ->xL η}(X:K.In h)(G:h.Ns Ψ mg)(r1:mg "law"=↑fa)
                 
  (t3:cq K "names_in" gq f3)
  (t4:cq K "own_terms" Gs r2)
  (t5:cq K "used_behind_terms" yd fUb)
  (t6:cq K "used_ahead_of" Cp f6)
  (t7:cq K "used_ahead" Co fUa)
  (t8:cq K "bodies_in" Gj r3)
  (t9:cq K "many_cuts" xW r4)
  (t':cq K "deed_of" xS r5)
  (r6:cq K "place_of_give" mZ f7)
  (r7:cq K "place_of_set" xY r8)
  (r9:cq K "part_made" xX r')
  (s0:cq K "made" rB s1)
  (s2:cq K "_law_box" Gk s3)
  (Ak:cq K "_law_take" yc s4)
  (s5:cq K "_law_number" mW s6)
  (s7:cq K "_law_names" lH s8)
  (s9:cq K "_law_term" rF s')
  (u0:cq K "_law_spot" xZ u1)
  (u2:cq K "_law_statement" x6 fSt)
  (u3:cq K "_law_body" rq u4)
  (u8:cq K "_law_any" Gi u9)
  (fg:cq K "_law_op" MW u')
  (v1:cq K "_law_inner" pi v2)
  (v3:cq K "_law_looped" i9 v4)
  (v5:cq K "_law_ticking" ik v7)
  (v8:cq K "_law_busy" xP v9)
  (v':cq K "_law_case" rA w0)
  (w1:cq K "joined" mQ w2)
  (w3:cq K "worth" nh w4)
  (w5:cq K "named" mV w6)
  (w7:cq K "begun" oZ w8)
  (w9:cq K "deeper" mN w')
  (x1:cq K "part_of" mY x2)
  (x3:cq K "cut_at" ph x4)
  (x5:cq K "held_at" mP x7)
  (x8:cq K "worths" lg x9)
  (x':cq K "deed_at" mM y0)
  (y1:cq K "found_in" ij f9)
  (y2:cq K "end_of" mO y3)
  (y4:cq K "first_of" lG y5)
  (y':cq K "onward" mX z8)
  (z':cq K "run" Gv A1)
  (A2:cq K "whats_at" Cr A3)
  (A5:cq K "whats_in" Cu A8)
  (A9:cq K "paths_at" Cj A')
  (B1:cq K "deed_in" Gm B2)
  (B3:cq K "goal_at" Gn B4)
  (B5:cq K "like_from" xV B6)
  (B7:cq K "chain_taken" Gw B8)
  (B9:cq K "again" Gh B')
  (C0:cq K "lender_from" xU C')
  (D0:cq K "_law_cells" o0 D1)
  (D':cq K "_law_found" Gr E1)
  (E2:cq K "_law_all_in" B0 E3)
  (E4:cq K "_law_beside" uu E5)
  (E6:cq K "_law_laid" Ci E7)
  (E8:cq K "_law_book" pj E9)
  (E':cq K "_law_reads" Cm H0)
  (H1:cq K "_law_along" Gp H2)
  (H3:cq K "_law_right" Cn H4)
  (tZ:cq K "law" gU fZ)
  (H5:nsIn K Ψ "NOUGHT"=δ (↑r)) (H6:K.lookup r=δ #[.type "tuple",odN,.seq (ε [.str "num" rN0,.int 0 rN1]) nN,slN]) (H7:nsIn K Ψ "Cutting"=δ (↑o)) (v0:nsIn K Ψ "TOP"=δ (δ$ .int 1000000000000000000 tTop)) (vD:nsIn K Ψ "DEEPEST"=δ (δ$ .int 15 tD)) (vR:nsIn K Ψ "BookRun"=δ (↑C)) (vT:nsIn K Ψ "Turns"=δ (↑d0)) (vL:nsIn K Ψ "AgainRun"=δ (↑c)) (vB:nsIn K Ψ "BookError"=δ (↑xB))
  (H8:nsIn K Ψ "TooLong"=δ (↑x))
  (H9:nsIn K Ψ "TooDeep"=δ (↑B))
  (H':K.lookup x=δ #[ocxL,odxL,.cls cdxL,slxL]) (t1:typeIn K (.ref x)=δ (.type "type")) (mbxL:mroIn K x (.type "BaseException")=δ μ) (k9:fJ K (.ref x)=μ)
  (I1:K.lookup B=δ #[ocxD,odxD,.cls cdxD,slxD]) (t2:typeIn K (.ref B)=δ (.type "type")) (mbxD:mroIn K B (.type "BaseException")=δ μ) (k':fJ K (.ref B)=μ)
  (I2:K.lookup xB=δ #[ocxB,odxB,.cls cdxB,slxB]) (t0:typeIn K (.ref xB)=δ (.type "type")) (m6:mroIn K xB (.type "BaseException")=δ μ) (d1:mroIn K x (.ref xB)=δ μ) (d2:mroIn K B (.ref xB)=δ μ)
  (e0:excIn K x sJ "ValueError.__new__"=μ) (e1:excIn K B sJ "ValueError.__new__"=μ)
  (d3:uY K x) (d4:uY K B)
  (rk:RK K C) (I3:Mk K C f0) (tm:uS K d0 "__init__" f4) (d5:bj K C "take_turn" f1) (d6:bj K C "number_in" f2) (m7:bj K C "chain_of" f') (d7:bj K C "what_of" f5)
  (ra:RK K c) (n6:a9 K c "anew") (I4:Mk K c d8) (I5:uS K C "__init__" f0) (M:bj K c "take_turn" f1) (m8:bj K c "number_in" f2) (m9:bj K c "chain_of" f') (m':bj K c "what_of" f5) (a1:bj K c "chain_along" d') (e2:bj K c "what_along" I6)
  (ck:CK K o) (mk:Mk K o e3) (e4:bj K o "place_of_body" e5) (I7:bj K o "place_of" I') (J0:bj K o "place_of_cut" K1) (K3:bj K o "ways_of" K4)
  (K5:fh K "__init__" "Cutting.__init__" xT e3)
  (L0:fh K "place_of_body" "Cutting.place_of_body" Cc e5)
  (L1:fh K "place_of" "Cutting.place_of" Ck I')
  (L3:fh K "place_of_cut" "Cutting.place_of_cut" Cd K1)
  (L5:fh K "ways_of" "Cutting.ways_of" Cq K4)
  (L6:fh K "__init__" "Turns.__init__" ya f4)
  (L7:fh K "take_turn" "Turns.take_turn" pw f1)
  (L8:fh K "number_in" "Turns.number_in" yb f2)
  (L':fh K "__init__" "BookRun.__init__" xO f0)
  (N1:fh K "chain_of" "BookRun.chain_of" Ca f')
  (N2:fh K "what_of" "BookRun.what_of" Cb f5)
  (N3:fh K "__init__" "AgainRun.__init__" xN d8)
  (N':fh K "chain_along" "AgainRun.chain_along" BY d')
  (O':fh K "what_along" "AgainRun.what_along" BZ I6)
  (z4:nsIn K Ψ "len"=δ θ)
  (z5:nsIn K Ψ "int"=δ θ)
  (z0:nsIn K Ψ "range"=δ θ)
  (z2:nsIn K Ψ "list"=δ θ)
  (y:nsIn K Ψ "reversed"=δ θ)
  (z1:nsIn K Ψ "tuple"=δ θ)
  (J:nsIn K Ψ "sorted"=δ θ)
  (z6:nsIn K Ψ "set"=δ θ)
  (z7:nsIn K Ψ "zip"=δ θ)
  (z3:nsIn K Ψ "dict"=δ θ)
  (t:nsIn K Ψ "enumerate"=δ θ)
  (q:nsIn K Ψ "isinstance"=δ θ)
  :∃fd:bS,(∀(s:ι) (v:η),BindsTo s fd #[[v],[]] [("_law_script",v)])/\∀base:de,K.In base->base.Ns Ψ mg->ah l.prog w K mg base aH 74 fa fd ["_law_script"] (oj K):=by
 let e:=r1.symm.trans (Uj X G tZ.1);cases e;let#[P1,A,k0,L]:=t3.go X G;let#[dOw,e6,P4,Q']:=t4.go X G;let#[dUb,e7,kUb,R1]:=t5.go X G;let#[dUo,F0,e8,a2]:=t6.go X G;let#[dUa,e9,kUa,R3]:=t7.go X G;let#[dBi,e',R5,R7]:=t8.go X G;let#[dMc,a3,g0,g1]:=t9.go X G;let#[dDe,g2,R8,R9]:=t'.go X G;let#[dPg,F1,g4,g5]:=r6.go X G;let#[dPs,g6,R',S1]:=r7.go X G;let#[dPm,g7,S2,S3]:=r9.go X G;let#[dMa,g8,S4,S5]:=s0.go X G;let#[dBx,g',S6,S7]:=s2.go X G;let#[dTk,F,k,m]:=Ak.go X G;let#[dNu,O,k1,m0]:=s5.go X G;let#[dNm,a4,h0,h1]:=s7.go X G;let#[dTm,F2,h2,a5]:=s9.go X G;let#[dPo,h3,S8,S9]:=u0.go X G;let#[dSt,h4,kSt,S']:=u2.go X G;let#[dBo,a',T0,h5]:=u3.go X G;let#[dAn,h6,T1,T2]:=u8.go X G;let#[dOp,Q,k2,m1]:=fg.go X G;let#[dIn,h7,T9,T']:=v1.go X G;let#[dLo,h8,W0,W1]:=v3.go X G;let#[dTi,h',W2,W3]:=v5.go X G;let#[dBu,i0,W4,W5]:=v8.go X G;let#[dCa,i1,W6,W7]:=v'.go X G;let#[dJo,i2,W8,W9]:=w1.go X G;let#[dWo,R,k6,m2]:=w3.go X G;let#[dNd,b0,i3,i4]:=w5.go X G;let#[dBe,i',W',mBe]:=w7.go X G;let#[dDp,S,k3,m3]:=w9.go X G;let#[dPf,T,k4,m4]:=x1.go X G;let#[dCu,U,k5,m5]:=x3.go X G;let#[dHe,b7,j0,j1]:=x5.go X G;let#[dWs,j2,kWs,mWs]:=x8.go X G;let#[dDa,F3,k7,b8]:=x'.go X G;let#[dFo,F4,j3,j4]:=y1.go X G;let#[dEn,b9,j5,j']:=y2.go X G;let#[dFi,b',l0,l1]:=y4.go X G;let#[dOn,F5,k8,c0]:=y'.go X G;let#[dRu,l2,kRu,mRu]:=z'.go X G;let#[dWa,F6,kWa,l3]:=A2.go X G;let#[dWi,c1,kWi,l4]:=A5.go X G;let#[dPa,l5,kPa,mPa]:=A9.go X G;let#[dDi,c2,l6,l9]:=B1.go X G;let#[dGa,l',kGa,mGa]:=B3.go X G;let#[dLk,n3,kLk,mLk]:=B5.go X G;let#[dKt,n4,kKt,mKt]:=B7.go X G;let#[dAg,n5,kAg,mAg]:=B9.go X G;let#[dLe,n7,kLe,mLe]:=C0.go X G;let#[dCe,n',kCe,mCe]:=D0.go X G;let#[dLf,o1,kLf,mLf]:=D'.go X G;let#[dAi,F7,o2,c3]:=E2.go X G;let#[dBs,c4,kBs,o3]:=E4.go X G;let#[dLl,o4,kLl,mLl]:=E6.go X G;let#[dLb,c5,o5,o6]:=E8.go X G;let#[dRs,c6,kRs,o7]:=E'.go X G;let#[dLa,o8,kLa,mLa]:=H1.go X G;let#[dRg,o9,kRg,mRg]:=H3.go X G;let#[dmI,o',kmI]:=K5.go;let#[dmB,c9,kmB]:=L0.go;let#[dmO,p0,kmO]:=L1.go;let#[dmC,p1,kmC]:=L3.go;let#[dmW,p2,kmW]:=L5.go;let#[dTI,F9,kTI]:=L6.go;let#[dTT,D,kTT]:=L7.go;let#[dTN,V,kTN]:=L8.go;let#[dRI,a0,kRI]:=L'.go;let#[dRC,E,kRC]:=N1.go;let#[dRW,I,kRW]:=N2.go;let#[dAI,p3,kAI]:=N3.go;let#[dAL,c',kAL]:=N'.go;let#[dAW,p4,kAW]:=O'.go;let#[ocZ,odZ,kVZ,dcZ,pmZ,anZ,cdZ,ctZ,slZ,lZ,cZ,kZ]:=tZ.2;let FZ:=vV (st:=gU) lZ cZ kZ;let b:=R0 X G z4;let u:=R0 X G z5;let a:=R0 X G z0;let Y:=R0 X G z2;let g:=R0 X G y;let N:=R0 X G z1;let d:=R0 X G J;let n0:=R0 X G z6;let n2:=R0 X G z7;let p:=R0 X G z3;let f:=R0 X G t;let n1:=R0 X G q;let p5:oM K r:=λH=>.inr #[_,_,_,H6,Z,Z,cj,(.cons #[_,Z] (.cons #[_,Z] .nil))];erw[#[ti "law" "law" (cf gU) (bL gU) (ae gU) .none kVZ dcZ pmZ anZ cdZ ctZ,λs v=>.of_eq Z,λbase _ _=>?_]];generalize l.prog=P;let i:⇑1 s4 _ _ bg:=By F;let GBx:⇑1 s3 _ _ (rQ K):=Fi g' b u;let G0:⇑2 s6 _ _ iX:=ue O #[i,F.b2,k,m];let p6:⇑2 s8 _ _ iz:=wX a4 i F.b2 k m a;let p7:⇑6 s' _ _ (dD 4):=DX (P:=P) (w:=w) (base:=base) F2 F2.b3 a5 #[i,F.b2,k,m] #[G0,O.b1,k1,m0] b 4;let GPo:⇑7 u1 _ _ lV:=Bx h3 #[i,F.b2,k,m] #[p7,F2.b3,h2,a5];let SS:=Lv (P:=P) (w:=w) (base:=base) h4 a' #[i,F.b2,k,m] #[p7,F2.b3,h2,a5] #[GPo,h3.b2,S8,S9] h4.b5 S' a'.b5 h5 b N a;let GBo:⇑21 u4 _ _ (iN 6):=(SS 6).2;let GAn:⇑22 u9 _ _ rP:=Fe h6 #[i,F.b2,k,m] #[p6,a4.b2,h0,h1] #[GBo,a'.b5,T0,h5] b a N u;let G1:⇑2 u' _ _ om:=IS Q #[i,F.b2,k,m];let GIn:⇑3 v2 _ _ (dU 2):=wV h7 #[i,F.b2,k,m] #[G1,Q.b3,k2,m1];let GLo:⇑3 v4 _ _ (dU 1):=tY h8 #[i,F.b2,k,m] #[G1,Q.b3,k2,m1] u N;let GTi:⇑3 v7 _ _ (dU 1):=Zt h' #[i,F.b2,k,m] #[G1,Q.b3,k2,m1] u N;let GBu:⇑4 v9 _ _ nq:=Bn i0 #[i,F.b2,k,m] #[G1,Q.b3,k2,m1] #[p6,a4.b2,h0,h1] #[GLo,h8.b4,W0,W1] #[GTi,h'.b4,W2,W3] #[GIn,h7.b4,T9,T'];let GCa:⇑23 w0 _ _ ny:=Bo i1 #[i,F.b2,k,m] #[G0,O.b1,k1,m0] #[GBu,i0.b1,W4,W5] #[GAn,h6.b3,T1,T2] b N;let NS:=DG (P:=P) (w:=w) (base:=base) A A.b1 L n0 d;let p9:⇑7 f3 _ _ (dW 6):=NS 6;let GNc:⇑7 f3 _ _ (rW K):=Fs (fN:=f3) (fdN:=P1) A #[NS 5,A.b1,k0,L] n0 d;let GOw:⇑1 r2 _ _ on:=Ft e6;let US:=LQ (P:=P) (w:=w) (base:=base) e9 e7 F0 e9.b2 R3 e7.b2 R1 F0.b2 a2 #[GOw,e6.b1,P4,Q'] #[p9,A.b1,k0,L] Y n0 d g;let GUo:⇑31 f6 _ _ (iB 7):=(US 7).2;let GUz:⇑10 f6 _ _ (iB 0):=(US 0).2;let GBi:⇑1 r3 _ _ n9:=Fh e';let p':⇑2 r4 _ _ iO:=Bt a3 #[GBi,e'.b1,R5,R7] Y;let GDe:⇑1 r5 _ _ lN:=Bp g2;let GPg:⇑8 f7 _ _ iA:=wY F1 #[p9,A.b1,k0,L];let GPc:⇑8 f7 _ _ (rX K):=Fv F1 #[GNc,A.b1,k0,L];let GPs:⇑11 r8 _ _ lU:=Bw g6 #[GUz,F0.b2,e8,a2];let GmB:⇑63 e5 _ _ (oq o 8):=Ny (P:=P) (w:=w) (base:=base) ck c9 p0 p1 p2 c9.b3 e4 p0.b3 I7 p1.b3 J0 p2.b4 K3 #[p',a3.b1,g0,g1] #[GUo,F0.b2,e8,a2] #[GDe,g2.b1,R8,R9] #[GPg,F1.b1,g4,g5] #[GPs,g6.b2,R',S1] b N g 8 (OM _);let GmI:⇑3 e3 _ _ (rR o):=Fm o' ck #[p',a3.b1,g0,g1];let GPm:⇑64 r' _ _ (nC K r):=Bv g7 ck mk GmI o'.b2 (Uj X G H7) (Uj X G H5) p5 GmB c9.b3 e4 #[GPc,F1.b1,g4,g5] N g;let GMa:⇑65 s1 _ _ (nB K r):=Bs g8 #[GPm,g7.b3,S2,S3] N;let GJo:⇑1 w2 _ _ lQ:=tX i2 (Uj X G v0);let G5:⇑7 w4 _ _ (dq K 6):=y9 (P:=P) (w:=w) (base:=base) R R.b2 m2 #[GJo,i2.b3,W8,W9] 6;let G2:⇑1 x4 _ _ (lM r):=wS U;let q0:⇑2 x7 _ _ (lP r):=tW b7 #[G2,U.b2,k5,m5] p n2;let GWs:⇑8 x9 _ _ iD:=uh j2 #[G5,R.b2,k6,m2] N;let G6:⇑9 y0 _ _ (fc r):=tS F3 #[q0,b7.b3,j0,j1] #[G2,U.b2,k5,m5] #[G5,R.b2,k6,m2] #[GWs,j2.b2,kWs,mWs];let GFo:⇑1 f9 _ _ gE:=wU F4;let q1:⇑8 y3 _ _ (oe r):=wT b9 #[G2,U.b2,k5,m5] #[G5,R.b2,k6,m2] N p5;let q2:⇑9 y5 _ _ (iy r):=Zv b' #[q1,b9.b3,j5,j'] p n2;let G9:⇑9 z8 _ _ (pH r):=uf F5 #[G2,U.b2,k5,m5] #[q0,b7.b3,j0,j1] #[GFo,F4.b1,j3,j4] #[q1,b9.b3,j5,j'];let hxL:clsIn K x≠θ:=by
  unfold clsIn;rw[H'];intro z;cases z
 let hxD:clsIn K B≠θ:=by unfold clsIn;rw[I1];intro z;cases z
 let mxL:=Uj X G H8;let mxD:=Uj X G H9;let x0:XM K mg "TooLong" x:=#[e0,k9,d3,t1,mxL];let xmD:XM K mg "TooDeep" B:=#[e1,k',d4,t2,mxD];let q3:⇑1 w6 _ _ lT:=ua b0;let G3:⇑2 x2 _ _ lT:=ug T #[q3,b0.b2,i3,i4];let GBe:⇑2 w8 _ _ lr:=wP i' #[q3,b0.b2,i3,i4] b;let G4:ah P w K mg base (dH P w) 1 w' _ _ (dS B):=tU S (Uj X G vD) xmD;let GTI:⇑1 f4 _ _ (lW C):=pZ F9 rk;let GTT:ah P w K mg base (dH P w) 1 f1 _ _ (gw C x):=Yd D rk x0;let GTN:⇑1 f2 _ _ (gF C):=p8 V rk;let GRI:⇑2 f0 _ _ (iP C):=pY a0 rk GTI F9.b3 (Uj X G vT) tm;let GRC:=Ec (P:=P) (w:=w) (base:=base) rk E E.b4 m7 I I.b3 d7 #[q2,b'.b2,l0,l1] #[G6,F3.b3,k7,b8] #[G9,F5.b2,k8,c0] GTT D.b1 d5 GTN V.b2 d6 (G4) S.b1 k3 m3 #[G3,T.b2,k4,m4] N 16;let GRu:ah P w K mg base (dH P w) 45 A1 _ _ (rZ x B r):=Fz l2 rk I3 GRI a0.b4 (Uj X G vR) #[GBe,i'.b3,W',mBe] GRC E.b4 m7;let GCe:⇑3 D1 _ _ lv:=wR n' #[i,F.b2,k,m] #[G0,O.b1,k1,m0] a;let q4:clsIn K xB≠θ:=by unfold clsIn;rw[I2];intro z;cases z
 let q5:=Uj X G vB;let GWi:⇑34 A8 _ _ (lY 16):=LW (P:=P) (w:=w) (base:=base) F6 F6.b2 l3 c1 c1.b2 l4 f 16;let GWa:⇑35 A3 _ _ (oy 17):=xh (n:=16) F6 #[GWi,c1.b2,kWi,l4];let GPa:⇑36 A' _ _ (ou 17):=Fu (n:=16) l5 #[GWa,F6.b2,kWa,l3];let q6:⇑1 B2 _ _ mw:=Fj c2;let GFz:⇑1 f9 _ _ lO:=tV F4;let GLk:⇑1 B6 _ _ lS:=Br n3 b a;let GLe:⇑2 C' _ _ lR:=Bq n7 #[q6,c2.b1,l6,l9] b a;let GGa:⇑1 B4 _ _ og:=Fk l' b;let GKt:⇑1 B8 _ _ my:=FE n4;let GTJ:⇑1 f4 _ _ (lW c):=pZ F9 ra;let G':ah P w K mg base (dH P w) 1 f1 _ _ (gw c x):=Yd D ra x0;let q7:⇑1 f2 _ _ (gF c):=p8 V ra;let GRJ:⇑2 f0 _ _ (iP c):=pY a0 ra GTJ F9.b3 (Uj X G vT) tm;let GAI:⇑3 d8 _ _ (nj c):=Bm p3 ra n6 GRJ a0.b4 (Uj X G vR) I5;let GAC:=Ec (P:=P) (w:=w) (base:=base) ra E E.b4 m9 I I.b3 m' #[q2,b'.b2,l0,l1] #[G6,F3.b3,k7,b8] #[G9,F5.b2,k8,c0] G' D.b1 M q7 V.b2 m8 (G4) S.b1 k3 m3 #[G3,T.b2,k4,m4] N;let GAW:∀j,ah P w K mg base (dH P w) (2*j+13) f5 _ _ (iQ c x B r j):=λj=>wQ I ra G' D.b1 M q7 V.b2 m8 (G4) S.b1 k3 m3 #[G3,T.b2,k4,m4] (GAC j) E.b4 m9;let GAL:ah P w K mg base (dH P w) 70 d' _ _ (n8 c x B r 16):=Nv (P:=P) (w:=w) (base:=base) ra n6 c' c'.b4 a1 p4 p4.b5 e2 GAW I.b3 m' G' D.b1 M (G4) S.b1 k3 m3 #[GPa,l5.b2,kPa,mPa] #[G3,T.b2,k4,m4] #[GGa,l'.b2,kGa,mGa] #[GLk,n3.b3,kLk,mLk] #[GLe,n7.b3,kLe,mLe] #[q6,c2.b1,l6,l9] #[G6,F3.b3,k7,b8] #[G9,F5.b2,k8,c0] #[GKt,n4.b2,kKt,mKt] #[GFz,F4.b1,j3,j4] b N 16;let GAg:ah P w K mg base (dH P w) 71 B' _ _ (rO x B r):=Fc n5 ra n6 I4 GAI p3.b4 (Uj X G vL) GAL c'.b4 a1 d;let GLf:⇑1 E1 _ _ oi:=Fp o1;let q':⇑18 E3 _ _ (gL 17):=HZ (P:=P) (w:=w) (base:=base) F7 F7.b2 c3 f 17;let GBs:⇑36 E5 _ _ (iW 16):=Ib (P:=P) (w:=w) (base:=base) c4 c4.b5 o3 #[GLf,o1.b1,kLf,mLf] #[q',F7.b2,o2,c3] f b a u 16;let GLl:⇑37 E7 _ _ rV:=Fq o4 #[GBs,c4.b5,kBs,o3] #[q',F7.b2,o2,c3] d;let r0:⇑46 E9 _ _ (oh r):=wW c5 (GRu) l2.b5 kRu mRu #[q5,q4,t0,m6,d1,d2] p;let GLa:⇑72 H2 _ _ (rS r):=Fn o8 (GAg) n5.b4 kAg mAg #[q5,q4,t0,m6,d1,d2] p;let GRs:⇑18 H0 _ _ (iY 17):=Lh (P:=P) (w:=w) (base:=base) c6 c6.b1 o7 17;let GRg:⇑73 H4 _ _ (rY r):=Fy o9 #[r0,c5.b4,o5,o6] #[GLa,o8.b3,kLa,mLa] #[GLl,o4.b2,kLl,mLl] d;rwa[Fo FZ #[GBx,g'.b2,S6,S7] #[i,F.b2,k,m] #[G0,O.b1,k1,m0] #[GCa,i1.b1,W6,W7] #[GMa,g8.b1,S4,S5] #[GCe,n'.b1,kCe,mCe] #[r0,c5.b4,o5,o6] #[GRs,c6.b1,kRs,o7] #[GRg,o9.b3,kRg,mRg] p b a]
def Nb{l:rm}{Y:bF->de->Prop}{d:DefRec}{K:Params->β}(e:l.most=δ 63)(H:d.params.defaults=[])
  (g:∀(w:bF) (h:de),Y w h->(K w.params).In h)
  (F:∀(w:bF) (mg:ρ->xL η) (b:ζ) (h:de),(K w.params).In h->h.Ns Ψ mg->mg d.name=↑b->
   ∃c:bS,(∀(s:ι) (u:η),BindsTo s c #[[u],[]] [("_law_script",u)])/\∀base:de,(K w.params).In base->base.Ns Ψ mg->ah l.prog w (K w.params) mg base aH 74 b c ["_law_script"] (oj$ K w.params)):
  PySem.W.WalkO q L m Y l.row.toRowW d [] (λf v=>PySem.call f v):=
 _L.CV (n:=63) (k:=74) (x:="_law_script") (CX:=λ_=>aH) (sp:=λw=>oj (K w.params)) e Oa H #[Z,Oa,Oa] g F (λ_ _ a N i _ j=>#[a,N,Z,j,i,λ_=>Z]) λ_ _ _ _ _ z=>z
end _K
local macro_rules|`(command|#print $s:str)=>do{let mut l:=Array.mkEmpty 0;let mut n:=0;let mut k:=0;for c in s.getString.toList do{let a:=c.toNat;n:=n*62+(if a<58 then a-48 else if a<91 then a-55 else a-61);k:=k+1;if k%11==0 then{l:=l.push (Lean.mkIdent (.mkSimple s!"tw{n}"));n:=0}};let f:=Lean.mkIdent `PySem.W.Fast;`(command|structure $f:ident:Prop where ($l* :True))}
#print "GC3bgK7F2qJ8KPf4RN6tS0I6YJqmMKfRkISMTgsSj2Az9vw780kjDWS4oB5sZwrQAQ1tSsYOsBaseHZwCXFoFk262JixpZZ4UQbBC14uYhvqOG4ceN0BTbyw107E4ubDJs074k6KdOhvsb9GdZ75zRpBPF7PAkwS9CxoFAljMCjw4cNJEM2XcPNn75H9IFM09eJPHYGM6k6miD00lA5t5Cz5d3EkEk1XeyGL3EHL7bre9WIGWjEPWl1P0RRla0tcfTLHMtwSHQT0DgyUfzjGOCtXkcVmaj6Ujapo8QWBZIyrp9shdokq891W6yIdo7918AwUl1SaX2LwMQ7o1VZJY9IsY9Vf6Ktr1xL1pnfbsaZ6pxqtqzQO9A9fPPv4kkqLa4WX7umc1TwR0g4Y7og2UWhDCAzk5ejyAT00IyF93BlPz9BlsK0uwHiYFGMIVZGsAgILvjS5FIxhzb3KGt4ow0PAHEmOtNaIF7dG1ZRgt8nx63k2JxOYhsJav96W0G0KGZ5ogLsAMeAz6P3zFvysiY7eVedDRTJ8wipYLeLFLB6eQVcVSLP147rfcpsdGGdHER4kO9RKjEsRxcRtSeI342ffQNqnU7OPdJptgmK4EE5WfxrGSLlKiDnLF27v014H7t808i2zZBRS6wN29ND7KGzfqtm2lVbG60QF2ZTq4xDeu4fH08SxiFNBgHVBC97u990a5LNjMXe0D4BXzspXKl91A4F5kqmo2Bep0ermLFckEg6Gy2wVzZB9WZU7MXvmG2KJeeebADYGS2yauvoHaGkKLBmURF1J9ox1fYrLXqoUpj4seUb8PdtraGAK8JetjKFM5Fa84X8Y0ur8KCHzosBA49FwQndClcMgnJM8YA8iOv3w50nmuJUqaGhCv1YjzLQz0O12HQisSxfx76eSMhTHvmrg6lsWprOIdLvD4AfZ3J9QMWHezfvYGTdQ56ToqEcNCEfr6duSPhmRR3lGxfUzwrwt81GehVbato63N8bZvtGeZVWqBU7ggA8CFlFKV9sDveLnczFLH8kh9INjS2JYI1dUkr71BUfK4qMCNmfBDZH6KSLHBGKRo5Iyd79OZGT0VLEYoS0gIFpG0oUpikuAR38j61SGSLFXT5h1icFAAEve7nTRgJPv009ZZyAowmcJB2LEPN39z54du1VffvBB0009QknYM8pj5kwIoPutMfX4UdmWbo2LfOK5YtRkVUzy3FoxdjVwTyAEC5z84ur22nt9Nk6uCz4Gip1h5Ma5icQ4JIqnMTRrt8te2014kxUDf5UIyMltWheIcRKOD0rooOvtH9qQL4LvIl6y7jhY2zUiY5lE5HTQY9GG5XCbdEdzZQE8T7m1NwWIBqswIPvrpC75AMh9HrN0UgAQ6VJ4htBJnFyUKIbJDmjVqUWBAeJrkOuVdt5EgVdNIOsdYjGozhbrZQMSEKFKQiP7CcxtCAc23jbjl6KBPDjLxB2SM3KfLzVLFPlw83YFUnK0DWKH2CSXVfAwcHQ8OmTrMrvgms6QM4WZ21yKpAiaRjWRFA5YBDW1VmEXXmHFV1SoOE6XCPAxFyVUBxVVuHsbeDsSuUAU70xk26QZSnV783FJ2nO9K0FCZJ3XD9lARFuUEK3IjwdrCTJzkPOhk2AHARtfAOqVMmKwL8vb6lSCF3L1D9Rl19jECqlkayI5B2J72elzdpjOrlKTNeLjGmh1L8lXVgV0j6aYKCSDxWIvbu55U8v9hQJOtV8wAfBuj7aC00eZgUQ2mGPg4mCeZU5QYMMCDCqCKmTO2Q6yRdyxVUuol9nZPioTDvKJ9XAhqqm0BbM0NE1kLInrtRBKLKmChEhFrCuI6nBWxK3pATMht0VNqCrAPY2ji6caiWLDQBDQ8RviT1qZZ2BFdUts6wMvpybc9Nt2iBdM70bud2DGa9VOibySnIJRsaZZlbuPFBeui0du93LGZeAfn7EfXtH85BEHzTQa56UObMlM8bNmLr5CfsEp3yv2UjjrMchP1m41GdeVNS9Ig61K2cwnlHEPGKCoBEPEDhZH3AL3u2EnqF8SNh2AzwYk5JbG81W5j8XZ2IrQdWgBNks756fjdDFjts2GPRY6iyCWV9f6H7FD1ZZR0KlrVkHGvGS4NK9Wtykqf1B8UI4PqpLoTKMzye4CNiXgFbylMNUhlXvLtjbSaHW7XT4bDhNjRcFC0HfdJ2RNTzB6Euz7fofUt4pIrG870nXxgM7IZYWRdoaoUDk7zUyLebZnJXPIXUq6cRh6te2qUPsGxAHRLEddlXk982ZamIB2gkP2LcsYCTkqNmVHjQjsqLqKxM3uEploZlJCsAKR735Flh3SJYLFO02ps4dH6AGsKgvhSe8MbbxqSbsnB04j3M65CJrU4epZMk5mQXj1n7XYsPgdNC4nLGCiMKbJ51ksMouEvdfz7w0maB23PMBEQfT06WDXsFLRCXNDPs0HrDv03dSJNW8xIcaftwrMKwEBb4igoZZq5b2ZIr3nybiuSJyhmg5at9wvHslM6BPs3g93XB8UJVMQv50RKbDX0A1k004yWIboQ8Ta3gy8PVyqEFALXyzmm3H31UCHU3HidvGWLC1wq1JPcej745Eea3AEH4421WOTtMYTTM9sEQEst2DAzEOuO4xG6cfM9cdZlVUyB3H5N4LEgPaItyJuqcgCDV5yt8j5cczJxx3nIgWIFTgTgRHFKTbDUUlLV8JI1MtPPj4gF05lrpRWWaaSH5vCIfAwNbi9A5iBnWJNCD23xG4CPdvBHCRH2PkT4va69jKt9RRAlDS2L3ePN51jo6FlUbaiRtJIkFiB4abybNb1JH7PAioQ45DJqqjdvCYZBA9ecnLi5lpiDLv13X8QN3RTF04C74z2dXbIJNi9aJun2CK0XoCn24EvpBlPMxmD3824IP5gAknFg2iBlH5SORHLfbInwJtJLSICoLvfXNAx1EMSJe0GjA7XzwQKg0QUUlRZzIDuaMzT8RS4PExZyA4mrLqJJl8rH2tf4zqGHgAICOIrKTCrDdCbuo28XCc2q15RPnF2AfTp3ViFmbP9qYI1gdRbk66JUoQxXpBSGLwhSgLigLi828dMO2QD6hIEC6P8CTSHixDXKHHisqhTrC8aqulNzXlE1Hu0RW0RD7z4jbIgRz9adpG1fo1igfv3MJPQAM54y7wXADPR2zLMVeg5CqSbopWYJ3JxMIZC5IVml6OpjPCEXegs5k8dmlkJx3g19jKB7KLFCuDnVVMTmiYRS6HVL2evYhAQ0szSa97UBpx3IG27I6rqM3C1WKlNcHKy0HZKulrhGxQk0oir8IitDsNFBVQSMw2jOT8fwHioswSAJ6rcTQC1XHxpDfresBF5MvvHJu03vTZU6F1EO3grI44fw6MFX2E2YO3XCK36097wyytHk2amgVsEXF59FqnLa9FGPGMkTEb9hiRyH6ZNhQth71lBUisaTDlLoU8CY0nTz4LZRKukzQq3z6wM5ycKFx6D3R77v5pWOVJWqfJFyRyzsb9d1KTVCuZi4xQmCxtDwON3v031FRnMeNAAvSBwRguw03gx29REYv8lnJwF5GpwDeNEXo575DnC3S8e71IyJwYxjBroi534qHsu2n7H3saQZXoxEPvJ3yqZJjDmLdDxl7K1LFmJcB3MrOwlR09FL0KM0wmjRkJGiGaPwzS0QCA2J3XK6ljyNBLTCoM29iWw7U1IEF4wSirBOwPkwnC0q9IsZax5bYrp3GYQu5pHq4unI5I5fTXWoHM8JnvCipUNhc6HPir7CEU0iHYiR04YSkec28NUkmSHEe25NlQ1cqZSOBGmPnJvf3XGb6FfXAQajI3d1ZeFdWeN3281JR92EhGmiHJ5Yt2rrSSBFH5tFHK5QPhY7htQhj9iStI2NIdInKnqphF2HrveSM0WNHIKYNCn1c8q6unUYy4yLZa0nMlj9kpAiB03jtPeqLvrWFzx3kw2qeNt0cz9e4lSWOrEdEXhvkyIjMBGqSkCAGi3qEACEgTl7LvRKX5WQR80nPZKyiHFBFLG9CFZZTgJTF7hZBXfLnJslI8tKkgez4FM3unImXaXrz8pZGFbjiwJV7wf9KqR6DphmpYC6VjOSDujJgfFnnWHlqOyLVDqLorCrymz16i7TOSu1FVODn5nQleQ5ON39RmE50Tt0u10YbunXHn1pAUNy04FtJ4UInRQKz4zy6o3Y9gAlv583CG1DI9wIJ4i2DgRJDeUlp4sCFp2bRoxkRU5z2HZAPe7RIKdbymHFTqtwCfnsrtM7gdEAcx6CmHTf9W15YMnaYyjY15sMYZLs4MbvJ2haVsHeGCLD5kF0WXJZiCHdnVT3ugckd3NBE0WY4uzL5CSCUrlkB6l5pe6CFDDGsB8nvBDPa37ff3Tyqlb1eFkb7hg59XUNoi5GshSZrDO5Je9VQMgYm1qwcAn8QO5JOgyT4YV3n1EM8nn4A5PMtHswgKJq32M6phxcaKNQzHMZN6U8DcLvRJaUShp0keV192xJym6bHNZX1IXpn8LknjqwmgbJCjwGYR0ZjzeFzGiYneJO2lJZvWe7RlxcV2QQym2sdFtPHOmL8RihMgNGCGWojJ7fkf3Eg5AaEn9DX9ENIBDFGc8V7BDKa78MQJH6XnE8XJSkb9HemTek5knM1FLQfF5tadg71PfrH78bP108nH7DbZRLkx9SOSsVjRpED1NjRVbpniMx09TUK6ExbwMJl0gUqlJ45q5lCQpcxbTSCFf9vt8Xi2k5DaCI168BiAG"
open PySem PySem.W PyProof.Rows PySem.W.X
def _K.LS {q : ψ} {loose : xD PySem.Str} {XP : (PySem.Str → xL η) → de → Prop} {K : Params → β} {as : xD ζ} {n t : Nat} {r : RowW} {d : DefRec} {kwd : xD (PySem.Str × PySem.Expr)} {run : η → xD η → Sem η}
    (e : ∀ P, as = (K P).map (·.1)) (h : WalkO q loose XP (InK K) r d kwd run) : WalkX q loose XP (obsZ as) (valZ K n t) r d kwd run :=
  fun w s₀ s₁ mg mb G Y a o pm cd doc dV kV h1 h2 h3 h4 h5 h6 args vals as' L => h w s₀ s₁ mg mb G (InK.keeps w _ _ (z_facts e Y).2.1 L.keeps) a o pm cd doc dV kV h1 h2 h3 h4 h5 h6 args vals as'
set_option maxRecDepth 100000 in
set_option maxHeartbeats 0 in
theorem PySem.Challenge.cw_againbook_k38_one_cell_changed_holds : PySem.Challenge.rw_againbook_k38_one_cell_changed.Holds := by
  w_on; o_law; z_head; (case hw => w_witness2)
  erw[_K.LS (fun _ => by rfl)$ _K.Nb (l := PySem.Challenge.rw_againbook_k38_one_cell_changed) rfl rfl (fun w h Y => Y) ?F]
  case F =>
    intro w mg fa h KX G hmg
    apply _K.D9 KX G hmg
    iterate 61 (apply _K.M';iterate 4 k_is)
    iterate 24 k_is
    iterate 2 k_exc
    iterate 2 (constructor<;>k_is)
    erw[⟨⟨?_,?_,?_,?_⟩,?_,?_,?_,?_,?_⟩];iterate 4 k_is
    iterate 5 (unfold _L.a9;k_is)
    iterate 2 (constructor;iterate 4 k_is)
    iterate 4 (constructor;iterate 3 k_is)
    erw[⟨⟨?_,?_,?_,?_⟩,?_,?_,?_,?_,?_⟩];iterate 4 k_is
    iterate 5 (unfold _L.a9;k_is)
    unfold _L.a9;k_is
    iterate 2 (constructor;iterate 4 k_is)
    iterate 6 (constructor;iterate 3 k_is)
    erw[⟨⟨?_,?_,?_,?_⟩,?_,?_⟩];iterate 4 k_is
    iterate 2 (unfold _L.a9;k_is)
    constructor;iterate 4 k_is
    iterate 4 (constructor;iterate 3 k_is)
    iterate 14 (apply _K.Nw;iterate 3 k_is)
    iterate 12 k_is
