import PyProof.Rows.All
import Wide.All
import OpenK.AllK
import Wide.FinOn
import Lean
import PyProof.EqAt
import PyProof.EqKinds
import PyProof.TupleCall
import PySem.Challenge.RW_againbook_k40_whole_anew_as_laid
set_option Elab.async false
set_option linter.all false
set_option maxRecDepth 100000
set_option genSizeOf false
set_option compiler.extract_closed false
set_option bootstrap.genMatcherCode false
open Option renaming some->δ,none->θ,map_eq_some_iff->cJ,isSome_iff_exists->nk
open List renaming length->ο,toArray->ε,getElem?_eq_some_iff->ξ,mem_singleton->τ,mem_cons->Ξ,mem_append->γ,mem_map->dn,range->dr,replicate->fz,lookup->ib,mem_append_right->ir,mem_iff_getElem->iv,getElem?_eq_getElem->kw,nodup_cons->kz,mem_append_left->mI,mem_filter->mL,pairwise_cons->ri,all_eq_true->sn,cons->tf,length->ti,mem_range->tz
open PySem renaming Addr->ζ,Value->η,Shared->ι,wpAny->π,Str->ρ,sizeLine->υ,model->χ,Program->ω,starEach->Δ,mainGlobals->Φ,World->bF,FuncData->bS,Around->bU,Stmt->cc,Heap->de,strKind->dg,Expr->dw,Builtin->dO,backTo->fy,Scope->ge,Obj->gs,codeAny->lq,holding->mB,sizeLine->mS,Within->rm
open Bool renaming true->μ,false->ν,eq_false_iff->iu
open Or renaming inl->ψ,inr->fR
open PySem.Value renaming ref->Θ,none->β,type->fr,int->ic,str->lu,bool->nz
open PySem.W renaming Frag->Ψ,keepIn->hG,methodObj->pq,takerIn->ry,OpenLaw->rz,fnOf->tT
open PySem.Builtin.SmallTypes renaming nextOf->Ω,ownedTupleIsFree->bx,ownedTupleHandOut->mT
open PySem.Obj renaming mapSeq->ab,mapFields->gb,putSet->mU
open Array renaming getElem?_eq_some_iff->bm,toList->nI
open PySem.Builtin.Tuple renaming tupleExact->ef,tupleItemsOf->rb
open PySem.Builtin.List renaming listSameRef->eT,listTooLong->fJ,listExtendWith->hJ,listLengthHint->ls,listSubscript?->rc,listAllItems->ro
open PySem.Heap renaming SameBut->fx,ExtBut->oS
open PySem.Builtin.Slice renaming slicePlaces->im,sliceAdjust->mF,sliceApplied->pz
open List.Pairwise renaming nil->ks
open PySem.F renaming slot_zip_getattribute->mu,called_tuple->oA
local macro_rules|`(tactic|erw[$t:term])=>if t.raw[0].getId.getPrefix== `F then `(tactic|(refine $t;intro)) else `(tactic|refine $t)
local macro_rules|`(tactic|rwa[$t:term])=>`(tactic|exact $t)
local macro_rules|`(tactic|let $d:letDecl)=>`(tactic|have $d:letDecl)
local macro_rules|`(↑$a)=>`(some (.ref $a))
local macro_rules|`(tactic|let ($a,$x,*):=$t)=>do{let y←(x.getElems.insertIdx! 0 a).mapM fun|`($i:ident)=>`(Lean.Parser.Tactic.rcasesPatLo|$i:ident)|_=>`(Lean.Parser.Tactic.rcasesPatLo|_);`(tactic|obtain ⟨$y,*⟩:=$t)}
local macro_rules|`(-$n:ident)=>`(($n).heap.objs.size)
local macro_rules|`(∅)=>`(λ_ _=>rfl)
local macro_rules|`(($t:term :))=>`(by simpa using $t)
local macro_rules(kind:=«term{_}»)|`({$h})=>`({$(Lean.mkIdent `s) with heap:=$h})
abbrev xL:=@List
abbrev ym:=@Option
def gU:0≤mS:=by decide
def i8:1≤mS:=by decide
def cg:2≤mS:=by decide
def ie:3≤mS:=by decide
def tP:4≤mS:=by decide
set_option maxHeartbeats 4000000
open PySem.W (keepIn Frag nsIn kitOne fnOf mg_of codeIn findIn mroIn isFn mg_none_of kia_one typeIn emptyDict clsIn instObj hasDictIn kitAny specialIn callWith_K excIn lookIn plainGet notCls tailIn)
noncomputable section
def PM{p:Prop}(h:p:=by decide):p:=h
def PL{p:Prop}(h:p:=by omega):p:=h
def N09{p:Prop}(h:p:=by omega+splitDisjunctions):p:=h
def PJ{p:Prop}(h:p:=by simp):p:=h
def PH{p:Prop}(h:p:=by decide +kernel):p:=h
def Pz{p:Prop}(h:p:=by rfl):p:=h
def BT{p:Prop}(h:p:=by intro z;cases z):p:=h
def Ch{p:Prop}(h:p:=by first |exact .inl Z |exact .inr Z):p:=h
def Cv{p:Prop}(h:p:=by intro _;rfl):p:=h
def Z{α:Sort u}{a:α}:a=a:=rfl
def Wb{p:Prop}(h:p:=by first|decide|rfl):p:=h
def Wx{p:Prop}(h:p:=by first |exact .inl Z |exact .inr Z |assumption):p:=h
local macro_rules|`(↥$p)=>`(autoParam $p Wb._auto_1)
open PySem renaming wpAny_bind->Rp,wpAny_pure->Rt,wpAny_holding->RY,wpAny_field->R4,wpAny_call_entry->Si,boot_len->Sj,wpAny_callSpecial?_slot->Sm,wpAny_newObj_type->So,builtinLookup_eq_fast->Sx,wpAny_setField->SG,wpAny_seqItems->SK,wpAny_mono->SN,wpAny_Call_Name_kw->SO,typeLookup_type->Tf,codeAny_builtin->Tg,mem_of_lookup->Tj,isSubtype_type->Tv,wpAny_setState_of->Tw,wpAny_specialOf->Tz,wpAny_typeOf->TK,wpAny_rule->TR,plainId_quiet->T4,wpAny_isInstance->T6,sizeLine_eq->Ua,wpAny_setField_rec->Ud,codeAny_mono->Ue,wpAny_passesOwn->Ug,wpAny_standAt->Uh,wpAny_askSetting->Ur,wpAny_setEntries_of->Uv,wpAny_newList->Ux,wpAny_attempt->Uy,wpAny_execs_nil->Uz,wpAny_pyIter_tuple->UD,wpAny_truthy_bool->UK,wpAny_pyIter_list->UL,wpAny_newTuple->UM,tupleKind_room_in1->U',wpAny_of_eq->Vm,fits_of_scanBound->Vo,entryFor_of_tree->Vy,wpAny_updateSeq->VD,wpAny_fieldsOf->VL,isSubtype_stop->VN,entryFor_alias->VO,call_meets->VX,wpAny_sequenceKey->V4,wpAny_pyIter_slot->V5,wpAny_execs_cons->Wj,noFill_tuple_add->Wk,codeAny_of_tree->WH,wpAny_runValue->WS,wpAny_loadPart->WT,wpAny_listPart->WU,wpAny_call->WV,wpAny_bindName->WW
open List renaming getElem?_eq_getElem->Rq,length_map->Rs,length_append->Ru,size_toArray->Rx,mem_of_getElem?->RL,mem_cons_self->RN,getElem?_map->RP,map_append->RU,mem_append_right->RW,mem_cons_of_mem->RZ,length_take->R0,not_mem_nil->R6,length_cons->Sa,append_nil->Sb,getD_eq_getElem?_getD->Se,append_assoc->Sn,take_length->Su,getElem?_eq_none->Sw,mem_of_mem_take->Sz,map_cons->SR,lookup_cons->SU,take_add_one->SX,mem_append_left->Td,length_drop->Te,take_of_length_le->Tx,mem_cons->TC,getElem_mem->TF,getElem?_append_right->TJ,getElem?_append_left->TQ,take_sublist->TW,map_map->TX,getElem?_set_ne->TY,getElem_cons_drop->T5,forIn_cons->T8,length_singleton->Ub,take_succ->Ui,map_take->Uq,mem_append->Ut,find?_cons->Uu,length_range->UA,getElem?_set_self->UB,getElem?_inj->UC,length_replicate->UG,length_filter_le->UH,getElem?_reverse->UJ,any_cons->UO,forIn_nil->U1,filter_append->U2,reverse_cons->U6,append_cancel_right->U9,all_eq_true->Vd,of_mem_zip->Vs,length_set->Vt,take_append_drop->Vw,perm_append_comm->Vx,nodup_nil->VA,mem_of_mem_drop->VB,filterMap_cons->VG,mem_singleton->VI,getElem?_drop->VJ,eraseIdx_eq_take_drop_succ->VS,ext_getElem->VV,nil_append->V0,length_zip->V1,length_nil->V2,length_eraseIdx_of_lt->Wf,drop_zero->Wg,pairwise_iff_getElem->Wn,getElem?_zip_eq_some->Wo,drop_eq_getElem_cons->Wp,map_drop->WB,all_cons->WC,getElem?_replicate->WJ,filter_cons_of_pos->WK,filter_cons_of_neg->WL,append_cancel_left->WM,drop_eq_nil_of_le->WP
open PySem.Heap renaming get?_push_of_some->Rr,get?_push_size->Ry,lt_size->Rz,get?_update_other->RV,get?_update_self->Sl,size_push->SA,size_update->VW
open Nat renaming le_refl->Rv,zero_le->RE,ne_of_lt->RJ,le_trans->RM,lt_of_lt_of_le->RQ,ne_of_gt->SH,lt_irrefl->SI,le_succ->Tb,lt_of_le_of_lt->Tc,lt_succ_self->Ti,succ_le_succ->Ts,min_eq_left->TU,lt_succ_of_lt->TZ,le_of_lt->T3,lt_of_succ_lt->Uf,le_add_right->Uk,zero_add->UF,le_max_right->UN,not_lt_zero->UU,le_max_left->UV,sub_zero->UZ,le_of_eq->U0,le_of_not_lt->Vj,sub_self->Vq,lt_or_ge->Vr,min_le_left->Vv
open PySem.F renaming plainAttrs_list->RF,type_list_append->RS,slot_list_append->RT,slot_tuple_iterator_next->SV,slot_zip_next->S0,type_list_extend->To,slot_list_extend->Tp,args_tuple_iterator_next_1->Um,plain_list_iadd->Uo,args_zip_next_1->Up,entry_tuple_iterator_next->Us,entry_zip_next->Uw,args_object_init_2->UT,args_tuple_add_2->U3,entry_tuple_add->U5,slot_tuple_add->Va,plainAttrs_str->Vb,type_str_join->Vf,slot_str_join->Vg,slot_dict_get->Vh,plain_proto_collect->VT,entry_proto_collect->VU,plain_extend_loop->VZ,plain_tuple_new->V',plainAttrs_dict->Wa,entry_list_iadd->Wc,args_dict_get_3->We,entry_dict_get->Wm,slot_set_iter->Wv,slot_dict_pop->Ww,plain_set_new->WA
open Bool renaming false_ne_true->RI,false_eq_true->RO,and_eq_true->SY,not_true->UP,eq_iff_iff->Vu,and_false->VC,or_false->WE
open Array renaming length_toList->RX,getElem?_toList->Tk,getElem?_eq_getElem->TN,getElem?_eq_none->Vl,size_append->VQ
open PySem.PassesOwn renaming never->Sd,leaving->WO
open PySem.Obj renaming data_mapFields->Sf,isFreed_of_fields->SW,cls_mapFields->UE
open PyProof.Rows renaming callWith_type1->Sr,boot_tuple->Tu,slot_tuple_getitem->TM,listUpdate_at->UW,boot_sorted->UY,seqEpoch_at->Vn,entry_list_sort->VF,slot_list_sort->VM,args_list_sort->VP,plain_sorted->V6,entry_sorted->V7,args_sorted1->V8,kind_sorted->Ws,list_sort_plain->WF,get?_update_seq->WG,boot_isinstance->WI,size_push'->WX,boot_int->WY
open Option.some renaming inj->Ss
open Int renaming emod_lt_of_pos->Sv,toNat_natCast->SE,emod_nonneg->SQ,fdiv_eq_ediv_of_nonneg->Wq,eq_ofNat_of_zero_le->WQ
open PySem.Around renaming under_plainId->SJ
open PySem.AutoSeq1 renaming wpAny_loadPart'->Tn
open List.Perm renaming refl->Tq,append_left->Vc,append->X'
open PySem.Heap.SameBut renaming update->Tt,refl->Wr
open PySem.W renaming mg_none_of->TB,kia_one->U4,methodCall_KW->Ve,plainGet_of->Vz,mg_of->VE,callWith_K->VY,cellsFrom_some->Wl,callWith_K0->WN,kitx_list->Z'
open PySem.Calls renaming spliced_cons->TH,spliced_nil->Uc,call_function_entry->Uj,callWith_builtin->Vk,Name_function_global->V9,evalArgs_plain->Y'
open PyProof.Rows.F renaming plain_set_update_loop->T7,entry_set_update_loop->U8
open List.Sublist renaming refl->Ul
open PySem.Value renaming isStrOf_shape->UR
open Option renaming map_some->Vi,getD_none->VR
open PySem.W.KFB renaming if_not->Vp
open PySem.Heap.IsSliceOf renaming new->V3
open PySem.SeqAt.EqAt renaming str_int->Wt,int_str->Wu
open PySem.Heap.DictOf renaming new->WR
open PySem.IsL renaming isList->WZ
def RB:=@if_pos
def RC:=@decide_eq_false
def RD:=@if_neg
def RG:=@decide_eq_true
def Sc:=@Ne.symm
def Sq:=@of_decide_eq_true
def SM:=@congrArg
def Ta:=@if_false
def Th:=@bne_self_eq_false
def UQ:=@of_decide_eq_false
def UX:=@if_true
def U7:=@or_false
def VH:=@beq_self_eq_true
def Wi:=@Iff.rfl
def FC(h:xL Char)(a:xL Lean.Term):Lean.Term:=Lean.Syntax.mkApp (Lean.mkIdent (.mkSimple (.ofList h))) a.toArray
def FI(N:Lean.Term)(c:Char)(S:xL Lean.Term):xL Char->xL Lean.Term
 |a::k::x::y::r=>if a==c then let j:=k.toNat%16;let T:=S.take j;FC [x,y] (if k<'A' then T else ⟨T.head!.raw[1][0]⟩::N::T.tail)::S.drop j else FI N c S r
 |_=>S
def FO(N:Lean.Term)(x:Lean.Syntax)(S:xL Lean.Term):xL Lean.Term:=match x.getId with
 |.str .anonymous s=>match s.toList with
  |'_'::s=>s.foldr (λc S=>if c<':' then FC ['p','v'] [⟨Lean.Syntax.mkNumLit c.toString⟩]::S else FI N c S "a2jab0jbg0jfj0Dac2jdd1jhf1jgn0jlh1jxp0Frk4jpl1jom3jAt0jqu0jro3jwF0Pzq2jyG0jFr1jIs4jBw1aGx1kfy1jJz1jNA5jHB4jKC6j6D1zpE5jLR0RFT0SdH5j7U0jUV0jWI4juX0jQY0m0α0RTβ0RSγ0jYδ0jVJ1j8ε0jDζ0Sjη0Cvι0keK5jpL9kjM2zhκ0zgN1zWν0PMξ0TuO2kWP3zkQ2kSπ0mlρ0b6ς0jPσ0kmS1kYφ0hrχ0kiW3kXψ0zYZ1qkθ2J7μ1Jaο3kCτ2Jbυ1qmω4Jrv1pveBjziAFA".toList) S
  |_=>⟨x⟩::S
 |.str _ "e"=>Lean.Syntax.mkApp ⟨x⟩ (S.take 2).toArray::S.drop 2
 |_=>⟨x⟩::S
local macro_rules|`(%[$N|$t])=>return (((if t.raw.isIdent then [t.raw] else t.raw[0]::t.raw[1].getArgs.toList)).foldr (FO (Lean.mkIdent (N.raw.getId.str "nd"))) []).headD t
def Da{α:Sort u}{a:α}:a=a:=rfl
def Fr{α β γ}{f:α->β->γ}:∀a b,f a b=f a b:=λ_ _=>rfl
local macro_rules|`(#[$x,*])=>do{let y←x.getElems.flatMapM fun e=>match e.raw.isNatLit? with|some n=>if n<11 then return .singleton e else (toString n).toList.toArray.mapM fun c=>if c=='1' then `(_) else `(rfl)|_=>return .singleton e;`(⟨$y,*⟩)}
set_option hygiene false
local macro_rules|`(command|#print $_:ident)=>`(variable {prog:ω}{w:bF}{A:bU}{E:η->ι->Prop}{s:ι})
set_option hygiene true
local macro_rules|`(#[])=>do{let i:=Lean.mkIdent;`($(i `_K.Ev) $(i `H0) $(i `p) $(i `wl) $(i `ys) $(i `Hb) $(i `σ))}
local macro_rules|`(tactic|omega)=>`(tactic|lia)
namespace _L
open PySem PySem.Spec PyProof.Rows
abbrev bY:=Sum Int ρ
noncomputable def mK:bY->η->Bool
 | .inl k,v=>Value.isInt k v
 | .inr x,v=>Value.isStrOf x v
noncomputable def Oh(w:bF):bY->Int
 | .inl k=>hashInt k
 | .inr x=>hashStr w x
def kc:∀{k:bY} {v:η},mK k v=μ->(∃i t,k=Sum.inl i/\v=ic i t)∨(∃x t,k=Sum.inr x/\v=lu x t)
 | .inl i,v,h=>by let(t,e):=Value.isInt_shape (k:=i) (v:=v) h;rwa[.inl #[i,t,Z,e]]
 | .inr x,v,h=>by let(t,e):=UR (x:=x) (v:=v) h;rwa[.inr #[x,t,Z,e]]
def uO(i:Int)(t:Tok):mK (.inl i) (.int i t)=μ:=by simp [mK,Value.isInt]
def uP(x:ρ)(t:Tok):mK (.inr x) (.str x t)=μ:=by simp [mK,Value.isStrOf]
def Gg(a b:Int):decide ((Sum.inl a:bY)=Sum.inl b)=(a==b):=by
 by_cases e:a=b
 .subst e;simp
 .let h:¬(Sum.inl a:bY)=Sum.inl b:=λq=>e (Sum.inl.inj q);rw[RC h];exact(beq_eq_false_iff_ne.mpr e).symm
def Gj(a b:ρ):decide ((Sum.inr a:bY)=Sum.inr b)=decide (a=b):=by
 by_cases e:a=b
 .subst e;simp
 .let h:¬(Sum.inr a:bY)=Sum.inr b:=λq=>e (Sum.inr.inj q);rw[RC h,RC e]
def Gh(a:Int)(b:ρ):decide ((Sum.inl a:bY)=Sum.inr b)=ν:=RC (λq=>nomatch q)
def Gi(a:ρ)(b:Int):decide ((Sum.inr a:bY)=Sum.inl b)=ν:=RC (λq=>nomatch q)
def be(p:ω)(w:bF):PySem.KeyKind p w bY where
 is:=mK
 hash:=Oh w
 inj:=λv a b d c=>by
  rcases kc d with ⟨i,t,rfl,rfl⟩ | ⟨x,t,rfl,rfl⟩
  .rcases kc c with ⟨j,u,rfl,e⟩ | ⟨y,u,rfl,e⟩
   .injection e with E _;rw[E]
   .rwa[nomatch e]
  .rcases kc c with ⟨j,u,rfl,e⟩ | ⟨y,u,rfl,e⟩
   .rwa[nomatch e]
   .injection e with E _;rw[E]
 byValue:=λk v h=>by rcases kc h with ⟨i,t,rfl,rfl⟩ | ⟨x,t,rfl,rfl⟩<;>rfl
 pyHash:=λH h=>by
  rcases kc H with ⟨i,t,rfl,rfl⟩ | ⟨x,t,rfl,rfl⟩
  .rwa[wpAny_pyHash_int h]
  .rwa[wpAny_pyHash_str h]
 eqBool:=λf H h=>by
  rcases kc f with ⟨i,t,rfl,rfl⟩ | ⟨x,t,rfl,rfl⟩
  .rcases kc H with ⟨j,u,rfl,rfl⟩ | ⟨y,u,rfl,rfl⟩
   .rw[Gg]at h;rwa[wpAny_eqBool_int h]
   .rw[Gh]at h;rwa[Wu i t y u _ _ _ _ h]
  .rcases kc H with ⟨j,u,rfl,rfl⟩ | ⟨y,u,rfl,rfl⟩
   .rw[Gi]at h;rwa[Wt x t j u _ _ _ _ h]
   .rw[Gj]at h;rwa[wpAny_eqBool_str h]
 «strs»:=λk x t v h=>by
  rcases kc h with ⟨i,u,rfl,e⟩ | ⟨y,u,rfl,e⟩
  .rwa[nomatch e]
  .injection e with E _;subst E;cases v<;>rfl
def YU(p:ω)(w:bF)(i:Int)(t:Tok):(be p w).is (.inl i) (.int i t)=μ:=uO i t
def YV(p:ω)(w:bF)(x:ρ)(t:Tok):(be p w).is (.inr x) (.str x t)=μ:=uP x t
end _L
namespace _L
open PySem PySem.Spec PyProof.Rows
inductive V where
 |non |bl (b:Bool) |int (i:Int) |str (x:ρ) |byt (b:Array UInt8) |flt (b:UInt64) |ref (a:ζ) |ty (n:String)
 deriving DecidableEq
set_option genInjectivity false
def aK:V->η->Prop
 | .non,u=>u=β
 | .bl b,u=>u=nz b
 | .int i,u=>∃t,u=ic i t
 | .str x,u=>∃t,u=lu x t
 | .byt b,u=>∃t,u=Value.bytes b t
 | .flt b,u=>∃t,u=Value.float b t
 | .ref a,u=>u=Θ a
 | .ty n,u=>u=fr n
abbrev aF:xL V->xL η->Prop:=Paired aK
def aF.length(r:aF x u):ο x=ο u:=Paired.length r
theorem aF.get:∀{X:xL V} {U:xL η} {i:Nat} {x:V},aF X U->X[i]?=δ x->∃u,U[i]?=δ u/\aK x u
 |_,_,_,_,.nil,e=>by simp at e
 |_,_,0,_,.cons r _,e=>by simp at e;subst e;exact#[12,r]
 |_,_,i+1,x,.cons _ t,e=>by let(u,h,H):=aF.get (i:=i) (x:=x) t (e:);exact#[u,by simpa using h,H]
theorem aF.set(r:aK x u):∀{X:xL V} {U:xL η} (i:Nat),aF X U->aF (X.set i x) (U.set i u)
 |_,_,_,.nil=>.nil
 |_,_,0,.cons _ t=>.cons r t
 |_,_,i+1,.cons q t=>.cons q (aF.set r i t)
theorem aF.append{x y:xL V}{u w:xL η}(h:aF x u)(s:aF y w):aF (x++y) (u++w):=by
 induction h with
 |nil=>rwa[s]
 |cons r _ f=>rwa[.cons r f]
theorem aF.take:∀{x:xL V} {u:xL η} (n:Nat),aF x u->aF (x.take n) (u.take n)
 |_,_,0,_ |_,_,_+1,.nil=>.nil
 |_,_,n+1,.cons r t=>.cons r (aF.take n t)
theorem aF.drop:∀{x:xL V} {u:xL η} (n:Nat),aF x u->aF (x.drop n) (u.drop n)
 |_,_,0,r=>r
 |_,_,_+1,.nil=>.nil
 |_,_,n+1,.cons _ t=>aF.drop n t
def fe:ym V->ym η->Prop
 |some v,δ u=>aK v u
 |none,θ=>True
 |_,_=>False
def KV{a:Type}:xL (a×V)->xL (a×η)->Prop:=Paired λ(p:a×V) (q:a×η)=>p.1=q.1/\aK p.2 q.2
noncomputable def kV:bY->V
 | .inl i=>.int i
 | .inr x=>.str x
inductive HO where
 |lst (xs:xL V)
 |tup (xs:xL V)
 |dK (kvs:xL (bY×V)) |dT (kvs:xL (xL bY×V))
 |set (S:Int->Bool) (n:Nat)
 |ins (C dx:ζ) (fs:xL (ρ×V))
 |own (x:ζ)
 |xd (fs:xL (ρ×V))
 |met (f x:ζ)
 |rng (lo hi:Int)
 |frz (o:gs) (u:HO)
 |tbl (ps:Array η)
 |ext (φ:de->Prop)
abbrev Hp:=ζ->ym HO
noncomputable def af(H:Hp)(a:ζ)(o:HO):Hp:=λb=>if b=a then δ o else H b
def jc:af H a o a=δ o:=by unfold af;rw[RB Z]
def ji(h:b≠a):af H a o b=H b:=by unfold af;rw[RD h]
def jO{H:Hp}(h:H a=δ o)(c:H b=δ u)(d:o≠u):a≠b:=by intro e;subst e;rw[h]at c;rwa[d (Ss c)]
def jk{H:Hp}(h:H a=δ o)(c:H b=θ):a≠b:=by intro e;subst e;rw[h]at c;cases c
section
variable (P:ω)(w:bF)
def aU(H:Hp)(h:de)(a:ζ):HO->Prop
 | .lst X=>ο X<=υ/\∃(i:xL η) (n:Nat),aF X i/\h.get? a=δ { cls:=.type "list",data:=.seq i.toArray n }
 | .tup X=>ο X<=υ/\∃i:xL η,aF X i/\IsTup h a i.toArray
 | .dK k=>ο k<=υ/\(a==sysModules)=ν/\∃c,KV k c/\h.DictOf (be P w) a c
 | .dT k=>ο k<=υ/\(a==sysModules)=ν/\∃X:xL (xL bY×ζ×η),
   Paired (λ(p:xL bY×V) (q:xL bY×ζ×η)=>p.1=q.1/\H q.2.1=δ (.tup$ p.1.map kV)/\aK p.2 q.2.2) k X/\
   ∃o e E,h.get? a=δ o/\o.ExactDict/\o.data= .dict e E/\e.toList=X.map (entryOfKey$ tupleKind$ be P w)/\(X.map (·.1)).Nodup
 | .set S n=>h.SetOf (intKind P w) a S n
 | .ins C d F=>H d=δ (.own a)/\ο F<=1000/\d≠a/\h.get? a=δ (instObj C d)/\
   ∃m,h.Ns1 d m/\(∀f,fe (F.lookup f)$ m f)/\rm m (F.map (·.1))
 | .own _=>∃o,h.get? a=δ o
 | .xd F=>∃m,h.Ns1 a m/\∀f,fe (F.lookup f) (m f)
 | .rng lo l=>∃t u v,h.get? a=δ { cls:=.type "range",data:=.fields (ε [.int lo t,.int l u,.int 1 v]) }
 | .frz o u=>h.get? a=δ o/\aU H h a u
 | .tbl r=>h.get? a=δ { cls:=.none,data:=.fields r }
 | .met f x=>h.get? a=δ (pq (.ref f) (.ref x))
 | .ext b=>b h/\(∃o,h.get? a=δ o)/\∀g j:de,b g->(∀o,g.get? a=δ o->j.get? a=δ o)->b j
def gL(H:Hp)(h:de):Prop:=∀a o,H a=δ o->aU P w H h a o
end
section
variable {P:ω}{w:bF}{H H':Hp}{h h':de}{a:ζ}{o:HO}
def aU.lt(x:aU P w H h a o):a < h.objs.size:=by
 cases o with
 |lst X=>let(_,_,_,_,e):=x;rwa[Rz e]
 |tup X=>let(_,_,_,p):=x;rwa[p.lt]
 |dK k |dT k=>let(_,_,_,_,o,_,_,e,_):=x;rwa[Rz e]
 |set S n=>let(o,_,_,_,e,_):=x;rwa[Rz e]
 |ins C d F=>let(_,_,_,e,_):=x;rwa[Rz e]
 |own y=>let(_,e):=x;rwa[Rz e]
 |xd F=>obtain⟨_,⟨_,_,_,e,_⟩,_⟩:=x;rwa[Rz e]
 |rng lo b=>let(_,_,_,e):=x;rwa[Rz e]
 |frz O u=>let(e,_):=x;rwa[Rz e]
 |tbl c |met f y=>rwa[Rz (show h.get? a=δ _ from x)]
 |ext g=>obtain⟨_,⟨_,e⟩,_⟩:=x;rwa[Rz e]
theorem Paired.mapP{c d:Type}{F G:c->d->Prop}{l:xL c}{L:xL d}(h:Paired F l L)(f:∀a b,F a b->G a b):Paired G l L:=by
 induction h with
 |nil=>rwa[.nil]
 |cons r _ t=>rwa[.cons (f _ _ r) t]
def aU.stay(x:aU P w H h a o)(k:∀b u,(b=a∨H b=δ (.own a))->h.get? b=δ u->h'.get? b=δ u)
  (s:∀b,H b=δ (.own a)->H' b=δ (.own a)) (A:∀b X,H b=δ (.tup X)->H' b=δ (.tup X)):aU P w H' h' a o:=by
 induction o with
 |lst X=>let(z,i,n,r,e):=x;exact#[z,i,n,r,k _ _ (.inl Z) e]
 |tup X=>let(z,i,r,O,e,c):=x;exact#[z,i,r,O,k _ _ (.inl Z) e,c]
 |dK K=>let(z,y,V,r,O,E,g,e,c):=x;exact#[z,y,V,r,O,E,g,k _ _ (.inl Z) e,c]
 |dT K=>let(z,y,X,r,O,E,g,e,c):=x;exact#[z,y,X,Paired.mapP r λp q z=>#[z.1,A _ _ z.2.1,z.2.2],O,E,g,k _ _ (.inl Z) e,c]
 |set S n=>let(O,E,g,t,e,c):=x;exact#[O,E,g,t,k _ _ (.inl Z) e,c]
 |ins C D F=>obtain⟨d,z,N,e,m,⟨j,E,g,B,c⟩,r⟩:=x;exact#[s _ d,z,N,k _ _ (.inl Z) e,m,#[j,E,g,k _ _ (.inr d) B,c],r]
 |own y=>let(O,e):=x;exact#[O,k _ _ (.inl Z) e]
 |xd F=>obtain⟨m,⟨j,E,g,e,c⟩,r⟩:=x;exact#[m,#[j,E,g,k _ _ (.inl Z) e,c],r]
 |rng lo G=>let(t,u,v,e):=x;exact#[t,u,v,k _ _ (.inl Z) e]
 |frz O u I=>let(e,q):=x;exact#[k _ _ (.inl Z) e,I q]
 |tbl l=>have e:h.get? a=δ { cls:=.none,data:=.fields l }:=x;show h'.get? a=δ { cls:=.none,data:=.fields l };rwa[k a _ (.inl Z) e]
 |met f y=>have e:h.get? a=δ (pq (.ref f)$ .ref y):=x;show h'.get? a=δ (pq (.ref f)$ .ref y);rwa[k a _ (.inl Z) e]
 |ext J=>obtain⟨p,⟨o,e⟩,st⟩:=x;exact#[st _ _ p λo q=>k _ _ (.inl Z) q,#[o,k _ _ (.inl Z) e],st]
def gL.lt(x:gL P w H h)(e:H a=δ o):a < h.objs.size:=(x a o e).lt
def gL.fresh(x:gL P w H h)(e:h.objs.size<=a):H a=θ:=by
 cases q:H a with
 |none=>rfl
 |some u=>rwa[absurd (RQ (x.lt q) e) (SI _)]
def gL.kept(x:gL P w H h)(k:∀b u,h.get? b=δ u->h'.get? b=δ u):gL P w H h':=λa o e=>
 (x a o e).stay (λb u _ q=>k b u q) (λ_ q=>q) λ_ _ q=>q
def gL.laid(x:gL P w H h)(k:∀b u,h.get? b=δ u->h'.get? b=δ u)(g:h.objs.size<=a)(n:aU P w (af H a o) h' a o):gL P w (af H a o) h':=λb u e=>by
 let d:=x.fresh g;by_cases f:b=a
 .subst f;rw[jc]at e;cases e;rwa[n]
 .rw[ji f]at e;exact(x b u e).stay (λc v _ q=>k c v q) (λc q=>by rw[ji$ jk q d];rwa[q]) λc X q=>by rw[ji$ jk q d];rwa[q]
end
def Rd(H:Hp)(a:ζ)(u:HO):Prop:=H a=δ u∨∃o,H a=δ (.frz o u)
def Rd.ok{P:ω}(r:Rd H a u)(x:gL P w H h):aU P w H h a u:=by
 rcases r with r | ⟨o,r⟩
 .rwa[x a u r]
 .let(_,q):=x a _ r;rwa[q]
def Lr:ym HO->Prop
 |some (.lst _) |some (.dK _) |some (.dT _) |some (.set _ _) |some (.ins _ _ _) |some (.ext _)=>True
 |_=>False
section
variable {P:ω}{w:bF}{H:Hp}{h h':de}{x e:ζ}{o':HO}
def gL.write(o:gL P w H h)(m:Lr (H x))(i:e=x∨H e=δ (.own x))(k:∀b u,b≠e->h.get? b=δ u->h'.get? b=δ u)(f:∃u,h'.get? e=δ u)
  (g:aU P w (af H x o') h' x o'):gL P w (af H x o') h':=λb u q=>by
 let n:∀c y,H c=δ (.own y)->c≠x:=λc y r z=>by subst z;rw[r]at m;rwa[m]
 let N:∀c X,H c=δ (.tup X)->c≠x:=λc X r z=>by subst z;rw[r]at m;rwa[m]
 by_cases d:b=x
 .subst d;rw[jc]at q;cases q;rwa[g]
 .rw[ji d]at q;by_cases a:b=e
  .let Q:H b=δ (.own x):=by
    rcases i with z |z
    .rwa[absurd (a.trans z) d]
    .rw[a];rwa[z]
   rw[q]at Q;cases Q;let(v,j):=f;exact#[v,by rw[a];rwa[j]]
  .refine(o b u q).stay (λc v hc r=>k c v ?_ r) (λc r=>by rw[ji$ n c b r];rwa[r]) λc X r=>by rw[ji$ N c X r];exact r
   rcases hc with rfl |hc
   .rwa[a]
   .rintro rfl;rcases i with z |z
    .rwa[n c b hc z]
    .rw[hc]at z;cases z;rwa[d Z]
end
structure Un(fs ex:xL ζ)(H H':Hp)(h h':de):Prop where
 keep:∀b o,h.get? b=δ o->H b=θ->b∉fs->b∉ex->h'.get? b=δ o
 slot:∀b o,h.get? b=δ o->H b=θ->b∈fs->b∉ex->∃sl,h'.get? b=δ { o with slots:=sl }
 free:∀b o,h.get? b=δ o->H b=θ->b∉ex->H' b=θ
 there:∀b o,h.get? b=δ o->b∉ex->∃o',h'.get? b=δ o'
 tups:∀b xs,H b=δ (.tup xs)->H' b=δ (.tup xs)
 frzs:∀b o u,H b=δ (.frz o u)->H' b=δ (.frz o u)
 tbls:∀b ps,H b=δ (.tbl ps)->∃more,H' b=δ (.tbl$ ps++more)
section
variable {fs fs' ex ex':xL ζ}{H H1 H2:Hp}{h h1 h2 h':de}{a x e:ζ}{o:HO}
def Un.any(u:Un fs ex H H1 h h1)(q:h.get? b=δ O)(n:H b=θ)(c:b∉ex):∃s,h1.get? b=δ { O with slots:=s }:=by
 by_cases d:b∈fs
 .rwa[u.slot b O q n d c]
 .exact#[O.slots,u.keep b O q n d c]
def Un.kept(k:∀b u,h.get? b=δ u->h'.get? b=δ u):Un fs ex H H h h':=
 #[λb O q _ _ _=>k b O q,λb O q _ _ _=>#[O.slots,k b O q],λ_ _ _ n _=>n,λb O q _=>#[O,k b O q],λ_ _ q=>q,λ_ _ _ q=>q,λ_ p q=>#[(ε []),by rw[q];simp]]
def Un.refl:Un fs ex H H h h:=Un.kept λ_ _ q=>q
def Un.laid(k:∀b u,h.get? b=δ u->h'.get? b=δ u)(d:h.objs.size<=a)(c:H a=θ):Un fs ex H (af H a o) h h' where
 keep:=λb u q _ _ _=>k b u q
 slot:=λb u q _ _ _=>#[u.slots,k b u q]
 free:=λb u q n _=>by rw[ji$ RJ$ RQ (Rz q) d];rwa[n]
 there:=λb u q _=>#[u,k b u q]
 tups:=λb X q=>by rw[ji$ jk q c];rwa[q]
 frzs:=λb u X q=>by rw[ji$ jk q c];rwa[q]
 tbls:=λb p q=>#[(ε []),by rw[ji$ jk q c,q];simp]
def Un.write(m:Lr (H x))(j:e=x∨H e=δ (.own x))(k:∀b u,b≠e->h.get? b=δ u->h'.get? b=δ u)(d:∃u,h'.get? e=δ u):Un fs ex H (af H x o) h h':=by
 let g:∀b,H b=θ->b≠x:=λb n z=>by subst z;rw[n]at m;rwa[m]
 let i:∀b,H b=θ->b≠e:=λb n z=>by
  subst z;rcases j with r |r
  .rwa[g b n r]
  .rw[n]at r;cases r
 let f:∀b u,H b=δ u->¬Lr (δ u)->b≠x:=λb u q N z=>by subst z;rw[q]at m;rwa[N m]
 refine#[λb u q n _ _=>k b u (i b n) q,λb u q n _ _=>#[u.slots,k b u (i b n) q],λb u q n _=>by rw[ji$ g b n];exact n,λb u q _=>?_,
  λb X q=>by rw[ji$ f b _ q λz=>z];rwa[q],λb u X q=>by rw[ji$ f b _ q λz=>z];rwa[q],λb p q=>#[(ε []),by rw[ji$ f b _ q λz=>z,q];simp]]
 by_cases c:b=e
 .subst c;rwa[d]
 .exact#[u,k b u c q]
end
noncomputable def NM(h:de)(H:Hp):xL ζ:=(dr h.objs.size).filter λa=>(H a).isSome
def mZ(h:de)(H:Hp):de:=PySem.W.hideAll h (NM h H)
def uK(h:de)(H:Hp):(mZ h H).objs.size=h.objs.size:=PySem.W.hideAll_size _ _
def xH{h:de}{H:Hp}(e:h.get? b=δ o)(n:H b=θ):(mZ h H).get? b=δ o:=
 PySem.W.hideAll_get _ e λa=>by let q:(H b).isSome=μ:=(mL.mp a).2;rw[n]at q;simp at q
def CN(e:(mZ h H).get? b=δ o):h.get? b=δ o/\H b=θ:=by
 let E:h.get? b=δ o:=PySem.W.of_hideAll (NM h H) e;erw[#[E,?_]];cases q:H b with
 |none=>rfl
 |some x=>have a:b∈NM h H:=mL.mpr #[tz.mpr$ Rz E,by simp [q]];let z:(mZ h H).get? b=θ:=PySem.W.hideAll_none (NM h H) a;rw[z]at e;cases e
end _L
set_option genInjectivity false
open _L.V renaming str->vr,int->xb,ref->xm
namespace _L
open PySem PySem.Spec PyProof.Rows
structure Mod(K:Ψ)(mg:ρ->ym η)(base:de):Prop where
 kin:K.In base
 glob:base.Ns Φ mg
 blt:∃mb,base.Ns builtinsNs mb/\∀x:ρ,x≠"__name__"->mb x=bootBuiltins x
 nolimit:base.NoLimit
structure Cx where
 prog:ω
 w:bF
 K:Ψ
 mg:ρ->ym η
 base:de
 A:bU
 N:xL ρ
 s₀:ι
 H₀:Hp
 env:Env
 outer:xL Env
 stack:xL Env
 ex:xL ζ
 fn:ρ->Bool
 calm:Bool
 pn:xL (ζ×gs)
 xe:η->ι->Prop
noncomputable def mJ(l:xL Env):xL ζ:=l.filterMap (·.frame)
abbrev Cx.fs(X:Cx):xL ζ:=mJ X.outer
def NC(s:ge)(x:ρ):Prop:=s.names.lookup x=δ .local∨s.names.lookup x=δ .cell∨s.names.lookup x=δ .free
def wg(s:ge)(x:ρ):Prop:=s.names.lookup x=δ .local∨s.names.lookup x=δ .cell
def NT(e:Env)(h:de)(m:ρ->ym η)(x:ρ)(u:η):Prop:=
 (e.kindOf x=δ .local/\m x=δ u)∨((e.kindOf x=δ .cell∨e.kindOf x=δ .free)/\∃c,e.cells.lookup x=δ c/\h.IsCell c (δ u))
structure Cx.Ok(X:Cx):Prop where
 mod:Mod X.K X.mg X.base
 kind:X.env.scope.kind= .function
 glob:X.env.globals=Φ
 blt:X.env.builtins=builtinsNs
 above:X.s₀.heap.objs.size<=X.env.locals
 inj:∀x y c,X.env.cells.lookup x=δ c->X.env.cells.lookup y=δ c->x=y
 has:∀x,(X.env.kindOf x=δ .cell∨X.env.kindOf x=δ .free)->∃c,X.env.cells.lookup x=δ c
 cab:∀x c,X.fn x=μ->X.env.cells.lookup x=δ c->X.s₀.heap.objs.size<=c
 hd:X.calm=μ->X.A.handled=θ
 frames:X.A.frames=δ X.stack
 stk:X.stack=X.outer∨(X.stack=X.env::X.outer/\X.env.frame=δ X.env.locals)
 exf:∀b∈X.ex,b≠X.env.locals/\∀x c,X.env.cells.lookup x=δ c->c≠b
 bs:∀b o,X.base.get? b=δ o->X.s₀.heap.get? b=δ o/\X.H₀ b=θ
 bsz:X.base.objs.size<=X.s₀.heap.objs.size
 noex:∀b o,X.base.get? b=δ o->b∉X.ex
 exfs:∀b∈X.ex,b∉X.fs
 funs:X.s₀.heap.FunFrames X.base X.outer
 frf:∀b∈X.fs,X.H₀ b=θ
structure ay(X:Cx)(pins:xL (ζ×gs))(σ:xL (ym V))(H:Hp)(s:ι):Prop where
 ok:X.Ok
 os:s.os=X.s₀.os
 bare:AllBare s.gens
 base:Un X.fs X.ex X.H₀ H X.s₀.heap s.heap
 loc:∃m,s.heap.Ns X.env.locals m/\∀(i:Nat) (x:ρ) (v:V),X.N[i]?=δ x->σ[i]?=δ (δ v)->NC X.env.scope x->∃u,aK v u/\NT X.env s.heap m x u
 cell:∀x c,X.env.cells.lookup x=δ c->∃v,s.heap.IsCell c v
 free:H X.env.locals=θ
 freeC:∀x c,X.env.cells.lookup x=δ c->H c=θ
 pin:∀p∈X.pn++pins,s.heap.get? p.1=δ p.2/\H p.1=θ/\p.1≠X.env.locals/\p.1∉X.fs/\∀v,p.2.data≠ .cell v
 hok:gL X.prog X.w H s.heap
 len:ο σ=ο X.N
section
variable {X:Cx}{pins:xL (ζ×gs)}{σ:xL (ym V)}{H H':Hp}{s:ι}{h':de}
def Cx.Ok.nofr(O:X.Ok)(e:X.base.get? b=δ o):b∉X.fs:=λh=>by let:=(O.funs.mem h).1;rw[e]at this;cases this
def ay.bs(I:ay X pins σ H s):∀b o,X.base.get? b=δ o->s.heap.get? b=δ o/\H b=θ:=λb o e=>
 #[I.base.keep b o (I.ok.bs b o e).1 (I.ok.bs b o e).2 (I.ok.nofr e)$ I.ok.noex b o e,I.base.free b o (I.ok.bs b o e).1 (I.ok.bs b o e).2$ I.ok.noex b o e]
def ay.bk(I:ay X pins σ H s):∀b o,X.base.get? b=δ o->s.heap.get? b=δ o:=λb o e=>(I.bs b o e).1
def ay.mod(I:ay X pins σ H s):Mod X.K X.mg X.base:=I.ok.mod
def ay.kIn(I:ay X pins σ H s):X.K.In s.heap:=I.ok.mod.kin.keeps I.bk
def ay.lt(I:ay X pins σ H s):X.env.locals < -s:=by let(_,h,_):=I.loc;rwa[h.lt]
def ay.sz(I:ay X pins σ H s):X.s₀.heap.objs.size<=-s:=RM I.ok.above (T3 I.lt)
def ay.nofs(I:ay X pins σ H s)(h:-s<=a):a∉X.fs:=λb=>by let(_,o,c,_):=I.ok.funs.mem b;rwa[absurd (RQ (Rz c)$ RM I.sz h)$ SI _]
def ay.cne(I:ay X pins σ H s):∀x c,X.env.cells.lookup x=δ c->c≠X.env.locals:=λx c e z=>by let(v,o,b,d):=I.cell x c e;obtain⟨m,⟨O,E,f,h,a,_⟩,_⟩:=I.loc;rw[z,h]at b;cases b;rw[a]at d;cases d
def ay.funs(I:ay X pins σ H s):s.heap.FunFrames X.base X.outer:=by
 let all:∀(l:xL Env),(∀b∈mJ l,b∈X.fs)->X.s₀.heap.FunFrames X.base l->s.heap.FunFrames X.base l:=by
  intro l;induction l with
  |nil=>intro _ _;trivial
  |cons E r i=>intro d f;obtain⟨g,⟨L,o,h,j,k,m⟩,n⟩:=f;let a:L∈X.fs:=d L (by unfold mJ;rw[List.filterMap_cons,h];rwa[List.mem_cons_self]);let(S,e):=I.base.slot L o k (I.ok.frf L a) a λz=>I.ok.exfs L z a;exact#[g,#[L,_,h,j,e,m],i (λb c=>d b (by unfold mJ;rw[List.filterMap_cons,h];rwa[List.mem_cons_of_mem _ c])) n]
 rwa[all X.outer (λ_ c=>c) I.ok.funs]
def ay.stack(I:ay X pins σ H s):s.heap.FunFrames X.base X.stack:=by
 rcases I.ok.stk with e | ⟨e,h⟩
 .rw[e];rwa[I.funs]
 .rw[e];let(m,a,_):=I.loc;erw[.cons (by rw[I.ok.kind];decide) h a ?_ I.funs];rwa[Heap.get?_none_of_le$ RM I.ok.bsz I.ok.above]
def ay.stkSub(I:ay X pins σ H s):∀b∈mJ X.stack,b∈X.env.locals::X.fs:=λb h=>by
 rcases I.ok.stk with e | ⟨e,a⟩
 .rw[e]at h;rwa[RZ _ h]
 .rw[e]at h;unfold mJ at h;rw[VG,a]at h;rwa[h]
def ay.stkFree(I:ay X pins σ H s):∀b∈mJ X.stack,H b=θ:=λb hb=>by
 rcases Ξ.mp (I.stkSub b hb) with e |hb
 .rw[e];rwa[I.free]
 .let(_,o,h,_):=I.ok.funs.mem hb;rwa[I.base.free b o h (I.ok.frf b hb) λz=>I.ok.exfs b z hb]
def ay.step{g':Array GenState}{d':Drawn}{ch:xL ζ}(I:ay X pins σ H s)
  (a:∀b∈ch,(b∈X.ex∨X.s₀.heap.objs.size<=b)/\b≠X.env.locals/\(∀x c,X.env.cells.lookup x=δ c->c≠b)/\∀p∈X.pn++pins,p.1≠b)
  (K:∀b o,b≠X.env.locals->b∉X.fs->b∉ch->s.heap.get? b=δ o->H b=θ->h'.get? b=δ o)
  (S:∀b o,b≠X.env.locals->b∈X.fs->b∉ch->s.heap.get? b=δ o->H b=θ->∃J,h'.get? b=δ { o with slots:=J }) (f:∀b o,b∉ch->s.heap.get? b=δ o->H b=θ->H' b=θ)
  (t:∀b o,b∉ch->s.heap.get? b=δ o->∃O,h'.get? b=δ O)
  (T:∀b j,H b=δ (.tup j)->H' b=δ (.tup j)) (F:∀b o u,H b=δ (.frz o u)->H' b=δ (.frz o u)) (B:∀b P,H b=δ (.tbl P)->∃M,H' b=δ (.tbl$ P++M))
  (ns:∀m,s.heap.Ns X.env.locals m->h'.Ns X.env.locals m) (L:gL X.prog X.w H' h') (hg:AllBare g'):
  ay X pins σ H' { s with heap:=h',gens:=g',drawn:=d',toks:=t' }:=by
 let D:∀b o,X.s₀.heap.get? b=δ o->b≠X.env.locals:=λb o e=>RJ (RQ (Rz e) I.ok.above);let g:∀b o,X.s₀.heap.get? b=δ o->b∉X.ex->b∉ch:=λb o e h y=>by
  rcases(a b y).1 with z |z
  .rwa[h z]
  .rwa[absurd (RQ (Rz e) z)$ SI _]
 let C:∀x c,X.env.cells.lookup x=δ c->∀v,s.heap.IsCell c v->h'.IsCell c v:=λx c e v #[o,A,Q]=>by
  let N:c∉ch:=λz=>(a c z).2.2.1 x c e Z;by_cases U:c∈X.fs
  .let(J,q):=S c o (I.cne x c e) U N A (I.freeC x c e);exact#[_,q,Q]
  .exact#[o,K c o (I.cne x c e) U N A$ I.freeC x c e,Q]
 erw[#[I.ok,I.os,hg,#[λb o e n y h=>?_,λb o e n y h=>?_,λb o e n h=>?_,λb o e h=>?_,λb j e=>T b j (I.base.tups b j e),λb o j e=>F b o j (I.base.frzs b o j e),λb P e=>?_],?_,λx c e=>?_,?_,λx c e=>?_,λp W=>?_,L,I.len]]
 .rwa[K b o (D b o e) y (g b o e h) (I.base.keep b o e n y h)$ I.base.free b o e n h]
 .let(J,E):=I.base.slot b o e n y h;let(R,G):=S b _ (D b o e) y (g b o e h) E (I.base.free b o e n h);exact#[R,G]
 .let(O,E):=I.base.there b o e h;rwa[f b O (g b o e h) E$ I.base.free b o e n h]
 .let(O,E):=I.base.there b o e h;rwa[t b O (g b o e h) E]
 .let(m1,E):=I.base.tbls b P e;let(m2,G):=B b _ E;exact#[m1++m2,by rw[G,Array.append_assoc]]
 .let(m,hn,hl):=I.loc;erw[#[m,ns m hn,λi x v E G e3=>?_]];let(u,r,l):=hl i x v E G e3;erw[#[u,r,?_]];rcases l with l | ⟨k,c,e,z⟩
  .rwa[.inl l]
  .rwa[.inr #[k,c,e,C x c e _ z]]
 .let(v,z):=I.cell x c e;exact#[v,C x c e v z]
 .obtain⟨m,⟨o,_,_,A,_⟩,_⟩:=I.loc;rwa[f _ o (λz=>(a _ z).2.1 Z) A I.free]
 .let(v,o,A,Q):=I.cell x c e;rwa[f c o (λz=>(a c z).2.2.1 x c e Z) A$ I.freeC x c e]
 .let(e,n,Y,nf,d):=I.pin p W;let N:p.1∉ch:=λz=>(a p.1 z).2.2.2 p W Z;exact#[K p.1 p.2 Y nf N e n,f p.1 p.2 N e n,Y,nf,d]
def ay.un{t':Nat}(I:ay X pins σ H s)(u:Un X.fs [] H H' s.heap h')(a:gL X.prog X.w H' h'):ay X pins σ H' { s with heap:=h',toks:=t' }:=by
 obtain⟨m,⟨o,j,k,f,r⟩,_⟩:=id I.loc;let(S,g):=u.any f I.free PJ;exact I.step (g':=s.gens) (d':=s.drawn) (ch:=[]) (λ_ z=>nomatch z) (λb o _ c _ e n=>u.keep b o e n c PJ) (λb o _ c _ e n=>u.slot b o e n c PJ) (λb o _ e n=>u.free b o e n PJ) (λb o _ e=>u.there b o e PJ) u.tups u.frzs u.tbls (λM i=>by
  let(O,E,d,h,R):=i;rw[f]at h;cases h;exact#[_,E,d,g,R]) a I.bare
def ay.call{g':Array GenState}{t':Nat}{d':Drawn}{ch:xL ζ}(I:ay X pins σ H s)(u:Un (mJ X.stack) ch H H' s.heap h')(f:gL X.prog X.w H' h')(k:AllBare g')
  (a:∀b∈ch,(b∈X.ex∨X.s₀.heap.objs.size<=b)/\b≠X.env.locals/\(∀x c,X.env.cells.lookup x=δ c->c≠b)/\∀p∈X.pn++pins,p.1≠b):
  ay X pins σ H' { s with heap:=h',gens:=g',drawn:=d',toks:=t' }:=by
 obtain⟨m,⟨o,t,v,j,r⟩,_⟩:=id I.loc;let(S,g):=u.any j I.free λz=>(a _ z).2.1 Z;exact I.step (ch:=ch) a (λb o g l h e n=>u.keep b o e n (λz=>(Ξ.mp$ I.stkSub b z).elim g l) h) (λb o _ _ h e n=>u.any e n h) (λb o h e n=>u.free b o e n h) (λb o h e=>u.there b o e h) u.tups u.frzs u.tbls (λM q=>by
  let(O,E,i,d,R):=q;rw[j]at d;cases d;exact#[_,E,i,g,R]) f k
def ay.turned{t':Nat}{it:ζ}(I:ay X pins σ H s)(k:∀b o,b≠it->s.heap.get? b=δ o->h'.get? b=δ o)(d:H it=θ)(a:it≠X.env.locals)
  (f:it∈X.ex∨X.s₀.heap.objs.size<=it) (g:∀x c,X.env.cells.lookup x=δ c->c≠it) (i:∀p∈X.pn++pins,p.1≠it):ay X pins σ H { s with heap:=h',toks:=t' }:=by
 let N:∀b u,H b=δ u->b≠it:=λb u e z=>by rw[z,d]at e;cases e
 refine I.step (g':=s.gens) (d':=s.drawn) (ch:=[it]) (λb j=>?_) (λb o _ _ h e _=>k b o (λz=>h (by simp [z])) e) (λb o _ _ h e _=>#[o.slots,k b o (λz=>h (by simp [z])) e]) (λ_ _ _ _ n=>n)
  (λb o h e=>#[o,k b o (λz=>h (by simp [z])) e]) (λ_ _ e=>e) (λ_ _ _ e=>e) (λb P e=>#[(ε []),by rw[e];simp]) (λm l=>?_) (λb u e=>?_) I.bare
 .let e:b=it:=by simpa using j
  subst e;exact#[f,a,g,i]
 .let(o,E,t,w,r):=l;exact#[o,E,t,k _ o (Sc a) w,r]
 .erw[(I.hok b u e).stay (λc v h q=>k c v ?_ q) (λ_ q=>q) λ_ _ q=>q];rcases h with z |z
  .rw[z];rwa[N b u e]
  .rwa[N c _ z]
def ay.tok(I:ay X pins σ H s)(t:Nat):ay X pins σ H { s with toks:=t }:=I.un (h':=s.heap) (t':=t) Un.refl I.hok
def ay.kept{t':Nat}(I:ay X pins σ H s)(k:∀b u,s.heap.get? b=δ u->h'.get? b=δ u):ay X pins σ H { s with heap:=h',toks:=t' }:=I.un (Un.kept k) (I.hok.kept k)
def ay.laid{a:ζ}{o:HO}{t':Nat}(I:ay X pins σ H s)(k:∀b u,s.heap.get? b=δ u->h'.get? b=δ u)(h:-s<=a)(n:aU X.prog X.w (af H a o) h' a o):
  ay X pins σ (af H a o) { s with heap:=h',toks:=t' }:=I.un (Un.laid k h$ I.hok.fresh h) (I.hok.laid k h n)
def ay.write{x e:ζ}{o:HO}{t':Nat}(I:ay X pins σ H s)(m:Lr (H x))(a:e=x∨H e=δ (.own x))(k:∀b u,b≠e->s.heap.get? b=δ u->h'.get? b=δ u)(h:∃u,h'.get? e=δ u)
  (n:aU X.prog X.w (af H x o) h' x o):ay X pins σ (af H x o) { s with heap:=h',toks:=t' }:=I.un (Un.write m a k h) (I.hok.write m a k h n)
def ay.pins_of{pins':xL (ζ×gs)}(I:ay X pins σ H s)(h:∀p∈pins',s.heap.get? p.1=δ p.2/\H p.1=θ/\p.1≠X.env.locals/\p.1∉X.fs/\∀v,p.2.data≠ .cell v):ay X pins' σ H s:=
 #[I.ok,I.os,I.bare,I.base,I.loc,I.cell,I.free,I.freeC,λp a=>(γ.mp a).elim (λz=>I.pin p (Td _ z)) (h p),I.hok,I.len]
def Yi{N:xL ρ}(h:N.Nodup){i j:Nat}{x:ρ}(a:N[i]?=δ x)(b:N[j]?=δ x):i=j:=by let(c,e):=ξ.mp a;let(d,E):=ξ.mp b;exact(List.getElem_inj h).mp (e.trans E.symm)
def Q6{v:V}{Q:Unit->ι->Prop}(I:ay X pins σ H s)(hN:X.N.Nodup)(L:X.N[i]?=δ x)(l:wg X.env.scope x)(r:aK v u)
  (h:∀s',ay X pins (σ.set i$ δ v) H s'->(∃a,fx a s.heap s'.heap/\(a=X.env.locals∨X.env.cells.lookup x=δ a))->Q () s') (hf:autoParam (X.fn x=μ∨X.env.scope.names.lookup x=δ .local) Wx._auto_1):π M A (storeName X.env x u) Q E s:=by
 let(m,hn,hl):=id I.loc;let O:(X.env.scope.kind== .class||(X.env.scope.kind== .module&&X.env.locals != X.env.globals))=ν:=by rw[I.ok.kind];rfl
 let D:i < ο σ:=by rw[I.len];exact(ξ.mp L).1
 let F:=I.cne;let t:∀{a:ζ} {h':de},(∃o,s.heap.get? a=δ o/\H a=θ)->fx a s.heap h'->gL X.prog X.w H h':=λ{a h'} ha f b ob e=>by
  let(_,_,B):=ha;erw[(I.hok b ob e).stay (λc W hc q=>(f.2 c ?_).trans q) (λ_ q=>q) λ_ _ q=>q];rintro rfl;rcases hc with rfl |hc
  .rw[B]at e;cases e
  .rw[B]at hc;cases hc
 rcases l with hk |hk
 .erw[wpAny_storeName_local hk hn (λh' h0 f=>?_) O];let(oL,_,_,h1,_):=id hn;refine h _ #[I.ok,I.os,I.bare,#[λb o e n G l=>?_,λb o e n G l=>?_,I.base.free,λb o e l=>?_,I.base.tups,I.base.frzs,I.base.tbls],#[_,h0,λj y v' g C e3=>?_],λy c e=>?_,I.free,I.freeC,λp hp=>?_,t #[oL,h1,I.free] f,by simpa using I.len] #[_,f,.inl Z]
  .exact(f.2 b$ RJ$ RQ (Rz e) I.ok.above).trans (I.base.keep b o e n G l)
  .let(sl,g):=I.base.slot b o e n G l;exact#[sl,(f.2 b$ RJ$ RQ (Rz e) I.ok.above).trans g]
  .let(o',g):=I.base.there b o e l;exact#[o',(f.2 b$ RJ$ RQ (Rz e) I.ok.above).trans g]
  .by_cases J:j=i
   .subst J;rw[L]at g;cases g;rw[UB D]at C;cases C;exact#[u,r,.inl #[hk,PJ]]
   .rw[TY$ Sc J]at C;let(u',r',q):=hl j y v' g C e3;erw[#[u',r',?_]];rcases q with ⟨k,e⟩ | ⟨k,c,e,z⟩
    .erw[.inl #[k,?_]];let:y≠x:=λe=>J (Yi hN g$ e▸L);simp [this,e]
    .rwa[.inr #[k,c,e,z.sameBut f$ F y c e]]
  .let(W,z):=I.cell y c e;exact#[W,z.sameBut f$ F y c e]
  .let(e,n,U,nf,d):=I.pin p hp;exact#[(f.2 p.1 U).trans e,n,U,nf,d]
 .let K:X.fn x=μ:=by
   rcases hf with z |z
   .rwa[z]
   .rw[z]at hk;cases hk
  let(c,hc):=I.ok.has x (.inl hk);let(W,z):=I.cell x c hc;erw[wpAny_storeName_cell I.ok.kind hk hc z (λh' P f=>?_)];let(oc,R,S):=id z;erw[h {h'} #[I.ok,I.os,I.bare,#[λb o e n G l=>?_,λb o e n G l=>?_,I.base.free,λb o e l=>?_,I.base.tups,I.base.frzs,I.base.tbls],#[m,hn.sameBut f$ Sc$ F x c hc,λj y v' g C e3=>?_],λy Y e=>?_,I.free,I.freeC,λp hp=>?_,t #[oc,R,I.freeC x c hc] f,by simpa using I.len] #[c,f,.inr hc]]
  .exact(f.2 b$ RJ$ RQ (Rz e)$ I.ok.cab x c K hc).trans (I.base.keep b o e n G l)
  .let(sl,g):=I.base.slot b o e n G l;exact#[sl,(f.2 b$ RJ$ RQ (Rz e)$ I.ok.cab x c K hc).trans g]
  .let(o',g):=I.base.there b o e l;exact#[o',(f.2 b$ RJ$ RQ (Rz e)$ I.ok.cab x c K hc).trans g]
  .by_cases J:j=i
   .subst J;rw[L]at g;cases g;rw[UB D]at C;cases C;exact#[u,r,.inr #[.inl hk,c,hc,P]]
   .rw[TY$ Sc J]at C;let(u',r',q):=hl j y v' g C e3;erw[#[u',r',?_]];rcases q with q | ⟨k,Y,e,z'⟩
    .rwa[.inl q]
    .erw[.inr #[k,Y,e,z'.sameBut f ?_]];rintro rfl;rwa[J$ Yi hN g$ I.ok.inj _ _ _ e hc▸L]
  .by_cases T:Y=c
   .subst T;exact#[_,P]
   .let(w2,z2):=I.cell y Y e;exact#[w2,z2.sameBut f T]
  .let(e,n,U,nf,d):=I.pin p hp;erw[#[(f.2 p.1 ?_).trans e,n,U,nf,d]];intro q;rw[q,R]at e;let q':oc=p.2:=Ss e;rwa[d W (by rw[<- q'];rwa[S])]
def zP{Q:Unit->ι->Prop}(I:ay X pins σ H s)(a:X.N.Nodup)(b:X.N[i]?=δ x)(c:wg X.env.scope x)(r:aK v u)
  (h:∀S,ay X pins (σ.set i$ δ v) H S->Q () S) (d:autoParam (X.fn x=μ∨X.env.scope.names.lookup x=δ .local) Wx._auto_1):π M A (storeName X.env x u) Q E s:=
 Q6 I a b c r (λS e _=>h S e) d
def ay.call'{S:ι}{ch:xL ζ}(I:ay X pins σ H s)(d:S.os=s.os)(u:Un (mJ X.stack) ch H H' s.heap S.heap)(h:gL X.prog X.w H' S.heap)(f:AllBare S.gens)
  (a:∀b∈ch,(b∈X.ex∨X.s₀.heap.objs.size<=b)/\b≠X.env.locals/\(∀x c,X.env.cells.lookup x=δ c->c≠b)/\∀p∈X.pn++pins,p.1≠b):ay X pins σ H' S:=by
 let(h',g',d',t',o):=S;let e:o=s.os:=d;subst e;rwa[I.call (g':=g') (t':=t') (d':=d') u h f a]
end
abbrev XK:=η->ym ζ->Hp->Prop
abbrev St:=xL (ym V)
abbrev VK:=V->Hp->Prop
abbrev TE:=St->Hp->VK->Prop
abbrev TT:=St->Hp->(Bool->Hp->Prop)->Prop
abbrev TA:=St->Hp->(xL V->Hp->Prop)->Prop
structure bp where
 nx:St->Hp->Prop
 rt:VK
 bk:St->Hp->Prop:=λ_ _=>False
 ct:St->Hp->Prop:=λ_ _=>False
abbrev TS:=bp->St->Hp->Prop
inductive EP(X:Cx)(a:xL (ζ×gs))(d:St)(Q:VK)(u:η)(c:ι):Prop
 |mk(v b:_)(_:ay X a d b c)(_:aK v u)(_:Q v b)
inductive TP(X:Cx)(a:xL (ζ×gs))(e:St)(Q:Bool->Hp->Prop)(b:Bool)(d:ι):Prop
 |mk(c:_)(_:ay X a e c d)(_:Q b c)
inductive AP(X:Cx)(a:xL (ζ×gs))(f:St)(Q:xL V->Hp->Prop)(d:xL η)(c:ι):Prop
 |mk(e b:_)(_:ay X a f b c)(_:aF e d)(_:Q e b)
def SP(X:Cx)(p:xL (ζ×gs))(D:bp)(f:Flow)(s:ι):Prop:=
 match f with
 | .next=>∃a H,ay X p a H s/\D.nx a H
 | .brk=>∃a H,ay X p a H s/\D.bk a H
 | .cont=>∃a H,ay X p a H s/\D.ct a H
 | .ret u=>∃v a H,ay X p a H s/\aK v u/\D.rt v H
def PE(X:Cx)(e:dw)(t:TE):Prop:=
 ∀(p:xL (ζ×gs)) (s:ι) (a:St) (H:Hp) (Q:VK),ay X p a H s->t a H Q->π (χ X.prog X.w) X.A (eval e X.env) (EP X p a Q) X.xe s
def PT(X:Cx)(e:dw)(t:TT):Prop:=
 ∀(p:xL (ζ×gs)) (s:ι) (a:St) (H:Hp) (Q:Bool->Hp->Prop),ay X p a H s->t a H Q->π (χ X.prog X.w) X.A (isTrue e X.env$ eval e X.env) (TP X p a Q) X.xe s
def PW(X:Cx)(e:dw)(t:TT):Prop:=
 ∀(W:Sem η) (p:xL (ζ×gs)) (s:ι) (a:St) (H:Hp) (Q:Bool->Hp->Prop),ay X p a H s->t a H Q->π (χ X.prog X.w) X.A (isTrue e X.env W) (TP X p a Q) X.xe s
def PW.pt{X:Cx}{e:dw}{t:TT}(h:PW X e t):PT X e t:=h _
def PA(X:Cx)(e:xL dw)(t:TA):Prop:=
 ∀(P:Pos) (p:xL (ζ×gs)) (s:ι) (a:St) (H:Hp) (Q:xL V->Hp->Prop),ay X p a H s->t a H Q->π (χ X.prog X.w) X.A (spliced$ fy P$ Δ e X.env) (AP X p a Q) X.xe s
def PS(X:Cx)(st:cc)(t:TS):Prop:=
 ∀(p:xL (ζ×gs)) (s:ι) (a:St) (H:Hp) (D:bp),ay X p a H s->t D a H->π (χ X.prog X.w) X.A (exec st X.env) (SP X p D) X.xe s
def oe(X:Cx)(st:xL cc)(t:TS):Prop:=
 ∀(p:xL (ζ×gs)) (s:ι) (a:St) (H:Hp) (D:bp),ay X p a H s->t D a H->π (χ X.prog X.w) X.A (execs st X.env) (SP X p D) X.xe s
def a8{b:Type}{t:Sem b}{Q q:b->ι->Prop}{M:Model}{A:bU}{E:η->ι->Prop}{s:ι}(h:π M A t Q E s)(H:∀a s,Q a s->q a s):π M A t q E s:=SN h H λ_ _ x=>x
section
variable {X:Cx}
inductive bn(i:Nat)(a:St)(H:Hp)(Q:VK):Prop
 |mk(v:_)(_:a[i]?=δ (δ v))(_:Q v H)
def tC(v:V):TE:=λ_ H Q=>Q v H
def HR(j:X.N[i]?=δ x)(k:NC X.env.scope x)(b:↥((x==("__debug__":ρ))=ν))(d:↥((x==("__classdict__":ρ))=ν)):PE X (.Name x n) (bn i):=by
 intro p s o H Q I h;let(v,e,h):=h;let(m,q,t):=I.loc;let(u,r,l):=t i x v j e k;let f:EP X p o Q u s:=#[v,H,I,r,h];rcases l with ⟨hk,w⟩ | ⟨hk,c,g,a⟩
 .rwa[wpAny_Name (wpAny_loadName_local I.ok.kind hk q w f) b]
 .rcases hk with hk |hk
  .rwa[wpAny_Name (wpAny_loadName_cell I.ok.kind hk g a f) b]
  .rwa[wpAny_Name (wpAny_loadName_free I.ok.kind hk g a f d) b]
def jf{i j p}:PE X (.Constant (.int i) j p) (tC$ .int i):=λ_ _ _ H _ I h=>wpAny_Constant_int #[.int i,H,I.tok _,#[12],h]
def yH{b j p}:PE X (.Constant (.bool b) j p) (tC$ .bl b):=λ_ _ _ H _ I h=>Constant_bool #[.bl b,H,I,Z,h]
def zM{j p}:PE X (.Constant .none j p) (tC .non):=λ_ _ _ H _ I h=>Constant_none #[.non,H,I,Z,h]
def jl{x j p}:PE X (.Constant (.str x) j p) (tC$ .str x):=λ_ _ _ H _ I h=>Calls.Constant_str #[.str x,H,I.tok _,#[12],h]
def Gl(X:Cx)(x:ρ):Prop:=X.env.kindOf x=δ .globalImplicit
def ql{Q:η->ι->Prop}(I:ay X p e H s)(a:Gl X x)(b:X.mg x=δ u)(h:Q u s)
  (c:↥((x==("__debug__":ρ))=ν)):π (χ X.prog X.w) X.A (eval (.Name x d) X.env) Q E s:=
 V9 I.ok.kind a (Calls.loadGlobal_global (by rw[I.ok.glob];rwa[I.mod.glob.keeps I.bk]) b h) c
def zN{Q:η->ι->Prop}(I:ay X p j H s)(a:Gl X x)(b:X.mg x=θ)(c:bootBuiltins x=δ u)(h:Q u s)
  (d:↥(x≠"__name__")) (e:↥((x==("__debug__":ρ))=ν)):π (χ X.prog X.w) X.A (eval (.Name x f) X.env) Q E s:=by
 let(m,g,i):=I.mod.blt;rwa[V9 I.ok.kind a (Calls.loadGlobal_builtin (by rw[I.ok.glob];rwa[I.mod.glob.keeps I.bk]) b (by rw[I.ok.blt];rwa[g.keeps I.bk]) ((i x d).trans c) h) e]
def Jr{v:V}(a:Gl X x)(b:X.mg x=δ u)(r:aK v u)(c:↥((x==("__debug__":ρ))=ν)):PE X (.Name x p) (tC v):=
 λ_ _ _ H _ I h=>ql I a b #[v,H,I,r,h] c
def XL{v:V}(a:Gl X x)(b:X.mg x=θ)(c:bootBuiltins x=δ u)(r:aK v u)(d:↥(x≠"__name__"))(e:↥((x==("__debug__":ρ))=ν)):PE X (.Name x p) (tC v):=
 λ_ _ _ H _ I h=>zN I a b c #[v,H,I,r,h] d e
variable {a b:dw}{ta tb:TE}{pos:Pos}
def PC(X:Cx)(o:CmpOp)(a b:dw)(t:TE):Prop:=
 ∀(p:xL (ζ×gs)) (s:ι) (d:St) (H:Hp) (Q:VK),ay X p d H s->t d H Q->
  π (χ X.prog X.w) X.A (eval a X.env) (λv S=>π (χ X.prog X.w) X.A (eval b X.env) (λu c=>π (χ X.prog X.w) X.A (compareOp o v u) (EP X p d Q) X.xe c) X.xe S) X.xe s
def OE(ta:TE):TE:=λc H Q=>ta c H λx h=>Q (.bl$ decide$ x= .non) h
def Nk(ta:TE):TE:=λc H Q=>ta c H λx h=>Q (.bl (!decide (x= .non))) h
def aK.none_iff(r:aK x v):(v==β)=decide (x= .non):=by
 cases x with
 |non |bl _=>cases r;rfl
 |int _ |str _ |byt _ |flt _=>let(t,rfl):=r;rfl
 |ref _ |ty _=>cases r;rfl
def yG{j p}(c:PE X a ta):PC X .Is a (.Constant .none j p) (OE ta):=by intro P s d H Q I h;erw[a8 (c P s d H _ I h) λv S z=>?_];let(x,e,i,r,q):=z;rwa[Constant_none$ is_none_gen #[.bl _,e,i,by rw[r.none_iff];rfl,q]]
def De{j p}(c:PE X a ta):PC X .IsNot a (.Constant .none j p) (Nk ta):=by intro P s d H Q I h;erw[a8 (c P s d H _ I h) λv S z=>?_];let(x,e,i,r,q):=z;rwa[Constant_none$ isnot_none_gen #[.bl _,e,i,by rw[r.none_iff];rfl,q]]
inductive O9(Q:Bool->Hp->Prop)(x:V)(a:Hp):Prop
 |mk(c:_)(_:x= .bl c)(_:Q c a)
def tB(t:TE):TT:=λc H Q=>t c H (O9 Q)
def Xw(h:PC X o a b t)(e:behindInMarks o b=ν:=by first |exact n _ PM PM |rfl):PT X (.Compare a [o] [b] pos) (tB t):=by intro p s f H Q I g;erw[wpAny_isTrue_Compare1 (a8 (h p s f H _ I g) λv S e=>a8 e λu m i=>a8 i λc w z=>?_) e];let(x,j,k,r,l):=z;let(d,rfl,q):=l;cases r;rwa[UK #[j,k,q]]
def Zb(h:PE X e t)(c:autoParam (∀w,isTrue e X.env w=(do let v <- w;standAt e.pos;mB [v] (truthy v))) Cv._auto_1):PT X e (tB t):=by intro p s f H Q I g;erw[isTrue_plain (a8 (h p s f H _ I g) λv S z=>?_)$ c _];let(x,i,j,r,k):=z;let(d,rfl,q):=k;cases r;rwa[UK #[i,j,q]]
variable {tA tB':TT}{rest:xL dw}
def Oy(t u:TT):TT:=λd H Q=>t d H λc h=>if c=μ then u d h Q else Q ν h
def Po(t u:TT):TT:=λd H Q=>t d H λc h=>if c=μ then Q μ h else u d h Q
def OF(t:TT):TT:=λd H Q=>t d H λc h=>Q (!c) h
def qm(d:PT X a tA):PW X (.BoolOp .And [a] pos) tA:=by
 intro w p s f H Q I h;erw[isTrue_and$ a8 (d p s f H Q I h) λc S e=>?_];cases c with
 |true=>rwa[isTrue_and_nil e]
 |false=>rwa[e]
def Ja(d:PT X a tA):PW X (.BoolOp .Or [a] pos) tA:=by
 intro w p s f H Q I h;erw[isTrue_or$ a8 (d p s f H Q I h) λc S e=>?_];cases c with
 |false=>rwa[isTrue_or_nil e]
 |true=>rwa[e]
def Jb(f:PT X a tA)(g:PW X (.BoolOp .And (b::rest) pos) tB'):PW X (.BoolOp .And (a::b::rest) pos) (Oy tA tB'):=by
 intro w p s d H Q I h;erw[isTrue_and$ a8 (f p s d H _ I h) λc S z=>?_];let(e,i,q):=z;cases c with
 |true=>rwa[g w p S d e Q i q]
 |false=>exact#[e,i,q]
def J7(f:PT X a tA)(g:PW X (.BoolOp .Or (b::rest) pos) tB'):PW X (.BoolOp .Or (a::b::rest) pos) (Po tA tB'):=by
 intro w p s d H Q I h;erw[isTrue_or$ a8 (f p s d H _ I h) λc S z=>?_];let(e,i,q):=z;cases c with
 |true=>exact#[e,i,q]
 |false=>rwa[g w p S d e Q i q]
def Zc(e:PT X a tA):PT X (.UnaryOp .Not a pos) (OF tA):=by intro p s f H Q I h;rwa[isTrue_not$ a8 (e p s f H (λc d=>Q (!c) d) I h) λc S #[d,i,q]=>#[d,i,q]]
def Pn(t:TT)(ta tb:TE):TE:=λd H Q=>t d H λc h=>if c=μ then ta d h Q else tb d h Q
def kX(g:PT X c tA)(j:PE X a ta)(k:PE X b tb):PE X (.IfExp c a b pos) (Pn tA ta tb):=by
 intro p s e H Q I h;erw[wpAny_IfExp$ a8 (g p s e H _ I h) λd S z=>?_];let(f,i,q):=z;cases d with
 |true=>rwa[j p S e f Q i q]
 |false=>rwa[k p S e f Q i q]
end
def aJ(K:Ψ)(H:Hp)(a:ζ)(x:xL V):Prop:=
 Rd H a (.lst x)∨
  ∃(o:gs) (i:Array η) (n:Nat),K.lookup a=δ o/\o.cls= .type "list"/\o.dict=θ/\o.data= .seq i n/\i.size<=υ/\aF x i.toList
def aC(K:Ψ)(H:Hp)(a:ζ)(x:xL V):Prop:=
 Rd H a (.tup x)∨
  ∃(o:gs) (i:Array η) (n:Nat),K.lookup a=δ o/\o.cls= .type "tuple"/\o.data= .seq i n/\i.size<=υ/\aF x i.toList
noncomputable def N7:η->ym V
 | .none=>δ .non
 | .bool b=>δ (.bl b)
 | .int i _=>δ (.int i)
 | .str x _=>δ (.str x)
 | .bytes b _=>δ (.byt b)
 | .float b _=>δ (.flt b)
 | .ref a=>↑a
 | .type n=>δ (.ty n)
 |_=>θ
def aK.abs(r:aK x u):N7 u=δ x:=by
 cases x with
 |non |bl _=>cases r;rfl
 |int _ |str _ |byt _ |flt _=>let(t,rfl):=r;rfl
 |ref _ |ty _=>cases r;rfl
def aK.inj{x:V}(r:aK x u)(q:aK y u):x=y:=Ss (r.abs.symm.trans q.abs)
theorem aF.inj{x y:xL V}{u:xL η}(h:aF x u)(k:aF y u):x=y:=by
 induction h generalizing y with
 |nil=>cases k;rfl
 |cons r _ f=>cases k with
  |cons R T=>rw[r.inj R,f T]
section
variable {X:Cx}{pins:xL (ζ×gs)}{σ:St}{H:Hp}{s:ι}{a:ζ}{xs ys:xL V}
def aJ.of{K:Ψ}(h:H a=δ (.lst xs)):aJ K H a xs:=.inl (.inl h)
def aC.of{K:Ψ}(h:H a=δ (.tup xs)):aC K H a xs:=.inl (.inl h)
def ay.list(I:ay X pins σ H s)(h:aJ X.K H a xs):∃i:xL η,aF xs i/\PlainL s.heap a i.toArray/\ο xs<=υ:=by
 rcases h with h | ⟨o,i,n,b,c,d,f,g,r⟩
 .let(z,i,n,r,e):=h.ok I.hok;exact#[i,r,#[_,n,e,222],z]
 .erw[#[i.toList,r,#[o,n,I.kIn a o b,c,d,by simpa using f],?_]];let e:=r.length;simp only[RX]at e;omega
def ay.tuple(I:ay X pins σ H s)(h:aC X.K H a xs):∃i:xL η,aF xs i/\IsTup s.heap a i.toArray/\ο xs<=υ:=by
 rcases h with h | ⟨o,i,n,b,c,d,f,r⟩
 .let(z,i,r,p):=h.ok I.hok;exact#[i,r,p,z]
 .erw[#[i.toList,r,#[o,I.kIn a o b,c,n,by simpa using d],?_]];let e:=r.length;simp only[RX]at e;omega
def ay.list_inj(I:ay X pins σ H s)(h:aJ X.K H a xs)(c:aJ X.K H a ys):xs=ys:=by
 obtain⟨b,r,⟨o,n,e,_,_,d⟩,_⟩:=I.list h;obtain⟨i,R,⟨O,N,E,_,_,D⟩,_⟩:=I.list c;rw[e]at E;cases E;rw[d]at D;injection D with f _;let:b=i:=by simpa using SM nI f
 subst this;rwa[r.inj R]
def ay.tuple_inj(I:ay X pins σ H s)(h:aC X.K H a xs)(c:aC X.K H a ys):xs=ys:=by
 obtain⟨b,r,⟨o,e,_,n,d⟩,_⟩:=I.tuple h;obtain⟨i,R,⟨O,E,_,N,D⟩,_⟩:=I.tuple c;rw[e]at E;cases E;rw[d]at D;injection D with f _;let:b=i:=by simpa using SM nI f
 subst this;rwa[r.inj R]
end
noncomputable abbrev Cx.wish(X:Cx)(E:η->ι->Prop):Cx:={ X with xe:=E }
abbrev Cx.nox(X:Cx):Cx:=X.wish λ_ _=>False
def Cx.Ok.wish{X:Cx}(o:X.Ok)(E:η->ι->Prop):(X.wish E).Ok:=
 #[o.mod,o.kind,o.glob,o.blt,o.above,o.inj,o.has,o.cab,o.hd,o.frames,o.stk,o.exf,o.bs,o.bsz,o.noex,o.exfs,o.funs,o.frf]
def Cx.Ok.unwish{X:Cx}(o:(X.wish E).Ok):X.Ok:=
 #[o.mod,o.kind,o.glob,o.blt,o.above,o.inj,o.has,o.cab,o.hd,o.frames,o.stk,o.exf,o.bs,o.bsz,o.noex,o.exfs,o.funs,o.frf]
section
variable {X:Cx}{pins:xL (ζ×gs)}{σ:St}{H:Hp}{s:ι}{E:η->ι->Prop}
def ay.wish(I:ay X pins σ H s)(E:η->ι->Prop):ay (X.wish E) pins σ H s:=#[I.ok.wish E,I.os,I.bare,I.base,I.loc,I.cell,I.free,I.freeC,I.pin,I.hok,I.len]
def ay.unwish(I:ay (X.wish E) pins σ H s):ay X pins σ H s:=#[I.ok.unwish,I.os,I.bare,I.base,I.loc,I.cell,I.free,I.freeC,I.pin,I.hok,I.len]
def SP.unwish(h:SP (X.wish E) pins D f c):SP X pins D f c:=by
 cases f with
 |next |brk |cont=>let(a,b,I,q):=h;exact#[a,b,I.unwish,q]
 |ret u=>let(v,a,b,I,r,q):=h;exact#[v,a,b,I.unwish,r,q]
def oe.nox{st:xL cc}(h:oe X.nox st t):oe X st t:=λpins s σ H D I a=>
 SN (h pins s σ H D (I.wish _) a) (λ_ _ q=>q.unwish) λ_ _ z=>False.elim z
end
section
variable {X:Cx}{st:cc}{rest:xL cc}{t u:TS}{e:dw}{te:TE}{pos:Pos}
def AY:TS:=λD a H=>D.nx a H
def cw(t u:TS):TS:=λD a H=>t { D with nx:=u D } a H
def jq:oe X [] AY:=λ_ _ a H _ I h=>Uz #[a,H,I,h]
def jd(b:PS X st t)(c:oe X rest u):oe X (st::rest) (cw t u):=by
 intro p s d H D I h;erw[Wj$ a8 (b p s d H { D with nx:=u D } I h) λf S q=>?_];cases f with
 |next=>let(a,g,i,q):=q;rwa[c p S a g D i q]
 |ret v |brk |cont=>rwa[q]
def jg(a:PS X st t):oe X [st] t:=by
 intro p s b H D I h;erw[Wj$ a8 (a p s b H D I h) λf S q=>?_];cases f with
 |next=>rwa[Uz q]
 |ret v |brk |cont=>rwa[q]
def ay.quiet(I:ay X p a H s):interactive X.env=ν:=by simp [interactive,I.ok.kind]
def tS(te:TE):TS:=λD a H=>te a H λ_ h=>D.nx a h
def jN(b:PE X e te)(c:↥(swapsWith e θ pos.line X.env=pure ν)):PS X (.Expr e pos) (tS te):=by intro p s a H D I h;rwa[wpAny_Expr_any (a8 (b p s a H _ I h) λv S #[x,d,i,r,q]=>#[a,d,i,q]) I.quiet c]
def ig(te:TE):TS:=λD a H=>te a H D.rt
def jo(b:PE X e te):PS X (.Return (δ e) pos) (ig te):=by intro p s a H D I h;rwa[wpAny_Return_some$ a8 (b p s a H _ I h) λv S #[x,c,i,r,q]=>#[x,a,c,i,r,q]]
def lh(c:TT)(t u:TS):TS:=λD a H=>c a H λb h=>if b=μ then t D a h else u D a h
def jA{c:dw}{a b:xL cc}{T:TT}(j:PT X c T)(k:oe X a t)(l:oe X b u):PS X (.If c a b pos) (lh T t u):=by
 intro p s f H D I h;erw[wpAny_If$ a8 (j p s f H _ I h) λd S z=>?_];let(g,i,q):=z;cases d with
 |true=>rwa[k p S f g D i q]
 |false=>rwa[l p S f g D i q]
end
abbrev TG:=V->St->Hp->(St->Hp->Prop)->Prop
abbrev BG:=xL V->St->Hp->(St->Hp->Prop)->Prop
def PG(X:Cx)(T:dw)(t:TG):Prop:=
 ∀(p:xL (ζ×gs)) (s:ι) (b:St) (H:Hp) (v:V) (u:η) (Q:St->Hp->Prop),ay X p b H s->aK v u->t v b H Q->
  π (χ X.prog X.w) X.A (assign T X.env u) (λ_ S=>∃a h,ay X p a h S/\Q a h) X.xe s
def J'(X:Cx)(T:xL dw)(t:BG):Prop:=
 ∀(p:xL (ζ×gs)) (s:ι) (b:St) (H:Hp) (v:xL V) (u:xL η) (Q:St->Hp->Prop),ay X p b H s->aF v u->t v b H Q->
  π (χ X.prog X.w) X.A (assignInOrder ((assignEach T X.env).map (·.2)) u) (λ_ S=>∃a h,ay X p a h S/\Q a h) X.xe s
abbrev Fn:=V->V->V->Hp->(Hp->Prop)->Prop
def Lv(X:Cx)(t:Fn):Prop:=
 ∀(p:xL (ζ×gs)) (s:ι) (a:St) (H:Hp) (o i v:V) (O I u:η) (Q:Hp->Prop),ay X p a H s->aK o O->aK i I->aK v u->t o i v H Q->
  π (χ X.prog X.w) X.A (setItem O I u) (λ_ S=>∃h,ay X p a h S/\Q h) X.xe s
abbrev NZ:=V->V->Hp->VK->Prop
def OV(X:Cx)(o:Operator)(t:NZ):Prop:=
 ∀(p:xL (ζ×gs)) (s:ι) (a:St) (H:Hp) (x y:V) (v u:η) (Q:VK),ay X p a H s->aK x v->aK y u->t x y H Q->
  π (χ X.prog X.w) X.A (inplaceOp o v u) (EP X p a Q) X.xe s
section
variable {X:Cx}{pos:Pos}
def bf(i:Nat):TG:=λv a H Q=>Q (a.set i$ δ v) H
def ju{i:Nat}{x:ρ}(a:X.N.Nodup)(b:X.N[i]?=δ x)(c:wg X.env.scope x)(d:autoParam (X.fn x=μ∨X.env.scope.names.lookup x=δ .local) Wx._auto_1):PG X (.Name x pos) (bf i):=by intro p s f H v u Q I r h;rwa[wpAny_assign_Name$ zP I a b c r (λS e=>#[_,H,e,h]) d]
def FA(i:Nat)(a:X.N.Nodup)(b:↥(X.N[i]?=δ x))(c:wg X.env.scope x:=by rwa[ψ Z])(d:autoParam (X.fn x=μ∨X.env.scope.names.lookup x=δ .local) Wx._auto_1):PG X (.Name x p) (bf i):=ju a b c d
def uH:BG:=λv a H Q=>v=[]/\Q a H
inductive dj(t:TG)(u:BG)(a:xL V)(b:St)(H:Hp)(Q:St->Hp->Prop):Prop
 |mk(v r:_)(_:a=v::r)(_:t v b H λσ' H'=>u r σ' H' Q)
def jY:J' X [] uH:=by intro p s a H v u Q I r h;let(e,h):=h;subst e;cases r;rwa[assignInOrder_nil #[a,H,I,h]]
def jy(b:PG X e t)(c:J' X E u)
  (d:↥((assignEach (e::E) X.env).map (·.2)=assign e X.env::(assignEach E X.env).map (·.2))):J' X (e::E) (dj t u):=by
 intro p s f H V U Q I r h;let(v,k,g,h):=h;subst g;cases r with
 |cons r R=>rw[d];erw[assignInOrder_cons$ a8 (b p s f H _ _ _ I r h) λ_ S z=>?_];let(a,i,j,q):=z;rwa[c p S a i _ _ Q j R q]
inductive uI(K:Ψ)(n:Nat)(t:BG)(v:V)(c:St)(H:Hp)(Q:St->Hp->Prop):Prop
 |mk(a b:_)(_:v= .ref a)(_:aC K H a b)(_:ο b=n)(_:t b c H Q)
def zk{n:Nat}(g:X.calm=μ)(h:J' X E t)
  (i:↥((assignEach E X.env).length=n)) (c:↥((assignEach E X.env).findIdx? (·.1)=θ)):PG X (.Tuple E k pos) (uI X.K n t):=by
 intro p s f H v u Q I r d;let(a,x,j,l,m,d):=d;subst j;cases r;let(q,R,w,B):=I.tuple l;erw[assign_Tuple_tuple (I.ok.hd g) w (by simp [i,<- m,R.length]) c λy z=>?_];let A:ay X p f H {y}:=I.kept (t':=s.toks) λb o e=>z b o (RJ$ Rz e) e;rwa[h p _ f H x _ Q A (R:) d]
def FX(T b:TE)(t:Fn):TG:=λv a H Q=>T a H λo h=>b a h λi c=>t o i v c λd=>Q a d
def Jc{o i:dw}{T c:TE}{t:Fn}(d:PE X o T)(e:PE X i c)(f:Lv X t)
  (g:autoParam (∀v,assign (.Subscript o i pos) X.env v=(do
   let O <- mB [v] (eval o X.env)
   let a <- mB [v,O] (eval i X.env)
   standAt pos
   mB [v,O,a] (setItem O a v)
   release [v,O,a] [])) Cv._auto_1):PG X (.Subscript o i pos) (FX T c t):=by
 intro p s b H v u Q I r h;rw[g];erw[Rp$ RY$ a8 (d p s b H _ I h) λO S z=>?_];let(x,j,k,R,q):=z;erw[Rp$ RY$ a8 (e p S b j _ k q) λa l z=>?_];let(y,m,n,w,A):=z;erw[Rp$ Uh$ Rp$ RY$ a8 (f p l b m x y v O a u _ n R w r A) λ_ E z=>?_];let(B,C,D):=z;rwa[wpAny_release #[b,B,C,D]]
def dI(t:TE)(g:TG):TS:=λD a H=>t a H λx h=>g x a h D.nx
def kW{t e:dw}{T:TE}{g:TG}(b:PE X e T)(c:PG X t g)(d:↥(swapsWithSole [t] e pos.line X.env=pure ν))(f:↥(swappedStores [t] e X.env=pure θ))
  (i:↥((assignEach [t] X.env).map (·.2)=[assign t X.env])):PS X (.Assign [t] e pos) (dI T g):=by
 intro p s a H D I h;erw[wpAny_Assign_stores (a8 (b p s a H _ I h) λv S z=>?_) d f];let(x,j,k,r,Q):=z;rw[i];rwa[a8 (c p S a j x v _ k r Q) λ_ l q=>q]
def zf{i:Nat}{x:ρ}{e:dw}{t:TE}{p:Pos}(a:X.N.Nodup)(b:X.N[i]?=δ x)(c:wg X.env.scope x)(d:PE X e t)(f:↥(swapsWith e (δ$ .Name x p) pos.line X.env=pure ν))(g:autoParam (X.fn x=μ∨X.env.scope.names.lookup x=δ .local) Wx._auto_1):
  PS X (.Assign [.Name x p] e pos) (dI t$ bf i):=by
 intro P s j H D I h;erw[wpAny_Assign_Name (a8 (d P s j H _ I h) λv S z=>?_) f];let(y,k,l,r,q):=z;rwa[zP l a b c r (λn m=>#[_,k,m,q]) g]
inductive Nf(i:Nat)(a:TE)(b:NZ)(D:bp)(c:St)(H:Hp):Prop
 |mk(x:_)(_:c[i]?=δ (δ x))(_:a c H λy H1=>b x y H1 λz H2=>D.nx (c.set i (δ z)) H2)
def HS{i:Nat}(q:X.N.Nodup)(g:X.N[i]?=δ x)(f:wg X.env.scope x)(t:PE X e T)(B:OV X o C)(E:autoParam (X.fn x=μ∨X.env.scope.names.lookup x=δ .local) Wx._auto_1):
  PS X (.AugAssign (.Name x j) o e pos) (Nf i T C):=by
 intro p s n H D I h;let(v,F,h):=h;let(m,J,K):=I.loc;let V:NC X.env.scope x:=by rcases f with k |k;rwa[.inl k];rwa[.inr$ .inl k]
 let(u,r,l):=K i x v g F V;erw[wpAny_AugAssign_Name ?_];let G:π (χ X.prog X.w) X.A (eval e X.env) (λw S=>π (χ X.prog X.w) X.A (inplaceOp o u w) (λr d=>π (χ X.prog X.w) X.A (storeName X.env x r) (λ_=>SP X p D .next) X.xe d) X.xe S) X.xe s:=by erw[a8 (t p s n H _ I h) λw L a=>?_];let(y,M,O,R,Q):=a;erw[a8 (B p L n M v y u w _ O r R Q) λz s2 a=>?_];let(zv,P,U,W,Y):=a;rwa[zP U q g f W (λs3 I3=>#[_,P,I3,Y]) E]
 rcases l with ⟨hk,hm⟩ | ⟨hk,c,hc,b⟩
 .rwa[wpAny_loadName_local I.ok.kind hk J hm G]
 .rcases hk with hk |hk
  .rwa[wpAny_loadName_cell I.ok.kind hk hc b G]
  .rcases f with k |k
   .let:X.env.scope.names.lookup x=δ .free:=hk;rw[k]at this;cases this
   .let:X.env.scope.names.lookup x=δ .free:=hk;rw[k]at this;cases this
inductive O4(f:Int->Int->Int)(x y:V)(H:Hp)(Q:VK):Prop
 |mk(i j:_)(_:x= .int i)(_:y= .int j)(_:Q (.int (f i j)) H)
def Ge:OV X .Add (O4 λi j=>i+j):=by intro p s a H x y v u Q I r R h;let(i,j,e,E,q):=h;subst e;subst E;let(t,rfl):=r;let(T,rfl):=R;rwa[iadd_int #[.int _,H,I.tok _,#[12],q]]
end
section
variable {X:Cx}{pos:Pos}
def A4(c:TT)(t:TS):TS:=λD a H=>∃W:Nat->St->Hp->Prop,(∃m,W m a H)/\∀m a H,W m a H->
 c a H λb h=>if b=μ then ∃N:St->Hp->Prop,(∀d e,N d e->∃M,M < m/\W M d e)/\t { D with nx:=N,ct:=N,bk:=D.nx } a h else D.nx a h
def K7(o:PassesOwn (χ X.prog X.w) X.A X.env X.xe)(E:PT X c T)(F:oe X B G):PS X (.While c B [] pos) (A4 T G):=by
 intro p s J H D I h;obtain⟨W,⟨M,K⟩,t⟩:=h;erw[wpAny_While$ codeAny_whileLoop (λn S=>∃e r,ay X p e r S/\W n e r) ?_ M #[J,H,I,K]];rintro n L ⟨d,u,O,P⟩;erw[Ug o$ a8 (E p L d u _ O$ t n d u P) λb R z=>?_];let(x,y,q):=z;cases b with
 |true=>
  let(N,C,q):=q;rw[RB Z];erw[Ug o$ a8 (F p R d x _ y q) λf U Q=>?_];cases f with
  |next |cont=>let(a,g,i,j):=Q;let(m,k,l):=C a g j;exact#[m,k,a,g,i,l]
  |brk |ret v=>rwa[Q]
 |false=>rw[RD RI];rwa[Uz #[d,x,y,q]]
end
structure It where
 go:Nat->Hp->Prop
 yld:Nat->Hp->V->Hp->Prop
 stop:Nat->Hp->Prop
def iq(X:Cx)(P:xL (ζ×gs))(H:Hp)(b:ζ):Prop:=
 H b=θ/\b≠X.env.locals/\b∉X.fs/\(b∈X.ex∨X.s₀.heap.objs.size<=b)/\(∀x c,X.env.cells.lookup x=δ c->c≠b)/\∀p∈X.pn++P,p.1≠b
def ay.fpOk{X:Cx}{d:Hp}(I:ay X a i H s)(h:-s<=b)(f:d b=θ):iq X a d b:=by
 erw[#[f,SH$ RQ I.lt h,I.nofs h,.inr$ RM I.sz h,λx c e z=>?_,λp g z=>?_]]
 .let(v,q):=I.cell x c e;rwa[absurd (RQ q.lt (by rw[z];rwa[h]))$ SI _]
 .rwa[absurd (RQ (Rz (I.pin p g).1) (by rw[z];rwa[h]))$ SI _]
structure pF(P:ω)(w:bF)(K:Ψ)(tg:dw)(J:It)(fp:xL ζ)(it:ζ)(tn:Nat->de->Prop):Prop where
 mem:it∈fp
 obj:∀i h,tn i h->∀b∈fp,∃o,h.get? b=δ o/\∀v,o.data≠ .cell v
 keep:∀i h h',tn i h->(∀b∈fp,∀o,h.get? b=δ o->h'.get? b=δ o)->tn i h'
 item:∀(X:Cx),X.prog=P->X.w=w->X.K=K->X.calm=μ->∀(i:Nat) (pins:xL (ζ×gs)) (s:ι) (σ:St) (H:Hp) (E:η->ι->Prop),ay X pins σ H s->(∀b∈fp,iq X pins H b)->tn i s.heap->J.go i H->
  π (χ P w) X.A (pyNext$ .ref it) (λr s1=>∃u,r=δ u/\
   π (χ P w) X.A (letOwnedTupleGo tg (.ref it) u) (λ_ s2=>∃x H',ay X pins σ H' s2/\aK x u/\J.yld i H x H'/\tn (i+1) s2.heap/\∀b∈fp,H' b=θ) E s1) E s
 done:∀(X:Cx),X.prog=P->X.w=w->X.K=K->X.calm=μ->∀(i:Nat) (pins:xL (ζ×gs)) (s:ι) (σ:St) (H:Hp) (E:η->ι->Prop),ay X pins σ H s->(∀b∈fp,iq X pins H b)->tn i s.heap->J.stop i H->
  π (χ P w) X.A (pyNext$ .ref it) (λr s1=>r=θ/\ay X pins σ H s1) E s
 self:∀(A:bU) (i:Nat) (s:ι) (Q:η->ι->Prop) (E:η->ι->Prop),tn i s.heap->Q (.ref it) s->π (χ P w) A (pyIter$ .ref it) Q E s
abbrev TI:=St->Hp->(It->Hp->Prop)->Prop
def OU(X:Cx)(p:xL (ζ×gs))(a:St)(T:dw)(R:It->Hp->Prop)(i:η)(s:ι):Prop:=
 ∃(I:ζ) (f:xL ζ) (t:Nat->de->Prop) (J:It) (H:Hp),i= .ref I/\ay X p a H s/\pF X.prog X.w X.K T J f I t/\t 0 s.heap/\(∀b∈f,iq X p H b)/\R J H
def PI(X:Cx)(t iter:dw)(W:TI):Prop:=
 ∀(p:xL (ζ×gs)) (s:ι) (a:St) (H:Hp) (R:It->Hp->Prop),ay X p a H s->W a H R->
  π (χ X.prog X.w) X.A (eval iter X.env) (λv S=>π (χ X.prog X.w) X.A (pyIter v) (OU X p a t R) X.xe S) X.xe s
def Z3{s : ι}{n : String}{Q : Unit -> ι -> Prop}(a : s.heap.get? i = δ o)(b : o.cls = .type n)(c : o.data = .fields v)
    (d : ["enumerate", "zip", "dict_itemiterator", "dict_reverseitemiterator", "odict_iterator", "itertools.zip_longest", "itertools.pairwise"].contains n = ν) (H : Q () s) : π M A (letOwnedTupleGo t (.ref i) u) Q E s := by
  unfold letOwnedTupleGo;cases t <;> first
    | rwa[Rt H]
    | (cases u <;> first
        | rwa[Rt H]
        | (refine Rp (wpAny_load a ?_)
           rw [b, c];show π M A (if (["enumerate", "zip", "dict_itemiterator", "dict_reverseitemiterator", "odict_iterator", "itertools.zip_longest", "itertools.pairwise"].contains n && v[0]? == δ (rawInt _)) = μ then _ else _) Q E s;rw [RD (by intro h; rw [d, Bool.false_and] at h; cases h)];rwa[Rt H]))
def Br(K:Ψ)(a:ζ):It:=
 #[λi H=>∃X x,aJ K H a X/\X[i]?=δ x,λi H x h=>h=H/\∀X,aJ K H a X->X[i]?=δ x,λi H=>∃X,aJ K H a X/\ο X<=i]
def Bz(K:Ψ)(a:ζ):It:=
 #[λi H=>∃X x,aC K H a X/\X[i]?=δ x,λi H x h=>h=H/\∀X,aC K H a X->X[i]?=δ x,λi H=>∃X,aC K H a X/\ο X<=i]
def wf(lo:Int)(n:Nat):It:=#[λi _=>i < n,λi H x h=>h=H/\x= .int (lo+i),λi _=>n<=i]
def vW{P:ω}{K:Ψ}(a g:ζ):pF P w K tg (Br K a) [g] g (λi h=>h.IsListIter g a i) where
 mem:=by simp
 obj:=λi h st b j=>by
  let e:b=g:=by simpa using j
  subst e;let(o,e,c,d):=st;exact#[o,e,λv z=>by rw[d]at z;cases z]
 keep:=λi h l st k=>st.at λo e=>k g PJ o e
 item:=by intro X q r t L i f s M H E I m st y;subst q r t;let(N,x,n,A):=y;let(B,R,p,O):=I.list n;let(u,Q,T):=R.get A;let(F,C,U,D,G,J):=m g PJ;erw[wpAny_pyNext_list_item st p.isList (x:=u) (Q:) λl S V=>?_];let W:ay X f M H {l}:=I.turned (t':=s.toks) (λb o j e=>(V.2 b j).trans e) F C D G J;let(o,e,c,d):=id S;exact#[u,Z,Z3 (s:={l}) e c d PM #[x,H,W,T,#[Z,λys Y=>by rw[I.list_inj Y n];rwa[A]],S,λb j=>(m b j).1]]
 done:=by intro X q r t L i f s M H E I m st y;subst q r t;let(N,n,A):=y;let(B,R,p,O):=I.list n;let(F,C,U,D,G,J):=m g PJ;let hl:=R.length;rwa[wpAny_pyNext_list_end (I.ok.hd L) st p.isList (by simp;omega) λl eb=>#[Z,I.turned (t':=s.toks) (λb o j e=>eb b o j e) F C D G J]]
 self:=λ_ _ _ _ _ st h=>wpAny_pyIter_listiter st h
def Zp{P:ω}{K:Ψ}(a g:ζ):pF P w K tg (Bz K a) [g] g (λi h=>h.IsTupleIter g a i) where
 mem:=by simp
 obj:=λi h st b j=>by
  let e:b=g:=by simpa using j
  subst e;let(o,e,c,d):=st;exact#[o,e,λv z=>by rw[d]at z;cases z]
 keep:=λi h m st k=>st.at λo e=>k g PJ o e
 item:=by intro X r t y L i f s M H E I n st A;subst r t y;let(N,x,q,B):=A;let(l,R,p,O):=I.tuple q;let(u,Q,T):=R.get B;let(F,C,U,D,G,J):=n g PJ;erw[wpAny_pyNext_tuple_item st (show s.heap.IsTuple a l.toArray from p) (x:=u) (Q:) λm S V=>?_];let W:ay X f M H {m}:=I.turned (t':=s.toks) (λb o j e=>(V.2 b j).trans e) F C D G J;let(o,e,c,d):=id S;exact#[u,Z,Z3 (s:={m}) e c d PM #[x,H,W,T,#[Z,λys Y=>by rw[I.tuple_inj Y q];rwa[B]],S,λb j=>(n b j).1]]
 done:=by intro X r t y L i f s M H E I n st A;subst r t y;let(N,q,B):=A;let(l,R,p,O):=I.tuple q;let(F,C,U,D,G,J):=n g PJ;let hl:=R.length;rwa[wpAny_pyNext_tuple_end (I.ok.hd L) st (show s.heap.IsTuple a l.toArray from p) (by simp;omega) λm eb=>#[Z,I.turned (t':=s.toks) (λb o j e=>eb b o j e) F C D G J]]
 self:=λ_ _ _ _ _ st h=>wpAny_pyIter_tupleiter st h
def Zq{P:ω}{K:Ψ}(a:ζ)(lo:Int)(n:Nat):pF P w K M (wf lo n) [a] a (λi h=>IsRangeIter h a (lo+(i:Nat)*1) ((n:Int) - (i:Nat)) 1) where
 mem:=by simp
 obj:=λi h st b c=>by
  let e:b=a:=by simpa using c
  subst e;exact#[_,st,λv z=>by
   let B:Data.fields _=Data.cell v:=z;cases B]
 keep:=λi h d st k=>k a PJ _ st
 item:=by intro X g j l m i p s A H E I f st q;subst g j l;let(F,r,C,u,x,y):=f a PJ;let W:=Walks.range (prog:=X.prog) (w:=X.w) (I.ok.hd m) a lo 1 n;erw[W.item i s _ _ q st λv d T D S G=>?_];let(t,rfl):=D;let J:ay X p A H { s with heap:=d,toks:=T }:=I.turned (λb o c e=>G b o (c:) e) F r u x y;erw[#[12,Z3 (s:={ s with heap:=d,toks:=T }) (n:="range_iterator") S Z Z PM #[.int$ lo+i,H,J,#[t,?_],#[22],S,λb c=>(f b c).1]]];rw[Int.mul_one]
 done:=by intro X g j l m i p s A H E I f st q;subst g j l;let(F,r,C,u,x,y):=f a PJ;rwa[wpAny_pyNext_range_end (I.ok.hd m) st (by let:n<=i:=q;omega) λd L=>#[Z,I.turned (t':=s.toks) (λb o c e=>L b o c e) F r u x y]]
 self:=λ_ _ _ _ _ st h=>wpAny_pyIter_rangeiter st h
section
variable {X:Cx}{tg:dw}
inductive xJ(K:Ψ)(R:It->Hp->Prop)(x:V)(b:Hp):Prop
 |mk(a:_)(_:x= .ref a)(_:∃xs,aJ K b a xs)(_:R (Br K a) b)
def xI(K:Ψ)(t:TE):TI:=λa H R=>t a H (xJ K R)
inductive ED(K:Ψ)(R:It->Hp->Prop)(x:V)(b:Hp):Prop
 |mk(a:_)(_:x= .ref a)(_:∃xs,aC K b a xs)(_:R (Bz K a) b)
def Og(K:Ψ)(t:TE):TI:=λa H R=>t a H (ED K R)
def kY(c:PE X l t):PI X tg l (xI X.K t):=by
 intro P s d H R I h;erw[a8 (c P s d H _ I h) λv S z=>?_];let(x,f,i,r,Q):=z;obtain⟨a,e,⟨m,g⟩,q⟩:=Q;subst e;cases r;let(j,n,p,u):=i.list g;erw[UL p.isList ?_];erw[#[-S,[-S],11,f,Z,i.kept (t':=S.toks) λb o e=>Rr _ e,vW a _,#[_,Ry _ Z,22],λb k=>?_,q]];let e:b=-S:=by simpa using k
 subst e;rwa[i.fpOk (Rv _)$ i.hok.fresh$ Rv _]
def qk(d:PE X l t):PI X tg l (Og X.K t):=by
 intro P s f H R I h;erw[a8 (d P s f H _ I h) λv S z=>?_];let(x,g,i,r,Q):=z;obtain⟨a,e,⟨m,j⟩,q⟩:=Q;subst e;cases r;let(c,n,p,u):=i.tuple j;erw[UD (show S.heap.IsTuple a c.toArray from p) ?_];erw[#[-S,[-S],11,g,Z,i.kept (t':=S.toks) λb o e=>Rr _ e,Zp a _,#[_,Ry _ Z,22],λb k=>?_,q]];let e:b=-S:=by simpa using k
 subst e;rwa[i.fpOk (Rv _)$ i.hok.fresh$ Rv _]
def Yj{R:It->Hp->Prop}{lo:Int}(I:ay X p a H s)(c: -(2 ^ 62)<=lo)(d:lo < 2 ^ 62)(f: -(2 ^ 62)<=h)(g:h < 2 ^ 62)
  (q:R (wf lo (h - lo).toNat) H):π (χ X.prog X.w) X.A (pyIter$ .ref (-s)) (OU X p a tg R) E { s with heap:=s.heap.push { cls:=.type "range",data:=.fields (ε [.int lo t,.int h u,.int 1 v]) },toks:=T }:=by
 erw[wpAny_pyIter_range (IsRange.new ..) (small_one c d f g) ?_];let i:ay X p a H { s with heap:=s.heap.push { cls:=.type "range",data:=.fields (ε [.int lo t,.int h u,.int 1 v]) },toks:=T }:=I.kept λb o e=>Rr _ e;refine#[(s.heap.push { cls:=.type "range",data:=.fields (ε [.int lo t,.int h u,.int 1 v]) }).objs.size,[(s.heap.push { cls:=.type "range",data:=.fields (ε [.int lo t,.int h u,.int 1 v]) }).objs.size],11,H,Z,
  i.kept (t':=T) λb o e=>Rr _ e,Zq _ lo (h - lo).toNat,?_,λb j=>?_,q]
 .let k:lo+((0:Nat):Int)*1=lo:=by simp
  let l:(((h - lo).toNat:Nat):Int) - ((0:Nat):Int)=Builtin.Range.rangeSize lo h 1:=by rw[rangeSize_one];split<;>omega
  show IsRangeIter _ _ (lo+((0:Nat):Int)*1) ((((h - lo).toNat:Nat):Int) - ((0:Nat):Int)) 1;rw[k,l];rwa[Ry _ Z]
 .let e:b=(s.heap.push { cls:=.type "range",data:=.fields (ε [.int lo t,.int h u,.int 1 v]) }).objs.size:=by simpa using j
  subst e;rwa[i.fpOk (Rv _)$ i.hok.fresh$ Rv _]
inductive xK(R:It->Hp->Prop)(b:xL V)(a:Hp):Prop
 |mk(j:Int)(_:b=[.int j])(_:-(2 ^ 62)<=j)(_:j < 2 ^ 62)(_:R (wf 0 j.toNat) a)
def Mg(t:TA):TI:=λa H R=>t a H (xK R)
inductive xM(R:It->Hp->Prop)(b:xL V)(a:Hp):Prop
 |mk(i j:Int)(_:b=[.int i,.int j])(_:-(2 ^ 62)<=i/\i < 2 ^ 62/\ -(2 ^ 62)<=j/\j < 2 ^ 62)(_:R (wf i (j - i).toNat) a)
def Mh(t:TA):TI:=λa H R=>t a H (xM R)
def kC{a:dw}{T:TA}{p P:Pos}(c:Gl X "range")(d:X.mg "range"=θ)(f:PA X [a] T)(g:↥(Δ [a] X.env=[(ν,eval a X.env)])):PI X tg (.Call (.Name "range" p) [a] [] P) (Mg T):=by
 intro b s i H R I h;erw[Call_$ zN I c d boot_range$ Sr (a8 (f P b s i H _ I h) λu S z=>?_) g Z];let(v,o,k,l,Q):=z;let(j,e,Q,m,q):=Q;subst e;cases l with
 |cons r n=>cases n;let(t,rfl):=r;rwa[call_range_1$ Yj k PL PL Q m (q:)]
def qS(g:Gl X "range")(k:X.mg "range"=θ)(l:PA X [a,b] T)(m:↥(Δ [a,b] X.env=[(ν,eval a X.env),(ν,eval b X.env)]))(c:↥(Δ [b] X.env=[(ν,eval b X.env)])):
  PI X tg (.Call (.Name "range" p) [a,b] [] d) (Mh T):=by
 intro P s n H R I h;erw[Call_$ zN I g k boot_range$ Sr (a8 (l d P s n H _ I h) λU S #[V,z,o,u,Q]=>?_) (by rw[m,c]) (by rw[c];rfl)];obtain⟨i,j,e,⟨Q,v,w,x⟩,q⟩:=Q;subst e;cases u with
 |cons r f=>
  cases f with
  |cons y f=>cases f;let(t,rfl):=r;let(A,rfl):=y;rwa[call_range_2$ Yj o Q v w x q]
def IL(w:TI)(g:TG)(t:TS):TS:=λD a H=>w a H λJ d=>∃W:Nat->Nat->St->Hp->Prop,(∃m,W 0 m a d)/\∀i m a H,W i m a H->
 (J.stop i H/\D.nx a H)∨(J.go i H/\∃N:St->Hp->Prop,(∀b h,N b h->∃M,M < m/\W (i+1) M b h)/\∀x h,J.yld i H x h->g x a h λc e=>t { D with nx:=N,ct:=N,bk:=D.nx } c e)
noncomputable def ni(f:xL ζ)(h:de):xL (ζ×gs):=f.filterMap λb=>(h.get? b).map λo=>(b,o)
def zz{h:de}(H:b∈f)(e:h.get? b=δ o):(b,o)∈ni f h:=List.mem_filterMap.mpr #[b,H,by rw[e];rfl]
def u6(H:p∈ni f h):p.1∈f/\h.get? p.1=δ p.2:=by
 let(b,a,e):=List.mem_filterMap.mp H;cases q:h.get? b with
 |none=>rw[q]at e;cases e
 |some o=>rw[q]at e;let E:(b,o)=p:=Ss e;subst E;exact#[a,q]
def ay.pinned(I:ay X a c H s)(g:∀b∈f,iq X a H b)(i:∀b∈f,∃o,s.heap.get? b=δ o/\∀v,o.data≠ .cell v):ay X (a++ni f s.heap) c H s:=
 I.pins_of λp j=>(γ.mp j).elim (λz=>I.pin p (RW _ z)) λz=>by let(h,e):=u6 z;let(F,k,l,_):=g p.1 h;let(o,E,d):=i p.1 h;rw[e]at E;cases E;exact#[e,F,k,l,d]
def ay.unpinned(I:ay X (a++c) b H s):ay X a b H s:=I.pins_of λp h=>I.pin p (RW _$ Td _ h)
def j7{iter:dw}{B:xL cc}{wi:TI}{g:TG}{tb:TS}{P:Pos}(C:PassesOwn (χ X.prog X.w) X.A X.env X.xe)(hc:X.calm=μ)(hi:PI X tg iter wi)(hg:PG X tg g)(c:oe X B tb)
  (hs:autoParam (∀x,foldedSetIterable iter X.env x=pure x) Cv._auto_1):PS X (.For tg iter B [] P) (IL wi g tb):=by
 intro p s σ H D I h;erw[wpAny_For (a8 (hi p s σ H _ I h) λv s1 h1=>a8 h1 λi0 s2 h2=>?_) hs];obtain⟨it,F,tn,J,H2,e,I2,T,O,f2,W,⟨m0,w0⟩,E⟩:=h2;subst e;let S:∀{t:Hp},(∀b∈F,t b=θ)->∀b∈F,iq X p t b:=λhn b c=>#[hn b c,(f2 b c).2];erw[codeAny_forLoop_any (λn s'=>∃i j t,ay X p j t s'/\tn i s'.heap/\(∀b∈F,t b=θ)/\W i n j t) ?_ m0 #[0,σ,H2,I2,O,λb c=>(f2 b c).1,w0]];rintro n s3 ⟨i,k,M,I3,G,K,w3⟩;rcases E i n k M w3 with ⟨stop,qn⟩ | ⟨go,N,hN,step⟩
 .erw[Ug C$ a8 (T.done X Z Z Z hc i p s3 k M X.xe I3 (S K) G stop) λr s4 z=>?_];let(R,I4):=z;subst R;rwa[Uz #[k,M,I4,qn]]
 .erw[Ug C$ a8 (T.item X Z Z Z hc i p s3 k M X.xe I3 (S K) G go) λr s4 z=>?_];let(u,R,h4):=z;subst R;erw[Ug C$ a8 h4 λ_ s5 z=>?_];let(x,H5,I5,r5,y5,y,U):=z;let V:=I5.pinned (S U) (T.obj _ _ y);erw[Ug C$ a8 (hg _ s5 k H5 x u _ V r5$ step x H5 y5) λ_ s6 z=>?_];let(Y,H6,I6,q6):=z;erw[Ug C$ a8 (c _ s6 Y H6 _ I6 q6) λf s7 Q=>?_];let again:∀{a:St} {l:Hp},ay X (p++ni F s5.heap) a l s7->N a l->∃m,m < n/\∃i j t,ay X p j t s7/\tn i s7.heap/\(∀b∈F,t b=θ)/\W i m j t:=λ{a l} q L=>by let(m',hm,w7):=hN a l L;erw[#[m',hm,i+1,a,l,q.unpinned,T.keep _ _ _ y λb c o e=>(q.pin (b,o)$ RW _$ RW _$ zz c e).1,λb c=>?_,w7]];let(o,e,d):=T.obj _ _ y b c;exact(q.pin (b,o)$ RW _$ RW _$ zz c e).2.1
  cases f with
  |next |cont=>let(a,l,q,L):=Q;rwa[again q L]
  |brk=>let(a,l,q,Q):=Q;exact#[a,l,q.unpinned,Q]
  |ret v=>let(x7,a,l,q,r7,Q):=Q;exact#[x7,a,l,q.unpinned,r7,Q]
end
def xo{K:Ψ}{a:ζ}{X:xL V}{g:TG}{t:TS}{D:bp}{b:St}{H:Hp}(Pv:Nat->St->Hp->Prop)(k:Pv 0 b H)(l:∀i b H,i<=ο X->Pv i b H->aJ K H a X)
  (n:∀i x b H,X[i]?=δ x->Pv i b H->g x b H λc j=>t { D with nx:=Pv (i+1),ct:=Pv (i+1),bk:=D.nx } c j) (o:∀b H,Pv X.length b H->D.nx b H):
  ∃W:Nat->Nat->St->Hp->Prop,(∃m,W 0 m b H)/\∀i m b H,W i m b H->
   ((Br K a).stop i H/\D.nx b H)∨((Br K a).go i H/\∃N:St->Hp->Prop,(∀d h,N d h->∃M,M < m/\W (i+1) M d h)/\∀x h,(Br K a).yld i H x h->g x b h λc j=>t { D with nx:=N,ct:=N,bk:=D.nx } c j):=by
 erw[#[λi m b H=>m=ο X - i/\i<=ο X/\Pv i b H,#[X.length,PJ,RE _,k],?_]];rintro i m b H ⟨rfl,r,p⟩;let q:=l i b H r p;by_cases f:i < ο X
 .erw[.inr #[#[X,X[i],q,by simp [f]],Pv$ i+1,λd h P=>#[ο X - (i+1),N09,Z,f,P],λx h y=>?_]];let(e,y):=y;subst e;rwa[n i x b _ (y X q) p]
 .let e:i=ο X:=by omega
  subst e;rwa[.inl #[#[X,q,Rv _],o b H p]]
def Cj{K:Ψ}{a:ζ}{X:xL V}{g:TG}{t:TS}{D:bp}{b:St}{H:Hp}(Pv:Nat->St->Hp->Prop)(k:Pv 0 b H)(l:∀i b H,i<=ο X->Pv i b H->aC K H a X)
  (n:∀i x b H,X[i]?=δ x->Pv i b H->g x b H λc j=>t { D with nx:=Pv (i+1),ct:=Pv (i+1),bk:=D.nx } c j) (o:∀b H,Pv X.length b H->D.nx b H):
  ∃W:Nat->Nat->St->Hp->Prop,(∃m,W 0 m b H)/\∀i m b H,W i m b H->
   ((Bz K a).stop i H/\D.nx b H)∨((Bz K a).go i H/\∃N:St->Hp->Prop,(∀d h,N d h->∃M,M < m/\W (i+1) M d h)/\∀x h,(Bz K a).yld i H x h->g x b h λc j=>t { D with nx:=N,ct:=N,bk:=D.nx } c j):=by
 erw[#[λi m b H=>m=ο X - i/\i<=ο X/\Pv i b H,#[X.length,PJ,RE _,k],?_]];rintro i m b H ⟨rfl,r,p⟩;let q:=l i b H r p;by_cases f:i < ο X
 .erw[.inr #[#[X,X[i],q,by simp [f]],Pv$ i+1,λd h P=>#[ο X - (i+1),PL,Z,f,P],λx h y=>?_]];let(e,y):=y;subst e;rwa[n i x b _ (y X q) p]
 .let e:i=ο X:=by omega
  subst e;rwa[.inl #[#[X,q,Rv _],o b H p]]
def Q7{lo:Int}{n:Nat}{g:TG}{t:TS}{D:bp}{a:St}{H:Hp}(Pv:Nat->St->Hp->Prop)(j:Pv 0 a H)
  (k:∀i a H,i < n->Pv i a H->g (.int$ lo+i) a H λb f=>t { D with nx:=Pv (i+1),ct:=Pv (i+1),bk:=D.nx } b f) (l:∀a H,Pv n a H->D.nx a H):
  ∃W:Nat->Nat->St->Hp->Prop,(∃m,W 0 m a H)/\∀i m a H,W i m a H->
   ((wf lo n).stop i H/\D.nx a H)∨((wf lo n).go i H/\∃N:St->Hp->Prop,(∀c h,N c h->∃M,M < m/\W (i+1) M c h)/\∀x h,(wf lo n).yld i H x h->g x a h λb f=>t { D with nx:=N,ct:=N,bk:=D.nx } b f):=by
 erw[#[λi m a H=>m=n - i/\i<=n/\Pv i a H,#[n,PJ,RE _,j],?_]];rintro i m a H ⟨rfl,o,p⟩;by_cases d:i < n
 .erw[.inr #[d,Pv$ i+1,λc h P=>#[n - (i+1),N09,Z,d,P],λx h y=>?_]];let(e,y):=y;subst e y;rwa[k i a _ d p]
 .let e:i=n:=by omega
  subst e;rwa[.inl #[Rv _,l a H p]]
abbrev R2:=V->V->Hp->VK->Prop
def gf(X:Cx)(f:η->η->Sem η)(r:R2):Prop:=
 ∀(p:xL (ζ×gs)) (s:ι) (a:St) (H:Hp) (x y:V) (v u:η) (Q:VK),ay X p a H s->aK x v->aK y u->r x y H Q->
  π (χ X.prog X.w) X.A (f v u) (EP X p a Q) X.xe s
def N5(X:Cx)(f:η->Sem η)(r:V->Hp->VK->Prop):Prop:=
 ∀(p:xL (ζ×gs)) (s:ι) (a:St) (H:Hp) (x:V) (v:η) (Q:VK),ay X p a H s->aK x v->r x H Q->
  π (χ X.prog X.w) X.A (f v) (EP X p a Q) X.xe s
def dS(X:Cx)(f:η)(r:xL V->Hp->VK->Prop):Prop:=
 ∀(p:xL (ζ×gs)) (s:ι) (a:St) (H:Hp) (x:xL V) (u:xL η) (Q:VK),ay X p a H s->aF x u->r x H Q->
  π (χ X.prog X.w) X.A (call f u) (EP X p a Q) X.xe s
def N4(X:Cx)(r:V->Hp->(Bool->Hp->Prop)->Prop):Prop:=
 ∀(p:xL (ζ×gs)) (s:ι) (a:St) (H:Hp) (x:V) (v:η) (Q:Bool->Hp->Prop),ay X p a H s->aK x v->r x H Q->
  π (χ X.prog X.w) X.A (truthy v) (TP X p a Q) X.xe s
def fb(r:R2)(t T:TE):TE:=λa H Q=>t a H λx h=>T a h λy b=>r x y b Q
def Pp(r:V->Hp->VK->Prop)(t:TE):TE:=λa H Q=>t a H λx h=>r x h Q
inductive rI(C:Int->Int->Prop)(g:Int->Int->V)(x y:V)(H:Hp)(Q:VK):Prop
 |mk(i j:_)(_:x= .int i)(_:y= .int j)(_:C i j)(_:Q (g i j) H)
inductive Bv(g:Int->Int->V)(x y:V)(H:Hp)(Q:VK):Prop
 |mk(i j:_)(_:x= .int i)(_:y= .int j)(_:Q (g i j) H)
inductive rU(g:Int->V)(x:V)(H:Hp)(Q:VK):Prop
 |mk(i:_)(_:x= .int i)(_:Q (g i) H)
section
variable {X:Cx}{a b c:dw}{ta tb tc:TE}{pos:Pos}
def Fx(k:PE X a ta)(l:PE X b tb){R:V->V->Hp->Prop}(I:ay X p e H s)
  (h:ta e H λx j=>tb e j λy d=>R x y d)  {f:η->η->Sem η}
  (m:∀v u i x y d,ay X p e d i->aK x v->aK y u->R x y d->π (χ X.prog X.w) X.A (f v u) Q X.xe i):
  π (χ X.prog X.w) X.A (eval a X.env) (λv S=>π (χ X.prog X.w) X.A (eval b X.env) (λu g=>π (χ X.prog X.w) X.A (f v u) Q X.xe g) X.xe S) X.xe s:=by
 erw[a8 (k p s e H _ I h) λv n z=>?_];let(x,j,o,r,q):=z;erw[a8 (l p n e j _ o q) λu i z=>?_];let(y,d,t,B,C):=z;rwa[m v u i x y d t r B C]
def jw{o:Operator}{r:R2}(d:gf X (binaryOp o) r)(e:PE X a ta)(f:PE X b tb):PE X (.BinOp a o b pos) (fb r ta tb):=by intro p s g H Q I h;rwa[wpAny_BinOp$ Fx e f I h λv u S x y i j R k q=>d p S g i x y v u Q j R k q]
def yI(e:N5 X (unaryOp o) r)(f:PE X a ta):PE X (.UnaryOp o a pos) (Pp r ta):=by intro p s d H Q I h;rwa[UnaryOp_$ a8 (f p s d H _ I h) λv S #[x,g,i,R,q]=>e p S d g x v Q i R q]
def MD{f:η->η->Sem η}{C:Int->Int->Prop}{g:Int->Int->Int}
  (rule:∀(i j:Int) (t u:Tok) (s:ι) (Q:η->ι->Prop) (E:η->ι->Prop),C i j->Q (.int (g i j) s.toks) { s with toks:=s.toks+1 }->π (χ X.prog X.w) X.A (f (.int i t)$ .int j u) Q E s):
  gf X f (rI C λi j=>.int (g i j)):=by
 intro p s e H x y v u Q I r R h;let(i,j,rfl,rfl,d,q):=h;let(t,rfl):=r;let(T,rfl):=R;rwa[rule i j t T s _ _ d #[.int$ g i j,H,I.tok _,#[12],q]]
def ME{f:η->η->Sem η}{g:Int->Int->Int}
  (rule:∀(i j:Int) (t u:Tok) (s:ι) (Q:η->ι->Prop) (E:η->ι->Prop),Q (.int (g i j) s.toks) { s with toks:=s.toks+1 }->π (χ X.prog X.w) X.A (f (.int i t)$ .int j u) Q E s):
  gf X f (Bv λi j=>.int (g i j)):=by
 intro p s d H x y v u Q I r R h;let(i,j,rfl,rfl,q):=h;let(t,rfl):=r;let(T,rfl):=R;rwa[rule i j t T s _ _ #[.int$ g i j,H,I.tok _,#[12],q]]
def Hq{f:η->η->Sem η}{g:Int->Int->Bool}
  (rule:∀(i j:Int) (t u:Tok) (s:ι) (Q:η->ι->Prop) (E:η->ι->Prop),Q (.bool$ g i j) s->π (χ X.prog X.w) X.A (f (.int i t)$ .int j u) Q E s):
  gf X f (Bv λi j=>.bl (g i j)):=by
 intro p s d H x y v u Q I r R h;let(i,j,rfl,rfl,q):=h;let(t,rfl):=r;let(T,rfl):=R;rwa[rule i j t T s _ _ #[.bl$ g i j,H,I,Z,q]]
def NN(i j:Int):Prop:=0 < j/\j < 1073741824
def NO(i j:Int):Prop:=0<=j/\j<=1000000/\i.natAbs < 2 ^ 64
def Bw(i j:Int):Prop:=(-(2 ^ 64) < i/\i < 2 ^ 64)∨(-(2 ^ 64) < j/\j < 2 ^ 64)
def Bw.ok(h:Bw i j):IntMulOk i j:=by
 rcases h with ⟨H,d⟩ | ⟨H,d⟩
 .rwa[.of_left$ intBits_le_64 H d]
 .rwa[.of_right$ intBits_le_64 H d]
def jV:gf X (binaryOp .Add) (Bv λi j=>.int (i+j)):=ME λ_ _ _ _ _ _ _ q=>add_int q
def zg:gf X (binaryOp .Sub) (Bv λi j=>.int (i - j)):=ME λ_ _ _ _ _ _ _ q=>sub_int q
def zD:gf X (binaryOp .Mult) (rI Bw λi j=>.int (i*j)):=MD λ_ _ _ _ _ _ _ h q=>mul_int q h.ok
def C7:gf X (binaryOp .FloorDiv) (rI NN λi j=>.int (i / j)):=MD λi j _ _ _ _ _ h q=>by let H:(0:Int) < j:=h.1;let d:j < 1073741824:=h.2;rwa[floordiv_int PL (by rw[Wq i PL];rwa[q])$ .inl$ PyProof.noPylong_small N09]
def zu:gf X (binaryOp .Mod) (rI (λ_ j=>0 < j) λi j=>.int (i % j)):=MD λi j _ _ _ _ _ h q=>by let H:(0:Int) < j:=h;rwa[mod_int' PL (by rw[Int.fmod_eq_emod_of_nonneg i PL];rwa[q])]
def JR:gf X (binaryOp .Pow) (rI NO λi j=>.int (i ^ j.toNat)):=MD λ_ _ _ _ _ _ _ h q=>pow_int_small h.1 h.2.1 h.2.2 q
def Pr{f:η->Sem η}{g:Int->Int}
  (rule:∀(i:Int) (t:Tok) (s:ι) (Q:η->ι->Prop) (E:η->ι->Prop),Q (.int (g i) s.toks) { s with toks:=s.toks+1 }->π (χ X.prog X.w) X.A (f$ .int i t) Q E s):
  N5 X f (rU λi=>.int (g i)):=by
 intro p s d H x v Q I r h;let(i,rfl,q):=h;let(t,rfl):=r;rwa[rule i t s _ _ #[.int$ g i,H,I.tok _,#[12],q]]
def Zd:N5 X (unaryOp .USub) (rU λi=>.int (Neg.neg i)):=Pr λ_ _ _ _ _ q=>neg_int q
end
noncomputable def M5:V->V->Bool
 | .non,.non=>μ | .non,.int _=>μ | .int _,.non=>μ | .non,.bl _=>μ | .bl _,.non=>μ | .non,.str _=>μ | .str _,.non=>μ
 | .int _,.int _=>μ | .bl _,.bl _=>μ | .str _,.str _=>μ | .byt _,.byt _=>μ
 | .int _,.str _=>μ | .str _,.int _=>μ | .bl _,.str _=>μ | .str _,.bl _=>μ
 |_,_=>ν
def MN:R2:=λx y H Q=>M5 x y=μ/\Q (.bl$ decide$ x=y) H
def O6:R2:=λx y H Q=>M5 x y=μ/\Q (.bl (!decide (x=y))) H
def rn:decide (xb i=xb j)=(i==j):=by rw[Vu];simp
def wQ:decide (V.bl i=V.bl j)=(i==j):=by rw[Vu];simp
def rq:decide (vr i=vr j)=(i==j):=by rw[Vu];simp
def rj:decide (V.byt i=V.byt j)=(i.toList==j.toList):=by rw[Vu];cases i;cases j;simp
section
variable {X:Cx}{a b c:dw}{ta tb tc:TE}{pos:Pos}
def jR{Q:VK}(I:ay X p d H s)(q:Q (.bl k) H)(e:k=f):EP X p d Q (.bool f) s:=by subst e;exact#[.bl k,H,I,Z,q]
def qB:gf X (compareOp .Eq) MN:=by
 intro p s e H x y v u Q I R r h;let(d,q):=h;cases x with
 |non=>
  cases R;cases y with
  |non=>cases r;rwa[PySem.EqNone.eq_none_none (jR I q PJ)]
  |bl j=>cases r;rwa[PySem.EqNone.eq_none_bool (jR I q PJ)]
  |int j=>let(T,rfl):=r;rwa[PySem.EqNone.eq_none_int (jR I q PJ)]
  |str j=>let(T,rfl):=r;rwa[PySem.EqNone.eq_none_str (jR I q PJ)]
  |_=>rwa[absurd (show ν=μ from d) RI]
 |bl i=>
  cases R;cases y with
  |non=>cases r;rwa[PySem.EqNone.eq_bool_none (jR I q PJ)]
  |bl j=>cases r;rwa[eq_bool (jR I q wQ)]
  |str j=>let(T,rfl):=r;rwa[PySem.EqMixed.eq_bool_str (jR I q PJ)]
  |_=>rwa[absurd (show ν=μ from d) RI]
 |int i=>
  let(t,rfl):=R;cases y with
  |non=>cases r;rwa[PySem.EqNone.eq_int_none (jR I q PJ)]
  |int j=>let(T,rfl):=r;rwa[eq_int (jR I q rn)]
  |str j=>let(T,rfl):=r;rwa[PySem.EqMixed.eq_int_str (jR I q PJ)]
  |_=>rwa[absurd (show ν=μ from d) RI]
 |str i=>
  let(t,rfl):=R;cases y with
  |non=>cases r;rwa[PySem.EqNone.eq_str_none (jR I q PJ)]
  |bl j=>cases r;rwa[PySem.EqMixed.eq_str_bool (jR I q PJ)]
  |int j=>let(T,rfl):=r;rwa[PySem.EqMixed.eq_str_int (jR I q PJ)]
  |str j=>let(T,rfl):=r;rwa[eq_str (jR I q rq)]
  |_=>rwa[absurd (show ν=μ from d) RI]
 |byt i=>
  let(t,rfl):=R;cases y with
  |byt j=>let(T,rfl):=r;rwa[PySem.W.eq_bytes (jR I q rj)]
  |_=>rwa[absurd (show ν=μ from d) RI]
 |_=>cases y<;>rwa[absurd (show ν=μ from d) RI]
def QZ:gf X (compareOp .NotEq) O6:=by
 intro p s e H x y v u Q I R r h;let(d,q):=h;cases x with
 |non=>
  cases R;cases y with
  |non=>cases r;rwa[PySem.EqNone.ne_none_none (jR I q PJ)]
  |bl j=>cases r;rwa[PySem.EqNone.ne_none_bool (jR I q PJ)]
  |int j=>let(T,rfl):=r;rwa[PySem.EqNone.ne_none_int (jR I q PJ)]
  |str j=>let(T,rfl):=r;rwa[PySem.EqNone.ne_none_str (jR I q PJ)]
  |_=>rwa[absurd (show ν=μ from d) RI]
 |bl i=>
  cases R;cases y with
  |non=>cases r;rwa[PySem.EqNone.ne_bool_none (jR I q PJ)]
  |bl j=>cases r;rwa[ne_bool (jR I q (SM not wQ))]
  |str j=>let(T,rfl):=r;rwa[PySem.EqMixed.ne_bool_str (jR I q PJ)]
  |_=>rwa[absurd (show ν=μ from d) RI]
 |int i=>
  let(t,rfl):=R;cases y with
  |non=>cases r;rwa[PySem.EqNone.ne_int_none (jR I q PJ)]
  |int j=>let(T,rfl):=r;rwa[ne_int (jR I q (SM not rn))]
  |str j=>let(T,rfl):=r;rwa[PySem.EqMixed.ne_int_str (jR I q PJ)]
  |_=>rwa[absurd (show ν=μ from d) RI]
 |str i=>
  let(t,rfl):=R;cases y with
  |non=>cases r;rwa[PySem.EqNone.ne_str_none (jR I q PJ)]
  |bl j=>cases r;rwa[PySem.EqMixed.ne_str_bool (jR I q PJ)]
  |int j=>let(T,rfl):=r;rwa[PySem.EqMixed.ne_str_int (jR I q PJ)]
  |str j=>let(T,rfl):=r;rwa[ne_str (jR I q (SM not rq))]
  |_=>rwa[absurd (show ν=μ from d) RI]
 |byt i=>
  let(t,rfl):=R;cases y with
  |byt j=>let(T,rfl):=r;rwa[PySem.W.ne_bytes (jR I q (SM not rj))]
  |_=>rwa[absurd (show ν=μ from d) RI]
 |_=>cases y<;>rwa[absurd (show ν=μ from d) RI]
def Q0:gf X (compareOp .Lt) (Bv λi j=>.bl (decide$ i < j)):=Hq λ_ _ _ _ _ _ _ q=>lt_int q
def Jn:gf X (compareOp .Gt) (Bv λi j=>.bl (decide$ j < i)):=Hq λ_ _ _ _ _ _ _ q=>gt_int q
def yA:gf X (compareOp .GtE) (Bv λi j=>.bl (decide$ j<=i)):=Hq λ_ _ _ _ _ _ _ q=>ge_int q
def Ze:gf X (compareOp .Is) (λx y H Q=>y= .non/\Q (.bl$ decide$ x= .non) H):=by
 intro p s d H x y v u Q I r R h;let(rfl,q):=h;cases R;erw[is_none_gen$ jR I q ?_];cases x<;>first
  | (cases r;rfl)
  | (let(t,rfl):=r;rfl)
def C8:gf X (compareOp .IsNot) (λx y H Q=>y= .non/\Q (.bl (!decide (x= .non))) H):=by
 intro p s d H x y v u Q I r R h;let(rfl,q):=h;cases R;erw[isnot_none_gen$ jR I q ?_];cases x<;>first
  | (cases r;rfl)
  | (let(t,rfl):=r;rfl)
def aG(b:dw)(h:↥(o≠ .In))(H:↥(o≠ .NotIn)):behindInMarks o b=ν:=by
 let e:(o==CmpOp.In)=ν:=by cases o<;>first |rfl |exact absurd Z h
 let E:(o==CmpOp.NotIn)=ν:=by cases o<;>first |rfl |exact absurd Z H
 cases b<;>simp [behindInMarks,e,E]
def Kt(d:gf X (compareOp o) r)(e:PE X a ta)(f:PE X b tb)(g:behindInMarks o b=ν):PE X (.Compare a [o] [b] pos) (fb r ta tb):=by intro p s i H Q I h;rwa[wpAny_Compare1 (Fx e f I h λv u S x y j k R l q=>d p S i j x y v u Q k R l q) g]
inductive A0(Q:Bool->Hp->Prop)(x:V)(a:Hp):Prop
 |mk(k:_)(_:x= .bl k)(_:Q k a)
def mX(t:TE):TT:=λd H Q=>t d H (A0 Q)
def jB{o:CmpOp}{r:R2}(f:gf X (compareOp o) r)(g:PE X a ta)(i:PE X b tb)(j:behindInMarks o b=ν):PT X (.Compare a [o] [b] pos) (mX$ fb r ta tb):=by
 intro p s d H Q I h;refine wpAny_isTrue_Compare1 (a8 (g p s d H _ I h) λv S #[x,l,m,R,q]=>a8 (i p S d l _ m q) λu n #[y,t,w,A,B]=>
  a8 (f p n d t x y v u _ w R A B) λc G #[z,C,D,E,k,e,F]=>?_) j
 subst e;cases E;rwa[UK #[C,D,F]]
def Lz(K:Ψ)(x:V)(H:Hp)(k:Bool):Prop:=
 match x with
 | .non=>k=ν
 | .bl b=>k=b
 | .int i=>k=(i != 0)
 | .str y=>y.length<=υ/\k=((y.length:Int) != 0)
 | .byt y=>y.size<=υ/\k=((y.size:Int) != 0)
 | .ref p=>(∃d,aJ K H p d/\k=!d.isEmpty)∨(∃d,aC K H p d/\k=!d.isEmpty)∨∃e,H p=δ (.dK e)/\k=!e.isEmpty
 |_=>False
def Zr{d:Type}{k:xL (d×V)}{v:xL (d×η)}(r:KV k v):(!v.isEmpty)=!k.isEmpty:=by cases r<;>rfl
def Qk(r:aF x i):(!i.toArray.isEmpty)=!x.isEmpty:=by cases r<;>simp
def gu:(υ:Nat) < 2 ^ 63:=by rw[Ua];decide
def IP:N4 X (λx H Q=>∃k,Lz X.K x H k/\Q k H):=by
 intro o s B H x v Q I R h;let(k,e,q):=h;let C:=gu;let D:υ=16777216:=Ua;cases x with
 |non=>cases R;let E:k=ν:=e;subst E;rwa[truthy_none #[H,I,q]]
 |bl b=>cases R;let E:k=b:=e;subst E;rwa[UK #[H,I,q]]
 |int i=>let(t,rfl):=R;let E:k=(i != 0):=e;subst E;rwa[PySem.P.truthy_int #[H,I,q]]
 |str y=>let(t,rfl):=R;obtain⟨z,E⟩:y.length<=υ/\k=((y.length:Int) != 0):=e;subst E;rwa[PySem.P.truthy_str PL #[H,I.tok _,q]]
 |byt y=>let(t,rfl):=R;obtain⟨z,E⟩:y.size<=υ/\k=((y.size:Int) != 0):=e;subst E;rwa[PySem.W.truthy_bytes PL #[H,I.tok _,q]]
 |ref p=>
  cases R;let E:(∃g,aJ X.K H p g/\k=!g.isEmpty)∨(∃g,aC X.K H p g/\k=!g.isEmpty)∨∃d,H p=δ (.dK d)/\k=!d.isEmpty:=e;rcases E with ⟨g,j,E⟩ | ⟨g,j,E⟩ | ⟨d,j,E⟩
  .subst E;let(l,r,n,u):=I.list j;let f:=r.length;rwa[wpAny_truthy_list n.isList (by simp only[Rx];omega) #[H,I.tok _,by rw[Qk r];rwa[q]]]
  .subst E;let(l,r,n,u):=I.tuple j;let f:=r.length;rwa[truthy_tuple n (by simp only[Rx];omega) #[H,I.tok _,by rw[Qk r];rwa[q]]]
  .subst E;obtain⟨u,A,V,r,m⟩:ο d<=υ/\(p==sysModules)=ν/\∃V,KV d V/\s.heap.DictOf (be X.prog X.w) p V:=I.hok p _ j;let f:ο d=ο V:=Paired.length r;rwa[wpAny_truthy_dict A m PL #[H,I.tok _,by rw[Zr r];rwa[q]]]
 |_=>exact(show False from e).elim
def yO(f:PE X a ta)(g:∀w,isTrue a X.env w=(do let v <- w;standAt a.pos;mB [v] (truthy v))):
  PT X a (λd H Q=>ta d H λx e=>∃k,Lz X.K x e k/\Q k e):=by
 intro p s d H Q I h;rwa[isTrue_plain (a8 (f p s d H _ I h) λv S #[x,i,j,r,q]=>IP p S d i x v Q j r q)$ g _]
inductive JH(x y:V)(H:Hp)(Q:VK):Prop
 |mk(i j:_)(_:x= .str i)(_:y= .str j)(_:i.length+j.length<=υ)(_:Q (.str (i++j)) H)
def zV:gf X (binaryOp .Add) JH:=by intro p s e H x y v u Q I r R h;let(i,j,rfl,rfl,d,q):=h;let(t,rfl):=r;let(T,rfl):=R;rwa[add_str (λT f=>#[.str$ i++j,H,I.tok _,#[12],q]) d]
def fo(r:aF [x] U):∃u,U=[u]/\aK x u:=by
 cases r with
 |cons R d=>cases d;exact#[12,R]
def Fh(r:aF [x,y] U):∃u w,U=[u,w]/\aK x u/\aK y w:=by
 cases r with
 |cons R d=>
  cases d with
  |cons e f=>cases f;exact#[112,R,e]
inductive Kc(a:xL V)(H:Hp)(Q:VK):Prop
 |mk(i j:_)(_:a=[.int i,.int j])(_:Q (.int (if j < i then j else i)) H)
def Q8(e:X.calm=μ):dS X (.builtin "min") Kc:=by
 intro p s f H x U Q I r h;let(i,j,rfl,q):=h;obtain⟨u,w,rfl,⟨t,rfl⟩,⟨T,rfl⟩⟩:=Fh r;erw[min_two_ints (I.ok.hd e) λg l k=>#[_,H,I.kept k,?_,q]];by_cases d:j < i
 .rw[RB d,RB d];exact#[12]
 .rw[RD d,RD d];exact#[12]
def qT:dS X (.type "int") (λx H Q=>(∃i,x=[.int i]/\Q (.int i) H)∨∃k,x=[.bl k]/\Q (.int (if k then 1 else 0)) H):=by
 intro p s d H x U Q I r h;rcases h with ⟨i,rfl,q⟩ | ⟨k,rfl,q⟩
 .let(u,rfl,t,rfl):=fo r;rwa[call_int_int #[.int i,H,I,#[12],q]]
 .let(u,rfl,R):=fo r;cases R;rwa[call_int_bool #[.int (if k then 1 else 0),H,I.tok _,#[12],q]]
end
structure pC(h:de)(x dx C:ζ)(mA:ρ->ym η):Prop where
 obj:h.get? x=δ (instObj C dx)
 ns:h.Ns1 dx mA
 ne:dx≠x
def uT{h:de}(n:h.Ns1 d m):∃O,h.get? d=δ O/\∀name,lookIn name O=δ (m name):=by
 let(o,E,j,b,c,f,_,g):=n;erw[#[o,b,λname=>?_]];let e:=g name;unfold nsFind findBy at e;rw[<- Array.find?_toList]at e;unfold lookIn;rw[c];dsimp only;split
 .rename_i y q
  rw[q]at e;rwa[SM δ e]
 .rename_i q
  rw[q]at e;let a:E.toList.any (·.refKey)=ν:=by rw[List.any_eq_false];intro y i;let(z,t,H):=f y (Array.mem_toList_iff.mp i);simp [DictEntry.refKey,H]
  let A:¬E.toList.any (·.refKey)=μ:=by rw[a];rwa[RI]
  rw[RD A];rwa[SM δ e]
def pC.look(I:pC h x d C m):∃o,PySem.W.InstAt h x (instObj C d) C (δ o)/\∀name,lookIn name o=δ (m name):=
 let #[o,H,a]:=uT I.ns
 #[o,#[I.obj,22,H],a]
section
variable {prog:ω}{w:bF}{A:bU}{E:η->ι->Prop}{s:ι}{K:Ψ}{x dx C f:ζ}{mA:ρ->ym η}{name:ρ}{v:η}
def Ck{Q:η->ι->Prop}(X:K.In s.heap)(I:pC s.heap x dx C mA)(a:plainGet K C name=μ)(b:hasDictIn K C=μ)
  (c:findIn K (.ref C) name=δ θ) (d:mA name=δ v) (H:PySem.W.handedIn v=μ) (h:Q v { s with toks:=s.toks+1 }):
  π (χ prog w) A (getAttr (.ref x) name e) Q E s:=by
 let(o,J,g):=I.look;rwa[PySem.W.get_value X J (Vz a).1 (PySem.W.findObj_own b c Z (by rw[g,d])) H h]
def xC{Q:η×xL η->ι->Prop}(X:K.In s.heap)(I:pC s.heap x dx C mA)(H:plainGet K C name=μ)
  (a:findIn K (.ref C) name=δ (↑f)) (b:isFn K (.ref f)=μ) (c:mA name=θ) (h:Q (.ref f,[.ref x]) s):
  π (χ prog w) A (getMethod (.ref x) name p) Q E s:=by
 let(o,J,d):=I.look;rwa[PySem.W.method_fn X J (Vz H).1 (Vz H).2 a (beq_iff_eq.mp b) (by show(lookIn name o).map (·.isSome)=δ ν;rw[d,c];rfl) h]
def DQ{Q:Unit->ι->Prop}(X:K.In s.heap)(I:pC s.heap x dx C mA)
  (k:findIn K (.ref C) "__setattr__"=δ (δ$ .builtin "object.__setattr__")) (l:PySem.W.plainOver K C=μ) (m:ry K C name=δ θ) (n:hasDictIn K C=μ)
  (o:rm mA N) (p:ο N<=υ)
  (h:∀d,pC d x dx C (λy=>if y=name then δ v else mA y)->fx dx s.heap d->Q () { s with heap:=d,toks:=s.toks+2 }):
  π (χ prog w) A (setAttr (.ref x) name v) Q E s:=by
 let(O,J,B):=I.look;erw[PySem.W.set_plain X J k$ PySem.W.osa_open (s:={ s with toks:=s.toks+1 }) (r:=θ) X J l m λb=>?_];let(D,q,e):=PySem.W.any_some n;let t:s.heap.get? x=δ #[.ref C,δ dx,.plain,(ε [])]:=I.obj;erw[Rp$ Rt$ Rp$ Rp$ WT t$ Rp$ PySem.W.Looks.here (s:={ s with toks:=s.toks+1 }) (PySem.W.looks_clsIn X q) ?_];rw[e];erw[Rt (a:=δ dx)$ Rp$ Rt$ Rp ?_];erw[wpAny_nsSet1 (s:={ s with toks:=s.toks+1 }) I.ns λd H c=>?_];let(F,u,z,g,i,j):=H.count (rm.cons name v o);erw[Rp$ wpAny_lookBehind g (by rw[i];rwa[pastItsLine_dict$ RM j (by rw[Sa];omega)]) ?_];rwa[Rt$ h _ #[(c.2 _$ Sc I.ne).trans I.obj,H,I.ne] c]
def xY{R:Result->ι->Prop}(X:K.In s.heap)(H:PySem.W.makesIn K C=μ)
  (b:findIn K (.ref C) "__init__"=δ (↑f)) (c:typeIn K (.ref f)=δ (.type "function"))
  (h:lq (χ prog w) (A.under$ .builtin "type.__call__" #[.ref C::a,k]) (.call (.ref f) #[.ref (-s+1)::a,k]) (PySem.W.InitBack (-s+1) R)
   {(s.heap.push emptyDict).push (instObj C (-s))}):
  lq (χ prog w) A (.call (.ref C) #[a,k]) R s:=by
 let(e,g,d,t,os):=s;rwa[PySem.W.make_core (PySem.W.makes_of X H) (PySem.W.looks_findIn X b) (λS=>PySem.W.bind_fn X S c) (.inl Z) h]
end
noncomputable def gw(f:ρ)(v:V):xL (ρ×V)->xL (ρ×V)
 | []=>[(f,v)]
 | (g,x)::r=>if g=f then (g,v)::r else (g,x)::gw f v r
theorem Kd(f g:ρ)(v:V):∀F:xL (ρ×V),(gw f v F).lookup g=if g=f then δ v else F.lookup g
 | []=>by
  show ib g [(f,v)]=_;by_cases h:g=f
  .let H:(g==f)=μ:=beq_iff_eq.mpr h;simp only[ib,H,RB h]
  .let H:(g==f)=ν:=beq_eq_false_iff_ne.mpr h;simp only[ib,H,RD h]
 | (k,x)::r=>by
  let i:=Kd f g v r;rw[show gw f v ((k,x)::r)=(if k=f then (k,v)::r else (k,x)::gw f v r) from Z];by_cases a:k=f
  .rw[RB a];by_cases h:g=k
   .let H:(g==k)=μ:=beq_iff_eq.mpr h;simp only[ib,H,RB$ h.trans a]
   .let H:(g==k)=ν:=beq_eq_false_iff_ne.mpr h;simp only[ib,H,RD (λe:g=f=>h (e.trans a.symm))]
  .rw[RD a];by_cases h:g=k
   .let H:(g==k)=μ:=beq_iff_eq.mpr h;simp only[ib,H,RD (λe:g=f=>a (h.symm.trans e))]
   .let H:(g==k)=ν:=beq_eq_false_iff_ne.mpr h;simp only[ib,H];rwa[i]
theorem J1(f:ρ)(v:V):∀F:xL (ρ×V),f∈(gw f v F).map (·.1)/\∀g,g∈F.map (·.1)->g∈(gw f v F).map (·.1)
 | []=>#[by simp [gw],λg h=>by simp at h]
 | (k,x)::r=>by
  let(i,I):=J1 f v r;rw[show gw f v ((k,x)::r)=(if k=f then (k,v)::r else (k,x)::gw f v r) from Z];by_cases H:k=f
  .rw[RB H];subst H;exact#[PJ,λg h=>by simpa using h]
  .rw[RD H];refine#[?_,λg h=>?_]
   .rw[SR];rwa[RZ _ i]
   .rw[SR]at h ⊢;rcases Ξ.mp h with e |e
    .rwa[Ξ.mpr$ .inl e]
    .rwa[RZ _$ I g e]
theorem Ke(f:ρ)(v:V):∀F:xL (ρ×V),(gw f v F).length<=ο F+1
 | []=>by simp [gw]
 | (k,x)::r=>by
  let i:=Ke f v r;rw[show gw f v ((k,x)::r)=(if k=f then (k,v)::r else (k,x)::gw f v r) from Z];by_cases h:k=f
  .rw[RB h,Sa,Sa];omega
  .rw[RD h,Sa,Sa];omega
def fe.some_of{v:V}{o:ym η}(r:fe (δ v) o):∃u,o=δ u/\aK v u:=by
 cases o with
 |none=>exact(show False from r).elim
 |some u=>exact#[u,Z,r]
def fe.none_of(r:fe θ o):o=θ:=by
 cases o with
 |none=>rfl
 |some u=>exact(show False from r).elim
def uJ(r:aK v u):PySem.W.handedIn u=μ:=by
 cases v with
 |non=>cases (show u=β from r);rfl
 |bl b=>cases (show u=nz b from r);rfl
 |int i=>let(t,e):=(show ∃t,u=ic i t from r);cases e;rfl
 |str x=>let(t,e):=(show ∃t,u=lu x t from r);cases e;rfl
 |byt b=>let(t,e):=(show ∃t,u=Value.bytes b t from r);cases e;rfl
 |flt b=>let(t,e):=(show ∃t,u=Value.float b t from r);cases e;rfl
 |ref a=>cases (show u=Θ a from r);rfl
 |ty n=>cases (show u=fr n from r);rfl
section
variable {P:ω}{w:bF}{H H':Hp}{h h':de}{a C dx:ζ}{fs fs':xL (ρ×V)}
def Ku(b:gL P w H h)(e:H a=δ (.ins C dx fs)):∃m,pC h a dx C m/\(∀f,fe (fs.lookup f)$ m f)/\rm m (fs.map (·.1))/\ο fs<=1000/\H dx=δ (.own a):=by let(d,z,N,o,m,n,r,q):=(show aU P w H h a (.ins C dx fs) from b a _ e);exact#[m,#[o,n,N],r,q,z,d]
end
structure ue(K:Ψ)(C:ζ):Prop where
 pg:plainGet K C Str.empty=μ
 hd:hasDictIn K C=μ
 po:PySem.W.plainOver K C=μ
 sa:findIn K (.ref C) "__setattr__"=δ (δ$ .builtin "object.__setattr__")
def ue.get{K:Ψ}(c:ue K C)(f:ρ):plainGet K C f=μ:=c.pg
def ba(K:Ψ)(C:ζ)(f:ρ):Prop:=findIn K (.ref C) f=δ θ
def ba.taker{K:Ψ}(n:ba K C f):ry K C f=δ θ:=by unfold ry;rw[show findIn K (.ref C) f=δ θ from n];rfl
structure bo(K:Ψ)(C:ζ)(m:ρ)(f:ζ):Prop where
 at_:findIn K (.ref C) m=δ (↑f)
 fn:isFn K (.ref f)=μ
 kp:hG K (.ref f)=μ
section
variable {X:Cx}{pins:xL (ζ×gs)}{σ:St}{H:Hp}{s:ι}{a C dx:ζ}{fs:xL (ρ×V)}{f:ρ}{v:V}{A:bU}{E:η->ι->Prop}
def Ql{Q:η->ι->Prop}(I:ay X pins σ H s)(e:H a=δ (.ins C dx fs))(c:ue X.K C)(n:ba X.K C f)(l:fs.lookup f=δ v)
  (h:∀u S,ay X pins σ H S->aK v u->Q u S):π (χ X.prog X.w) A (getAttr (.ref a) f b) Q E s:=by
 let(m,O,r,_,_,_):=Ku I.hok e;let(u,d,R):=fe.some_of (v:=v) (o:=m f) (by rw[<- l];rwa[r f]);rwa[Ck I.kIn O (c.get f) c.hd n d (uJ R)$ h u _ (I.tok _) R]
def Qm{Q:η×xL η->ι->Prop}(I:ay X pins σ H s)(e:H a=δ (.ins C dx fs))(c:ue X.K C)(k:bo X.K C m g)(l:fs.lookup m=θ)
  (h:Q (.ref g,[.ref a]) s):π (χ X.prog X.w) A (getMethod (.ref a) m p) Q E s:=by
 let(M,O,r,_,_,_):=Ku I.hok e;let b:M m=θ:=fe.none_of (by rw[<- l];rwa[r m]);rwa[xC I.kIn O (c.get m) k.at_ k.fn b h]
def Qn{Q:Unit->ι->Prop}(I:ay X pins σ H s)(e:H a=δ (.ins C dx fs))(c:ue X.K C)(n:ba X.K C f)(F:ο fs < 1000)(R:aK y u)
  (h:∀S,ay X pins σ (af H a$ .ins C dx$ gw f y fs) S->Q () S):π (χ X.prog X.w) A (setAttr (.ref a) f u) Q E s:=by
 let(m,O,r,W,_,i):=Ku I.hok e;let j:(fs.map (·.1)).length<=υ:=by rw[Rs,Ua];omega
 erw[DQ I.kIn O c.sa c.po n.taker c.hd W j λk d l=>h _ ?_];let p:∃o,k.get? dx=δ o:=let #[o,11,t,_]:=d.ns;#[o,t]
 erw[I.write (x:=a) (e:=dx) (by rw[e];rwa[True.intro]) (.inr i) (λb q B z=>(l.2 b B).trans z) p ?_];erw[#[by rw[ji O.ne];rwa[i],?_,O.ne,d.obj,_,d.ns,λg=>?_,λg D=>?_]]
 .let:=Ke f y fs;omega
 .show fe ((gw f y fs).lookup g) (if g=f then δ u else m g);rw[Kd];by_cases q:g=f
  .rw[RB q,RB q];rwa[R]
  .rw[RD q,RD q];rwa[r g]
 .by_cases q:g=f
  .rw[q];exact(J1 f y fs).1
  .erw[(J1 f y fs).2 g (W g λz=>D ?_)];show(if g=f then δ u else m g)=θ;rw[RD q];rwa[z]
def ay.made(I:ay X pins σ H s):ay X pins σ (af (af H (-s)$ .own$ -s+1) (-s+1)$ .ins C (-s) [])
  {(s.heap.push emptyDict).push (instObj C (-s))}:=by
 let c:(s.heap.push emptyDict).get? (-s)=δ emptyDict:=Ry s.heap Z;let d:((s.heap.push emptyDict).push$ instObj C (-s)).get? (-s+1)=δ (instObj C (-s)):=by let:=Ry (s.heap.push emptyDict) (o:=instObj C (-s)) Z;rw[SA]at this;assumption
 let g:(s.heap.push emptyDict).Ns (-s) (λ_=>θ):=#[emptyDict,(ε []),_,c,Z,(λe h=>absurd h PJ),λ_=>Z];let i:=I.laid (a:=-s) (o:=.own (-s+1)) (h':=s.heap.push emptyDict) (t':=s.toks) (λb u q=>Rr _ q) (Rv _) #[_,c];erw[i.laid (a:=-s+1) (o:=.ins C (-s) []) (t':=s.toks) (λb u q=>Rr _ q) (U0$ SA _ _) ?_];let n:-s≠-s+1:=RJ (Ti _);erw[#[by rw[ji n,jc],RE _,n,d,λ_=>θ,(Heap.Ns1.of_empty g).at λo q=>Rr _ q,λ_=>True.intro,λy j=>absurd Z j]]
def BP{f:ρ}{s:ι}(c:attributeBase e f b (eval e b)=eval e b)
  (h:π (χ p w) A (eval e b) (λo S=>π (χ p w) A (getAttr o f μ) Q E S) E s):π (χ p w) A (eval (.Attribute e f d) b) Q E s:=
 Attribute_any_ h (by rw[arm_eval_Attribute,c])
end
inductive Fd(K:Ψ)(f:ρ)(Q:VK)(x:V)(b:Hp):Prop
 |mk(a C c d v:_)(_:x= .ref a)(_:b a=δ (.ins C c d))(_:ue K C)(_:ba K C f)(_:d.lookup f=δ v)(_:Q v b)
def OD(K:Ψ)(t:TE)(f:ρ):TE:=λa H Q=>t a H (Fd K f Q)
inductive ER(K:Ψ)(f:ρ)(D:bp)(e:St)(y x:V)(b:Hp):Prop
 |mk(a C c d:_)(_:x= .ref a)(_:b a=δ (.ins C c d))(_:ue K C)(_:ba K C f)(_:ο d < 1000)(_:D.nx e (af b a (.ins C c (gw f y d))))
def On(K:Ψ)(t T:TE)(f:ρ):TS:=λD a H=>T a H λy h=>t a h (ER K f D a y)
def Ln(X:Cx)(o:Operator)(r:V->V->Hp->VK->Prop):Prop:=
 ∀(p:xL (ζ×gs)) (s:ι) (a:St) (H:Hp) (x y:V) (u v:η) (Q:VK),ay X p a H s->aK x u->aK y v->r x y H Q->π (χ X.prog X.w) X.A (inplaceOp o u v) (EP X p a Q) X.xe s
inductive ou(K:Ψ)(g:TE)(e:V->V->Hp->VK->Prop)(f:ρ)(D:bp)(h:St)(x:V)(b:Hp):Prop
 |mk(a C c d v:_)(_:x= .ref a)(_:b a=δ (.ins C c d))(_:ue K C)(_:ba K C f)(_:d.lookup f=δ v)(_:g h b λy H2=>e v y H2 λz H3=>∃dx' fs',H3 a=δ (.ins C dx' fs')/\ο fs' < 1000/\D.nx h (af H3 a (.ins C dx' (gw f z fs'))))
def Dx(K:Ψ)(t T:TE)(r:V->V->Hp->VK->Prop)(f:ρ):TS:=λD a H=>t a H (ou K T r f D a)
section
variable {X:Cx}{o e value:dw}{f:ρ}{pos pos' tpos:Pos}{ta tv:TE}
def zh(b:PE X e ta)(d:attributeBase e f X.env (eval e X.env)=eval e X.env):PE X (.Attribute e f pos) (OD X.K ta f):=by intro p s g H Q I h;erw[BP d$ a8 (b p s g H _ I h) λu S z=>?_];let(x,i,j,r,a,C,D,F,v,E,k,c,n,l,q):=z;subst E;obtain rfl:u=Θ a:=r;rwa[Ql j k c n l λU t m R=>#[v,i,m,R,q]]
def qD(d:PE X o ta)(g:PE X value tv)(i:swapsWith value (δ$ .Attribute o f pos') pos.line X.env=pure ν):PS X (.Assign [.Attribute o f pos'] value pos) (On X.K ta tv f):=by intro p s b H D I h;erw[plainObj_wpAny_Assign_Attribute (a8 (g p s b H _ I h) λu S #[y,j,k,r,q]=>a8 (d p S b j _ k q) λO w z=>?_) i];let(x,A,m,R,a,C,B,F,E,t,c,n,l,Q):=z;subst E;obtain rfl:O=Θ a:=R;rwa[Qn m t c n l r λG v=>#[b,_,v,Q]]
def vE{O:Operator}{r:V->V->Hp->VK->Prop}(i:PE X o ta)(j:PE X value tv)(g:Ln X O r):PS X (.AugAssign (.Attribute o f tpos) O value pos) (Dx X.K ta tv r f):=by intro p s d H D I h;erw[wpAny_AugAssign_AttributeAny$ a8 (i p s d H _ I h) λk s1 b=>?_];let(x,m,t,R,a,C,dx,fs,v,w,A,c,n,l,q):=b;subst w;obtain rfl:k=Θ a:=R;erw[Ql t A c n l λu S B F=>a8 (j p S d m _ B q) λW G #[y,J,L,M,Q]=>a8 (g p G d J v y u W _ L F M Q) λw4 s4 b=>?_];let(z,H3,N,P,T,U,E,Y,q4):=b;rwa[Qn N E c n Y P λs5 I5=>#[d,_,I5,q4]]
inductive MM(x y:V)(H:Hp)(Q:VK):Prop
 |mk(i j:_)(_:x= .int i)(_:y= .int j)(_:Q (.int (i+j)) H)
def Gc:Ln X .Add MM:=by rintro p s a H x y u v Q I r R ⟨i,j,rfl,rfl,q⟩;let(t,rfl):=(show ∃t,u=ic i t from r);let(T,rfl):=(show ∃T,v=ic j T from R);rwa[PyProof.Rows.iadd_int #[.int$ i+j,H,I.tok _,#[12],q]]
end
section
variable {X:Cx}{pins:xL (ζ×gs)}{σ:St}{H:Hp}{s:ι}{A:bU}{E:η->ι->Prop}{Q:η->ι->Prop}{c:η}{b:Bool}
inductive iQ(K:Ψ)(H:Hp):V->η->Prop where
 |non:iQ K H .non (.type "NoneType")
 |bl (x:Bool):iQ K H (.bl x) (.type "bool")
 |int (i:Int):iQ K H (.int i) (.type "int")
 |str (x:ρ):iQ K H (.str x) (.type "str")
 |flt (x:UInt64):iQ K H (.flt x) (.type "float")
 |lst {a:ζ} {xs:xL V} (e:H a=δ (.lst xs)):iQ K H (.ref a) (.type "list")
 |frz {a:ζ} {o:gs} {xs:xL V} (e:H a=δ (.frz o (.lst xs))):iQ K H (.ref a) (.type "list")
 |tup {a:ζ} {xs:xL V} (e:H a=δ (.tup xs)):iQ K H (.ref a) (.type "tuple")
 |dK {a:ζ} {kvs:xL (bY×V)} (e:H a=δ (.dK kvs)):iQ K H (.ref a) (.type "dict")
 |dT {a:ζ} {kvs:xL (xL bY×V)} (e:H a=δ (.dT kvs)):iQ K H (.ref a) (.type "dict")
 |ins {a C dx:ζ} {fs:xL (ρ×V)} (e:H a=δ (.ins C dx fs)) (cl:ue K C) (ha:findIn K (.ref C) "__class__"=δ (δ (.builtin "object.__class__")))
   (hn:specialIn K (.builtin "object.__class__") "__get__"=δ (δ$ .builtin "getset_descriptor.__get__")) (htk:PySem.W.takesIn K (.builtin "object.__class__")=δ μ)
   (hm:mroIn K C (.type "object")=δ μ):iQ K H (.ref a) (.ref C)
def uN(I:ay X pins σ H s)(r:aK x u)(T:iQ X.K H x t)(e:kitOne X.K t c=δ b)(h:∀v,Q (.bool b) { s with toks:=v }):
  π (χ X.prog X.w) A (call (.builtin "isinstance") [u,c]) Q E s:=by
 cases T with
 |non=>cases (show u=β from r);rwa[U4 PySem.W.kitx_none I.kIn True.intro e (λz=>nomatch z) h]
 |bl y=>cases (show u=nz y from r);rwa[U4 PySem.W.kitx_bool I.kIn True.intro e (λz=>nomatch z) h]
 |int i=>let(t,q):=(show ∃t,u=ic i t from r);cases q;rwa[U4 PySem.W.kitx_int I.kIn True.intro e (λz=>nomatch z) h]
 |str y=>let(t,q):=(show ∃t,u=lu y t from r);cases q;rwa[U4 PySem.W.kitx_str I.kIn True.intro e (λz=>nomatch z) h]
 |flt y=>let(t,q):=(show ∃t,u=Value.float y t from r);cases q;rwa[U4 PySem.W.kitx_float I.kIn True.intro e (λz=>nomatch z) h]
 | @lst a g d=>cases (show u=Θ a from r);let(_,_,n,_,f):=(show aU X.prog X.w H s.heap a (.lst g) from I.hok a _ d);rwa[U4 Z' I.kIn #[_,f,Z] e (λz=>nomatch z) h]
 | @frz a B g d=>cases (show u=Θ a from r);let(_,_,_,n,_,f):=(show aU X.prog X.w H s.heap a (.frz B$ .lst g) from I.hok a _ d);rwa[U4 Z' I.kIn #[_,f,Z] e (λz=>nomatch z) h]
 | @tup a g d=>cases (show u=Θ a from r);let(_,_,_,p):=(show aU X.prog X.w H s.heap a (.tup g) from I.hok a _ d);let(o,f,j,_):=p;rwa[U4 PySem.W.kitx_tuple I.kIn #[o,f,j] e (λz=>nomatch z) h]
 | @dK a k d=>cases (show u=Θ a from r);let(_,_,V,_,p):=(show aU X.prog X.w H s.heap a (.dK k) from I.hok a _ d);let(o,D,F,f,j,_):=p;rwa[U4 PySem.W.kitx_dict I.kIn #[o,f,j.1] e (λz=>nomatch z) h]
 | @dT a k d=>cases (show u=Θ a from r);let(_,_,g,_,o,D,F,f,j,_):=(show aU X.prog X.w H s.heap a (.dT k) from I.hok a _ d);rwa[U4 PySem.W.kitx_dict I.kIn #[o,f,j.1] e (λz=>nomatch z) h]
 | @ins a C N P d m G L l M=>cases (show u=Θ a from r);let(R,O,_):=Ku I.hok d;let(S,J,_):=O.look;rwa[U4 (PySem.W.kitx_own (m.get _) m.hd G L l M) I.kIn J e (λz=>nomatch z) h]
end
structure cf(k:Nat)(A:bU):Prop where
 hd:A.handled=θ
 dp:A.depth+3*k+5 < recursionLimit
 un:A.units+16*k+200 < cLine
def cf.mono(r:cf k A)(h:j<=k):cf j A:=#[r.hd,by let:=r.dp;omega,by let:=r.un;omega]
def cf.deeper(r:cf (k+1) A)(e:Env):cf k (A.deeper e):=
 #[r.hd,by let:=r.dp;show A.depth+1+3*k+5 < _;omega,by let:=r.un;show A.units+3+16*k+200 < _;omega]
def Zs{A:bU}:(A.under$ .builtin "type.__call__" #[.ref C::u,k]).depth=A.depth+1:=by
 first |rfl |simp [Around.under,Code.weight,Code.isCreation,Code.isGuard,Code.isCaller,Code.frames,Code.isFrame,guardIds]
def Zt{A:bU}:(A.under$ .builtin "type.__call__" #[.ref C::u,k]).units=A.units+1:=by
 first |rfl |simp [Around.under,Code.cUnits,Code.frames,Code.isFrame]
def cf.make(r:cf (k+1) A)(C:ζ)(u:xL η)(K:xL (ρ×η)):cf k (A.under$ .builtin "type.__call__" #[.ref C::u,K]):=
 #[r.hd,by let:=r.dp;rw[Zs];omega,by let:=r.un;rw[Zt];omega]
def cf.depth(r:cf k A):A.depth < recursionLimit:=by let:=r.dp;omega
def cf.units(r:cf k A):A.units+64 < cLine:=by let:=r.un;omega
def aS:TA:=λ_ H Q=>Q [] H
def ap(t:TE)(T:TA):TA:=λa H Q=>t a H λx h=>T a h λX b=>Q (x::X) b
section
variable {X:Cx}{e:dw}{es:xL dw}{te:TE}{t:TA}{pos:Pos}
def jb:PA X [] aS:=λ_ _ _ _ H Q I h=>Uc #[[],H,I,.nil,h]
def ja(b:PE X e te)(c:PA X es t)(d:↥(Δ (e::es) X.env=(ν,eval e X.env)::Δ es X.env)):PA X (e::es) (ap te t):=by intro pos p s a H Q I h;rw[d];show π _ _ (spliced ((ν,eval e X.env)::fy pos (Δ es X.env))) _ _ s;erw[TH$ a8 (b p s a H _ I h) λu S z=>?_];let(x,f,i,r,q):=z;rwa[a8 (c pos p S a f _ i q) λU m #[g,j,k,R,l]=>#[x::g,j,k,.cons r R,l]]
def bV(t:TA):TE:=λa H Q=>t a H λx h=>ο x<=υ/\∀p,h p=θ->Q (.ref p) (af h p$ .tup x)
def nV(t:TA):TE:=λa H Q=>t a H λx h=>ο x<=υ/\∀p,h p=θ->Q (.ref p) (af h p$ .lst x)
def jh{x}(h:PA X es t):PE X (.Tuple es x pos) (bV t):=by intro p s c H Q I d;erw[wpAny_Tuple_spliced$ a8 (h pos p s c H _ I d) λU S #[f,a,i,r,z,q]=>#[by rw[<- r.length];rwa[z],?_]];let g:a (-S)=θ:=i.hok.fresh (Rv _);erw[#[.ref (-S),af a (-S)$ .tup f,i.laid (t':=S.toks) (λb u e=>Rr _ e) (Rv _) ?_,Z,q _ g]];exact#[z,U,r,#[_,Ry _ Z,212]]
def jI(h:PA X es t):PE X (.List es pos) (nV t):=by intro p s c H Q I d;erw[wpAny_List_spliced$ a8 (h pos p s c H _ I d) λU S #[x,a,i,r,z,q]=>#[by rw[<- r.length];rwa[z],?_]];let f:a (-S)=θ:=i.hok.fresh (Rv _);erw[#[.ref (-S),af a (-S)$ .lst x,i.laid (t':=S.toks) (λb u e=>Rr _ e) (Rv _) ?_,Z,q _ f]];exact#[z,U,0,r,Ry _ Z]
end
abbrev Sp:=xL V->Hp->VK->XK->Prop
abbrev ua:=xL Env->Hp->ι->XK->η->ι->Prop
structure pj(P:ω)(w:bF)(K:Ψ)(mg:ρ->ym η)(base:de)(A:bU)(outer:xL Env)(s:ι)(H:Hp):Prop where
 frames:A.frames=δ outer
 mod:Mod K mg base
 bs:∀b o,base.get? b=δ o->s.heap.get? b=δ o/\H b=θ
 bsz:base.objs.size<=-s
 funs:s.heap.FunFrames base outer
 frf:∀b∈mJ outer,H b=θ
 hok:gL P w H s.heap
 bare:AllBare s.gens
def CE(o:xL Env)(P:ω)(w:bF)(H:Hp)(s:ι)(Q:VK)(u:η)(S:ι):Prop:=
 ∃v h,S.os=s.os/\AllBare S.gens/\Un (mJ o) [] H h s.heap S.heap/\gL P w h S.heap/\aK v u/\Q v h
def CR(C:ua)(o:xL Env)(P:ω)(w:bF)(H:Hp)(s:ι)(Q:VK)(E:XK)(r:Result)(S:ι):Prop:=
 match r with
 | .ok (.ret u)=>CE o P w H s Q u S
 | .ok _=>False
 | .error e=>C o H s E e S
structure ai(P:ω)(w:bF)(K:Ψ)(mg:ρ->ym η)(base:de)(CX:ua)(k:Nat)(f:ζ)(fd:bS)(ps:xL ρ)(sp:Sp):Prop where
 len:∀vs H Q E,sp vs H Q E->ο vs=ο ps
 run:∀(A:bU) (outer:xL Env) (s:ι) (H:Hp) (args:Args) (us:xL η) (vs:xL V) (Q:VK) (E:XK),cf k A->pj P w K mg base A outer s H->BindsTo s fd args (ps.zip us)->aF vs us->sp vs H Q E->
  lq (χ P w) A (.call (.ref f) args) (CR CX outer P w H s Q E) s
def pj.make{P:ω}{K:Ψ}(e:pj P w K m b A o s H)(C:ζ)(u:xL η)(k:xL (ρ×η)):
  pj P w K m b (A.under$ .builtin "type.__call__" #[.ref C::u,k]) o s H:=#[by first |exact e.frames | (simpa [Around.under,Code.envs,Code.isFrame,pushEnvs] using e.frames),e.mod,e.bs,e.bsz,e.funs,e.frf,e.hok,e.bare]
section
variable {X:Cx}{pins:xL (ζ×gs)}{σ:St}{H:Hp}{s s':ι}
def ay.env0(I:ay X pins σ H s):pj X.prog X.w X.K X.mg X.base X.A X.stack s H:=
 #[I.ok.frames,I.ok.mod,I.bs,RM I.ok.bsz I.sz,I.stack,I.stkFree,I.hok,I.bare]
def ay.after(I:ay X pins σ H s)(h:CE X.stack X.prog X.w H s Q u s'):EP X pins σ Q u s':=by let(v,c,os,B,U,a,r,q):=h;let(e,g,d,t,o):=s';obtain rfl:o=s.os:=os;exact#[v,c,I.call (h':=e) (g':=g) (d':=d) (t':=t) (ch:=[]) U a B (λb z=>absurd z PJ),r,q]
end
def fj(s:Sp)(d:xL V)(E:XK)(t:TA):TE:=λa H Q=>t a H λv h=>s (v++d) h Q E
inductive AX(C:ζ)(m:ρ)(f:Sp)(b:xL V)(E:XK)(t:TA)(g:St)(Q:VK)(x:V)(c:Hp):Prop
 |mk(a d e:_)(_:x= .ref a)(_:c a=δ (.ins C d e))(_:e.lookup m=θ)(_:t g c λvs H2=>f (x::(vs++b)) H2 Q E)
def AW(C:ζ)(m:ρ)(s:Sp)(d:xL V)(E:XK)(T:TE)(t:TA):TE:=λa H Q=>T a H (AX C m s d E t a Q)
def Ni(C:ζ)(s:Sp)(D:xL V)(E:XK)(t:TA):TE:=λa H Q=>t a H λb h=>∀x d,h x=θ->h d=θ->d≠x->
 s (.ref x::(b++D)) (af (af h d$ .own x) x$ .ins C d []) (λv c=>v= .non/\Q (.ref x) c) E
def aE(K:Ψ)(f:bS)(p:xL ρ)(d:xL η):Prop:=
 ∀(s:ι) (u:xL η),K.In s.heap->(u++d).length=ο p->BindsTo s f #[u,[]] (p.zip$ u++d)
def aE.all{K:Ψ}{p:xL ρ}(h:∀u:xL η,ο u=ο p->bindArgs f #[u,[]]=pure (p.zip u)):aE K f p []:=λs u _ H=>by rw[Sb]at H ⊢;rwa[.of_eq$ h u H]
def eL(C:ua)(X:Cx)(E:XK):Prop:=∀(p:xL (ζ×gs)) (a:St) (H:Hp) (s:ι) (e:η) (S:ι),ay X p a H s->C X.stack H s E e S->X.xe e S
section
variable {X:Cx}{CX:ua}{k:Nat}{f C:ζ}{fd:bS}{ps:xL ρ}{sp:Sp}{dvs:xL V}{ds:xL η}{E:XK}{x m:ρ}{p pos apos:Pos}{e o:dw}{es:xL dw}{ta:TE}{t:TA}
def Xx{us:xL η}{vs:xL V}(F:ai X.prog X.w X.K X.mg X.base CX k f fd ps sp)(d:cf k X.A)(g:aE X.K fd ps ds)(i:aF dvs ds)(j:eL CX X E)
  (I:ay X a c H s) (r:aF vs us) (h:sp (vs++dvs) H Q E):π (χ X.prog X.w) X.A (call (.ref f) us) (EP X a c Q) X.xe s:=by
 let R:aF (vs++dvs) (us++ds):=r.append i;let l:(us++ds).length=ο ps:=by rw[<- R.length];rwa[F.len _ _ _ _ h]
 erw[WV$ Ue (F.run X.A X.stack s H #[us,[]] (us++ds) (vs++dvs) Q E d I.env0 (g s us I.kIn l) R h) λr S b=>?_];cases r with
 |error e=>rwa[j a c H s e S I b]
 |ok n=>
  cases n with
  |ret u=>rwa[I.after b]
  |next |brk |cont=>rwa[False.elim b]
def kN(F:ai X.prog X.w X.K X.mg X.base CX k f fd ps sp)(c:cf k X.A)(d:Gl X x)(g:X.mg x=↑f)(j:hG X.K (.ref f)=μ)(l:aE X.K fd ps ds)(n:aF dvs ds)(u:eL CX X E)
  (v:PA X (e::es) t) (a:↥((x==("__debug__":ρ))=ν)) (y:↥(Δ (e::es) X.env=(ν,eval e X.env)::Δ es X.env)) (b:↥((fy pos$ Δ es X.env).any (·.1)=ν)):
  PE X (.Call (.Name x p) (e::es) [] pos) (fj sp dvs E t):=by
 intro P s z H Q I h;erw[SO$ ql I d g ?_ a];erw[VY (h₀:=X.base) I.ok.mod.kin j (a8 (v pos P s z H _ I h) λU S #[B,D,i,r,q]=>#[i.kIn,?_]) y b];rwa[Xx F c l n u i r q]
def kj(v:PE X o ta)(c:ue X.K C)(g:bo X.K C m f)(F:ai X.prog X.w X.K X.mg X.base CX k f fd ps sp)(y:cf k X.A)(B:aE X.K fd ps ds)(D:aF dvs ds)(G:eL CX X E)(J:PA X (e::es) t)
  (b:↥(Δ (e::es) X.env=(ν,eval e X.env)::Δ es X.env)) (d:↥((fy pos$ Δ es X.env).any (·.1)=ν))
  (L:↥(eval (.Call (.Attribute o m apos) (e::es) [] pos) X.env=(do
   let O <- eval o X.env
   standAt apos.atName
   let (f,first) <- mB [O] (getMethod O m pl)
   callWith pos f first (fy pos$ Δ (e::es) X.env) (backToKw pos$ keywordEach [] X.env)))):
  PE X (.Call (.Attribute o m apos) (e::es) [] pos) (AW C m sp dvs E ta t):=by
 intro P s i H Q I h;erw[Ve (pl:=pl) (a8 (v P s i H _ I h) λu S z=>?_) L];let(x,M,j,R,a,W,Y,N,T,l,q):=z;subst N;obtain rfl:u=Θ a:=R;erw[Qm j T c g l ?_];erw[VY (first:=[.ref a]) (h₀:=X.base) I.ok.mod.kin g.kp (a8 (J pos P S i M _ j q) λus s2 #[vs,H2,n,r,U]=>#[n.kIn,?_]) b d];rwa[Xx (us:=.ref a::us) (vs:=.ref a::vs) F y B D G n (.cons Z r) U]
def Yk(d:PE X o ta)(c:ue X.K C)(b:bo X.K C m f)(F:ai X.prog X.w X.K X.mg X.base CX k f fd ps sp)(g:cf k X.A)(j:aE X.K fd ps ds)(n:aF dvs ds)(r:eL CX X E)
  (v:↥(eval (.Call (.Attribute o m apos) [] [] pos) X.env=(do
   let O <- eval o X.env
   standAt apos.atName
   let (f,first) <- mB [O] (getMethod O m pl)
   callWith pos f first (fy pos$ Δ [] X.env) (backToKw pos$ keywordEach [] X.env)))):
  PE X (.Call (.Attribute o m apos) [] [] pos) (AW C m sp dvs E ta aS):=by
 intro P s y H Q I h;erw[Ve (pl:=pl) (a8 (d P s y H _ I h) λu S z=>?_) v];let(x,G,i,R,a,J,L,B,D,l,q):=z;subst B;obtain rfl:u=Θ a:=R;erw[Qm i D c b l ?_];rwa[WN (first:=[.ref a]) i.kIn b.kp$ Xx (us:=[.ref a]) (vs:=[.ref a]) F g j n r i (.cons Z .nil) q]
structure Mk(K:Ψ)(C f:ζ):Prop where
 makes:PySem.W.makesIn K C=μ
 init:findIn K (.ref C) "__init__"=δ (↑f)
 fn:isFn K (.ref f)=μ
 kp:hG K (.ref C)=μ
def yW(M:Mk X.K C f)(F:ai X.prog X.w X.K X.mg X.base CX k f fd ps sp)(l:cf (k+1) X.A)(n:aE X.K fd ps ds)(q:aF dvs ds)
  (y:eL CX X E) (I:ay X b c H s) (r:aF g U)
  (h:∀x d,H x=θ->H d=θ->d≠x->sp (.ref x::(g++dvs)) (af (af H d$ .own x) x$ .ins C d []) (λv z=>v= .non/\Q (.ref x) z) E):
  π (χ X.prog X.w) X.A (call (.ref C) U) (EP X b c Q) X.xe s:=by
 let j:=h (-s+1) (-s) (I.hok.fresh$ Tb _) (I.hok.fresh$ Rv _) (RJ$ Ti _);let i:=ay.made (C:=C) I;let R:aF (xm (-s+1)::(g++dvs)) (Θ (-s+1)::(U++ds)):=.cons Z (r.append q);let B:(Θ (-s+1)::U++ds).length=ο ps:=by let e:=R.length;rw[F.len _ _ _ _ j]at e;rwa[e.symm]
 refine WV (xY (f:=f) I.kIn M.makes M.init (beq_iff_eq.mp M.fn) (Ue (F.run _ X.stack _ _ #[Θ (-s+1)::U,[]] (Θ (-s+1)::(U++ds)) _ _ E (l.make C U [])
  (i.env0.make C U []) (n _ (Θ (-s+1)::U) i.kIn B) R j) λr S a=>?_))
 cases r with
 |error e=>rwa[y b c _ _ e S i a]
 |ok D=>
  cases D with
  |ret u=>let(v,G,J,L,N,O):=i.after a;subst N;exact#[L,#[xm$ -s+1,G,J,Z,O]]
  |next |brk |cont=>rwa[False.elim a]
def XN(M:Mk X.K C f)(F:ai X.prog X.w X.K X.mg X.base CX k f fd ps sp)(c:cf (k+1) X.A)(d:Gl X x)(g:X.mg x=↑C)(j:aE X.K fd ps ds)(l:aF dvs ds)(n:eL CX X E)
  (u:PA X (e::es) t) (a:↥((x==("__debug__":ρ))=ν)) (v:↥(Δ (e::es) X.env=(ν,eval e X.env)::Δ es X.env)) (b:↥((fy pos$ Δ es X.env).any (·.1)=ν)):
  PE X (.Call (.Name x p) (e::es) [] pos) (Ni C sp dvs E t):=by
 intro P s y H Q I h;erw[SO$ ql I d g ?_ a];erw[VY (h₀:=X.base) I.ok.mod.kin M.kp (a8 (u pos P s y H _ I h) λU S #[z,B,i,r,q]=>#[i.kIn,?_]) v b];rwa[yW M F c j l n i r q]
end
structure am(N P:xL ρ)(sc:ge):Prop where
 kind:sc.kind= .function
 co:sc.isCoroutine=ν
 gen:sc.isGenerator=ν
 nd:N.Nodup
 pre:N.take (ο P)=P
 par:∀x∈P,sc.names.lookup x=δ .local∨sc.names.lookup x=δ .cell
 nofree:∀y∈sc.names,y.2≠ .free
theorem Q9{kindOf:ρ->ym NameKind}:∀{b:xL (ρ×η)} {m:ρ->ym η},(∀v,(x,v)∉b)->bindL kindOf b m x=m x
 | [],_,_=>rfl
 | (n,v)::r,m,h=>by
  unfold bindL;rw[Q9 λw H=>h w (RZ _ H)];split
  .let:x≠n:=by rintro rfl;exact h v RN
   simp [this]
  .rfl
theorem Xa{kindOf:ρ->ym NameKind}:∀{b:xL (ρ×η)} {m:ρ->ym η},(∀v,(x,v)∉b)->bindC kindOf b m x=m x
 | [],_,_=>rfl
 | (n,v)::r,m,h=>by
  unfold bindC;rw[Xa λw H=>h w (RZ _ H)];split
  .rfl
  .let:x≠n:=by rintro rfl;exact h v RN
   simp [this]
theorem Xc{kindOf:ρ->ym NameKind}:∀{P:xL ρ} {V:xL η} {i:Nat} {m:ρ->ym η},P.Nodup->P[i]?=δ x->V[i]?=δ v->kindOf x=δ .local->
  bindL kindOf (P.zip V) m x=δ v
 | [],_,_,_,_,h,_,_ |_::_,[],_,_,_,_,h,_=>by simp at h
 |p::P,w::V,0,m,n,H,a,b=>by simp at H a;subst H;subst a;show bindL kindOf ((p,w)::P.zip V) m p=_;unfold bindL;rw[Q9 λv c=>(kz.mp n).1 (Vs c).1,RB b];simp
 |p::P,w::V,i+1,m,n,H,a,b=>by show bindL kindOf ((p,w)::P.zip V) m x=_;unfold bindL;rwa[Xc (i:=i) (kz.mp n).2 (H:) (a:) b]
theorem Xd{kindOf:ρ->ym NameKind}:∀{P:xL ρ} {V:xL η} {i:Nat} {m:ρ->ym η},P.Nodup->P[i]?=δ x->V[i]?=δ v->kindOf x≠δ .local->
  bindC kindOf (P.zip V) m x=δ v
 | [],_,_,_,_,h,_,_ |_::_,[],_,_,_,_,h,_=>by simp at h
 |p::P,w::V,0,m,n,H,a,b=>by simp at H a;subst H;subst a;show bindC kindOf ((p,w)::P.zip V) m p=_;unfold bindC;rw[Xa λv c=>(kz.mp n).1 (Vs c).1,RD b];simp
 |p::P,w::V,i+1,m,n,H,a,b=>by show bindC kindOf ((p,w)::P.zip V) m x=_;unfold bindC;rwa[Xd (i:=i) (kz.mp n).2 (H:) (a:) b]
noncomputable def iK(N:xL ρ)(v:xL V):St:=v.map δ++fz (ο N - ο v) θ
noncomputable def gZ(C:ua)(P:ω)(w:bF)(K:Ψ)(mg:ρ->ym η)(base:de)(N:xL ρ)(q:ρ)(S:ge)(f:ζ)(c:η)(A:bU)(outer:xL Env)(s:ι)(H:Hp)(E:XK):Cx where
 prog:=P
 w:=w
 K:=K
 mg:=mg
 base:=base
 A:=A.deeper (envOfC q S (-s) f c)
 N:=N
 s₀:=s
 H₀:=H
 env:=envOfC q S (-s) f c
 outer:=outer
 stack:=envOfC q S (-s) f c::outer
 ex:=[]
 calm:=μ
 fn:=λ_=>μ
 pn:=[]
 xe:=λe b=>π (χ P w) (A.deeper$ envOfC q S (-s) f c) (leaving (envOfC q S (-s) f c) e) (λ_ a=>C outer H s E e a) (λd a=>C outer H s E d a) b
def Yl{s:ge}{n:Nat}(h:s.names.lookup x=δ .cell):∃c,(cellsFrom n s.names []).lookup x=δ c:=by let q:=Wl s.names n [] (.inl h);rwa[nk.mp q]
def uM{P:ω}{K:Ψ}{A:bU}{l:xL V}
  (S:am N t d) (O:A.handled=θ) (j:pj P w K M B A o s H) (hl:ο l=ο t) (r:aF l U)
  (x:InCallC s (-s) (bindL (envOfC Q d (-s) f I).kindOf (t.zip U) λ_=>θ) (cellsFrom (-s+1) d.names []) (bindC (envOfC Q d (-s) f I).kindOf (t.zip U) λ_=>θ) T):
  ay (gZ Y P w K M B N Q d f I A o s H E) [] (iK N l) H T:=by
 let R:ο t<=ο N:=by let:=SM ti S.pre;rw[R0]at this;omega
 let(F,tk,rfl,J):=x.done;let m:∀b:ζ,b∉(gZ Y P w K M B N Q d f I A o s H E).ex:=λb z=>absurd (show b∈([]:xL ζ) from z) PJ;refine#[#[j.mod,S.kind,22,Rv _,λy z c F g=>?_,λy hy=>?_,λy c _ h=>?_,λ_=>O,Around.frames_deeper j.frames,.inr #[22],λb z=>absurd z (m b),j.bs,j.bsz,λb _ _=>m b,λb z=>absurd z (m b),j.funs,j.frf],
  rfl,j.bare,Un.kept J,#[_,x.toInCall.ns,λi y v F g h3=>?_],λy c h=>#[_,x.cell y c h],j.hok.fresh$ Rv _,λy c h=>?_,λp C=>absurd (show p∈([]:xL (ζ×gs)) from C) PJ,j.hok.kept J,?_]
 .rwa[name_of_addr x.apart (Tj F)$ Tj g]
 .let hy:d.names.lookup y=δ .cell∨d.names.lookup y=δ .free:=hy;rcases hy with hy |hy
  .rwa[Yl hy]
  .rwa[absurd Z$ S.nofree _$ Tj hy]
 .rwa[T3$ x.above y c$ Tj h]
 .let G:i < ο l:=by
   unfold iK at g;by_cases G:i < ο l
   .rwa[G]
   .rw[TJ (G:)]at g;rw[WJ]at g;split at g<;>cases g
  let W:l[i]?=δ v:=by
   unfold iK at g;rw[TQ (G:),RP]at g;cases e:l[i]? with
   |none=>rw[e]at g;cases g
   |some a=>rw[e]at g;cases g;rfl
  let(u,L,X):=r.get W;let C:t[i]?=δ y:=by rw[<- S.pre,List.getElem?_take_of_lt PL];rwa[F]
  let D:t.Nodup:=by rw[<- S.pre];rwa[S.nd.sublist$ TW _ _]
  erw[#[u,X,?_]];rcases S.par y (RL C) with k |k
  .rwa[.inl #[k,Xc D C L k]]
  .let(c,e):=Yl (n:=-s+1) k;erw[.inr #[.inl k,c,e,?_]];let q:=x.cell y c e;rw[Xd D C L (by show d.names.lookup y≠_;rw[k];decide)]at q;rwa[q]
 .rwa[j.hok.fresh$ T3$ x.above y c$ Tj h]
 .unfold iK;show _=ο N;rw[Ru,Rs,UG];omega
def Ey{P:ω}{K:Ψ}{kV:η}
    {G:Sp} (lk:K.lookup f=δ #[oc,od,.func$ tT name c p h a dV kV L pm an C ct,o1]) (M:codeIn K C c=μ) (S:am N T a)
  (len:∀d H Q E,G d H Q E->ο d=ο T)
  (j:∀(A:bU) (O:xL Env) (s:ι) (H:Hp) (d:xL V) (Q:VK) (E:XK),cf k (A.deeper$ envOfC c a (-s) f C)->G d H Q E->
   ∃t,oe (gZ U P w K Y B N c a f C A O s H E) h t/\t { nx:=λ_ i=>Q .non i,rt:=Q } (iK N d) H):
  ai P w K Y B U (k+1) f (tT name c p h a dV kV L pm an C ct) T G:=by
 erw[#[len,λA O s H a0 us d Q E R z hb r D=>?_]];let hl:=len _ _ _ _ D;let KX:K.In s.heap:=z.mod.kin.keeps λb o e=>(z.bs b o e).1;let X:s.heap.NoLimit:=z.mod.nolimit.keeps λb o e=>(z.bs b o e).1;let l:∀y∈T.zip us,a.names.lookup y.1=δ .local∨(a.names.lookup y.1=δ .cell/\((cellsFrom (-s+1) a.names []).lookup y.1).isSome=μ):=λ#[n,v] hy=>by
  rcases S.par n (Vs hy).1 with q |q
  .rwa[.inl q]
  .rwa[.inr #[q,Wl _ _ _$ .inl q]]
 erw[codeAny_call_function R.depth (KX _ _ lk) Z S.co S.gen Z (PySem.W.codeRec_of KX M)$ hb _ _ _ _ ?_];erw[wpAny_newFunctionEnv_cells S.kind l λe1 he s1 x=>?_];subst he;erw[#[X.keeps x.toInCall.keep,codeAny_func ?_]];let(t,ht,hq):=j A O s H d Q E (R.deeper _) D;let I:ay (gZ U P w K Y B N c a f C A O s H E) [] (iK N d) H s1:=uM S R.hd z hl r x;erw[SN (ht [] s1 (iK N d) H _ I hq) (λfl s' m=>?_) λe s' m=>m];let F:∀{g:St} {i:Hp} {v:V} {u:η},ay (gZ U P w K Y B N c a f C A O s H E) [] g i s'->aK v u->Q v i->CE O P w H s Q u s':=
  λ{g i v u} J rv q=>#[v,i,J.os,J.bare,J.base,J.hok,rv,q]
 cases fl with
 |ret u=>let(v,g,i,J,rv,q):=m;rwa[F J rv q]
 |next=>let(g,i,J,q):=m;rwa[F (v:=V.non) (u:=β) J Z q]
 |brk |cont=>let(_,_,_,q):=m;rwa[False.elim q]
section
variable {X:Cx}{x:ρ}{p pos:Pos}{e:dw}{es:xL dw}{t:TA}{id T:String}{r:xL V->Hp->VK->Prop}
def NK(r:xL V->Hp->VK->Prop)(t:TA):TE:=λa H Q=>t a H λv h=>r v h Q
def jH(d:dS X (.builtin id) r)(f:Gl X x)(g:X.mg x=θ)(i:bootBuiltins x=δ (.builtin id))(j:PA X (e::es) t)(k:↥(x≠"__name__"))(a:↥((x==("__debug__":ρ))=ν))
  (l:↥(Δ (e::es) X.env=(ν,eval e X.env)::Δ es X.env)) (b:↥((fy pos$ Δ es X.env).any (·.1)=ν)):PE X (.Call (.Name x p) (e::es) [] pos) (NK r t):=by
 intro P s c H Q I h;erw[SO$ zN I f g i ?_ k a];rwa[PyProof.Rows.callWith_builtin1 (a8 (j pos P s c H _ I h) λu S #[v,m,n,R,q]=>d P S c m v u Q n R q) l b]
def jL(d:dS X (.type T) r)(f:Gl X x)(g:X.mg x=θ)(i:bootBuiltins x=δ (.type T))(j:PA X (e::es) t)(k:↥(x≠"__name__"))(a:↥((x==("__debug__":ρ))=ν))
  (l:↥(Δ (e::es) X.env=(ν,eval e X.env)::Δ es X.env)) (b:↥((fy pos$ Δ es X.env).any (·.1)=ν)):PE X (.Call (.Name x p) (e::es) [] pos) (NK r t):=by
 intro P s c H Q I h;erw[SO$ zN I f g i ?_ k a];rwa[Sr (a8 (j pos P s c H _ I h) λu S #[v,m,n,R,q]=>d P S c m v u Q n R q) l b]
end
end _L
namespace HT
open PySem PyProof.Rows
section
#print v
def cat_tup{v W:xL η}{Q:η->ι->Prop}(m:IsTup s.heap t v.toArray)(o:IsTup s.heap b W.toArray)(i:v≠[])
  (p:W=[]->Q (.ref t) s) (q:W≠[]->Q (.ref (-s)) {s.heap.push { cls:=.type "tuple",data:=.seq (v++W).toArray }})
  (g:ο v+ο W<=υ):π (χ prog w) A (binaryOp .Add (.ref t)$ .ref b) Q E s:=by
 obtain⟨⟨cls,D,data,j⟩,c,k,n,l⟩:=id m;obtain⟨⟨C,d,data2,S⟩,h,H,N,a⟩:=id o;simp only at k l H a;subst k l H a;let e:v.toArray++W.toArray=(v++W).toArray:=by simp
 by_cases f:W=[]
 .exact concat_meets #[_,c,Z] #[_,h,Z] Wk seq_tuple_add Va U5 (U3 _ _)
   (tuple_addW1 t b v.toArray W.toArray n N D d j S (i:) (by simp [f])) #[c,h,p f]
 .refine concat_meets #[_,c,Z] #[_,h,Z] Wk seq_tuple_add Va U5 (U3 _ _)
   (tuple_addW2 t b v.toArray W.toArray n N D d j S (i:) (f:) (by rw[Rx,Rx];rwa[g])) #[c,h,?_]
  rw[e];rwa[q f]
noncomputable def sIx(n d:Nat):ym Int->Nat
 |none=>d
 |some v=>if v < 0 then (v+(n:Int)).toNat else min v.toNat n
def sIx_none(n d:Nat):sIx n d θ=d:=rfl
def sIx_nat(n d k:Nat):sIx n d (δ (k:Int))=min k n:=by show(if (k:Int) < 0 then ((k:Int)+(n:Int)).toNat else min (k:Int).toNat n)=min k n;rw[RD PL,SE]
def Ik(n d:Nat)(H:d<=n)(o:ym Int):sIx n d o<=n:=by
 cases o with
 |none=>rwa[H]
 |some v=>
  show(if v < 0 then (v+(n:Int)).toNat else min v.toNat n)<=n;by_cases h:v < 0
  .rw[RB h];omega
  .rw[RD h];rwa[Nat.min_le_right _ _]
def re(v:Int)(n d:Nat):(if v < 0 then max (v+(n:Int)) 0 else min v (n:Int))=((sIx n d (δ v):Nat):Int):=by
 show(if v < 0 then max (v+(n:Int)) 0 else min v (n:Int))=(((if v < 0 then (v+(n:Int)).toNat else min v.toNat n):Nat):Int);by_cases h:v < 0
 .simp only[RB h];omega
 .simp only[RD h];omega
def Zu(lo h:ym Int)(n:Nat):mF lo h 1 (n:Int)=(((sIx n 0 lo:Nat):Int),((sIx n n h:Nat):Int)):=by
 let H:¬((1:Int) < 0):=PL
 unfold mF;simp only[H,Ta];erw[Prod.ext ?_ ?_]
 .cases lo with
  |none=>rfl
  |some v=>rwa[re v n 0]
 .cases h with
  |none=>rfl
  |some v=>rwa[re v n n]
def Zv(i j:Nat):im (i:Int) (j:Int) 1=j - i:=by
 unfold im;let h:(1:Int) > 0:=PL
 simp only[h,UX,Int.ediv_one];split<;>omega
def Qo{Q:ym Int->ι->Prop}(p:IsPart v o)(h:Q o s):π (χ prog w) A (Builtin.Slice.slicePartIndex v) Q E s:=by
 cases p with
 |none=>rwa[slicePart_none h]
 |int i t=>rwa[slicePart_int h]
def sliceApplied_gen{lo:ym Int}{Q:Int×Int×Nat->ι->Prop}(d:s.heap.IsSliceOf e v c .none)(p:IsPart v lo)(P:IsPart c b)
  (h:Q (((sIx n 0 lo:Nat):Int),1,sIx n n b - sIx n 0 lo) s):π (χ prog w) A (pz (.ref e)$ pure (n:Int)) Q E s:=by
 let(os,H,f,a):=id d;unfold pz Builtin.Slice.sliceFields;erw[Rp$ Rp$ R4 H a (x:=v) Z$ Rp$ R4 H a (x:=c) Z$ Rp$ R4 H a (x:=.none) Z$ Rt ?_];erw[Rp$ slicePart_none ?_];show π _ _ (if ((1:Int)==0)=μ then _ else _) _ _ s;rw[RD PM];erw[Rp$ Qo p$ Rp$ Qo P$ Rp$ Rt ?_];show π _ _ (match mF lo b 1 (n:Int) with | (lo,b)=>pure (lo,(1:Int),im lo b 1)) _ _ s;rw[Zu lo b n];show π _ _ (pure (((sIx n 0 lo:Nat):Int),(1:Int),im ((sIx n 0 lo:Nat):Int) ((sIx n n b:Nat):Int) 1)) _ _ s;rw[Zv];rwa[Rt h]
def yM(X:Array η)(i k:Nat):((dr k).filterMap λ(m:Nat)=>X[((i:Int)+(m:Int)*1).toNat]?).toArray=((X.toList.drop i).take k).toArray:=by
 let e:(λ(m:Nat)=>X[((i:Int)+(m:Int)*1).toNat]?)=λm=>X[i+m]?:=by
  funext m;let:((i:Int)+(m:Int)*1).toNat=i+m:=PL
  rw[this]
 rw[e];let:=pick_run X i k;rw[List.filterMap_map]at this;let a:((λx=>X[x]?) ∘ λx=>i+x)=λm=>X[i+m]?:=rfl;rw[a]at this;rw[this]
def getItem_tuple_cut{lo:ym Int}{Q:η->ι->Prop}(ht:IsTup s.heap t items)(hs:s.heap.IsSliceOf sl vl vu .none)(pl:IsPart vl lo)(pu:IsPart vu hi)
  (hw:¬(sIx items.size 0 lo=0/\sIx items.size items.size hi=items.size))
  (h:Q (.ref (-s)) {s.heap.push { cls:=.type "tuple",data:=.seq ((items.toList.drop$ sIx items.size 0 lo).take$ sIx items.size items.size hi - sIx items.size 0 lo).toArray }})
  (hsz:items.size<=υ):π (χ prog w) A (getItem (.ref t)$ .ref sl) Q E s:=by
 let htake:sizeOk (.seq ((items.toList.drop$ sIx items.size 0 lo).take$ sIx items.size items.size hi - sIx items.size 0 lo).toArray):=by show((items.toList.drop$ sIx items.size 0 lo).take$ sIx items.size items.size hi - sIx items.size 0 lo).toArray.size<=υ;rw[Rx,R0,Te,RX];rwa[N09]
 let hj:sIx items.size items.size hi<=items.size:=Ik _ _ (Rv _) hi;let(os,hos,hcs,hds):=id hs;let hTs:s.TypeIs (.ref sl) "slice":=#[os,hos,hcs];unfold getItem;try with_reducible erw[RY ?_]
 first |refine Rp (Rt ?_) |skip
 erw[Rp$ V4 ht.typeIs PM ?_];refine Rp (Sm (name:=Str.ofString "__getitem__") ht.typeIs TM
  (Si TM ht.typeIs entry_tuple_getitem ?_$ args_tuple_getitem _ _))
 show π _ _ (rb (.ref t) >>= _) _ _ s;erw[Rp$ tupleItemsOf_ ht ?_];erw[Rp$ TK hTs ?_];rw[RB PM];erw[Rp$ sliceApplied_gen hs pl pu ?_];let hno:¬((((sIx items.size 0 lo:Nat):Int)==0&&(1:Int)==1&&(sIx items.size items.size hi - sIx items.size 0 lo)==items.size)=μ):=by intro q;rw[SY,SY]at q;let q1:((sIx items.size 0 lo:Nat):Int)=0:=eq_of_beq q.1.1;let q2:sIx items.size items.size hi - sIx items.size 0 lo=items.size:=eq_of_beq q.2;rwa[hw #[PL,N09]]
 show π _ _ (if (((sIx items.size 0 lo:Nat):Int)==0&&(1:Int)==1&&(sIx items.size items.size hi - sIx items.size 0 lo)==items.size)=μ then _ else _) _ _ s;rw[RD hno,yM];first
  |exact Rp (m:=ef _) (So (Rt #[12,Rt h]) htake)
  |exact Rp (m:=ef _) (So (Rp (Rt (Rt #[12,Rt h]))) htake)
  |exact Rp (Rp (m:=ef _) (So (Rt (Rt #[12,Rt h])) htake))
  |exact Rp (Rp (m:=ef _) (So (Rt #[12,Rt h]) htake))
end
end HT
namespace _L
open PySem PySem.Spec PyProof.Rows
abbrev TO:=St->Hp->(ym Int->Hp->Prop)->Prop
def PO(X:Cx)(e:ym dw)(t:TO):Prop:=
 ∀(p:xL (ζ×gs)) (s:ι) (a:St) (H:Hp) (Q:ym Int->Hp->Prop),ay X p a H s->t a H Q->
  π (χ X.prog X.w) X.A (evalPart e X.env) (λu S=>∃o h,ay X p a h S/\IsPart u o/\Q o h) X.xe s
def nW:TO:=λ_ H Q=>Q θ H
inductive AZ(Q:ym Int->Hp->Prop)(x:V)(a:Hp):Prop
 |mk(i:_)(_:x= .int i)(_:Q (δ i) a)
def mj(t:TE):TO:=λa H Q=>t a H (AZ Q)
section
variable {X:Cx}{e:dw}{te:TE}{lo hi:ym dw}{tl th:TO}{pos p2:Pos}
def jU:PO X θ nW:=by intro p s a H Q I h;rw[evalPart_none];rwa[Rt #[θ,H,I,.none,h]]
def jJ(h:PE X e te):PO X (δ e) (mj te):=by intro p s a H Q I b;rw[evalPart_some];erw[a8 (h p s a H _ I b) λu S z=>?_];let(x,c,d,r,f):=z;let(i,rfl,q):=f;let(t,rfl):=r;exact#[δ i,c,d,.int i t,q]
def NA(X:Cx)(r:V->ym Int->ym Int->Hp->VK->Prop):Prop:=
 ∀(p:xL (ζ×gs)) (s:ι) (a:St) (H:Hp) (x:V) (v b c:η) (lo hi:ym Int) (S:ζ) (Q:VK),ay X p a H s->aK x v->s.heap.IsSliceOf S b c .none->IsPart b lo->IsPart c hi->r x lo hi H Q->
  ∃T id,typeLookup (.type T) "__getitem__"=pure (δ$ .builtin id)/\s.TypeIs v T/\π (χ X.prog X.w) X.A (getItem v$ .ref S) (EP X p a Q) X.xe s
def Nl(r:V->ym Int->ym Int->Hp->VK->Prop)(te:TE)(tl th:TO):TE:=λa H Q=>te a H λx h=>tl a h λl b=>th a b λu c=>r x l u c Q
def jK{r:V->ym Int->ym Int->Hp->VK->Prop}(g:NA X r)(i:PE X e te)(j:PO X lo tl)(k:PO X hi th):PE X (.Subscript e (.Slice lo hi θ p2) pos) (Nl r te tl th):=by intro p s a H Q I h;erw[Subscript_$ a8 (i p s a H _ I h) λv m z=>?_];let(x,n,o,R,t):=z;erw[wpAny_Slice$ a8 (j p m a n _ o t) λc y #[l,B,C,P,D]=>a8 (k p y a B _ C D) λd S z=>?_];let(u,f,E,F,G):=z;rw[evalPart_none];erw[Rt ?_];let J:ay X p a f { S with heap:=S.heap.push { cls:=.type "slice",data:=.fields (ε [c,d,.none]) } }:=E.kept (t':=S.toks) λb O q=>Rr _ q;let(T,id,K,L,M):=g p { S with heap:=S.heap.push { cls:=.type "slice",data:=.fields (ε [c,d,.none]) } } a f x v c d l u (-S) Q J R (V3 ..) P F G;show π (χ X.prog X.w) X.A (subscriptTail e (.Slice lo hi θ p2) v$ .ref (-S)) (EP X p a Q) X.xe { S with heap:=S.heap.push { cls:=.type "slice",data:=.fields (ε [c,d,.none]) } };rwa[tail_any (ops:=[.ref (-S),v]) L K M (by with_unfolding_all rfl)]
def aQ(x:xL V)(lo hi:ym Int):xL V:=(x.drop$ HT.sIx x.length 0 lo).take (HT.sIx x.length x.length hi - HT.sIx x.length 0 lo)
def zC(x:xL V)(lo hi:ym Int):(aQ x lo hi).length<=ο x:=by unfold aQ;rw[R0,Te];omega
inductive MT(K:Ψ)(x:V)(c b:ym Int)(H:Hp)(Q:VK):Prop
 |mk(a d:_)(_:x= .ref a)(_:aC K H a d)(_:¬(HT.sIx d.length 0 c=0/\HT.sIx d.length d.length b=ο d))(_:∀p,H p=θ->Q (.ref p) (af H p (.tup (aQ d c b))))
def IB:NA X (MT X.K):=by
 intro p s n H x v V t lo hi S Q I R j P k h;let(a,d,rfl,l,m,q):=h;cases R;let(i,r,f,g):=I.tuple l;let c:i.toArray.size=ο d:=by rw[Rx];rwa[r.length.symm]
 erw[#["tuple",_,PyProof.Rows.slot_tuple_getitem.lookup,f.typeIs,?_]];erw[HT.getItem_tuple_cut f j P k (by rw[c];rwa[m]) ?_ (by rw[c];rwa[g])];rw[c];erw[#[.ref (-s),_,I.laid (t':=s.toks) (o:=.tup (aQ d lo hi)) (λb O q=>Rr _ q) (Rv _) ?_,Z,q _$ I.hok.fresh$ Rv _]];exact#[RM (zC d lo hi) g,_,(r.drop$ HT.sIx d.length 0 lo).take$ HT.sIx d.length d.length hi - HT.sIx d.length 0 lo,IsTup.new _ _]
inductive EN(K:Ψ)(x y:V)(H:Hp)(Q:VK):Prop
 |mk(a b c d:_)(_:x= .ref a)(_:y= .ref b)(_:aC K H a c)(_:aC K H b d)(_:c≠[])(_:ο c+ο d<=υ)(_:d=[]->Q (.ref a) H)(_:d≠[]->∀p,H p=θ->Q (.ref p) (af H p (.tup (c++d))))
def aF.nil_iff(r:aF x u):u=[]↔x=[]:=by
 cases r with
 |nil |cons _ _=>simp
def C6:gf X (binaryOp .Add) (EN X.K):=by intro p s A H x y v u Q I d f h;let(a,b,g,Y,rfl,rfl,j,k,l,c,m,n):=h;cases d;cases f;let(t,R,P,_):=I.tuple j;let(i,r,p2,_):=I.tuple k;erw[HT.cat_tup P p2 (λz=>l (R.nil_iff.mp z)) (λz=>#[.ref a,H,I,Z,m$ r.nil_iff.mp z]) (λz=>?_) (by rw[<- R.length,<- r.length];rwa[c])];erw[#[.ref (-s),_,I.laid (t':=s.toks) (o:=.tup (g++Y)) (λb O q=>Rr _ q) (Rv _) ?_,Z,n (λw=>z (r.nil_iff.mpr w)) _$ I.hok.fresh$ Rv _]];exact#[by rw[Ru];rwa[c],_,R.append r,IsTup.new _ _]
end
noncomputable def pK(n:Nat)(i:Int):ym Nat:=if 0<=i then (if i < n then δ i.toNat else θ) else if -(n:Int)<=i then δ (i+n).toNat else θ
def eW{a:Type}(x:xL a)(i:Int):ym a:=(pK x.length i).bind λj=>x[j]?
def rN(h:pK n i=δ j):seqIndex? i n=δ j/\j < n/\ -(n:Int)<=i/\i < n:=by
 unfold pK at h;by_cases a:0<=i
 .rw[RB a]at h;by_cases H:i < n
  .rw[RB H]at h;let e:i.toNat=j:=Ss h;exact#[by rw[seqIndex_of a H,e],PL,PL,H]
  .rw[RD H]at h;cases h
 .rw[RD a]at h;by_cases H: -(n:Int)<=i
  .rw[RB H]at h;let e:(i+n).toNat=j:=Ss h;exact#[by rw[seqIndex_neg PL H,e],PL,H,PL]
  .rw[RD H]at h;cases h
def XO{a:Type}{x:xL a}{v:a}(h:eW x i=δ v):∃j,seqIndex? i (ο x)=δ j/\x[j]?=δ v/\j < ο x/\ -(x.length:Int)<=i/\i < ο x:=by
 unfold eW at h;cases e:pK x.length i with
 |none=>rw[e]at h;cases h
 |some j=>rw[e]at h;let(H,b,c,d):=rN e;exact#[j,H,h,b,c,d]
def jE{a:Type}{x:xL a}{j:Nat}{v:a}(h:x[j]?=δ v):eW x (j:Int)=δ v:=by
 let H:j < ο x:=(ξ.mp h).1;let e:pK x.length (j:Int)=δ j:=by unfold pK;rw[RB PL,RB PL];simp
 unfold eW;rw[e];rwa[h]
def BE(b:dw):Prop:=∀o i,subscripted b ν o i=operate [o,i] (getItem o i)
def Lo(X:Cx)(r:R2):Prop:=
 ∀(a S:dw) (p:xL (ζ×gs)) (s:ι) (b:St) (H:Hp) (x y:V) (v u:η) (Q:VK),ay X p b H s->aK x v->aK y u->r x y H Q->
  subscripted S ν v u=operate [v,u] (getItem v u)->π (χ X.prog X.w) X.A (subscriptTail a S v u) (EP X p b Q) X.xe s
def NV(X:Cx)(id:String)(r:V->xL V->Hp->VK->Prop):Prop:=
 ∀(p:xL (ζ×gs)) (s:ι) (a:St) (H:Hp) (x:V) (b:xL V) (v:η) (u:xL η) (Q:VK),ay X p a H s->aK x v->aF b u->r x b H Q->
  π (χ X.prog X.w) X.A (call (.builtin id) (v::u)) (EP X p a Q) X.xe s
section
variable {X:Cx}{a b:dw}{ta tb:TE}{pos:Pos}
def jp{r:R2}(c:Lo X r)(d:PE X a ta)(e:PE X b tb)(f:BE b):PE X (.Subscript a b pos) (fb r ta tb):=by intro p s g H Q I h;rwa[Subscript_$ Fx d e I h λv u S x y i j R k q=>c a b p S g i x y v u Q j R k q (f _ _)]
inductive lK(K:Ψ)(x y:V)(H:Hp)(Q:VK):Prop
 |mk(p a i v:_)(_:x= .ref p)(_:y= .int i)(_:aJ K H p a)(_:eW a i=δ v)(_:Q v H)
inductive db(K:Ψ)(x y:V)(H:Hp)(Q:VK):Prop
 |mk(p a i v:_)(_:x= .ref p)(_:y= .int i)(_:aC K H p a)(_:eW a i=δ v)(_:Q v H)
inductive yS(x y:V)(H:Hp)(Q:VK):Prop
 |mk(z i c:_)(_:x= .str z)(_:y= .int i)(_:z.length<=υ)(_:eW z.cps.toList i=δ c)(_:Q (.str #[(ε [c])]) H)
def jr:Lo X (lK X.K):=by
 intro V S P s k H x y v u Q I n o h l;let(p,L,i,z,rfl,rfl,A,B,q):=h;cases n;let(t,rfl):=o;let(d,r,e,M):=I.list A;let(j,c,C,N,D,F):=XO B;let(w,E,R):=r.get C;let G:=r.length;let O:=gu;let f:EP X P k Q w s:=#[z,H,I,R,q];by_cases m:0<=i
 .let g:i.toNat=j:=by rw[seqIndex_of m F]at c;exact Ss c
  rwa[item_listR e.isList m PL (by rw[g];simpa using E) f l]
 .let g:(i+(d.toArray.size:Int)).toNat=j:=by rw[seqIndex_neg PL D]at c;rw[Rx,<- G];exact Ss c
  exact subscriptTail_builtinR (x:=w) e.isList.typeIs slot_list_getitem.lookup
   (wpAny_getItem_list_neg (Q:=λr J=>r=w/\EP X P k Q r J) e.isList PL (by rw[Rx]<;>omega) PL (by rw[g];simpa using E) #[Z,f]) l
def jF:Lo X (db X.K):=by
 intro V S P s c H x y v u Q I e g h k;let(p,D,i,z,rfl,rfl,l,m,q):=h;cases e;let(t,rfl):=g;let(n,r,d,F):=I.tuple l;let(j,o,A,G,J,L):=XO m;let(w,E,R):=r.get A;let B:=r.length;let M:=gu;let f:EP X P c Q w s:=#[z,H,I,R,q];exact subscriptTail_builtinR (x:=w) d.typeIs slot_tuple_getitem.lookup
  (getItem_tuple (j:=j) (Q:=λr C=>r=w/\EP X P c Q r C) d PL PL (by rw[Rx,<- B];rwa[o]) (E:) #[Z,f]) k
def JS:Lo X yS:=by
 intro V S p s o H x y v u Q I r R h e;let(z,i,c,rfl,rfl,w,f,q):=h;let(t,rfl):=r;let(T,rfl):=R;let(j,d,g,A,k,l):=XO f;let m:ο z.cps.toList=z.length:=by simp [Str.length]
 rw[m]at d k l;let B:=gu;exact tail_any (typeIs_str s z t) slot_str_getitem.lookup (getItem_str (c:=c) (by
  let E:decide (i < -(2 ^ 63:Int))=ν:=RC PL;let n:decide (i≥2 ^ 63)=ν:=RC PL;rw[E,n,WE]) (by rw[d];simpa using g) #[.str #[(ε [c])],H,I.tok _,#[12],q]) e
def Zw(i:xL η)(n j:Nat)(u:η):ab (·.setIfInBounds j u) { cls:=.type "list",data:=.seq i.toArray n }={ cls:=.type "list",data:=.seq (i.set j u).toArray n }:=by simp [ab]
def ay.lst(I:ay X c d H s)(h:H p=δ (.lst x)):
  ∃(i:xL η) (n:Nat),aF x i/\s.heap.get? p=δ { cls:=.type "list",data:=.seq i.toArray n }/\ο x<=υ:=by
 let(z,i,n,r,e):=I.hok p _ h;exact#[i,n,r,e,z]
def ay.lstUpd{c i:xL η}{f:gs->gs}(I:ay X d j H s)(h:H p=δ (.lst o))
  (k:s.heap.get? p=δ { cls:=.type "list",data:=.seq c.toArray n }) (g:f { cls:=.type "list",data:=.seq c.toArray n }={ cls:=.type "list",data:=.seq i.toArray N }) (r:aF y i) (l:ο y<=υ) (t:Nat):
  ay X d j (af H p$ .lst y) { s with heap:=s.heap.update p f,toks:=t }:=by
 let e:(s.heap.update p f).get? p=δ { cls:=.type "list",data:=.seq i.toArray N }:=by rw[Heap.get?_update_self f k (by rw[g]<;>rfl),g]
 erw[I.write (x:=p) (e:=p) (by rw[h];trivial) (.inl Z) (λb u m q=>(Heap.get?_update_other _ _$ Ne.symm m).trans q) #[_,e] ?_];exact#[l,i,N,r,e]
inductive sK(o i v:V)(H:Hp)(Q:Hp->Prop):Prop
 |mk(p a k j:_)(_:o= .ref p)(_:i= .int k)(_:H p=δ (.lst a))(_:pK a.length k=δ j)(_:Q (af H p (.lst (a.set j v))))
def zQ:Lv X sK:=by
 intro P s z H o i v O F u Q I R A B h;let(p,C,k,j,rfl,rfl,l,D,q):=h;cases R;let(t,rfl):=A;let(c,n,r,e,E):=I.lst l;let(d,G,m,w):=rN D;let f:=r.length;let J:=gu;let x:ay X P z (af H p$ .lst$ C.set j v) {s.heap.update p (ab (·.setIfInBounds j u))}:=
  I.lstUpd l e (Zw c n j u) (r.set B j) (by rw[Vt];rwa[E]) s.toks
 by_cases y:0<=k
 .let g:k.toNat=j:=by rw[seqIndex_of y w]at d;exact Ss d
  rwa[PySem.W.ki_setAt e y PL (by rw[Rx,<- f];rwa[w]) (by rw[g];exact#[_,x,q])]
 .let g:(k+(c.toArray.size:Int)).toNat=j:=by rw[seqIndex_neg PL m]at d;rw[Rx,<- f];exact Ss d
  rwa[PySem.W.ki_setBack e PL (by rw[Rx,<- f];rwa[m]) PL (by rw[g];exact#[_,x,q])]
def X3(lo H:ym Int)(n:Nat):(sliceBounds lo H θ n).1=((HT.sIx n 0 lo:Nat):Int)/\(sliceBounds lo H θ n).2.1=((HT.sIx n n H:Nat):Int)/\(sliceBounds lo H θ n).2.2=1:=by
 erw[#[?_,?_,Z]]
 .cases lo with
  |none=>simp [sliceBounds,HT.sIx]
  |some i=>
   simp only[sliceBounds,HT.sIx,VR,show(1:Int) > 0 by decide,UX];by_cases h:i < 0
   .simp only[h,UX]<;>omega
   .simp only[h,Ta]<;>omega
 .cases H with
  |none=>simp [sliceBounds,HT.sIx]
  |some i=>
   simp only[sliceBounds,HT.sIx,VR,show(1:Int) > 0 by decide,UX];by_cases h:i < 0
   .simp only[h,UX]<;>omega
   .simp only[h,Ta]<;>omega
def QL(i:xL η)(lo h:ym Int):slicePick i.toArray lo h θ=((i.drop$ HT.sIx i.length 0 lo).take$ HT.sIx i.length i.length h - HT.sIx i.length 0 lo).toArray:=by let(H,c,d):=X3 lo h i.toArray.size;unfold slicePick;rw[H,c,d];simp only[sliceRange_one,pick_run,Rx]<;>rfl
inductive yU(K:Ψ)(x:V)(c b:ym Int)(H:Hp)(Q:VK):Prop
 |mk(a d:_)(_:x= .ref a)(_:aJ K H a d)(_:∀p,H p=θ->Q (.ref p) (af H p (.lst (aQ d c b))))
def km:NA X (yU X.K):=by intro p s m H x v V n lo e S Q I R g P i h;let(a,c,rfl,j,q):=h;cases R;let(k,r,f,l):=I.list j;let d:=r.length;erw[#["list",_,slot_list_getitem.lookup,f.isList.typeIs,?_]];erw[wpAny_getItem_list_slice f.isList g P i .none PJ ?_ (by rw[Rx]<;>omega)];rw[QL,<- d];erw[#[.ref (-s),_,I.laid (t':=s.toks) (o:=.lst (aQ c lo e)) (λb O q=>Rr _ q) (Rv _) ?_,Z,q _$ I.hok.fresh$ Rv _]];exact#[RM (zC c lo e) l,_,0,(r.drop$ HT.sIx c.length 0 lo).take$ HT.sIx c.length c.length e - HT.sIx c.length 0 lo,Ry _ Z]
noncomputable def dJ:V->Bool
 | .non | .bl _ | .int _ | .str _=>μ
 |_=>ν
noncomputable def o0:V->V->Bool
 | .non,.non=>μ
 | .bl a,.bl b=>a==b
 | .bl a,.int b=>(if a then 1 else 0)==b
 | .int a,.bl b=>a==(if b then 1 else 0)
 | .int a,.int b | .str a,.str b=>a==b
 |_,_=>ν
def wT(R:aK y u)(r:aK x v)(F:dJ y=μ)(f:dJ x=μ):SeqAt.EqAt A s u v (o0 y x):=by
 cases y with
 |non=>
  cases R;cases x with
  |non=>cases r;rwa[SeqAt.EqAt.same _]
  |bl b=>cases r;rwa[SeqAt.EqAt.none_bool b]
  |int b=>let(t,rfl):=r;rwa[SeqAt.EqAt.none_int b t]
  |str b=>let(t,rfl):=r;rwa[SeqAt.EqAt.none_str b t]
  |_=>rwa[absurd (show ν=μ from f) RI]
 |bl a=>
  cases R;cases x with
  |non=>cases r;rwa[SeqAt.EqAt.bool_none a]
  |bl b=>cases r;rwa[SeqAt.EqAt.bool_bool a b]
  |int b=>let(t,rfl):=r;rwa[SeqAt.EqAt.bool_int a b t]
  |str b=>let(t,rfl):=r;rwa[SeqAt.EqAt.bool_str a b t]
  |_=>rwa[absurd (show ν=μ from f) RI]
 |int a=>
  let(T,rfl):=R;cases x with
  |non=>cases r;rwa[SeqAt.EqAt.int_none a T]
  |bl b=>cases r;rwa[SeqAt.EqAt.int_bool a T b]
  |int b=>let(t,rfl):=r;rwa[SeqAt.EqAt.int_int a T b t]
  |str b=>let(t,rfl):=r;rwa[Wu a T b t]
  |_=>rwa[absurd (show ν=μ from f) RI]
 |str a=>
  let(T,rfl):=R;cases x with
  |non=>cases r;rwa[SeqAt.EqAt.str_none a T]
  |bl b=>cases r;rwa[SeqAt.EqAt.str_bool a T b]
  |int b=>let(t,rfl):=r;rwa[Wt a T b t]
  |str b=>let(t,rfl):=r;rwa[SeqAt.EqAt.str_str a T b t]
  |_=>rwa[absurd (show ν=μ from f) RI]
 |_=>rwa[absurd (show ν=μ from F) RI]
def pH(x:V)(u:η):Bool:=match u with
 | .none=>o0 .non x
 | .bool b=>o0 (.bl b) x
 | .int i _=>o0 (.int i) x
 | .str z _=>o0 (.str z) x
 |_=>ν
def wW(r:aK y u)(f:dJ y=μ):pH x u=o0 y x:=by
 cases y with
 |non |bl b=>cases r;rfl
 |int i |str z=>let(t,rfl):=r;rfl
 |_=>rwa[absurd (show ν=μ from f) RI]
theorem Js:∀{c:xL V} {U:xL η},aF c U->c.all dJ=μ->U.any (pH x)=c.any λy=>o0 y x
 |_,_,.nil,_=>rfl
 |y::c,u::U,.cons r t,f=>by rw[WC,SY]at f;rw[UO,UO,wW r f.1,Js t f.2]
theorem qG(R:aK x v)(F:dJ x=μ){c:xL V}{U:xL η}(h:aF c U)(f:c.all dJ=μ):∀u∈U,SeqAt.EqAt A s u v (pH x u):=by
 induction h with
 |nil=>intro u hu;cases hu
 |cons r t g=>
  rw[WC,SY]at f;intro d hu;rcases Ξ.mp hu with rfl |hu
  .rw[wW r f.1];rwa[wT r R f.1 F]
  .rwa[g f.2 d hu]
def rM(x:V)(c:xL V):Bool:=c.any λy=>o0 y x
inductive MQ(K:Ψ)(a:Bool)(x y:V)(H:Hp)(Q:VK):Prop
 |mk(p b:_)(_:y= .ref p)(_:aJ K H p b∨aC K H p b)(_:dJ x=μ)(_:b.all dJ=μ)(_:Q (.bl (if a then !rM x b else rM x b)) H)
def zJ:gf X (compareOp .In) (MQ X.K ν):=by
 intro d s j H x y v u Q I R e h;let(p,k,rfl,hq,F,f,q):=h;cases e;rcases hq with hq |hq
 .let(i,r,P,g):=I.list hq;erw[SeqAt.in_listAt (pH x) P.isList (λw c=>qG R F r f w (c:)) #[.bl _,H,I,Z,?_]];rw[show i.toArray.any (pH x)=i.any (pH x) by simp,Js r f];rwa[q]
 .let(i,r,P,g):=I.tuple hq;erw[SeqAt.in_tupleAt (pH x) P (λw c=>qG R F r f w (c:)) #[.bl _,H,I,Z,?_]];rw[show i.toArray.any (pH x)=i.any (pH x) by simp,Js r f];rwa[q]
def JI:gf X (compareOp .NotIn) (MQ X.K μ):=by
 intro d s j H x y v u Q I R e h;let(p,k,rfl,hq,F,f,q):=h;cases e;rcases hq with hq |hq
 .let(i,r,P,g):=I.list hq;erw[SeqAt.notIn_listAt (pH x) P.isList (λw c=>qG R F r f w (c:)) #[.bl _,H,I,Z,?_]];rw[show i.toArray.any (pH x)=i.any (pH x) by simp,Js r f];rwa[q]
 .let(i,r,P,g):=I.tuple hq;erw[SeqAt.notIn_tupleAt (pH x) P (λw c=>qG R F r f w (c:)) #[.bl _,H,I,Z,?_]];rw[show i.toArray.any (pH x)=i.any (pH x) by simp,Js r f];rwa[q]
inductive qN(K:Ψ)(a:xL V)(H:Hp)(Q:VK):Prop
 |mk(p b:_)(_:a=[.ref p])(_:aJ K H p b∨aC K H p b)(_:Q (.int b.length) H)
def jD:dS X (.builtin "len") (qN X.K):=by
 intro d s g H x U Q I r h;let(p,y,rfl,hq,q):=h;let(u,rfl,e):=fo r;cases e;let j:=gu;rcases hq with hq |hq
 .let(i,R,P,f):=I.list hq;let c:=R.length;rwa[Calls.call_len_list P.isList (by simp only[Rx]<;>omega) #[.int y.length,H,I.tok _,#[s.toks+1,by rw[Rx,c]],q]]
 .let(i,R,P,f):=I.tuple hq;let c:=R.length;rwa[len_tuple P (by simp only[Rx]<;>omega) #[.int y.length,H,I.tok _,#[s.toks+1,by rw[Rx,c]],q]]
inductive qO(K:Ψ)(a:xL V)(H:Hp)(Q:VK):Prop
 |mk(p b:_)(_:a=[.ref p])(_:aJ K H p b∨aC K H p b)(_:∀l,H l=θ->Q (.ref l) (af H l (.lst b)))
def JJ:dS X (.type "list") (qO X.K):=by
 intro P s v H z U Q I r h;let(p,y,rfl,hq,q):=h;let(u,rfl,x):=fo r;cases x;let f:∀(i:xL η),aF y i->ο y<=υ->∀(c:de) (C:Nat),(∀b O,s.heap.get? b=δ O->c.get? b=δ O)->
   c.get? (-s)=δ { cls:=.type "list",dict:=θ,data:=.seq i.toArray C,slots:=(ε []) }->EP X P v Q (.ref (-s)) {c}:=λi R d c C k e=>
  #[.ref (-s),_,I.laid (t':=s.toks) k (Rv _) (show aU X.prog X.w _ c _ (.lst y) from #[d,i,C,R,e]),Z,q _$ I.hok.fresh$ Rv _]
 rcases hq with hq |hq
 .let(i,R,j,d):=I.list hq;let g:=R.length;let(o,l,m,n,t):=j.isList;rwa[call_list_seq p (.inl Z) l m t (λc C k e=>f i R d c C k e) (by simp only[Rx]<;>omega)]
 .let(i,R,j,d):=I.tuple hq;let g:=R.length;let(o,l,m,n,t):=j;rwa[call_list_seq p (.inr Z) l m t (λc C k e=>f i R d c C k e) (by simp only[Rx]<;>omega)]
inductive ze(K:Ψ)(a:xL V)(H:Hp)(Q:VK):Prop
 |mk(p b:_)(_:a=[.ref p])(_:(aJ K H p b/\∀l,H l=θ->Q (.ref l) (af H l (.tup b)))∨(aC K H p b/\Q (.ref p) H))
def jP:dS X (.type "tuple") (ze X.K):=by
 intro P s g H x U Q I r h;let(p,y,rfl,h):=h;let(u,rfl,m):=fo r;cases m;rcases h with ⟨d,q⟩ | ⟨d,q⟩
 .let(i,R,f,j):=I.list d;let k:=R.length;erw[call_tuple_list f.isList (λc n=>?_) (by simp only[Rx]<;>omega)];let l:ay X P g H {c}:=I.kept (t':=s.toks) n;let t:ay X P g (af H c.objs.size$ .tup y) {c.push { cls:=.type "tuple",data:=.seq i.toArray }}:=
   l.laid (t':=s.toks) (λb o e=>Rr _ e) (Rv _) (show aU X.prog X.w _ _ _ (.tup y) from #[j,i,R,IsTup.new _ _])
  exact#[.ref c.objs.size,_,t,Z,q _$ l.hok.fresh$ Rv _]
 .let(i,R,f,j):=I.tuple d;rwa[call_tuple_same f #[.ref p,H,I,Z,q]]
def OH(K:Ψ)(T:String)(x:V)(H:Hp):Prop:=match x with
 | .str _=>T="str"
 | .int _=>T="int"
 | .ref p=>(T="list"/\∃c,aJ K H p c)∨(T="tuple"/\∃o,K.lookup p=δ o/\o.cls= .type "tuple"/\o.dict=θ)∨
   (T="dict"/\((∃k,H p=δ (.dK k))∨∃k,H p=δ (.dT k)))∨(T="set"/\∃S n,H p=δ (.set S n))
 |_=>False
def Be(I:ay X j u H s)(r:aK x v)(d:OH X.K T x H):
  s.TypeIs v T/\∀a,v= .ref a->∃O,s.heap.get? a=δ O/\O.dict=θ:=by
 cases x with
 |str z=>let(t,rfl):=r;cases (show T="str" from d);exact#[typeIs_str s z t,λ_ e=>nomatch e]
 |int i=>let(t,rfl):=r;cases (show T="int" from d);exact#[typeIs_int s i t,λ_ e=>nomatch e]
 |ref p=>
  cases r;rcases d with ⟨rfl,w,l⟩ | ⟨rfl,o,h,m,f⟩ | ⟨rfl,h⟩ | ⟨rfl,S,n,h⟩
  .let(q,_,P,_):=I.list l;erw[#[P.isList.typeIs,λa e=>?_]];cases e;let(o,n,e,c,f,_):=P;exact#[o,e,f]
  .erw[#[#[o,I.kIn p o h,m],λa e=>?_]];cases e;exact#[o,I.kIn _ o h,f]
  .let z:∃o,s.heap.get? p=δ o/\o.ExactDict:=by
    rcases h with ⟨k,h⟩ | ⟨k,h⟩
    .let(_,_,_,_,o,_,_,e,E,_):=I.hok p _ h;exact#[o,e,E]
    .let(_,_,_,_,o,_,_,e,E,_):=I.hok p _ h;exact#[o,e,E]
   let(o,e,E):=z;erw[#[#[o,e,E.1],λa g=>?_]];cases g;exact#[o,e,E.2.1]
  .let(o,_,_,_,e,E,_):=I.hok p _ h;erw[#[#[o,e,E.1],λa g=>?_]];cases g;exact#[o,e,E.2.1]
 |_=>rwa[False.elim d]
def OA(K:Ψ)(T:String)(r:V->xL V->Hp->VK->Prop)(t:TE):TE:=λc H Q=>t c H λx h=>OH K T x h/\r x [] h Q
def Oz(K:Ψ)(T:String)(r:V->xL V->Hp->VK->Prop)(d:TE)(t:TA):TE:=λc H Q=>d c H λx h=>OH K T x h/\t c h λe f=>r x e f Q
variable {o e:dw}{es:xL dw}{to:TE}{t:TA}{name:ρ}{apos cpos:Pos}{T id:String}{r:V->xL V->Hp->VK->Prop}
def HP(P:PlainAttrs T)(S:Slot T name id)(f:typeOf (.builtin id)=pure (.type "method_descriptor"))(j:NV X id r)(k:PE X o to)
  (c:↥(attributeBase o name X.env (eval o X.env)=eval o X.env)) (d:↥((apos.endLine==cpos.line)=μ)):PE X (.Call (.Attribute o name apos) [] [] cpos) (OA X.K T r to):=by
 intro p s g H Q I h;erw[wpAny_Call_method0_late c d$ a8 (k p s g H _ I h) λv l z=>?_];let(x,m,i,R,n,q):=z;let(u,w):=Be i R n;exact#[T,id,P,S,f,u,w,Vk Z$ PySem.evalArgs_none$ j p l g m x [] v [] Q i R .nil q]
def j6(P:PlainAttrs T)(S:Slot T name id)(i:typeOf (.builtin id)=pure (.type "method_descriptor"))(m:NV X id r)(n:PE X o to)(q:PA X (e::es) t)
  (d:↥(attributeBase o name X.env (eval o X.env)=eval o X.env))
  (g:↥(((fy cpos$ Δ (e::es) X.env).all (λx=>!x.1)&&(backToKw cpos$ keywordEach [] X.env).all (λx=>x.1.isSome)
   &&decide ((e::es).length+([]:xL Keyword).length+(if ([]:xL Keyword).isEmpty then 0 else 1) < 30))=μ))
  (f:↥((apos.endLine==cpos.line)=μ)) (u:↥(Δ (e::es) X.env=(ν,eval e X.env)::Δ es X.env)) (c:↥((fy cpos$ Δ es X.env).any (·.1)=ν)):
  PE X (.Call (.Attribute o name apos) (e::es) [] cpos) (Oz X.K T r to t):=by
 intro p s j H Q I h;erw[wpAny_Call_method_late d g f Z$ a8 (n p s j H _ I h) λv w z=>?_];let(x,y,k,R,A,B):=z;let(C,D):=Be k R A;erw[#[T,id,P,S,i,C,D,?_]];let l:=q cpos p w j y _ k B;rw[u]at l ⊢;erw[Vk (by show(ν||(fy cpos$ Δ es X.env).any (·.1))=ν;rw[c]<;>rfl)$ Y' ?_];rwa[a8 l λU E #[F,G,J,L,M]=>m p E j G x F v U Q J R L M]
end
def Lq(X:Cx)(id:String)(r:V->xL V->Hp->VK->Prop):Prop:=
 ∀(p:xL (ζ×gs)) (s:ι) (a:St) (H:Hp) (x:V) (b:xL V) (v:η) (u:xL η) (Q:VK),ay X p a H s->aK x v->aF b u->r x b H Q->
  π (χ X.prog X.w) X.A (call (.builtin id) (v::u)) (EP X p a Q) X.xe s
def aF.one{x:V}{U:xL η}(h:aF [x] U):∃u,U=[u]/\aK x u:=by
 cases h with
 |cons r t=>cases t;rwa[#[12,r]]
def aF.zero:∀{u:xL η},aF [] u->u=[]
 |_,.nil=>rfl
def aF.dropLast(h:aF x u):aF x.dropLast u.dropLast:=by
 induction h with
 |nil=>rwa[.nil]
 |cons r t i=>
  cases t with
  |nil=>rwa[.nil]
  |cons q T=>rwa[.cons r i]
def aF.reverse(h:aF x u):aF x.reverse u.reverse:=by
 induction h with
 |nil=>rwa[.nil]
 |cons r t i=>rw[U6,U6];rwa[aF.append i (.cons r .nil)]
def Zx{c:Type}(l:xL c):l.eraseIdx (ο l - 1)=l.dropLast:=by
 induction l with
 |nil=>rfl
 |cons a r i=>
  cases r with
  |nil=>rfl
  |cons b r=>
   let e:(a::b::r).length - 1=((b::r).length - 1)+1:=by let h:(a::b::r).length=ο r+2:=rfl;let H:(b::r).length=ο r+1:=rfl;omega
   rw[e,List.eraseIdx_cons_succ,i];all_goals rfl
section
variable {X:Cx}{pins:xL (ζ×gs)}{σ:St}{H:Hp}{s:ι}{l b:ζ}{xs ys zs:xL V}
def ay.lset{i its':xL η}{f:Array η->Array η}{t':Nat}(I:ay X pins σ H s)(h:H l=δ (.lst xs))
  (e:s.heap.get? l=δ { cls:=.type "list",data:=.seq i.toArray n }) (a:f i.toArray=its'.toArray) (c:aF ys its') (d:ο ys<=υ):
  ay X pins σ (af H l$ .lst ys) { s with heap:=s.heap.update l (ab f),toks:=t' }:=by
 let q:=PySem.IsL.update e f;rw[a]at q;erw[I.write (x:=l) (e:=l) (by rw[h];rwa[trivial]) (.inl Z) (λB u g j=>(RV s.heap (ab f)$ Sc g).trans j) #[_,q] ?_];exact#[d,its',_,c,q]
def ay.lnew{t':Nat}(I:ay X pins σ H s)(h:aF ys i)(a:ο ys<=υ):
  ay X pins σ (af H (-s)$ .lst ys) { s with heap:=s.heap.push { cls:=.type "list",data:=.seq i.toArray },toks:=t' }:=
 I.laid (λ_ _ q=>Rr _ q) (Rv _) #[a,i,0,h,Ry _ Z]
def ay.fresh(I:ay X pins σ H s):H (-s)=θ:=I.hok.fresh (Rv _)
def ay.lstM(I:ay X pins σ H s)(h:H l=δ (.lst xs)):ο xs<=υ/\∃(i:xL η) (n:Nat),aF xs i/\ο xs=ο i/\s.heap.get? l=δ { cls:=.type "list",data:=.seq i.toArray n }:=by let(z,i,n,r,e):=I.hok l _ h;exact#[z,i,n,r,r.length,e]
def iy(h:n<=υ):fJ n=ν:=by unfold fJ;rwa[RC PL]
end
section
variable {X:Cx}
inductive nj(x:V)(a:xL V)(H:Hp)(Q:VK):Prop
 |mk(l b y:_)(_:x= .ref l)(_:a=[y])(_:H l=δ (.lst b))(_:ο b < υ)(_:Q .non (af H l (.lst (b++[y]))))
def jQ:Lq X "list.append" nj:=by intro p s d H x V v U Q I R b h;let(l,f,y,rfl,rfl,a,g,q):=h;cases R;let(u,rfl,c):=b.one;let(z,i,n,r,j,e):=I.lstM a;erw[VX F.slot_list_append #[_,e,Z] F.entry_list_append (F.args_list_append_2 _ _) (PySem.list_append l i.toArray n u (by rw[Rx];omega)) #[e,?_]];erw[#[.non,_,I.lset (its':=i++[u]) a e PJ (r.append$ .cons c .nil) ?_,Z,q]];rw[Ru,Ub];omega
inductive sJ(x:V)(a:xL V)(H:Hp)(Q:VK):Prop
 |mk(l b c d:_)(_:x= .ref l)(_:a=[.ref b])(_:H l=δ (.lst c))(_:H b=δ (.lst d))(_:ο c+ο d<=υ)(_:Q .non (af H l (.lst (c++d))))
def qh:Lq X "list.extend" sJ:=by
 intro p s t H x V v U Q I R g h;let(l,b,w,y,rfl,rfl,f,j,A,q):=h;cases R;let(u,rfl,k):=g.one;cases k;let(z,a,n,r,B,e):=I.lstM f;let(C,i,N,m,o,E):=I.lstM j;let d:a.toArray.size+i.toArray.size<=υ:=by rw[Rx,Rx];omega
 let c:¬(!a.toArray.isEmpty&&fJ (a.toArray.size+i.toArray.size))=μ:=by rw[iy d,VC];rwa[RI]
 refine VX F.slot_list_extend #[_,e,Z] F.entry_list_extend (F.args_list_extend_2 _ _)
  (AutoSeq1.list_extend_list_list_0 l a.toArray n b i.toArray N c (by rw[Rx];omega) PL) #[e,E,?_]
 erw[#[.non,_,I.lset (its':=a++i) f e PJ (r.append m) ?_,Z,q]];rw[Ru];rwa[N09]
inductive MS(x:V)(a:xL V)(H:Hp)(Q:VK):Prop
 |mk(l b y:_)(_:x= .ref l)(_:a=[])(_:H l=δ (.lst b))(_:b[ο b - 1]?=δ y)(_:Q y (af H l (.lst b.dropLast)))
def Gr:Lq X "list.pop" MS:=by
 intro p s m H x V v U Q I R d h;let(l,o,y,rfl,rfl,c,f,q):=h;cases R;let a:=d.zero;subst a;let(z,i,n,r,g,e):=I.lstM c;let(u,j,k):=r.get f;let b:i.toArray[i.toArray.size - 1]?=δ u:=by show i.toArray[ο i - 1]?=δ u;rw[<- Tk,<- g];rwa[j]
 erw[VX F.slot_list_pop #[_,e,Z] F.entry_list_pop (F.args_list_pop_1 _) (MeetsSeq.list_pop_last l i.toArray n u b (by rw[Rx];omega)) #[e,?_]];erw[#[y,_,I.lset (its':=i.dropLast) c e ?_ r.dropLast ?_,k,q]]
 .show i.toArray.eraseIdxIfInBounds (i.toArray.size - 1)=i.dropLast.toArray;rw[Rx,List.eraseIdxIfInBounds_toArray,Zx]
 .rw[List.length_dropLast];omega
inductive Do(x y:V)(H:Hp)(Q:VK):Prop
 |mk(l b a c:_)(_:x= .ref l)(_:y= .ref b)(_:H l=δ (.lst a))(_:H b=δ (.lst c))(_:ο a+ο c<=υ)(_:∀p,H p=θ->Q (.ref p) (af H p (.lst (a++c))))
def zY:gf X (binaryOp .Add) Do:=by
 intro p s m H x y v u Q I R c h;let(l,b,o,t,rfl,rfl,d,f,w,q):=h;cases R;cases c;let(z,a,n,r,A,e):=I.lstM d;let(B,i,N,g,j,E):=I.lstM f;erw[PySem.P.add_list e E ?_ (by rw[Rx,Rx];omega)];let k:a.toArray++i.toArray=(a++i).toArray:=by simp
 rw[k];exact#[.ref _,_,I.lnew (t':=s.toks) (r.append g) (by rw[Ru];omega),Z,q _ I.fresh]
end
section
#print v
def vU(i I : xL η)(a c : Nat) : i.toArray.extract 0 a ++ I.toArray ++ i.toArray.extract c i.toArray.size = (i.take a ++ I ++ i.drop c).toArray := by
  apply Array.toList_inj.mp;first
    | (simp
       rwa[Tx PJ])
    | simp [Tx]
    | simp
def Zy{a c n:Nat}(hac:a<=c)(hc:c<=n):sliceBounds (δ (a:Int)) (δ (c:Int)) θ n=((a:Int),(c:Int),1):=by
 simp only[sliceBounds,VR];let h1:¬((a:Int) < 0):=PL
 let h2:¬((c:Int) < 0):=PL
 simp only[h1,h2,Ta,show(1:Int) > 0 by decide,UX];congr 1
 .omega
 .congr 1;omega
set_option maxRecDepth 100000 in
def QM{a c : Nat}{Q : Unit -> ι -> Prop}
    (e : s.heap.get? l = δ { cls := .type "list", data := .seq i n }) (y : s.heap.get? b = δ { cls := .type "list", data := .seq N I }) (q : l ≠ b)
    (C : s.heap.IsSliceOf p z B .none) (P : IsPart z (δ (a : Int))) (D : IsPart B (δ (c : Int))) (r : a <= c) (F : c <= i.size)
    (f : i.size + N.size <= υ) (h : Q () { s with heap := s.heap.update l (ab λX => X.extract 0 a ++ N ++ X.extract c X.size) }) :
    π (χ prog w) A (setItem (.ref l) (.ref p)$ .ref b) Q E s := by
  let t : s.heap.IsList l i := WZ e;let G : s.heap.IsList b N := WZ y;obtain ⟨os, d, u, g⟩ := id C;let k : s.TypeIs (.ref p) "slice" := #[os, d, u];let j : ¬ ((rawPart θ == rawInt 0) = μ) := RI;let H : eT (.ref l) (.ref b) = ν := by unfold eT;rwa[beq_eq_false_iff_ne.mpr q]
  let o : (max (a : Int) (c : Int)).toNat = c := by omega
  let v : ((λX : Array η => X.extract 0 a ++ N ++ X.extract c X.size) i).size <= υ + 1 := by simp only [VQ, Array.size_extract];omega
  unfold setItem;try with_reducible erw[RY ?_]
  first | refine Rp (Rt ?_) | skip
  erw[Rp$ V4 t.typeIs PM ?_];refine Rp (Sm (name := Str.ofString "__setitem__") t.typeIs slot_list_setitem
    (Si slot_list_setitem t.typeIs entry_list_setitem ?_$ args_list_setitem _ _ _))
  show π _ _ (rc (.ref p) >>= _) _ _ s;erw[Rp ?_];unfold rc;erw[Rp$ Tz k slice_no_index ?_];simp only [Option.isNone_none, UX];erw[Rt ?_];show π _ _ (typeOf (.ref p) >>= _) _ _ s;erw[Rp$ TK k ?_];first
    | rw [RD PM]
    | erw[Vp PM ?_]
  rw [listSliceParts_eq];erw[Rp$ Rp$ R4 d g (x := .none) Z$ Rp$ WU .none ?_];rw [RD j];erw[Rp$ R4 d g (x := z) Z$ Rp$ WU P ?_];erw[Rp$ R4 d g (x := B) Z$ Rp$ WU D$ Rt ?_];first
    | simp only [H, RO, Ta]
    | erw[Vp H ?_]
    | (dsimp only
       rw [RD (by rw [H]; rwa[RI])])
  erw[Rp (m := ro (.ref b) "must assign iterable to extended slice") ?_];unfold ro;erw[Rp$ TK G.typeIs ?_];first
    | erw[PySem.W.KFB.if_so PM ?_]
    | rw [RB PM]
    | simp only [VH, Bool.true_or, UX]
  unfold Builtin.List.listItems;erw[Rp$ SK y Z$ Rt ?_];erw[Rp$ Rp$ SK e Z$ Rt ?_];erw[Rp$ Vm ((sliceIndices_raw (δ (a : Int)) (δ (c : Int)) θ i.size PJ).trans$ SM (pure : Int × Int × Int -> Sem (Int × Int × Int))$ Zy r F) ?_];show π _ _ (if ((1 : Int) == 1) = μ then _ else _) _ _ s;rw [RB PM];erw[Rp$ TR ?_];first
    | simp only [iy f, RO, Ta]
    | erw[Vp (iy f) ?_]
  first | refine Rp (Rt ?_) | skip
  show π _ _ (updateSeq l (λX => X.extract 0 ((a : Int)).toNat ++ N ++ X.extract (max (a : Int) (c : Int)).toNat X.size) >>= _) _ _ s;rw [o, SE];erw[Rp$ VD (hz := RM (Uk _ _) f) (_hz' := v) e Z ?_];erw[Rp$ wpAny_letGo ?_];first
    | rwa[Rp (Rt (Rt #[.none, Z, Rt h]))]
    | rwa[Rt #[.none, Z, Rt h]]
end
section
variable {X:Cx}
def vS{Q:Unit->ι->Prop}(I:ay X p o H s)
  (k:H l=δ (.lst x)) (q:H b=δ (.lst y)) (f:l≠b) (t:s.heap.IsSliceOf u v B .none) (R:aK (.int a) v) (D:aK (.int c) B) (m:0<=a) (g:a<=c) (J:c<=ο x)
  (K:ο x+ο y<=υ) (h:∀S,ay X p o (af H l$ .lst$ x.take a.toNat++y++x.drop c.toNat) S->Q () S):
  π (χ X.prog X.w) X.A (setItem (.ref l) (.ref u)$ .ref b) Q X.xe s:=by
 let(T,rfl):=R;let(L,rfl):=D;let(z,d,n,r,M,e):=I.lstM k;let(N,i,O,E,F,G):=I.lstM q;let(j,rfl):=WQ m;let(C,rfl):=WQ (Int.le_trans m g);simp only[SE]at h;erw[QM (a:=j) (c:=C) e G f t (.int _ _) (.int _ _) PL (by rw[Rx];omega) (by rw[Rx,Rx];omega)$ h _ ?_];erw[I.lset (its':=d.take j++i++d.drop C) (t':=s.toks) k e ?_ (aF.append (aF.append (r.take _) E)$ r.drop _) ?_]
 .rwa[vU d i j C]
 .rw[Ru,Ru,R0,Te];omega
end
end _L
namespace Att
open PySem PySem.W PySem.Calls PyProof.Rows
def Kn{P:Params}:∀(N:xL Int) (v:xL η),WellAll P h v (N.map WData.int)->IntsAre v N:=by
 intro N;induction N with
 |nil=>intro v w;rw[List.map_nil]at w;cases w;rwa[.nil]
 |cons n N i=>
  intro v w;rw[SR]at w;cases w with
  |cons a b=>cases a;rwa[.cons _ _$ i _ b]
def vQ{l:OpenLaw}(k:l.most=δ n){P:Params}
  (H:l.row.toRowW.claim.pre args=μ) (g:WellAll P h v args):
  ∃a V N,v=[Θ a]/\args=[WData.list$ N.map WData.int]/\h.get? a=δ { cls:=.type "list",data:=.seq V.toArray }/\IntsAre V N/\ο N<=n:=by
 let i:WShape.hasAll [] args [.list .int]=μ:=(pre_splitW H).1;let j:l.pre.holds [] { args:=args }=μ:=(pre_splitW H).2;let(d,r,rfl,m,o):=hasAllW_cons i;obtain rfl:=hasAllW_nil o;let(x,rfl,p):=hasW_list m;let(N,rfl):=items_int p;let b:ο N<=n:=by
  unfold OpenLaw.pre at j;let e:(WTm.not$ .lt (.lit$ .int (n:Int))$ .len$ .arg 0).holds [] { args:=[.list$ N.map .int] }=μ:=by let e:=(holds_andW j).1;rw[k]at e;rwa[e]
  let f:=condW_of e (w_not$ w_lt w_lit$ w_len_list$ w_arg Z);rw[Rs]at f;erw[Vj λq=>?_];let Q:(n:Int) < ((N.length:Nat):Int):=by rwa[N09]
  first
   | (rw[RG Q]at f;rwa[absurd f PM])
   | (simp at f;omega)
 cases g with
 |cons w W=>
  cases W;cases w with
  |list s c=>exact#[11,N,22,s,Kn N _ c,b]
def vC(l:OpenLaw)(args:xL WData):l.row.toRowW.claim.post args (.bool μ) args=μ:=
 postW_of (r:=l.row.toRowW) (X:=(μ==μ))
  (show WShape.has [] (.bool μ) .bool=μ by first |rfl |decide |simp [WShape.has,WShape.arms,WShape.armsAll])
  (show(WTm.eq .res$ .lit$ .bool μ).value [] { args:=args,res:=δ (.bool μ),after:=args }=δ (.bool$ μ==μ) from w_eq_bool (w_res Z) w_lit) Z
def attach_call{l:OpenLaw}{y:bF->de->Prop}{d:DefRec}
  (x:l.most=δ n) (g:d.params.defaults=[])
  (call:∀(w:bF) (S s:ι) (m M:ρ->ym η) (F:ζ) (o:gs) (p C D:η) (a:ζ) (v:xL η) (N:xL Int),
   Ground q L [] z w S m M s.heap->y w s.heap->
   s.heap.get? F=δ o->o.data= .func (docDef d.name d.params d.body d.scope p C D)->s.heap.CodeRec C d.name->m d.name=↑F->
   s.heap.get? a=δ { cls:=.type "list",data:=.seq v.toArray }->IntsAre v N->ο N<=n->s.gens=(ε [])->
   lq (χ l.prog w) callerA (.call (.ref F) #[[.ref a],[]]) (λr e=>r= .ok (.ret$ .bool μ)/\OldK s.heap e.heap/\e.os=s.os/\AllBare e.gens) s):
  WalkO q L z y l.row.toRowW d [] (λf v=>PySem.call f v):=by
 intro w S s m M G Y F o p C D B kV E I i t j J A V W H u K k O;obtain rfl:B= .none:=Dflts.none t g;obtain rfl:kV= .none:=Dflts.noKw t;let(a,v,N,rfl,rfl,b,h,c):=vQ x H k;erw[enter_call$ Ue (call w S s m M F o p C D a v N G Y E (fd_plain I) i j b h c J) λr e P=>?_];let(rfl,Q,R,T):=P;exact#[.inl #[.bool μ,.bool μ,[],Z,λ_=>Z,.bool μ,vC l _,λ_=>#[ks,λ_ U=>(nomatch U)]],Q,R,T]
end Att
namespace _L
open PySem PySem.Spec PyProof.Rows
theorem Xe{v:xL η}{N:xL Int}(h:IntsAre v N):aF (N.map xb) v:=by
 induction h with
 |nil=>rwa[.nil]
 |cons n t _ f=>rwa[.cons #[t,Z] f]
def Fk(H:Hp):Prop:=∀b,H b=θ∨∃o x,H b=δ (.frz o$ .lst x)
def xS{P:ω}{K:Ψ}{S:ι}{i:xL η}
  (Y:K.In S.heap) (l:S.heap.Ns Φ M) (c:S.heap.Ns builtinsNs mb) (Q:∀x:ρ,x≠"__name__"->mb x=bootBuiltins x) (p:S.heap.NoLimit) (hg:S.gens=(ε []))
  (J:S.heap.get? a=δ { cls:=.type "list",data:=.seq i.toArray }) (hi:IntsAre i O) (hl:ο O<=υ) (hr:cf k callerA)
  (F:∀f:de,K.In f->f.Ns Φ M->ai P w K M f CX k fa fd [x] sp) (j:∀(s:ι) (u:η),BindsTo s fd #[[u],[]] [(x,u)])
  (R:∀H:Hp,Fk H->aJ K H a (O.map xb)->sp [.ref a] H (λv _=>v= .bl μ) λ_ _ _=>False)
  (T:∀H e g,CX [] H S (λ_ _ _=>False) e g->False):
  lq (χ P w) callerA (.call (.ref fa) #[[.ref a],[]]) (λr g=>r= .ok (.ret$ .bool μ)/\OldK S.heap g.heap/\g.os=S.os/\AllBare g.gens) S:=by
 let rv:=Xe hi;let L:=hi.length;let C:∀H:Hp,Fk H->aJ K H a (O.map xb)->gL P w H S.heap->(∀b,H b≠θ->b=a)->(H a≠θ->K.lookup a=θ)->
   lq (χ P w) callerA (.call (.ref fa) #[[.ref a],[]]) (λr g=>r= .ok (.ret$ .bool μ)/\OldK S.heap g.heap/\g.os=S.os/\AllBare g.gens) S:=by
  intro H hO hS t hA hK;let B:∀{b:ζ} {o:gs},S.heap.get? b=δ o->H b=θ->(mZ S.heap H).get? b=δ o:=λe n=>xH e n;let U:∀{b:ζ} {o:gs} {E:Array DictEntry} {y:Nat},S.heap.get? b=δ o->o.data= .dict E y->H b=θ:=λ{b o E y} e d=>by
   cases q:H b with
   |none=>rfl
   |some u=>have W:b=a:=hA b (by rw[q];simp);subst W;rw[J]at e;cases e;let d':Data.seq i.toArray _=Data.dict E y:=d;cases d'
  let N:∀{b:ζ} {m:ρ->ym η},S.heap.Ns b m->(mZ S.heap H).Ns b m:=λ{b m} #[o,E,y,e,d,r]=>#[o,E,y,B e$ U e d,d,r];let A:K.In (mZ S.heap H):=λb o e=>B (Y b o e) (by
   cases q:H b with
   |none=>rfl
   |some u=>
    let W:b=a:=hA b (by rw[q];simp);subst W;rw[hK (by rw[q];simp)]at e;cases e)
  let hM:Mod K M (mZ S.heap H):=#[A,N l,#[mb,N c,Q],let #[mc,h1,h2]:=p;#[mc,N h1,h2]];let e0:pj P w K M (mZ S.heap H) callerA [] S H:=#[Z,hM,λb o e=>CN e,U0$ uK _ _,trivial,λb c=>absurd (show b∈([]:xL ζ) from c) PJ,t,.of_eq hg];erw[Ue ((F _ A$ N l).run callerA [] S H #[[.ref a],[]] [.ref a] [.ref a] _ _ hr e0 (j S$ .ref a) (.cons Z .nil) (R H hO hS)) λr g h=>?_];cases r with
  |error e=>exact(T H e g h).elim
  |ok fl=>
   cases fl with
   |next |brk |cont=>rwa[False.elim h]
   |ret u=>
    let(v,H',os,D,un,G,r',q):=h;let q':v= .bl μ:=q;subst q';obtain rfl:u=nz μ:=r';erw[#[Z,OldK.of_keep λb o e=>?_,os,D]];cases q:H b with
    |none=>rwa[un.keep b o e q (by intro z;rwa[absurd (show b∈([]:xL ζ) from z) PJ]) PJ]
    |some u=>
     rcases hO b with z | ⟨ob,xs,z⟩
     .rw[q]at z;cases z
     .let z2:=un.frzs b ob _ z;let(e1,_):=t b _ z;let(e2,_):=G b _ z2;rw[e]at e1;cases e1;rwa[e2]
 cases X:K.lookup a with
 |some o=>have e:=Y a o X;rw[J]at e;cases e;erw[C (λ_=>θ) (λ_=>.inl Z) (.inr #[_,i.toArray,_,X,222,by rw[Rx,L];rwa[hl],by simpa using rv]) (λb u z=>by let I:(θ:ym HO)=δ u:=z;cases I) (λb z=>absurd Z z) λz=>absurd Z z]
 |none=>
  erw[C (λb=>if b=a then δ (.frz { cls:=.type "list",data:=.seq i.toArray }$ .lst$ O.map xb) else θ) (λb=>?_) (.inl$ .inr #[{ cls:=.type "list",data:=.seq i.toArray },RB Z]) (λb u z=>?_) (λb z=>?_) λ_=>X]
  .by_cases c:b=a
   .rwa[.inr #[11,RB c]]
   .rwa[.inl$ RD c]
  .by_cases c:b=a
   .let I:=(RB c).symm.trans z;cases I;subst c;exact#[J,by rw[Rs];rwa[hl],i,_,rv,J]
   .let I:=(RD c).symm.trans z;cases I
  .by_cases c:b=a
   .rwa[c]
   .rwa[absurd (RD c) z]
def D5{l:rz}{n k:Nat}{E:bF->de->Prop}{d:DefRec}{K:Params->Ψ}{CX:bF->ua}{sp:bF->Sp}{x:ρ}
  (O:l.most=δ n) (r:n<=υ) (t:d.params.defaults=[]) (P:cf k callerA)
  (Q:∀(w:bF) (h:de),E w h->(K w.params).In h)
  (F:∀(w:bF) (m:ρ->ym η) (p:ζ) (h:de),(K w.params).In h->h.Ns Φ m->m d.name=↑p->
   ∃y:bS,(∀(s:ι) (u:η),BindsTo s y #[[u],[]] [(x,u)])/\
    ∀B:de,(K w.params).In B->B.Ns Φ m->ai l.prog w (K w.params) m B (CX w) k p y [x] (sp w))
  (z:∀(w:bF) (H:Hp) (a:ζ) (N:xL Int),ο N<=n->Fk H->aJ (K w.params) H a (N.map xb)->sp w [.ref a] H (λv _=>v= .bl μ) λ_ _ _=>False)
  (A:∀(w:bF) (H:Hp) (s:ι) (e:η) (C:ι),CX w [] H s (λ_ _ _=>False) e C->False):
  PySem.W.WalkO q L XP E l.row.toRowW d [] (λf I=>PySem.call f I):=by
 erw[Att.attach_call O t λw J S m mb p o pm cd R a I N G Y ho hd U D j i c X=>?_];let M:=Q w _ Y;let(y,hb,hF):=F w m p _ M G.T.g D;rwa[xS M G.T.g G.T.b G.T.builtins G.T.nolimit X j i (RM c r) P hF hb (λH hO hS=>z w H a N c hO hS) λH e C=>A w H S e C]
noncomputable def bZ(s:cc)(j:Nat):cc:=match s with
 | .ClassDef _ _ _ b _ _ _ _ _ _ _=>b.getD j (.Pass #[0,0,0,0])
 |_=>.Pass #[0,0,0,0]
noncomputable def ci(s:cc):Arguments:=match s with
 | .FunctionDef _ a _ _ _ _ _ _ _ _=>a
 |_=>{ posonlyargs:=[],args:=[],vararg:=θ,kwonlyargs:=[],kw_defaults:=[],kwarg:=θ,defaults:=[] }
noncomputable def bM(s:cc):xL cc:=match s with
 | .FunctionDef _ _ b _ _ _ _ _ _ _=>b
 |_=>[]
noncomputable def ae(s:cc):ge:=match s with
 | .FunctionDef _ _ _ _ _ _ S _ _ _=>S
 |_=>{ kind:=.function,names:=[],isGenerator:=ν,isCoroutine:=ν }
abbrev aH:ua:=λ_ _ _ _ _ _=>False
abbrev E0:XK:=λ_ _ _=>False
def b6{X:Cx}:eL aH X E0:=λ_ _ _ _ _ _ _ h=>h.elim
structure aT(K:Ψ)(x qual:ρ)(st:cc)(f:ζ)(fd:bS):Prop where
 ex:∃(oc:η) (od:ym ζ) (kV doc pm:η) (an:ym ζ) (cdv ct:η) (osl:Array (ym η)),
  fd=tT x qual (ci st) (bM st) (ae st) .none kV doc pm an cdv ct/\K.lookup f=δ #[oc,od,.func fd,osl]/\codeIn K cdv qual=μ
 kp:hG K (.ref f)=μ
section
variable {P:ω}{w:bF}{K:Ψ}{mg:ρ->ym η}{base:de}
abbrev xD(K:Ψ)(x:ρ):=aT K x x
def aT.ok{st:cc}{d:Sp}(F:aT K x a st f i)(S:am N p (ae st))
  (b:∀(c:η) (A:bU) (o:xL Env) (s:ι) (H:Hp) (v:xL V) (Q:VK) (E:XK),cf k (A.deeper$ envOfC a (ae st) (-s) f c)->d v H Q E->
   let X:=gZ aH P w K mg base N a (ae st) f c A o s H E;∃t,oe X.nox (bM st) t/\t { nx:=λ_ j=>Q .non j,rt:=Q } (iK N v) H)(len:∀v H Q E,d v H Q E->ο v=ο p:=by rintro _ _ _ _⟨⟩;subst_vars;rfl):ai P w K mg base aH (k+1) f i p d:=by
 let(m,n,kV,D,r,u,c,C,O,rfl,lk,e):=F.ex;erw[Ey lk e S len λA o s H v Q E l g=>?_];let(t,h,q):=b c A o s H v Q E l g;exact#[t,h.nox,q]
def aT.binds{st:cc}{p:xL ρ}(F:aT K x q st f b)
  (h:∀(kV d a:η) (A:ym ζ) (c C:η) (u:xL η),ο u=ο p->bindArgs (tT x q (ci st) (bM st) (ae st) .none kV d a A c C) #[u,[]]=pure (p.zip u)):aE K b p []:=by
 let(O,e,kV,d,a,A,c,C,o,rfl,lk,H):=F.ex;rwa[.all$ h kV d a A c C]
def xu{st:cc}{kV:η}(l:K.lookup f=δ #[O,e,.func$ tT x q (ci st) (bM st) (ae st) .none kV d p a C b,o])
  (c:codeIn K C q=μ) (k:hG K (.ref f)=μ):aT K x q st f (tT x q (ci st) (bM st) (ae st) .none kV d p a C b):=#[#[O,e,kV,d,p,a,C,b,o,Z,l,c],k]
end
def zW(h:cf k A):A.units+1 < cLine:=Tc (Nat.add_le_add_left (PM:1<=64) _) h.units
section
variable {X:Cx}
def pv(i:Nat){x:ρ}{p:Pos}(H:↥(X.N[i]?=δ x))(a:NC X.env.scope x:=by first |exact ψ Z |exact fR (ψ Z) |exact fR$ fR Z)(b:↥((x==("__debug__":ρ))=ν))
  (h:↥((x==("__classdict__":ρ))=ν)):PE X (.Name x p) (bn i):=HR H a b h
end
def om{A B:Prop}(h:B):if ν=μ then A else B:=by rw[RD RI];rwa[h]
def pJ{A B:Prop}(h:A):if μ=μ then A else B:=by rw[RB Z];rwa[h]
def cn{c A B:Prop}[Decidable c](H:c->A)(a:¬c->B):if c then A else B:=by
 by_cases h:c
 .rw[RB h];rwa[H h]
 .rw[RD h];rwa[a h]
def aa(H h:Hp):Prop:=∀b o,H b=δ o->h b=δ o
def aa.refl(H:Hp):aa H H:=λ_ _ h=>h
def aa.trans(a:aa H d)(b:aa d e):aa H e:=λc o h=>b c o (a c o h)
def aa.free(e:aa H a)(h:a l=Option.none):H l=Option.none:=by
 cases q:H l with
 |none=>rfl
 |some o=>rw[e l o q]at h;cases h
def aa.seq{K:Ψ}(e:aa H b)(h:aJ K H a x):aJ K b a x:=by
 rcases h with (h | ⟨o,h⟩) |h
 .rwa[.inl$ .inl$ e _ _ h]
 .rwa[.inl$ .inr #[o,e _ _ h]]
 .rwa[.inr h]
section
variable {prog:ω}{w:bF}{A:bU}{R:Result->ι->Prop}{s:ι}
abbrev Ef:η->ι->Prop:=λ_ _=>False
def ut{iter:dw}(I:Nat->ι->Prop)
  (T:∀n s,I n s->π (χ prog w) A (pyNext B) (λr S=>match r with
   |none=>R (.ok .next) S
   |some v=>π (χ prog w) A (letOwnedTupleGo t B v) (λ_ b=>π (χ prog w) A (assign t e v) (λ_ d=>
     π (χ prog w) A (forIn l μ λc r=>if r=μ then do let o <- isTrue c e (eval c e);pure (ForInStep.yield o) else pure (ForInStep.yield r)) (λo a=>
      if o=μ then π (χ prog w) A (eval E e) (λx g=>
       π (χ prog w) A (call (.builtin "list.append") [p,x]) (λ_ i=>∃m,m < n/\I m i) Ef g) Ef a
      else ∃m,m < n/\I m a) Ef d) Ef b) Ef S) Ef s)
  (n:Nat) (h:I n s):
  lq (χ prog w) A (.compLoop (.ListComp E [#[t,iter,l,0]] k C) 0 B p e) R s:=by
 erw[codeAny_loop Z I (λn s D=>?_) n h];show π _ A ((compTurn (.ListComp E [#[t,iter,l,0]] k C) 0 B p e).onRaise (λx=>do noteFrame x e;theTreesLotGoes x)) _ _ s;erw[wpAny_noted ?_];rw[compTurn_list];erw[Rp$ Uh$ Rp$ SN (T n s D) (λr S H=>?_) λ_ _ f=>f.elim];cases r with
 |none=>rwa[Rt H]
 |some v=>
  erw[Rp$ SN H (λ_ b q=>?_) λ_ _ f=>f.elim];erw[Rp$ SN q (λ_ d u=>Rp (SN u (λo a j=>?_) λ_ _ f=>f.elim)) λ_ _ f=>f.elim];cases o with
  |false=>rwa[Rt #[Z,j]]
  |true=>rwa[Rp$ Rp$ SN j (λx g y=>Rp (SN y (λ_ i z=>Rt (Rt #[Z,z])) λ_ _ f=>f.elim)) λ_ _ f=>f.elim]
end
noncomputable def bH(X:Cx)(s:ge)(M:xL ρ)(c:xL (ρ×ζ))(C:ζ)(f:xL ζ)(S:ι)(H:Hp):Cx where
 prog:=X.prog
 w:=X.w
 K:=X.K
 mg:=X.mg
 base:=X.base
 A:=X.A
 N:=M
 s₀:=S
 H₀:=H
 env:=compEnvC s c C X.env
 outer:=X.stack
 stack:=X.stack
 ex:=f
 fn:=λ_=>ν
 calm:=X.calm
 pn:=[]
 xe:=λ_ _=>False
noncomputable def Lc(n:Nat)(I:xL Nat)(a:St):St:=fz n θ++I.map λi=>(a[i]?).getD θ
structure bh(N:xL ρ)(sc scope:ge)(M:xL ρ)(nT:Nat)(ix:xL Nat):Prop where
 cell:∀y∈scope.names,y.2≠ .cell
 kind:scope.kind= .function
 loc:∀y∈scope.names,y.2= .local->scope.names.lookup y.1=δ .local
 fre:∀y∈scope.names,y.2= .free->sc.names.lookup y.1=δ .cell
 nms:M.drop nT=ix.map λi=>N.getD i Str.empty
 len:ο M=nT+ο ix
 vis:∀i∈ix,scope.names.lookup (N.getD i Str.empty)=δ .free
theorem JK{E:Env}(c:E.scope.kind= .function):∀{N:xL (ρ×NameKind)} {y:ρ},N.lookup y=δ .free->E.kindOf y=δ .cell->
  (N.map λ(n,k)=>if (k==NameKind.free&&E.scope.kind== .function&&E.kindOf n==δ .cell) then (n,NameKind.cell) else (n,k)).lookup y=δ .cell
 | [],_,h,_=>by simp at h
 | (n,k)::r,y,h,b=>by
  let i:=@JK E c r y;show ib y ((if (k==NameKind.free&&E.scope.kind== .function&&E.kindOf n==δ .cell)=μ then (n,NameKind.cell) else (n,k))::_)=_;cases H:y==n with
  |true=>
   simp only[SU,H]at h;cases h;let e:y=n:=by simpa using H
   subst e;rw[RB (by rw[c,b];rfl)];simp [SU]
  |false=>
   simp only[SU,H]at h;by_cases a:(k==NameKind.free&&E.scope.kind== .function&&E.kindOf n==δ .cell)=μ
   .rw[RB a];simp only[SU,H];rwa[i h b]
   .rw[RD a];simp only[SU,H];rwa[i h b]
theorem Qp{E:Env}:∀{N:xL (ρ×NameKind)} {y:ρ} {K:NameKind},
  (N.map λ(n,k)=>if (k==NameKind.free&&E.scope.kind== .function&&E.kindOf n==δ .cell) then (n,NameKind.cell) else (n,k)).lookup y=δ K->
  ∃k,N.lookup y=δ k/\(K=k∨k= .free)
 | [],_,_,h=>by simp at h
 | (n,k)::r,y,K,h=>by
  let i:=@Qp E r y K;let h:ib y ((if (k==NameKind.free&&E.scope.kind== .function&&E.kindOf n==δ .cell)=μ then (n,NameKind.cell) else (n,k))::_)=δ K:=h;cases a:y==n with
  |true=>
   erw[#[k,by simp only[SU,a],?_]];by_cases H:(k==NameKind.free&&E.scope.kind== .function&&E.kindOf n==δ .cell)=μ
   .right;simp only[SY]at H;simpa using H.1.1
   .rw[RD H]at h;simp only[SU,a]at h;left;exact(Ss h).symm
  |false=>
   let b:ib y (r.map λ(n,k)=>if (k==NameKind.free&&E.scope.kind== .function&&E.kindOf n==δ .cell) then (n,NameKind.cell) else (n,k))=δ K:=by
    by_cases H:(k==NameKind.free&&E.scope.kind== .function&&E.kindOf n==δ .cell)=μ
    .rw[RB H]at h;simp only[SU,a]at h;rwa[h]
    .rw[RD H]at h;simp only[SU,a]at h;rwa[h]
   let(c,e,q):=i b;exact#[c,by simp only[SU,a];rwa[e],q]
noncomputable def bj(e:Env):xL (ρ×NameKind)->xL (ρ×ζ)->xL (ρ×ζ)
 | [],a=>a
 | (n,k)::r,a=>if k== .free then bj e r ((n,(e.cells.lookup n).getD 0)::a) else bj e r a
theorem qt{E:Env}:∀{N:xL (ρ×NameKind)} {acc:xL (ρ×ζ)},(∀y∈N,y.2= .free->∃c,E.cells.lookup y.1=δ c)->(∀x c,acc.lookup x=δ c->E.cells.lookup x=δ c)->
  ∀x c,(bj E N acc).lookup x=δ c->E.cells.lookup x=δ c
 | [],_,_,b,x,c,h=>b x c h
 | (n,k)::r,acc,f,b,x,c,h=>by
  unfold bj at h;by_cases g:(k==NameKind.free)=μ
  .rw[RB g]at h;erw[qt (λy H=>f y (RZ _ H)) (λX j a=>?_) x c h];let(C,d):=f (n,k) RN (g:);let d:E.cells.lookup n=δ C:=d;simp only[SU]at a;cases i:X==n with
   |true=>
    rw[i]at a;let e:X=n:=by simpa using i
    subst e;rw[d]at a;rw[d];rwa[a]
   |false=>rw[i]at a;rwa[b _ _ a]
  .rw[RD g]at h;rwa[qt (λy H=>f y (RZ _ H)) b x c h]
theorem qP:∀{a:xL (ρ×ζ)},(∃c,(x,c)∈a)->∃c,a.lookup x=δ c
 | [],h=>by let(_,h):=h;cases h
 | (n,c)::r,h=>by
  simp only[SU];cases H:x==n with
  |true=>exact#[c,Z]
  |false=>
   let(C,h):=h;rcases Ξ.mp h with e |h
   .injection e with E _;subst E;simp at H
   .rwa[qP #[C,h]]
theorem Jj:∀{N:xL (ρ×NameKind)} {a:xL (ρ×ζ)},((∃c,(x,c)∈a)∨(x,NameKind.free)∈N)->∃c,(x,c)∈bj E N a
 | [],_,h=>by
  rcases h with h |h
  .rwa[h]
  .cases h
 | (n,k)::r,a,h=>by
  unfold bj;by_cases H:(k==NameKind.free)=μ
  .rw[RB H];erw[Jj ?_];rcases h with ⟨c,h⟩ |h
   .rwa[.inl #[c,RZ _ h]]
   .rcases Ξ.mp h with e |h
    .injection e with b _;subst b;rwa[.inl #[_,RN]]
    .rwa[.inr h]
  .rw[RD H];erw[Jj ?_];rcases h with h |h
   .rwa[.inl h]
   .rcases Ξ.mp h with e |h
    .injection e with _ d;subst d;rwa[absurd Z H]
    .rwa[.inr h]
theorem qW{e:Env}:∀(N:xL (ρ×NameKind)) (A:xL (ρ×ζ)),(∀y∈N,y.2= .free->∃c,e.cells.lookup y.1=δ c)->
  (forIn N A (λx r=>match x with | (name,K)=>if (K==NameKind.free)=μ then (do let a <- cellOf e name;pure (ForInStep.yield ((name,a)::r))) else pure (ForInStep.yield r)):Sem (List$ ρ×ζ))=pure (bj e N A)
 | [],A,_=>rfl
 | (n,k)::r,A,b=>by
  let i:=λA=>qW r A λy H=>b y (RZ _ H);rw[T8];unfold bj;by_cases h:(k==NameKind.free)=μ
  .let(C,E):=b (n,k) RN (h:);let E:e.cells.lookup n=δ C:=E;let d:cellOf e n=pure C:=by unfold cellOf;rw[E]
   rw[RB h];simp only[h,UX,d,E];rwa[i _]
  .rw[RD h];simp only[h];rwa[i _]
def qX{e:Env}{S:ge}(H:∀y∈S.names,y.2= .free->∃c,e.cells.lookup y.1=δ c):closureFor S e=pure (bj e S.names []):=by let h:=qW S.names [] H;rwa[SM (λt:Sem (List$ ρ×ζ)=>t >>= λs=>pure s) h]
section
variable {X:Cx}{pins:xL (ζ×gs)}{σ:St}{H:Hp}{s:ι}
def JC(I:ay X pins σ H s)(S:bh X.N X.env.scope a M n i):∀y∈a.names,y.2= .free->∃c,X.env.cells.lookup y.1=δ c:=
 λy h e=>I.ok.has y.1 (.inl$ S.fre y h e)
def wI{g:de}(I:ay X pins σ H s)(F:∀b∈Y,iq X pins H b)(P:∀b∈Y,b < -s)
  (S:bh X.N X.env.scope a M n G) (Q:-s<=C) (O:∀b o,s.heap.get? b=δ o->g.get? b=δ o) (R:g.Ns C m):
  ay (bH X a M (bj X.env a.names []) C Y s H) [] (Lc n G σ) H { s with heap:=g,toks:=tk }:=by
 let sub:∀x c,(bj X.env a.names []).lookup x=δ c->X.env.cells.lookup x=δ c:=qt (JC I S) (λx c h=>by simp at h);let j:∀x,a.names.lookup x=δ .free->∃c,(bj X.env a.names []).lookup x=δ c:=λx e=>qP (Jj$ .inr$ Tj e);let hex:∀x K,(relabel a X.env).names.lookup x=δ K->(K= .cell∨K= .free)->a.names.lookup x=δ .free:=λx K e A=>by
  let(k,t,q):=Qp e;rcases q with q |q
  .rcases A with z |z
   .rwa[absurd (q.symm.trans z)$ S.cell (x,k)$ Tj t]
   .rw[t,<- q,z]
  .rw[t,q]
 refine#[#[I.ok.mod,S.kind,I.ok.glob,I.ok.blt,Q,λx y c h1 h2=>I.ok.inj x y c (sub x c h1) (sub y c h2),λx hx=>?_,λx c hx=>?_,I.ok.hd,I.ok.frames,.inl Z,λb w=>#[λz=>?_,λx c e=>?_],I.bs,RM I.ok.bsz I.sz,λb o e w=>?_,λb w hz=>?_,I.stack,I.stkFree],
  rfl,I.bare,Un.kept O,#[m,R,λk y v t E _=>?_],λx c e=>?_,I.hok.fresh Q,λx c e=>I.freeC x c (sub x c e),λp hp=>absurd (show p∈([]:xL (ζ×gs)) from hp) PJ,I.hok.kept O,?_]
 .rcases hx with hx |hx
  .rwa[j x$ hex x _ hx$ .inl Z]
  .rwa[j x$ hex x _ hx$ .inr Z]
 .rwa[absurd (show ν=μ from hx) PM]
 .let z':b=C:=z;let:=P b w;rw[z']at this;rwa[absurd this$ Nat.not_lt.mpr Q]
 .exact(F b w).2.2.2.2.1 x c (sub x c e)
 .rcases(F b w).2.2.2.1 with z |z
  .rwa[I.ok.noex b o e z]
  .rwa[absurd (RQ (Rz e)$ RM I.ok.bsz z)$ SI _]
 .rcases Ξ.mp (I.stkSub b hz) with z |z
  .exact(F b w).2.1 z
  .exact(F b w).2.2.1 z
 .let E:(Lc n G σ)[k]?=δ (δ v):=E;let t:M[k]?=δ y:=t;unfold Lc at E;by_cases A:k < n
  .rw[TQ (A:),WJ]at E;simp [A]at E
  .let B:n<=k:=Vj A;rw[TJ (B:),UG,RP]at E;cases J:G[k - n]? with
   |none=>rw[J]at E;cases E
   |some i=>
    rw[J]at E;let L:(σ[i]?).getD θ=δ v:=Ss E;let V:σ[i]?=δ (δ v):=by
     cases W:σ[i]? with
     |none=>rw[W]at L;cases L
     |some o=>rw[W]at L;rwa[SM δ L]
    let hi:i < ο X.N:=by rw[<- I.len];exact(ξ.mp V).1
    let e7:y=X.N.getD i Str.empty:=by
     let q:(M.drop n)[k - n]?=δ y:=by rw[VJ];rw[Nat.add_sub_cancel' B];rwa[t]
     rw[S.nms,RP,J]at q;exact(Ss q).symm
    let e8:X.N[i]?=δ y:=by rw[e7,Rq hi,Se,Rq hi];rfl
    let d:a.names.lookup y=δ .free:=by rw[e7];rwa[S.vis i$ RL J]
    let f:X.env.scope.names.lookup y=δ .cell:=S.fre (y,.free) (Tj d) Z;let(m',_,hl):=I.loc;let(u,r,l):=hl i y v e8 V (.inr$ .inl f);erw[#[u,r,?_]];rcases l with ⟨l,_⟩ | ⟨_,c,ec,o,T,U⟩
    .let l:X.env.scope.names.lookup y=δ .local:=l;rw[f]at l;cases l
    .let(c',D):=j y d;let q:=sub y c' D;rw[ec]at q;cases q;rwa[.inr #[.inl$ JK I.ok.kind d f,c,D,o,O _ _ T,U]]
 .let(v,o,T,U):=I.cell x c (sub x c e);exact#[v,o,O _ _ T,U]
 .show(Lc n G σ).length=ο M;rw[S.len];simp [Lc]
def ay.track(I:ay X pins σ H s)(f:iq X pins H D)(G:X.s₀.heap.objs.size<=D)(a:aU X.prog X.w (af H D o) s.heap D o):ay X pins σ (af H D o) s:=by
 let n:=f.1;let N:∀b u,H b=δ u->b≠D:=λb u e=>jk e n;erw[#[I.ok,I.os,I.bare,#[I.base.keep,I.base.slot,λb O e q i=>?_,I.base.there,λb d e=>?_,λb O u e=>?_,λb P e=>?_],I.loc,I.cell,?_,λx c e=>?_,λp h=>?_,λb u e=>?_,I.len]]
 .rw[ji$ RJ$ RQ (Rz e) G];rwa[I.base.free b O e q i]
 .let q:=I.base.tups b d e;rw[ji$ N _ _ q];rwa[q]
 .let q:=I.base.frzs b O u e;rw[ji$ N _ _ q];rwa[q]
 .let(m,q):=I.base.tbls b P e;exact#[m,by rw[ji$ N _ _ q];rwa[q]]
 .rw[ji$ Sc f.2.1];rwa[I.free]
 .rw[ji$ f.2.2.2.2.1 x c e];rwa[I.freeC x c e]
 .let(e,q,r):=I.pin p h;exact#[e,by rw[ji$ f.2.2.2.2.2 p h];rwa[q],r]
 .by_cases g:b=D
  .subst g;rw[jc]at e;cases e;rwa[a]
  .rw[ji g]at e;exact(I.hok b u e).stay (λ_ _ _ q=>q) (λc q=>by rw[ji$ N _ _ q];rwa[q]) λc d q=>by rw[ji$ N _ _ q];rwa[q]
noncomputable abbrev mv(u:xL η):gs:={ cls:=.type "list",data:=.seq u.toArray u.length }
def uW(u:xL η)(y:η):({ cls:=.type "list",data:=.seq (u.toArray.push y) (ο u+1) }:gs)=mv (u++[y]):=by show({ cls:=.type "list",data:=.seq (u.toArray.push y) (ο u+1) }:gs)={ cls:=.type "list",data:=.seq (u++[y]).toArray (u++[y]).length };rw[Ru,Ub,List.push_toArray]
def PF(X:Cx)(i:xL dw)(t:TT):Prop:=
 ∀(pins:xL (ζ×gs)) (s:ι) (σ:St) (H:Hp) (Q:Bool->Hp->Prop),ay X pins σ H s->t σ H Q->
  π (χ X.prog X.w) X.A (forIn i μ λc r=>if r=μ then do let o <- isTrue c X.env (eval c X.env);pure (ForInStep.yield o) else pure (ForInStep.yield r)) (TP X pins σ Q) X.xe s
def mw:TT:=λ_ H Q=>Q μ H
def zw:PF X [] mw:=λ_ _ _ H _ I h=>wpAny_tests_nil #[H,I,h]
def KP{c:dw}{t:TT}(h:PT X c t):PF X [c] t:=λpins s σ H Q I q=>wpAny_tests_one (h pins s σ H Q I q)
def sQ(I:xL Nat)(σ:St):St:=I.map λi=>(σ[i]?).getD θ
def fi(J:It)(n:Nat)(t:St)(g:TG)(j:TT)(k:TE)(Q:xL V->Hp->Prop)(H:Hp):Prop:=
 ∃W:Nat->Nat->xL V->Hp->Prop,(∃m,W 0 m [] H)/\∀i m Y H,W i m Y H->
  (J.stop i H/\Q Y H)∨(J.go i H/\ο Y < υ/\∃N:xL V->Hp->Prop,(∀c h,N c h->∃M,M < m/\W (i+1) M c h)/\
   ∀x d (e:St),ο e=n->J.yld i H x d->g x (e++t) d λa h=>(∃T:St,ο T=n/\a=T++t)/\j a h λb f=>if b=μ then k a f λy l=>N (Y++[y]) l else N Y f)
def Qq{iter:dw}
  {RR:η->ζ->Result->ι->Prop}
  (I:ay X pins σ H s) (hc:X.calm=μ) (T:pF X.prog X.w X.K tg J k it tn) (st:tn 0 s.heap) (hf:∀b∈k,iq X pins H b) (S:bh X.N X.env.scope scope M nT ix)
  (hg:∀cl C k s H,PG (bH X scope M cl C k s H) tg g) (hi:∀cl C k s H,PF (bH X scope M cl C k s H) i0 tt) (he:∀cl C k s H,PE (bH X scope M cl C k s H) e0 te)
  (h:fi J nT (sQ ix σ) g tt te Qf H)
  (h':∀D C Y m t G,(∀b o u,H b=δ (.frz o u)->t b=δ (.frz o u))->t D=θ->ay X pins σ (af t D$ .lst Y) G->iq X pins (af t D$ .lst Y) C->G.heap.Ns C m->Qf Y t->RR (.ref D) C (.ok .next) G):
  π (χ X.prog X.w) X.A (newList []) (λacc B=>π (χ X.prog X.w) X.A (newFunctionEnv scope X.env.globals (bj X.env scope.names []) [] X.env.qual θ .none$ δ X.env) (λc0 s0=>
   lq (χ X.prog X.w) X.A (.compStart (.ListComp e0 [#[tg,iter,i0,0]] scope p1) 0 (.ref it) acc { c0 with scope:=relabel scope X.env }) (RR acc c0.locals) s0) E B) E s:=by
 obtain⟨W,⟨m0,w0⟩,t1⟩:=h;let h3:∀b∈k,b < -s:=λb a=>by let(o,e,_):=T.obj 0 _ st b a;rwa[Rz e]
 erw[So$ wpAny_newFunctionEnv S.cell (by intro y hy;simp at hy) (λF l f=>?_) S.kind];dsimp only at l f ⊢;generalize h4:s.heap.push { cls:=.type "list",dict:=θ,data:=.seq ([]:xL η).toArray }=H2 at l f ⊢;let hC:H2.objs.size=-s+1:=by rw[<- h4,SA]
 let P:-s≠H2.objs.size:=by rw[hC];rwa[RJ$ Ti _]
 let h0:-s<=H2.objs.size:=by rw[hC];rwa[Tb _]
 let b0:∀b,b < -s->b≠H2.objs.size/\b≠-s:=λb a=>#[by rw[hC];rwa[RJ$ TZ a],RJ a];let o1:∀b o,s.heap.get? b=δ o->F.get? b=δ o:=λb o e=>f.extBut b o (b0 b$ Rz e).1 (Rr _$ h4▸Rr _ e);let h5:F.get? (-s)=δ (mv []):=f.extBut _ _ P (Rr _$ h4▸Ry _ Z);let a0:H (-s)=θ:=I.hok.fresh (Rv _);let h6:-s∉mJ X.stack:=λa=>(Ξ.mp$ I.stkSub _ a).elim (λe=>absurd I.lt (by rw[<- e];rwa[SI _])) (I.nofs$ Rv _);generalize hD:-s=D at*;generalize b1:H2.objs.size=C at*;let J0:∀tk,ay (bH X scope M (bj X.env scope.names []) C k s H) [] (Lc nT ix σ) H { s with heap:=F,toks:=tk }:=λtk=>wI I hf (by rw[hD];rwa[h3]) S (by rw[hD];rwa[h0]) o1 l;let c1:∀x c,(bj X.env scope.names []).lookup x=δ c->c≠D:=λx c e z=>by let sub:=qt (JC I S) (acc:=[]) (λx c h=>by simp at h) x c e;let(v,o,ho,_):=I.cell x c sub;let:=Rz ho;rw[z,hD]at this;rwa[SI _ this]
 let p0:∀{σ0:St} {t:Hp} {G:ι} {U:xL η},ay (bH X scope M (bj X.env scope.names []) C k s H) [] σ0 t G->G.heap.get? D=δ (mv U)->t D=θ->
   ay (bH X scope M (bj X.env scope.names []) C k s H) [(D,mv U)] σ0 t G:=λ{σ0 t G U} I' e n=>I'.pins_of λp hp=>by
  let ep:p=(D,mv U):=by simpa using hp
  subst ep;exact#[e,n,P,h6,λv z=>by cases z]
 let L:∀{t:Hp} {U:xL η},(∀b∈k,t b=θ)->∀b∈k,iq (bH X scope M (bj X.env scope.names []) C k s H) [(D,mv U)] t b:=λ{t U} hn b a=>
  #[hn b a,((J0 0).ok.exf b a).1,(J0 0).ok.exfs b a,.inl a,((J0 0).ok.exf b a).2,λp hp z=>by
   let ep:p=(D,mv U):=by simpa [bH] using hp
   rw[ep]at z;let:=h3 b a;rw[<- z]at this;rwa[SI _ this]]
 let l0:∀B:ι,(∃tk,B={ s with heap:=F,toks:=tk })->
   lq (χ X.prog X.w) X.A (.compLoop (.ListComp e0 [#[tg,iter,i0,0]] scope p1) 0 (.ref it) (.ref D)$ compEnvC scope (bj X.env scope.names []) C X.env) (RR (.ref D) C) B:=by
  rintro B ⟨tk,rfl⟩;refine ut (λn G=>∃i Y U ts t,ο ts=nT/\ay (bH X scope M (bj X.env scope.names []) C k s H) [(D,mv U)] (ts++sQ ix σ) t G/\aF Y U/\ο Y<=υ/\tn i G.heap/\(∀b∈k,t b=θ)/\W i n Y t) ?_ m0
   #[0,[],[],fz nT θ,H,UG,p0 (J0 tk) h5 a0,.nil,RE _,T.keep _ _ _ st λb a o e=>o1 b o e,λb a=>(hf b a).1,w0]
  rintro n s1 ⟨i,Y,U,ts,Q,a1,I1,rv,hz,s7,f0,w1⟩;rcases t1 i n Y Q w1 with ⟨stop,q⟩ | ⟨go,a2,N,hN,step⟩
  .erw[a8 (T.done (bH X scope M (bj X.env scope.names []) C k s H) Z Z Z hc i _ s1 _ Q Ef I1 (L f0) s7 stop) λr s2 j=>?_];let(hr,I2):=j;subst hr;let IO:ay X pins σ Q s2:=I.call' (ch:=k) I2.os I2.base I2.hok I2.bare λb a=>#[(hf b a).2.2.2.1,(hf b a).2.1,(hf b a).2.2.2.2.1,(hf b a).2.2.2.2.2];let pD:=I2.pin (D,mv U) (by simp [bH]);let h8:Q D=θ:=pD.2.1;let fD:iq X pins Q D:=by rw[<- hD];exact I.fpOk (Rv _) (by rw[hD];exact h8)
   let IT:ay X pins σ (af Q D$ .lst Y) s2:=IO.track fD (by rw[<- hD];rwa[I.sz]) #[hz,U,U.length,rv,pD.1];let(mC,a3,_):=I2.loc;let a4:Q C=θ:=I2.free;rwa[h' D C Y mC Q s2 I2.base.frzs h8 IT (I.fpOk (by rw[hD];rwa[h0]) (by rw[ji$ Sc P];rwa[a4])) a3 q]
  .erw[a8 (T.item (bH X scope M (bj X.env scope.names []) C k s H) Z Z Z hc i _ s1 _ Q Ef I1 (L f0) s7 go) λr s2 j=>?_];let(u,hr,h2):=j;subst hr;erw[a8 h2 λ_ s3 j=>?_];let(x,H3,I3,r3,y3,O,f1):=j;let a5:=I3.pinned (L f1) (T.obj _ _ O);erw[a8 (hg _ _ _ _ _ _ s3 _ H3 x u _ a5 r3$ step x H3 ts a1 y3) λ_ s4 j=>?_];obtain⟨σ1,H4,I4,⟨t0,h1,e4⟩,q4⟩:=j;subst e4;erw[a8 (hi _ _ _ _ _ _ s4 _ H4 _ I4 q4) λb s5 j=>?_];let(H5,I5,q5):=j;cases b with
   |false=>obtain⟨m',hm,w'⟩:∃m',m' < n/\W (i+1) m' Y H5:=hN _ _ q5;erw[#[m',hm,i+1,Y,U,t0,H5,h1,I5.unpinned,rv,hz,T.keep _ _ _ O λb a o e=>(I5.pin (b,o)$ RW _$ RW _$ zz a e).1,λb a=>?_,w']];let(o,e,d):=T.obj _ _ O b a;exact(I5.pin (b,o)$ RW _$ RW _$ zz a e).2.1
   |true=>
    erw[a8 (he _ _ _ _ _ _ s5 _ H5 _ I5 q5) λv s6 j=>?_];let(y,H6,I6,r6,q6):=j;let(m',hm,w'):=hN _ _ q6;let pD:=I6.pin (D,mv U) (RW _$ Td _ RN);let hl:=rv.length;let R:∀b∈k,∀o,s3.heap.get? b=δ o->s6.heap.get? b=δ o:=λb a o e=>(I6.pin (b,o)$ RW _$ RW _$ zz a e).1;let V:∀b∈k,H6 b=θ:=λb a=>by let(o,e,d):=T.obj _ _ O b a;exact(I6.pin (b,o)$ RW _$ RW _$ zz a e).2.1
    erw[append_at (hsz:=by rw[Rx,<- hl];rwa[hz]) pD.1 λh7 sb a'=>?_];let I7:ay (bH X scope M (bj X.env scope.names []) C k s H) [] (t0++sQ ix σ) H6 { s6 with heap:=h7 }:=
     (I6.pins_of (pins':=[]) λp hp=>absurd hp PJ).turned (t':=s6.toks) (it:=D) (λb o a e=>(sb.2 b a).trans e) pD.2.1 P (.inr (by show -s<=D;rw[hD];rwa[Rv _])) c1 λp hp=>absurd (show p∈([]:xL (ζ×gs)) from hp) PJ
    refine#[m',hm,i+1,Y++[y],U++[v],t0,H6,h1,p0 I7 (a'.trans$ SM δ$ uW U v) pD.2.1,rv.append$ .cons r6 .nil,by rw[Ru,Ub];exact a2,
     T.keep _ _ _ (T.keep _ _ _ O R) λb a o e=>(sb.2 b λz=>?_).trans e,V,w']
    let:=h3 b a;rw[z]at this;rwa[SI _ this]
 rwa[codeAny_compStart_list (l0 _ #[12])$ T.self _ 0 _ _ _ (T.keep _ _ _ st λb a o e=>o1 b o e)$ l0 _ #[12]]
def tQ(w:TI)(n:Nat)(i:xL Nat)(g:TG)(t:TT)(T:TE):TE:=λσ H Q=>w σ H λJ a=>fi J n (sQ i σ) g t T (λy h=>∀p,h p=θ->Q (.ref p) (af h p$ .lst y)) a
def za{t E iter:dw}{i:xL dw}{a:ge}{p:Pos}{M:xL ρ}{k:Nat}{l:xL Nat}{W:TI}{g:TG}{r:TT}{u:TE}(v:X.calm=μ)(y:PI X t iter W)(S:bh X.N X.env.scope a M k l)
  (z:∀c C f s H,PG (bH X a M c C f s H) t g) (B:∀c C f s H,PF (bH X a M c C f s H) i r) (G:∀c C f s H,PE (bH X a M c C f s H) E u)
  (K:autoParam (∀x,foldedSetIterable iter X.env x=pure x) Cv._auto_1):
  PE X (.ListComp E [#[t,iter,i,0]] a p) (tQ W k l g r u):=by
 intro pins s σ H Q I h;rw[eval_ListComp];erw[wpAny_comprehension_free (use:=θ) Z K (qX$ JC I S) S.kind S.loc$ a8 (y pins s σ H _ I h) λxv s1 L=>a8 L λO s2 P=>?_];let(it,f,tn,J,H2,e,U,T,d,V,R):=P;subst e;erw[Qq (RR:=λj C=>compPost (χ X.prog X.w) X.A X.xe θ (EP X pins σ Q) j C) U v T d V S z B G R ?_];intro D C ys m H' Y _ n I' F ns q;exact#[m,ns,λh' sb=>#[.ref D,_,I'.turned (t':=Y.toks) (λb o hb e=>(sb.2 b hb).trans e) F.1 F.2.1 F.2.2.2.1 F.2.2.2.2.1 F.2.2.2.2.2,Z,q D n]]
def qQ{t E iter:dw}{d:xL dw}{c:ge}{p P f:Pos}{y:ρ}{i:Nat}{M:xL ρ}{U:Nat}{V:xL Nat}{W:TI}{g:TG}{Y:TT}{te:TE}(hN:X.N.Nodup)(hy:X.N[i]?=δ y)(hx:wg X.env.scope y)
  (hc:X.calm=μ) (hI:PI X t iter W) (S:bh X.N X.env.scope c M U V)
  (hg:∀l C j s H,PG (bH X c M l C j s H) t g) (hi:∀l C j s H,PF (bH X c M l C j s H) d Y) (he:∀l C j s H,PE (bH X c M l C j s H) E te)
  (r:↥(swapsWith (.ListComp E [#[t,iter,d,0]] c p) (δ$ .Name y P) f.line X.env=pure μ))
  (hf:autoParam (X.fn y=μ∨X.env.scope.names.lookup y=δ .local) Wx._auto_1)
  (hs:autoParam (∀x,foldedSetIterable iter X.env x=pure x) Cv._auto_1):
  PS X (.Assign [.Name y P] (.ListComp E [#[t,iter,d,0]] c p) f) (λD σ H=>tQ W U V g Y te σ H λv H1=>D.nx (σ.set i$ δ v) H1):=by
 intro pins s σ H D I h;rw[exec_Assign_Name_used _ _ _ _ r];erw[Rp$ Uh$ Rp ?_];show π _ X.A (do let _ <- comprehension (.ListComp E [#[t,iter,d,0]] c p) c X.env _ (newList []) ν (eval iter X.env) (δ$ assign (.Name y P) X.env)) _ _ s;refine Rp (a8 (wpAny_comprehension_free (use:=δ (assign (.Name y P) X.env)) (Q:=λ_ k=>SP X pins D .next k) Z hs (qX$ JC I S) S.kind S.loc
  (a8 (hI pins s σ H _ I h) λxv s1 h1=>a8 h1 λi0 s2 h2=>?_)) λ_ k hq=>Rt (Rt hq))
 let(it,j,tn,J,H2,e,I2,T,u,f2,R):=h2;subst e;erw[Qq (RR:=λB C=>compPost (χ X.prog X.w) X.A X.xe (δ$ assign (.Name y P) X.env) (λ_ k=>SP X pins D .next k) B C) I2 hc T u f2 S hg hi he R ?_];intro Dd C ys m H' k _ n I' F ns q;show π _ X.A (assign (.Name y P) X.env$ .ref Dd) _ _ k;erw[wpAny_assign_Name$ Q6 I' hN hy hx (v:=.ref Dd) Z (λG K hh=>?_) hf];let(a,sb,ha):=hh;let L:C≠a:=by
  rcases ha with z |z
  .rw[z];rwa[F.2.1]
  .rwa[Sc$ F.2.2.2.2.1 _ _ z]
 exact#[m,ns.sameBut sb L,λh' O=>#[11,K.turned (t':=G.toks) (λb o hb e=>(O.2 b hb).trans e) F.1 F.2.1 F.2.2.2.1 F.2.2.2.2.1 F.2.2.2.2.2,q Dd n]]
end
section
variable {X:Cx}
def Lg(i j:Int):Prop:=0 < j/\j<=1000000000000000000
def K8:gf X (binaryOp .FloorDiv) (rI Lg λi j=>.int (i / j)):=MD λi j _ _ _ _ _ h q=>by
 let b:(0:Int) < j:=h.1;let c:j<=1000000000000000000:=h.2;erw[floordiv_int PL (by rw[Wq i PL];rwa[q])$ .inl$ PyProof.noPylong_of_log2 ?_];let H:j.natAbs≠0:=PL
 let a:j.natAbs < 2 ^ 60:=by rwa[N09]
 let d:j.natAbs.log2 < 60:=(Nat.log2_lt H).mpr a;omega
noncomputable def N8:V->ym η
 | .ty n=>δ (.type n)
 | .ref a=>↑a
 |_=>θ
inductive qc(K:Ψ)(a:xL V)(H:Hp)(Q:VK):Prop
 |mk(x y c t b:_)(_:a=[x,y])(_:N8 y=δ c)(_:iQ K H x t)(_:kitOne K t c=δ b)(_:Q (.bl b) H)
def qL:dS X (.builtin "isinstance") (qc X.K):=by
 intro p s g H i U Q I r h;let(x,y,c,t,b,rfl,d,ty,e,q):=h;let(u,w,rfl,f,R):=Fh r;let E:w=c:=by
  cases y with
  |ty n |ref a=>rwa[Eq.trans R (Ss d)]
  |_=>cases d
 subst E;rwa[uN I f ty e λT=>#[.bl b,H,I.tok T,Z,q]]
theorem Kf:∀{B:xL Bool} {U:xL η},aF (B.map V.bl) U->LSm.BoolsAre U B
 | [],_,.nil=>.nil
 |b::r,_,.cons (b:=u) h t=>by let e:u=nz b:=h;subst e;rwa[.cons b$ Kf t]
inductive Qr(K:Ψ)(b:xL V)(H:Hp)(Q:VK):Prop
 |mk(p:ζ)(a:xL Bool)(_:b=[.ref p])(_:aJ K H p (a.map V.bl))(_:Q (.bl (a.all id)) H)
def wG(j:X.calm=μ):dS X (.builtin "all") (Qr X.K):=by
 intro P s w H x U Q I r h;let(p,B,rfl,k,q):=h;let(u,rfl,R):=fo r;cases R;let(a,l,m,y):=I.list k;let f:=Kf l;let c:=m.isList;let d:p < -s:=by let(_,e,_):=c;rwa[Rz e]
 erw[call_all_walk$ UL c ?_];refine#[-s,[-s,p],[-s],a.toArray.size,11,λi=>(B[i]?).getD μ,Z,Walks.list (A:=X.A.in1) (I.ok.hd j) _ p (RJ d) a.toArray,
  #[#[_,Ry _ Z,22],c.push _],λi v S z E n g=>?_,λC t o=>?_]
 .let(b,e,rfl):=f.get i v (n:);simp only[e,Option.getD_some]at g;rwa[UK g]
 .let e:((dr a.toArray.size).all λi=>(B[i]?).getD μ)=B.all id:=by rw[Rx,f.length];exact LSm.range_all B
  rw[e];exact#[.bl _,H,I.kept (t':=t)$ LSm.kept_iter o,Z,q]
theorem qu:∀{Y:xL ρ} {U:xL η},aF (Y.map vr) U->StrsAre U Y
 | [],_,.nil=>.nil
 |y::r,_,.cons (b:=u) h t=>by obtain⟨T,e⟩:∃T,u=lu y T:=h;subst e;rwa[.cons y T$ qu t]
inductive Xf(K:Ψ)(x:V)(a:xL V)(H:Hp)(Q:VK):Prop
 |mk(z:ρ)(p:ζ)(b:xL ρ)(_:x= .str z)(_:a=[.ref p])(_:aJ K H p (b.map vr))(_:z.length<=16)(_:(b.map (·.length)).sum+ο b<=1048576)(_:Q (.str (Txt.join z b)) H)
def XQ:NV X "str.join" (Xf X.K):=by intro P s j H x l v U Q I r R h;let(z,p,y,rfl,rfl,a,b,c,q):=h;let(u,rfl,d):=fo R;cases d;let(t,rfl):=r;let(i,e,f,g):=I.list a;rwa[join_listW f.isList (qu e:) b c λT k=>#[.str _,H,I.tok k,#[12],q]]
noncomputable def wM:dw->ym V
 | .Constant (.str x) _ _=>δ (.str x)
 | .Constant (.int i) _ _=>δ (.int i)
 |_=>θ
def HQ(h:wM e=δ v):PE X e (tC v):=by
 cases e with
 |Constant c j p=>
  cases c with
  |str x=>cases h;rwa[jl]
  |int i=>cases h;rwa[jf]
  |_=>cases h
 |_=>cases h
def AO(h:wM e=δ v):Δ (e::a) E=(ν,eval e E)::Δ a E:=by
 cases e with
 |Constant c j p=>rfl
 |_=>cases h
def xQ(e:dw):Bool:=(wM e).isSome
def wL(e:dw):V:=(wM e).getD .non
theorem XS:∀{E:xL dw},E.all xQ=μ->PA X E (λ_ H Q=>Q (E.map wL) H)
 | [],_=>jb
 |e::E,h=>by
  rw[WC,SY]at h;let(v,a):=nk.mp (show(wM e).isSome=μ from h.1);let b:wL e=v:=by unfold wL;rw[a];rfl
  rw[SR,b];rwa[ja (HQ a) (XS h.2)$ AO a]
def uE{E:xL dw}(h:E.all xQ=μ):(E.map wL).all dJ=μ:=by
 rw[Vd]at h ⊢;intro v H;let(e,a,rfl):=dn.mp H;let q:=h e a;unfold xQ at q;unfold wL;cases e with
 |Constant c j p=>
  cases c with
  |str x |int i=>rfl
  |_=>rwa[absurd q RI]
 |_=>rwa[absurd q RI]
def Nj(t:TS):TS:=λD b H=>∃R:St->Hp->Prop,t { D with nx:=R } b H/\∀a h,R a h->D.nx a h
def j8{st:cc}{t:TS}(h:PS X st t):PS X st (Nj t):=by
 intro p s b H D I c;let(R,d,e):=c;erw[a8 (h p s b H _ I d) λf S q=>?_];cases f with
 |next=>let(a,g,i,q):=q;exact#[a,g,i,e _ _ q]
 |brk |cont |ret v=>rwa[q]
def uQ{t:St}(h:ο t=1):∃v,t=[v]:=by
 cases t with
 |nil=>cases h
 |cons v r=>
  cases r with
  |nil=>exact#[v,Z]
  |cons _ _=>cases h
def YW{lo:Int}{t:TE}{Q:xL V->Hp->Prop}(Pv:Nat->xL V->Hp->Prop)(g:Pv 0 [] H)(j:n<=υ)(b:∀i Y h,Pv i Y h->ο Y<=i)
  (k:∀i Y h,i < n->Pv i Y h->t (δ (.int$ lo+i)::c) h λy d=>Pv (i+1) (Y++[y]) d) (l:∀Y h,Pv n Y h->Q Y h):
  fi (wf lo n) 1 c (bf 0) mw t Q H:=by
 erw[#[λi m Y h=>m=n - i/\i<=n/\Pv i Y h,#[n,PJ,RE _,g],?_]];rintro i m Y h ⟨rfl,q,p⟩;by_cases a:i < n
 .erw[.inr #[a,Tc (b i Y h p)$ RQ a j,Pv$ i+1,λo d P=>#[n - (i+1),N09,Z,a,P],λx d T f y=>?_]];let(e,y):=y;subst e y;let(v,rfl):=uQ f;exact#[#[[δ _],22],k i Y _ a p]
 .let e:i=n:=by omega
  subst e;rwa[.inl #[Rv _,l Y h p]]
end
section
variable {κ:Type}[DecidableEq κ]
noncomputable def cR(K:xL (κ×V))(k:κ):ym V:=(K.find? λa=>decide (a.1=k)).map (·.2)
noncomputable def bu(K:xL (κ×V))(k:κ)(v:V):xL (κ×V):=
 if (K.any λa=>decide (a.1=k))=μ then K.map (λa=>if a.1=k then (a.1,v) else a) else K++[(k,v)]
noncomputable def mH(K:xL (κ×V))(k:κ):xL (κ×V):=K.filter λa=>decide (a.1≠k)
def kJ{p:κ×V}(e:p.1=k):cR (p::r) k=δ p.2:=by simp [cR,Uu,e]
def kK{p:κ×V}(e:¬p.1=k):cR (p::r) k=cR r k:=by simp [cR,Uu,e]
theorem JD(k:κ):∀K:xL (κ×V),(K.any λa=>decide (a.1=k))=(cR K k).isSome
 | []=>rfl
 |p::r=>by
  rw[UO];by_cases e:p.1=k
  .simp only[kJ e,RG e,Bool.true_or,Option.isSome_some]
  .rw[kK e,RC e,Bool.false_or];rwa[JD k r]
theorem Ym(k j:κ)(y:V):∀K:xL (κ×V),cR (K.map λa=>if a.1=k then (a.1,y) else a) j=(cR K j).map λx=>if j=k then y else x
 | []=>rfl
 |p::r=>by
  let i:=Ym k j y r;rw[SR];by_cases h:p.1=k
  .rw[RB h];by_cases e:p.1=j
   .rw[kJ (p:=(p.1,y)) e,kJ e,Vi,RB$ e.symm.trans h]
   .rw[kK (p:=(p.1,y)) e,kK e,i]
  .rw[RD h];by_cases e:p.1=j
   .rw[kJ (p:=p) e,kJ e,Vi,RD (λz=>h (e.trans z))]
   .rw[kK (p:=p) e,kK e,i]
theorem Xg(k j:κ)(y:V):∀K:xL (κ×V),cR K k=θ->cR (K++[(k,y)]) j=if j=k then δ y else cR K j
 | [],_=>by
  by_cases e:k=j
  .rw[RB e.symm];rwa[kJ (p:=(k,y)) e]
  .rw[RD (λz=>e z.symm)];rwa[kK (p:=(k,y)) e]
 |p::r,h=>by
  rw[List.cons_append];let H:¬p.1=k:=λz=>by rw[kJ z]at h;cases h
  rw[kK H]at h;let i:=Xg k j y r h;by_cases e:p.1=j
  .rw[kJ e,kJ e,RD (λz=>H (e.trans z))]
  .rw[kK e,kK e,i]
def Bg(K:xL (κ×V))(k j:κ)(y:V):cR (bu K k y) j=if j=k then δ y else cR K j:=by
 unfold bu;by_cases a:(K.any λb=>decide (b.1=k))=μ
 .rw[RB a,Ym];rw[JD]at a;by_cases e:j=k
  .let(x,h):=nk.mp a;rw[RB e,e,h,Vi,RB Z]
  .rw[RD e];cases cR K j with
   |none=>rfl
   |some x=>rw[Vi,RD e]
 .rw[RD a];erw[Xg k j y K ?_];rw[JD]at a;cases q:cR K k with
  |none=>rfl
  |some x=>rw[q]at a;exact(a Z).elim
def qM(K:xL (κ×V))(k:κ)(v:V):(bu K k v).length<=ο K+1:=by
 unfold bu;split
 .rw[Rs];omega
 .rw[Ru,Sa,V2];omega
def fe.isSome_eq(r:fe o u):o.isSome=u.isSome:=by
 cases o with
 |none=>cases u with
  |none=>rfl
  |some _=>exact(show False from r).elim
 |some _=>cases u with
  |none=>exact(show False from r).elim
  |some _=>rfl
def fe.getD(r:fe o u)(R:aK d D):aK (o.getD d) (u.getD D):=by
 cases o with
 |none=>cases u with
  |none=>rwa[R]
  |some _=>exact(show False from r).elim
 |some _=>cases u with
  |none=>exact(show False from r).elim
  |some _=>rwa[r]
def KV.val(r:KV a v)(k:κ):fe (cR a k) (valueAt v k):=by
 unfold KV at r;induction r with
 |nil=>rwa[True.intro]
 | @cons p q P Q h t i=>
  let(H,c):=h;by_cases e:p.1=k
  .let E:q.1=k:=H.symm.trans e;let b:valueAt (q::Q) k=δ q.2:=by simp [valueAt,Uu,E]
   rw[kJ e,b];rwa[c]
  .let E:¬q.1=k:=λz=>e (H.trans z);let b:valueAt (q::Q) k=valueAt Q k:=by simp [valueAt,Uu,E]
   rw[kK e,b];rwa[i]
def KV.any(r:KV a v)(k:κ):(a.any λK=>decide (K.1=k))=v.any λK=>decide (K.1=k):=by
 unfold KV at r;induction r with
 |nil=>rfl
 |cons h t i=>rw[UO,UO,i,h.1]
def KV.repl(r:KV a v)(k:κ)(R:aK y u):
  KV (a.map λK=>if K.1=k then (K.1,y) else K) (v.map λK=>if K.1=k then (K.1,u) else K):=by
 unfold KV at r ⊢;induction r with
 |nil=>rwa[.nil]
 | @cons p q P Q h t i=>
  rw[SR,SR];erw[.cons ?_ i];let(H,b):=h;by_cases e:p.1=k
  .rw[RB e,RB$ H.symm.trans e];exact#[H,R]
  .rw[RD e,RD (λz=>e (H.trans z))];exact#[H,b]
def KV.put(r:KV a v)(k:κ)(R:aK y u):KV (bu a k y) (stored v k u):=by
 unfold bu stored;rw[r.any k];by_cases e:(v.any λK=>decide (K.1=k))=μ
 .rw[RB e,RB e];rwa[r.repl k R]
 .rw[RD e,RD e];rwa[Paired.snoc r #[Z,R]]
def KV.drop(r:KV c v)(k:κ):KV (mH c k) (without v k):=by
 unfold KV at r ⊢;unfold mH without;induction r with
 |nil=>rwa[.nil]
 | @cons p q P Q h t i=>
  let(H,d):=h;rw[List.filter_cons,List.filter_cons];by_cases e:p.1=k
  .let a:¬decide (p.1≠k)=μ:=by simp [e]
   let b:¬decide (q.1≠k)=μ:=by simp [H.symm.trans e]
   rw[RD a,RD b];rwa[i]
  .let E:¬q.1=k:=λz=>e (H.trans z);let a:decide (p.1≠k)=μ:=by simp [e]
   let b:decide (q.1≠k)=μ:=by simp [E]
   rw[RB a,RB b];rwa[.cons #[H,d] i]
def KV.length(r:KV k v):ο k=ο v:=Paired.length r
def Yn(K:xL (κ×V))(k:κ):(mH K k).length<=ο K:=UH _ _
end
def KK{P:ω}(r:aK (kV k) u):(be P w).is k u=μ:=by
 cases k with
 |inl i=>let(t,e):=(show ∃t,u=ic i t from r);subst e;rwa[YU P w i t]
 |inr x=>let(t,e):=(show ∃t,u=lu x t from r);subst e;rwa[YV P w x t]
theorem Xh{P:ω}:∀{K:xL bY} {u:xL η},aF (K.map kV) u->ItemsAre (be P w) K u
 | [],_,r=>by rw[List.map_nil]at r;cases r;rwa[.nil]
 |k::K,_,r=>by
  rw[SR]at r;cases r with
  |cons h t=>rwa[.cons (KK h) (Xh t)]
abbrev KT(H:Hp):xL (xL bY×V)->xL (xL bY×ζ×η)->Prop:=Paired λp q=>p.1=q.1/\H q.2.1=δ (.tup$ p.1.map kV)/\aK p.2 q.2.2
def KT.val(r:KT H a x)(k:xL bY):fe (cR a k) ((atKey x k).map (·.2)):=by
 induction r with
 |nil=>rwa[True.intro]
 | @cons p q P Q h t i=>
  let(c,_,d):=h;by_cases e:p.1=k
  .let E:q.1=k:=c.symm.trans e;let b:atKey (q::Q) k=δ q.2:=by simp [atKey,Uu,E]
   rw[kJ e,b];rwa[d]
  .let E:¬q.1=k:=λz=>e (c.trans z);let b:atKey (q::Q) k=atKey Q k:=by simp [atKey,Uu,E]
   rw[kK e,b];rwa[i]
def KT.repl(r:KT H b x)(k:xL bY)(R:aK y u):
  KT H (b.map λK=>if K.1=k then (K.1,y) else K) (x.map$ putAt k u):=by
 induction r with
 |nil=>rwa[.nil]
 | @cons p q P Q h t i=>
  rw[SR,SR];erw[.cons ?_ i];let(a,c,d):=h;unfold putAt;by_cases e:p.1=k
  .rw[RB e,RB$ a.symm.trans e];exact#[a,c,R]
  .rw[RD e,RD (λz=>e (a.trans z))];exact#[a,c,d]
def KT.put(r:KT H a x)(k:xL bY)(h:H b=δ (.tup$ k.map kV))(R:aK y u):
  KT H (bu a k y) (storedH x k b u):=by
 let e:(a.any λK=>decide (K.1=k))=(atKey x k).isSome:=by rw[JD,(r.val k).isSome_eq,Option.isSome_map]
 unfold bu storedH;rw[e];by_cases q:(atKey x k).isSome=μ
 .rw[RB q,RB q];rwa[r.repl k R]
 .rw[RD q,RD q];rwa[Paired.snoc r #[Z,h,R]]
def KT.keeps{h:Hp}(r:KT H k x)(a:∀b y,H b=δ (.tup y)->h b=δ (.tup y)):KT h k x:=
 Paired.mapP r λ_ _ z=>#[z.1,a _ _ z.2.1,z.2.2]
section
variable {P:ω}{w:bF}{H:Hp}{h:de}{a:ζ}
def EO(o:gL P w H h)(e:Rd H a u):aU P w H h a u:=e.ok o
def KL(o:gL P w H h)(e:Rd H a (.dK k)):ο k<=υ/\(a==sysModules)=ν/\∃v,KV k v/\h.DictOf (be P w) a v:=
 show aU P w H h a (.dK k) from EO o e
def Em(o:gL P w H h)(e:H a=δ (.dK k)):ο k<=υ/\(a==sysModules)=ν/\∃v,KV k v/\h.DictOf (be P w) a v:=KL o (.inl e)
def KQ{k:xL bY}(O:gL P w H h)(e:H a=δ (.tup$ k.map kV)):(tupleKind$ be P w).is h k a:=by let(_,i,r,o,b,c,n,d):=(show aU P w H h a (.tup$ k.map kV) from O a _ e);exact#[o,i.toArray,n,b,c,d,by simpa using Xh r]
def Q1(O:gL P w H h)(e:Rd H a (.dT k)):ο k<=υ/\(a==sysModules)=ν/\
  ∃X,KT H k X/\h.DictOfH (tupleKind$ be P w) a X:=by
 let(z,y,X,r,o,E,c,d,f,g,i,j):=(show aU P w H h a (.dT k) from EO O e);erw[#[z,y,X,r,o,E,c,d,f,g,i,λx hx=>?_,j]];let all:∀{l:xL (xL bY×V)} {m:xL (xL bY×ζ×η)},KT H l m->∀x∈m,(tupleKind$ be P w).is h x.1 x.2.1:=by
  intro l m q;induction q with
  |nil=>intro x hx;rwa[nomatch hx]
  | @cons p q n Q b t I=>
   intro x hx;rcases Ξ.mp hx with e |hx
   .subst e;rwa[KQ O (by rw[<- b.1];rwa[b.2.1])]
   .rwa[I x hx]
 rwa[all r x hx]
def LX(o:gL P w H h)(e:H a=δ (.dT k)):ο k<=υ/\(a==sysModules)=ν/\
  ∃x,KT H k x/\h.DictOfH (tupleKind$ be P w) a x:=Q1 o (.inl e)
end
def ip(H:Hp)(a:ζ)(y:V)(r:ym V):Prop:=
 (∃K k,Rd H a (.dK K)/\y=kV k/\r=cR K k)∨∃K k b,Rd H a (.dT K)/\y= .ref b/\H b=δ (.tup$ k.map kV)/\r=cR K k
def ph(H:Hp)(a:ζ)(y v:V)(h:Hp):Prop:=
 (∃K k,H a=δ (.dK K)/\y=kV k/\ο K < υ/\h=af H a (.dK$ bu K k v))∨
 ∃K k b,H a=δ (.dT K)/\y= .ref b/\H b=δ (.tup$ k.map kV)/\ο K < υ/\h=af H a (.dT$ bu K k v)
def ip.k{H:Hp}{k:bY}(e:H a=δ (.dK b)):ip H a (kV k) (cR b k):=.inl #[b,k,.inl e,22]
def ph.k{H:Hp}{k:bY}(e:H a=δ (.dK b))(h:ο b < υ):ph H a (kV k) v (af H a$ .dK$ bu b k v):=.inl #[b,k,e,Z,h,Z]
section
variable {X:Cx}{pins:xL (ζ×gs)}{σ:St}{H:Hp}{s:ι}{a:ζ}{y v:V}{u r:η}{o:ym V}{A:bU}{E:η->ι->Prop}
def ay.big(I:ay X pins σ H s):sysModules < -s:=by let h:Φ < -s:=(I.mod.glob.keeps I.bk).lt;rwa[Nat.lt_trans PM h]
def uu{Q:η->ι->Prop}(m:A.units+1 < cLine)(I:ay X pins σ H s)(g:ip H a y (δ v))(j:aK y u)(h:∀W S,ay X pins σ H S->aK v W->Q W S):
  π (χ X.prog X.w) A (getItem (.ref a) u) Q E s:=by
 rcases g with ⟨K,k,e,d,l⟩ | ⟨K,k,b,e,d,n,l⟩
 .subst d;let(z,q,t,R,D):=KL I.hok e;let(W,f,c):=fe.some_of (v:=v) (o:=valueAt t k) (by rw[l];rwa[R.val k]);rwa[wpAny_getItem_of (KK j) D.mapOf f$ h W _ (I.tok _) c]
 .subst d;cases (show u=Θ b from j);let(z,q,x,R,D):=Q1 I.hok e;let(W,f,c):=fe.some_of (v:=v) (o:=(atKey x k).map (·.2)) (by rw[l];rwa[R.val k]);let(p,B,i):=cJ.mp f;erw[wpAny_getItem_heap (U' m) (KQ I.hok n) D B ?_];rw[i];rwa[h W _ (I.tok _) c]
def Ob{Q:η->ι->Prop}(i:A.units+1 < cLine)(I:ay X pins σ H s)(g:ip H a y o)(f:aK y u)(h:∀S,ay X pins σ H S->Q (.bool o.isSome) S):
  π (χ X.prog X.w) A (compareOp .In u$ .ref a) Q E s:=by
 rcases g with ⟨K,k,e,c,l⟩ | ⟨K,k,b,e,c,j,l⟩
 .subst c;let(z,d,m,R,D):=KL I.hok e;erw[wpAny_in_of (KK f) d D.mapOf ?_];rw[<- (R.val k).isSome_eq,<- l];rwa[h _$ I.tok _]
 .subst c;cases (show u=Θ b from f);let(z,d,x,R,D):=Q1 I.hok e;erw[wpAny_in_heap (U' i) (KQ I.hok j) d D ?_];let q:=(R.val k).isSome_eq;rw[Option.isSome_map]at q;rw[<- q,<- l];rwa[h _$ I.tok _]
def XT(I:ay X pins σ H s)(m:Lr (H a))(c:fx a s.heap h)(d:∃q,h.get? a=δ q)(n:aU X.prog X.w (af H a O) h a O):
  ay X pins σ (af H a O) { s with heap:=h,toks:=t }:=
 I.write (x:=a) (e:=a) m (.inl Z) (λb q f z=>(c.2 b f).trans z) d n
def Xy{P:ω}{h:de}{k:xL (bY×V)}(z:ο k<=υ)(c:(a==sysModules)=ν)(R:KV k b)(d:h.DictOf (be P w) a b):
  aU P w e h a (.dK k):=#[z,c,b,R,d]
def uy{Q:Unit->ι->Prop}(J:A.units+1 < cLine)(I:ay X pins σ H s)(g:ph H a y v L)(x:aK y u)(B:aK v r)(h:∀S,ay X pins σ L S->Q () S):
  π (χ X.prog X.w) A (setItem (.ref a) u r) Q E s:=by
 rcases g with ⟨K,k,e,i,l,j⟩ | ⟨K,k,b,e,i,C,l,j⟩
 .subst i j;let(z,m,M,R,D):=Em I.hok e;let n:ο M<=υ:=by rw[<- R.length];exact z
  let p:(bu K k v).length<=υ:=by let:=qM K k v;omega
  erw[wpAny_setItem_pairs (hsz:=n) (KK x) D λF d t=>h _ ?_];let N:∃q,F.get? a=δ q:=let #[q,11,f,_]:=d;#[q,f]
  rwa[XT I (by rw[e];rwa[True.intro]) t N$ Xy p m (R.put k B) d]
 .subst i j;cases (show u=Θ b from x);let(z,m,O,R,D):=LX I.hok e;let n:ο O<=υ:=by rw[<- Paired.length R];exact z
  let p:(bu K k v).length<=υ:=by let:=qM K k v;omega
  erw[wpAny_setItem_heap (hsz:=n) (U' J) (KQ I.hok C) D λF d t=>h _ ?_];let(q,P,T,f,U,W,Y,_,h5):=d;erw[XT I (by rw[e];rwa[True.intro]) t #[q,f] #[p,m,_,(R.put k C B).keeps λc ys G=>?_,q,P,T,f,U,W,Y,h5]];rw[ji$ jO G e (λz=>nomatch z)];rwa[G]
end
section
variable {X:Cx}{pins:xL (ζ×gs)}{σ:St}{H:Hp}{s:ι}{a:ζ}{kvs:xL (bY×V)}{k:bY}{u:η}{A:bU}{E:η->ι->Prop}
def LQ{Q:η->ι->Prop}(I:ay X pins σ H s)(e:H a=δ (.dK kvs))(R:aK (kV k) u)(l:cR kvs k=δ v)(c:m=[]∨∃x,m=[x])
  (h:∀W S,ay X pins σ (af H a$ .dK$ mH kvs k) S->aK v W->Q W S):π (χ X.prog X.w) A (call (.builtin "dict.pop") (.ref a::u::m)) Q E s:=by
 let(z,g,f,r,D):=Em I.hok e;let(W,j,b):=fe.some_of (v:=v) (o:=valueAt f k) (by rw[<- l];rwa[r.val k]);let n:(keyPart u).isSome=μ:=by
  cases k with
  |inl i=>let(t,q):=(show ∃t,u=ic i t from R);subst q;rfl
  |inr x=>let(t,q):=(show ∃t,u=lu x t from R);subst q;rfl
 let p:argsOk "dict.pop" #[.ref a::u::m,[]]:=by
  rcases c with q | ⟨x,q⟩
  .subst q;rwa[PySem.F.args_dict_pop_2 _ _]
  .subst q;rwa[PySem.F.args_dict_pop_3 _ _ _]
 refine call_meetsIn Ww D.typeIs PySem.F.entry_dict_pop p (meets_dict_pop_there (be X.prog X.w) a (KK R) m c n)
  #[f,W,D,by rw[<- r.length];rwa[z],j,λy d B=>h W _ ?_ b]
 let C:∃q,y.get? a=δ q:=let #[q,11,G,_]:=d;#[q,G]
 rwa[XT I (by rw[e];rwa[True.intro]) B C$ Xy (RM (Yn kvs k) z) g (r.drop k) d]
end
def Ls(i:dw):Prop:=∀o I,subscripted i ν o I=operate [o,I] (getItem o I)
def DW{id:String}
  (k:typeLookup (.type T) "__getitem__"=pure (δ$ .builtin id)) (l:Ls a)
  (h:π (χ p w) A (eval v e) (λo b=>π (χ p w) A (eval a e) (λi S=>S.TypeIs o T/\π (χ p w) A (getItem o i) Q E S) E b) E s):
  π (χ p w) A (eval (.Subscript v a m) e) Q E s:=by
 erw[Subscript_$ SN h (λo b d=>SN d (λi S H=>?_) λ_ _ x=>x) λ_ _ x=>x];let(j,H):=H;unfold subscriptTail;erw[Rp ?_];rw[getitemInPython_of_ne j.not_modules];erw[Rp$ Tz j k ?_];let f:π (χ p w) A (subscripted a ν o i) (λr c=>π (χ p w) A (letTemporaryGo v o r >>= λ_=>pure r) Q E c) E S:=by rw[l o i];rwa[wpAny_operating$ SN H (λr c g=>Rp (wpAny_letTemporaryGo$ Rt g)) λ_ _ x=>x]
 first
  |exact Rt (Rp f)
  |exact Rp (Rt (Rp f))
  |exact Rp f
def YX{X:Cx}(I:ay X p c H s)(g:ip H a y o):s.TypeIs (.ref a) "dict":=by
 rcases g with ⟨K,k,e,_,_⟩ | ⟨K,k,b,e,_,_,_⟩
 .let(_,_,v,_,d):=KL I.hok e;rwa[d.typeIs]
 .let(_,_,x,_,d):=Q1 I.hok e;rwa[d.typeIs]
inductive AV(Q:VK)(x y:V)(b:Hp):Prop
 |mk(a v:_)(_:x= .ref a)(_:ip b a y (δ v))(_:Q v b)
def Ng(t T:TE):TE:=λa H Q=>t a H λx h=>T a h (AV Q x)
inductive Fc(Q:VK)(y x:V)(b:Hp):Prop
 |mk(a o:_)(_:x= .ref a)(_:ip b a y o)(_:Q (.bl o.isSome) b)
def OB(t T:TE):TE:=λa H Q=>t a H λy h=>T a h (Fc Q y)
inductive y7(D:bp)(d:St)(v x y:V)(b:Hp):Prop
 |mk(a c:_)(_:x= .ref a)(_:ph b a y v c)(_:D.nx d c)
def y6(t T b:TE):TS:=λD a H=>b a H λv h=>t a h λx c=>T a c (y7 D a v x)
section
variable {X:Cx}{o i e value:dw}{pos pos' tpos:Pos}{td ty tv:TE}
def Dg(d:X.A.units+1 < cLine)(f:PE X o td)(j:PE X i ty)(k:Ls i):PE X (.Subscript o i pos) (Ng td ty):=by intro p s b H Q I h;erw[DW PySem.F.slot_dict_getitem.lookup k$ a8 (f p s b H _ I h) λu S #[x,l,m,R,q]=>a8 (j p S b l _ m q) λC D z=>?_];let(y,n,c,t,a,v,E,g,w):=z;subst E;obtain rfl:u=Θ a:=R;exact#[YX c g,uu d c g t λW G B r=>#[v,n,B,r,w]]
def HM(c:X.A.units+1 < cLine)(d:PE X i ty)(f:PE X o td):PC X .In i o (OB ty td):=by intro p s b H Q I h;erw[a8 (d p s b H _ I h) λv S #[y,j,k,r,q]=>a8 (f p S b j _ k q) λu w z=>?_];let(x,l,m,R,a,O,E,g,n):=z;subst E;obtain rfl:u=Θ a:=R;rwa[Ob c m g r λB t=>#[.bl O.isSome,l,t,Z,n]]
def Jt(c:X.A.units+1 < cLine)(d:PE X o td)(f:PE X i ty)(j:PE X value tv)(k:swapsWith value (δ$ .Subscript o i pos') pos.line X.env=pure ν):
  PS X (.Assign [.Subscript o i pos'] value pos) (y6 td ty tv):=by
 intro p s b H D I h;erw[wpAny_Assign_Subscript (a8 (j p s b H _ I h) λr S #[v,l,m,R,q]=>a8 (d p S b l _ m q) λu n #[x,t,w,B,Q]=>a8 (f p n b t _ w Q) λL M z=>?_) k];let(y,N,C,E,a,F,G,g,J):=z;subst G;obtain rfl:u=Θ a:=B;rwa[uy c C g E R λO K=>#[b,F,K,J]]
end
def wR{P:ω}(h:de)(a:sysModules < h.objs.size):aU P w H (h.push { cls:=.type "dict",data:=.dict (ε []) }) h.objs.size (.dK []):=
 #[RE _,beq_eq_false_iff_ne.mpr$ Sc$ RJ a,[],.nil,WR h]
def IK:TE:=λ_ H Q=>∀p,H p=θ->Q (.ref p) (af H p$ .dK [])
section
variable {X:Cx}{pos:Pos}
def Yo:PE X (.Dict [] [] pos) IK:=λp s b H Q I h=>
 wpAny_Dict_empty #[.ref (-s),_,I.laid (a:=-s) (o:=.dK []) (t':=s.toks) (λ_ _ q=>Rr _ q) (Rv _)$ wR s.heap I.big,Z,h _$ I.hok.fresh$ Rv _]
end
def dW(k m:xL (bY×V)):xL (bY×V):=m.foldl (λa K=>bu a K.1 K.2) k
def KV.merge:∀{m:xL (bY×V)} {R:xL (bY×η)} {k:xL (bY×V)} {v:xL (bY×η)},KV m R->KV k v->KV (dW k m) (merged v R):=by
 intro m R k v r;unfold KV at r;induction r generalizing k v with
 |nil=>intro q;rwa[q]
 | @cons p q P Q h t i=>
  intro a;let e:KV (bu k p.1 p.2) (stored v q.1 q.2):=by let:=a.put p.1 h.2;rw[<- h.1];rwa[this]
  rwa[i e]
theorem qY:∀(m k:xL (bY×V)),(dW k m).length<=ο k+ο m
 | [],k=>by show ο k<=ο k+0;omega
 |p::r,k=>by let h:=qY r (bu k p.1 p.2);let H:=qM k p.1 p.2;show(dW (bu k p.1 p.2) r).length<=_;rw[Sa];omega
structure M2(X:Cx)(o:dw)(m:ρ)(apos:Pos)(e f:dw)(cpos:Pos):Prop where
 base:attributeBase o m X.env (eval o X.env)=eval o X.env
 few:((fy cpos$ Δ [e,f] X.env).all (λx=>!x.1)&&(backToKw cpos$ keywordEach [] X.env).all (λx=>x.1.isSome)
  &&decide (([e,f]:xL dw).length+([]:xL Keyword).length+(if ([]:xL Keyword).isEmpty then 0 else 1) < 30))=μ
 line:(apos.endLine==cpos.line)=μ
 trees:fy cpos (Δ [e,f] X.env)=[(ν,eval e X.env),(ν,eval f X.env)]
def OQ(H:Hp)(a:ζ):Prop:=(∃k,Rd H a$ .dK k)∨∃k,Rd H a (.dT k)
def Gf{X:Cx}(I:ay X p g H s)(d:OQ H a):
  s.TypeIs (.ref a) "dict"/\(∀b,Θ a= .ref b->∃o,s.heap.get? b=δ o/\o.dict=θ)/\(a==sysModules)=ν:=by
 rcases d with ⟨k,e⟩ | ⟨k,e⟩
 .let(_,h,v,_,D):=KL I.hok e;erw[#[D.typeIs,λb q=>?_,h]];cases q;let(o,_,_,c,f,_):=D;exact#[o,c,f.2.1]
 .let(_,h,x,_,D):=Q1 I.hok e;erw[#[D.typeIs,λb q=>?_,h]];cases q;let(o,_,_,c,f,_):=D;exact#[o,c,f.2.1]
section
variable {X:Cx}{pins:xL (ζ×gs)}{σ:St}{H:Hp}{s:ι}{a:ζ}{y d:V}{u r:η}{o:ym V}{A:bU}{E:η->ι->Prop}
def FK{Q:η->ι->Prop}(m:A.units+1 < cLine)(I:ay X pins σ H s)(g:ip H a y o)(i:aK y u)(j:aK d r)(h:∀W S,ay X pins σ H S->aK (o.getD d) W->Q W S):
  π (χ X.prog X.w) A (call (.builtin "dict.get") [.ref a,u,r]) Q E s:=by
 rcases g with ⟨K,k,e,c,l⟩ | ⟨K,k,b,e,c,n,l⟩
 .subst c;let(z,f,v,R,D):=KL I.hok e;erw[call_meetsIn Vh D.typeIs Wm (We _ _ _) (meets_dict_get_default (be X.prog X.w) a (KK i) f r) #[_,D.mapOf,h _ _ (I.tok _) ?_]];rw[l];exact(R.val k).getD j
 .subst c;cases (show u=Θ b from i);let(z,f,x,R,D):=Q1 I.hok e;erw[call_meetsIn Vh D.typeIs Wm (We _ _ _) (meetsH_dict_get_default (tupleKind$ be X.prog X.w) a b f r) #[U' m,k,x,KQ I.hok n,D,h _ _ (I.tok _) ?_]];rw[l];exact(R.val k).getD j
end
inductive tR(d c:TE)(e:St)(Q:VK)(x:V)(b:Hp):Prop
 |mk(a:_)(_:x= .ref a)(_:OQ b a)(_:d e b λy H2=>c e H2 λz H3=>∃o,ip H3 a y o/\Q (o.getD z) H3)
def IJ(t T b:TE):TE:=λa H Q=>t a H (tR T b a Q)
section
variable {X:Cx}{o e f:dw}{apos cpos:Pos}{td ty tx:TE}
def K9(j:X.A.units+1 < cLine)(k:PE X o td)(l:PE X e ty)(n:PE X f tx)(m:M2 X o "get" apos e f cpos):PE X (.Call (.Attribute o "get" apos) [e,f] [] cpos) (IJ td ty tx):=by
 intro p s b H Q I h;erw[wpAny_Call_method m.base m.few m.line Wa Vh PySem.F.type_dict_get$ a8 (k p s b H _ I h) λu S c=>?_];let(x,q,i,R,a,E,d,t):=c;subst E;obtain rfl:u=Θ a:=R;let(T,v,_):=Gf i d;erw[#[T,v,?_]];rw[m.trees];refine Vk Z (Y' (TH (a8 (l p S b q _ i t) λO w #[y,B,C,D,G]=>
  TH (a8 (n p w b B _ C G) λP U #[z,J,K,L,V,g,M]=>Uc ?_))))
 rwa[FK j K g D L λW Y N r=>#[_,J,N,r,M]]
end
section
variable {X:Cx}{pins:xL (ζ×gs)}{σ:St}{H:Hp}{s:ι}{a:ζ}{kvs:xL (bY×V)}{A:bU}{E:η->ι->Prop}
def wP{Q:η->ι->Prop}(I:ay X pins σ H s)(e:Rd H a (.dK kvs))(h:∀p S,H p=θ->ay X pins σ (af H p$ .dK kvs) S->Q (.ref p) S):π (χ X.prog X.w) A (call (.type "dict") [.ref a]) Q E s:=by let(z,f,v,r,D):=KL I.hok e;erw[kt_call_dict f D (by rw[<- r.length];rwa[z]) λi d g=>?_];erw[h _ _ (I.hok.fresh$ Rv _)$ I.laid (a:=-s) (o:=.dK kvs) (t':=s.toks) (λb q c=>?_) (Rv _)$ Xy z (beq_eq_false_iff_ne.mpr$ Sc$ RJ I.big) r d];exact(g.2 b$ RJ$ Rz c).trans (Rr _ c)
end
section
variable {X:Cx}{pins:xL (ζ×gs)}{σ:St}{H:Hp}{s:ι}
inductive Kg(c:xL V)(H:Hp)(Q:VK):Prop
 |mk(a b:_)(_:c=[.ref a])(_:H a=δ (.dK b))(_:∀p,H p=θ->Q (.ref p) (af H p (.dK b)))
def qU:dS X (.type "dict") Kg:=by intro pins s σ H x U Q I r h;let(a,k,rfl,b,q):=h;let(u,rfl,R):=fo r;cases R;rwa[wP I (.inl b) λp S n i=>#[.ref p,_,i,Z,q p n]]
end
section
open PySem.W PySem.Calls Builtin Builtin.ObjectAttr
variable {prog:ω}{w:bF}{A:bU}{E:η->ι->Prop}{s:ι}{K:Ψ}{x C:ζ}{ox:gs}{od:ym gs}{name:ρ}
structure wq(K:Ψ)(C:ζ):Prop where
 ga:findIn K (.ref C) "__getattribute__"=δ (δ$ .builtin "BaseException.__getattribute__")
 gh:findIn K (.ref C) "__getattr__"=δ θ
 sa:findIn K (.ref C) "__setattr__"=δ (δ$ .builtin "object.__setattr__")
 cl:findIn K (.ref C) "__class__"=δ (δ$ .builtin "object.__class__")
 gt:specialIn K (.builtin "object.__class__") "__get__"=δ (δ$ .builtin "getset_descriptor.__get__")
 tk:takesIn K (.builtin "object.__class__")=δ μ
 mb:mroIn K C (.type "BaseException")=δ μ
 mo:mroIn K C (.type "object")=δ μ
 hd:hasDictIn K C=μ
abbrev uj:xL η:=[.type "ValueError",.type "Exception",.type "BaseException",.type "object"]
end
section
open PySem.W PySem.Calls
variable {prog:ω}{w:bF}{A:bU}{E:η->ι->Prop}{R:Result->ι->Prop}{K:Ψ}{h:de}{g:Array GenState}{d:Drawn}{t:Nat}{os:OsState}{C B:ζ}
def uD(q:excIn K C uj "ValueError.__new__"=μ):(∃p q N r f a s sub u c D k i j m o,K.lookup C=δ (excClassObj p q C N r f a s sub u c D k i j m o "ValueError.__new__")/\tailIn K uj f=μ/\nsOkIn K N=μ/\nsIn K N "__init__"=δ θ):=by
 unfold excIn at q;split at q
 .rename_i D z S F
  split at q
  .rename_i O f k i j m n o x y
   simp only[SY,beq_iff_eq,Bool.not_eq_true']at q;obtain⟨⟨⟨⟨⟨rfl,rfl⟩,H⟩,G⟩,b⟩,e⟩:=q;let(p,r,M,I,Q,J,s,sub,u,c,L):=z;dsimp only at x H b e;subst x H;let v:S=(ε [k,i,j,m,δ$ .builtin "ValueError.__new__",o]):=by let⟨l⟩:=S;simp only at y;rw[y]
   subst v;exact#[p,Q,I,r,f,J,s,sub,u,c,D,k,i,j,m,o,F,G,b,e]
  .cases q
 .cases q
end
def aU.obj{P:ω}{a:ζ}(x:aU P w H h a o):∃u,h.get? a=δ u:=by
 cases o with
 |lst X=>let(_,_,_,_,e):=x;exact#[_,e]
 |tup X=>let(_,_,_,o,e,_):=x;exact#[_,e]
 |dK k |dT k=>let(_,_,_,_,o,_,_,e,_):=x;exact#[_,e]
 |set S n=>let(o,_,_,_,e,_):=x;exact#[_,e]
 |ins C d F=>let(_,_,_,e,_):=x;exact#[_,e]
 |own y=>let(_,e):=x;exact#[_,e]
 |xd F=>obtain⟨_,⟨_,_,_,e,_⟩,_⟩:=x;exact#[_,e]
 |rng lo b=>let(_,_,_,e):=x;exact#[_,e]
 |frz O u=>let(e,_):=x;exact#[_,e]
 |tbl p |met f y=>exact#[_,(show h.get? a=δ _ from x)]
 |ext c=>obtain⟨_,⟨_,e⟩,_⟩:=x;exact#[_,e]
def ay.laidN{X:Cx}{h':de}{a:ζ}{o:HO}{t':Nat}(I:ay X p g H s)(k:∀b u,s.heap.get? b=δ u->h'.get? b=δ u)(d:s.heap.get? a=θ)(N:aU X.prog X.w (af H a o) h' a o):
  H a=θ/\ay X p g (af H a o) { s with heap:=h',toks:=t' }:=by
 let i:∀b u,s.heap.get? b=δ u->b≠a:=λb u q z=>by rw[z,d]at q;cases q
 let h:H a=θ:=by
  cases q:H a with
  |none=>rfl
  |some u=>let(U,e):=(I.hok a u q).obj;rw[d]at e;cases e
 erw[#[h,I.un ?_ ?_]]
 .rwa[{ keep:=λb u q _ _ _=>k b u q,slot:=λb u q _ _ _=>#[u.slots,k b u q],free:=λb u q n _=>by rw[ji$ i b u q];rwa[n],there:=λb u q _=>#[u,k b u q],tups:=λb x q=>by rw[ji$ jk q h];rwa[q],frzs:=λb u x q=>by rw[ji$ jk q h];rwa[q],tbls:=λb P q=>#[(ε []),by rw[ji$ jk q h,q];simp] }]
 .intro b u e;by_cases f:b=a
  .subst f;rw[jc]at e;cases e;rwa[N]
  .rw[ji f]at e;exact(I.hok b u e).stay (λc v _ q=>k c v q) (λc q=>by rw[ji$ jk q h];rwa[q]) λc x q=>by rw[ji$ jk q h];rwa[q]
def Ed(C:ζ)(d:ym ζ)(x:ζ):HO:=.ext λh=>∃o,h.get? x=δ o/\o.cls= .ref C/\notCls o=μ/\o.dict=d/\∃v,o.data= .fields v/\v[1]?=δ .none/\v[2]?=δ .none
def FS{P:ω}{h:de}(e:h.get? x=δ o)(a:o.cls= .ref C)(b:notCls o=μ)(c:o.dict=d)(f:∃v,o.data= .fields v/\v[1]?=δ .none/\v[2]?=δ .none):aU P w H h x (Ed C d x):=
 #[#[o,e,a,b,c,f],#[o,e],λg i #[O,E,q] k=>#[O,k O E,q]]
def DZ(C:ζ):TE:=λa H Q=>∀x,H x=θ->Q (.ref x) (af H x$ Ed C θ x)
section
variable {X:Cx}{CX:ua}{k:Nat}{f C:ζ}{fd:bS}{ps:xL ρ}{sp:Sp}{E:XK}{x m g:ρ}{p pos pos':Pos}{e o value:dw}{es:xL dw}{ta tv:TE}{t:TA}
def Xi(M:excIn X.K C uj "ValueError.__new__"=μ)(l:hG X.K (.ref C)=μ)(n:Gl X x)(r:X.mg x=↑C)(c:↥((x==("__debug__":ρ))=ν)):
  PE X (.Call (.Name x p) [] [] pos) (DZ C):=by
 intro P s D H Q I h;erw[SO$ ql I n r ?_ c];erw[WN I.kIn l ?_];let(G,q,N,J,L,j,S,sub,O,u,R,U,V,Y,k3,k5,v,w,b,i):=uD M;let y:=I.kIn _ _ v;let(hp,g,d,T,os):=s;erw[wpAny_call_exc_subT PySem.F.excBase_ValueError (PySem.W.tail_of_in I.kIn w) y (.of_isNs$ PySem.W.isNs_of_in I.kIn b) (PySem.W.nsMap_none_of_in I.kIn b i) (λh' e m=>?_)$ RE _];let(t,z,_,_):=m.there;let(A,B):=I.laidN (a:=e) (h':=h') (o:=Ed C θ e) (t':=T) m.keeps m.new (FS z Z Z Z #[1222]);exact#[.ref e,_,B,Z,h e A]
end
def ay.turnedN{X:Cx}{p:xL (ζ×gs)}{d:St}{H:Hp}{s:ι}{g:de}{t':Nat}{f:xL ζ}(I:ay X p d H s)(a:∀b∈f,iq X p H b)(k:∀b o,b∉f->s.heap.get? b=δ o->g.get? b=δ o):
  ay X p d H { s with heap:=g,toks:=t' }:=by
 let N:∀b u,H b=δ u->b∉f:=λb u e z=>by rw[(a b z).1]at e;cases e
 refine I.step (g':=s.gens) (d':=s.drawn) (ch:=f) (λb i=>?_) (λb o _ _ h e _=>k b o h e) (λb o _ _ h e _=>#[o.slots,k b o h e]) (λ_ _ _ _ n=>n)
  (λb o h e=>#[o,k b o h e]) (λ_ _ e=>e) (λ_ _ _ e=>e) (λb P e=>#[(ε []),by rw[e];simp]) (λm j=>?_) (λb u e=>?_) I.bare
 .let(A,F,B,l,t,w):=a b i;exact#[l,F,t,w]
 .let(o,E,x,y,r):=j;exact#[o,E,x,k _ o (λz=>(a _ z).2.1 Z) y,r]
 .erw[(I.hok b u e).stay (λc v h q=>k c v ?_ q) (λ_ q=>q) λ_ _ q=>q];rcases h with z |z
  .rw[z];rwa[N b u e]
  .rwa[N c _ z]
section
variable {M:Model}{A:bU}{E:η->ι->Prop}{s:ι}
structure dU(fl:η)(mJ:xL ζ)(x:ζ)(ox:gs)(h h':de):Prop where
 ex:∃T oT ts,h.objs.size<=T/\h'.get? x=δ (gb (·.setIfInBounds 1 (.ref T)) ox)/\h'.get? T=δ oT/\oT.data= .fields ts/\ts[3]?=δ fl
 keep:∀b o,b∉mJ->b≠x->h.get? b=δ o->h'.get? b=δ o
 slot:∀b o,b≠x->h.get? b=δ o->∃sl,h'.get? b=δ { o with slots:=sl }
def Xj{Q:Unit->ι->Prop}
  (t:A.frames=δ (d::O)) (F:s.heap.FunFrames G (d::O)) (N:d.frame=δ L)
  (I:s.heap.get? x=δ u) (v:u.data= .fields J) (w:1 < J.size)
  (h:∀K,dU (rawInt L) ((d::O).filterMap (·.frame)) x u s.heap K->Q () {K}):
  π M A (do let a <- frameOf d;let p <- entryPlaceOf L q;let b <- EntryCells.newEntry f a .none (rawInt L) .none p;setField (.ref x) 1 b) Q E s:=by
 let y:x∉(d::O).filterMap (·.frame):=λP=>by let(_,o,r,z):=F.mem P;rw[I]at r;injection r with r;subst r;rwa[z J v]
 erw[Rp$ wpAny_frameOf_fun t F N λH c=>?_];erw[Rp$ wpAny_entryPlaceOf λp B=>?_];unfold EntryCells.newEntry newFields;erw[Rp$ So ?_$ B.sizeOk5 _ _ _ _ _];let g:H.get? x=δ u:=(c.2.1 x y).trans I;let i:=Rr (h:=H) { cls:=.type "traceback",dict:=θ,data:=.fields ([f,.ref L,.none,rawInt L,.none]++(if p.isEmpty then fz 6 β else p)).toArray } g;erw[SG i v w$ h _ ?_];let C:H.objs.size≠x:=SH (Rz g);let j:=Sf v (·.setIfInBounds 1 (Θ H.objs.size));let l:=Sl (gb (·.setIfInBounds 1 (Θ H.objs.size))) i (SW j);let k:∀b o,b≠x->H.get? b=δ o->((H.push { cls:=.type "traceback",dict:=θ,data:=.fields ([f,.ref L,.none,rawInt L,.none]++(if p.isEmpty then fz 6 β else p)).toArray }).update x$ gb (·.setIfInBounds 1 (Θ H.objs.size))).get? b=δ o:=λb o D e=>by rw[RV _ _$ Sc D];rwa[Rr _ e]
 let m:=(RV (H.push { cls:=.type "traceback",dict:=θ,data:=.fields ([f,.ref L,.none,rawInt L,.none]++(if p.isEmpty then fz 6 β else p)).toArray })
  (gb (·.setIfInBounds 1 (Θ H.objs.size))) (Sc C)).trans (Ry H Z)
 erw[#[#[H.objs.size,11,U0 c.1.symm,l,m,Z,PJ],λb o D n e=>k b o n ((c.2.1 b D).trans e),λb o n e=>?_]];let(S,R):=c.2.2 b o e;exact#[S,k b _ n R]
def Zz{Q:Unit->ι->Prop}
  (H:A.frames=δ (e::o)) (i:s.heap.FunFrames b (e::o)) (a:e.frame=δ L)
  (c:s.heap.get? x=δ O) (d:O.data= .fields v) (f:v[1]?=δ .none)
  (h:∀g,dU (rawInt L) ((e::o).filterMap (·.frame)) x O s.heap g->Q () {g}):
  π M A (noteFrame (.ref x) e) Q E s:=by
 unfold noteFrame;simp only[a];erw[Rp$ R4 c d f ?_];rw[RD PM];rwa[Xj H i a c d (bm.mp f).1 h]
def Gk{mJ:xL ζ}{Q:Unit->ι->Prop}(N:dU C mJ x O H s.heap)(j:H.get? x=δ O)(v:O.data= .fields w)(k:1 < w.size)
  (h:∀p,dU .none mJ x O H p->Q () {p}):π M A (setFlight (.ref x) θ) Q E s:=by
 let(T,D,F,c,r,t,g,y):=N.ex;let l:=Sf v (·.setIfInBounds 1 (Θ T));let m:T≠x:=λz=>absurd (RQ (Rz j) (by rw[<- z];rwa[c])) (SI _);unfold setFlight;erw[Rp$ R4 r l (x:=.ref T) (by simp [k]) ?_];rw[RB (show(Θ T != β)=μ from by simp)];let i:=(bm.mp y).1;erw[SG t g i$ h _ ?_];let a:=Sf g (·.setIfInBounds 3 ((θ:ym ζ).elim β λf=>rawInt f));let n:=Sl (gb (·.setIfInBounds 3 ((θ:ym ζ).elim β λf=>rawInt f))) t (SW a);let u:∀b o,H.get? b=δ o->T≠b:=λb o e z=>absurd (RQ (Rz e) (by rw[<- z];rwa[c])) (SI _);erw[#[#[T,11,c,by rw[RV _ _ m];rwa[r],n,a,by simp [i]],λb o B d e=>?_,λb o d e=>?_]]
 .rw[RV _ _$ u b o e];rwa[N.keep b o B d e]
 .let(S,q):=N.slot b o d e;exact#[S,by rw[RV _ _$ u b o e];rwa[q]]
def YY{base:de}{Q:Unit->ι->Prop}
  (a:A.frames=δ (e::o)) (f:s.heap.FunFrames base (e::o)) (g:e.frame=δ L)
  (b:s.heap.get? x=δ O) (c:O.data= .fields v) (d:v[1]?=δ .none)
  (h:∀H,dU .none ((e::o).filterMap (·.frame)) x O s.heap H->Q () {H}):
  π M A (leaving e$ .ref x) Q E s:=by
 unfold leaving;rwa[Rp$ Zz a f g b c d λH N=>Gk (s:={H}) N b c (bm.mp d).1 h]
end
section
variable {M:Model}{A:bU}{E:η->ι->Prop}{s:ι}
noncomputable abbrev gi(T:ζ)(h:de):de:=h.update T (gb (·.setIfInBounds 3 β))
def Xk{base:de}{Q:Unit->ι->Prop}
  (f:A.frames=δ (e::O)) (w:s.heap.FunFrames base (e::O)) (j:e.frame=δ L)
  (k:s.heap.get? x=δ l) (m:l.data= .fields v) (p:v[1]?=↑T) (g:T≠x) (i:s.heap.get? T=δ y) (c:y.data= .fields t) (r:t[3]?=δ .none)
  (h:∀u,dU (rawInt L) ((e::O).filterMap (·.frame)) x l (gi T s.heap) u->Q () {u}):
  π M A (noteFrame (.ref x) e) Q E s:=by
 unfold noteFrame;simp only[j];erw[Rp$ R4 k m p ?_];rw[RB (show(Θ T != β)=μ from by simp)];erw[Rp$ R4 i c r ?_];rw[RD (show ¬((β==rawInt L)=μ) from by simp [rawInt])];erw[Rp$ SG i c (bm.mp r).1 ?_];let a:∀b,b≠T->(gi T s.heap).get? b=s.heap.get? b:=λb H=>RV _ _ (Sc H);let n:∀b o,s.heap.get? b=δ o->(∀v,o.data≠ .fields v)->b≠T:=λb o H d q=>by rw[q,i]at H;injection H with H;subst H;rwa[d t c]
 rwa[Xj (s:={gi T s.heap}) f (w.of_keeps λb o H d=>#[o,(a b$ n b o H d).trans H,Z]) j ((a x$ Sc g).trans k) m (bm.mp p).1 h]
def ZA{base:de}{Q:Unit->ι->Prop}
  (b:A.frames=δ (e::o)) (i:s.heap.FunFrames base (e::o)) (j:e.frame=δ L)
  (d:s.heap.get? x=δ O) (f:O.data= .fields v) (g:v[1]?=↑T) (H:T≠x) (k:s.heap.get? T=δ l) (c:l.data= .fields t) (m:t[3]?=δ .none)
  (h:∀a,dU .none ((e::o).filterMap (·.frame)) x O (gi T s.heap) a->Q () {a}):
  π M A (leaving e$ .ref x) Q E s:=by
 unfold leaving;rwa[Rp$ Xk b i j d f g H k c m λa N=>Gk (s:={a}) N ((RV _ _ H).trans d) f (bm.mp g).1 h]
end
def i9(C:ζ)(d:ym ζ)(T x:ζ):HO:=.ext λh=>∃o v,h.get? x=δ o/\o.cls= .ref C/\notCls o=μ/\o.dict=d/\o.data= .fields v/\v[1]?=↑T/\v[2]?=δ .none
def iM(T:ζ):HO:=.ext λh=>∃o t,h.get? T=δ o/\o.data= .fields t/\t[3]?=δ .none
def IS{P:ω}{h:de}(e:h.get? x=δ o)(c:o.cls= .ref C)(f:notCls o=μ)(g:o.dict=d)(i:o.data= .fields v)(b:v[1]?=↑T)(a:v[2]?=δ .none):aU P w H h x (i9 C d T x):=
 #[#[o,v,e,c,f,g,i,b,a],#[o,e],λb j #[O,V,E,q] k=>#[O,V,k O E,q]]
def A7{P:ω}{h:de}(e:h.get? T=δ o)(b:o.data= .fields a)(c:a[3]?=δ .none):aU P w H h T (iM T):=
 #[#[o,a,e,b,c],#[o,e],λd f #[O,t,E,q] k=>#[O,t,k O E,q]]
def dN(P:ω)(w:bF):ua:=λo H s E e S=>∃x C d T h,e= .ref x/\S.os=s.os/\AllBare S.gens/\Un (mJ o) [] H h s.heap S.heap/\gL P w h S.heap/\
 h x=δ (i9 C d T x)/\h T=δ (iM T)/\T≠x/\E (.ref C) d h
section
variable {X:Cx}{pins:xL (ζ×gs)}{σ:St}{H:Hp}{s:ι}{x C:ζ}{d:ym ζ}
def dU.hok{fl:η}(I:ay X pins σ H s)(g:H x=δ (.ext Q))(P:s.heap.get? x=δ o)(E:o.cls= .ref C)(F:o.dict=d)(j:o.data= .fields B)(k:1 < B.size)(l:B[2]?=δ .none)(m:∀b∈G,H b=θ)
  (N:dU .none G x o s.heap J):∃T,H T=θ/\T≠x/\-s<=T/\gL X.prog X.w (af (af H T$ iM T) x$ i9 C d T x) J:=by
 let(T,R,S,h,n,K,p,r):=N.ex;let i:H T=θ:=I.hok.fresh h;let t:T≠x:=Sc (jk g i);let a:=Sf j (·.setIfInBounds 1 (Θ T));erw[#[T,i,t,h,λb u e=>?_]];by_cases y:b=x
 .subst y;rw[jc]at e;cases e;refine IS n ((UE _ _).trans E) ?_ ?_ a (by simp [k]) (by simp [l])
  .unfold notCls;rw[a]
  .let(U,V,O,L):=o;simp only at j;subst j;rwa[F]
 .rw[ji y]at e;by_cases f:b=T
  .subst f;rw[jc]at e;cases e;rwa[A7 K p r]
  .rw[ji f]at e;refine(I.hok b u e).stay (λc v D q=>?_) (λc q=>?_) λc W q=>?_
   .let A:c≠x:=by
     rcases D with z |z
     .rw[z];rwa[y]
     .rwa[jO z g (by intro q;cases q)]
    erw[N.keep c v (λM=>?_) A q];let:=m c M;rcases D with z |z
    .rw[z,e]at this;cases this
    .rw[z]at this;cases this
   .rw[ji$ jO q g BT,ji$ jk q i];rwa[q]
   .rw[ji$ jO q g BT,ji$ jk q i];rwa[q]
def dU.un{h':de}(I:ay X pins σ H s)(hex:X.ex=[])(j:H x=δ (.ext k))(l:H T=θ)(c:-s<=T)(f:∀b∈p,b∈X.fs∨X.s₀.heap.objs.size<=b)
  (N:dU .none p x y s.heap h'):Un X.fs [] X.H₀ (af (af H T$ iM T) x$ i9 C d T x) X.s₀.heap h':=by
 let g:∀b,H b=θ->b≠x:=λb e z=>by rw[z,j]at e;cases e
 let r:∀b o,X.s₀.heap.get? b=δ o->b≠T:=λb o e=>RJ (RQ (Rz e)$ RM I.sz c);let a:∀b:ζ,b∉X.ex:=λb z=>by rw[hex]at z;cases z
 let t:∀b,H b=θ->b≠T->af (af H T$ iM T) x (i9 C d T x) b=θ:=λb e z=>by rw[ji$ g b e,ji z];rwa[e]
 let U:∀b u,H b=δ u->(∀k,u≠ .ext k)->af (af H T$ iM T) x (i9 C d T x) b=δ u:=λb u e z=>by rw[ji (λq=>by rw[q,j]at e;cases e;rwa[z _ Z]),ji$ jk e l];rwa[e]
 erw[#[λb o e n h _=>?_,λb o e n h _=>?_,λb o e n _=>?_,λb o e _=>?_,λb v e=>U b _ (I.base.tups b v e) (by intro _ q;cases q),λb o u e=>U b _ (I.base.frzs b o u e) (by intro _ q;cases q),λb P e=>?_]]
 .erw[N.keep b o (λz=>?_) (g b$ I.base.free b o e n$ a b)$ I.base.keep b o e n h$ a b];rcases f b z with q |q
  .rwa[h q]
  .rwa[absurd (RQ (Rz e) q)$ SI _]
 .let(w,q):=I.base.slot b o e n h (a b);let(S,Q):=N.slot b _ (g b$ I.base.free b o e n$ a b) q;exact#[S,Q]
 .rwa[t b (I.base.free b o e n$ a b)$ r b o e]
 .let(O,q):=I.base.there b o e (a b);by_cases h:b=x
  .let(A,_,_,_,i,_):=N.ex;exact#[_,by rw[h];rwa[i]]
  .let(w,Q):=N.slot b O h q;exact#[_,Q]
 .let(m,q):=I.base.tbls b P e;exact#[m,U b _ q (by intro _ q;cases q)]
end
section
variable {P:ω}{w:bF}{K:Ψ}{mg:ρ->ym η}{base:de}{N:xL ρ}{qual:ρ}{scope:ge}{f:ζ}{cd:η}{A:bU}{outer:xL Env}{s₀:ι}{H₀:Hp}{E:XK}
variable {pins:xL (ζ×gs)}{σ:St}{H:Hp}{s:ι}{x C:ζ}{d:ym ζ}
def Bo(I:ay (gZ (dN P w) P w K mg base N qual scope f cd A outer s₀ H₀ E) pins σ H s)(c:H x=δ (Ed C d x))
  (h:∀T,H T=θ->E (.ref C) d (af (af H T$ iM T) x$ i9 C d T x)):(gZ (dN P w) P w K mg base N qual scope f cd A outer s₀ H₀ E).xe (.ref x) s:=by
 obtain⟨⟨O,m,r,v,t,V,n,o,g⟩,_⟩:=I.hok x _ c;let i:=(bm.mp o).1;erw[YY (base:=base) I.ok.frames I.stack Z m n o λy p=>?_];let(T,q,a,j,k):=p.hok (C:=C) (d:=d) (fl:=.none) I c m r t n i g λb l=>I.stkFree b l;let u:=p.un (C:=C) (d:=d) I Z c q j λb l=>by
  rcases Ξ.mp (I.stkSub b l) with e |e
  .rwa[.inr (by rw[e];rwa[I.ok.above])]
  .rwa[.inl e]
 exact#[x,C,d,T,12,I.os,I.bare,u,k,jc,by rw[ji a,jc],a,h T q]
def ay.cleared{X:Cx}(I:ay X pins σ H s)(c:H T=δ (iM T))(i:s.heap.get? T=δ O)(j:O.data= .fields t)(k:t[3]?=δ .none):ay X pins σ H {gi T s.heap}:=by
 let h:=Sf j (·.setIfInBounds 3 β);let g:=Sl (gb (·.setIfInBounds 3 β)) i (SW h);let:=I.write (x:=T) (e:=T) (o:=iM T) (h':=gi T s.heap) (t':=s.toks) (by rw[c];rwa[True.intro]) (.inl Z) (λb u a q=>(RV _ _$ Sc a).trans q) #[_,g] (A7 g h (by simp [(bm.mp k).1]));let l:af H T (iM T)=H:=by
  funext b;by_cases a:b=T
  .rw[a,jc,c]
  .rw[ji a]
 rw[l]at this;rwa[this]
def D7(I:ay (gZ (dN P w) P w K mg base N qual scope f cd A outer s₀ H₀ E) pins σ H s)(g:H x=δ (i9 C d T x))(o:H T=δ (iM T))(c:T≠x)
  (h:∀t,H t=θ->E (.ref C) d (af (af H t$ iM t) x$ i9 C d t x)):(gZ (dN P w) P w K mg base N qual scope f cd A outer s₀ H₀ E).xe (.ref x) s:=by
 obtain⟨⟨O,V,p,F,J,G,q,r,i⟩,_⟩:=I.hok x _ g;obtain⟨⟨L,M,u,v,y⟩,_⟩:=I.hok T _ o;let j:=(bm.mp r).1;let z:=I.cleared o u v y;erw[ZA (base:=base) I.ok.frames I.stack Z p q r c u v y λQ B=>?_];let k:(gi T s.heap).get? x=δ O:=(RV _ _ c).trans p;let(t,D,a,l,m):=dU.hok (C:=C) (d:=d) (fl:=.none) z g k F G q j i (λb n=>I.stkFree b n) B;let U:=dU.un (C:=C) (d:=d) z Z g D l (λb n=>by
  rcases Ξ.mp (I.stkSub b n) with e |e
  .rwa[.inr (by rw[e];rwa[I.ok.above])]
  .rwa[.inl e]) B
 exact#[x,C,d,t,12,I.os,I.bare,U,m,jc,by rw[ji a,jc],a,h t D]
def Dc{j:XK}(m:∀x C d T t a,a x=δ (i9 C d T x)->a T=δ (iM T)->a t=θ->j (.ref C) d a->E (.ref C) d (af (af a t$ iM t) x$ i9 C d t x)):
  eL (dN P w) (gZ (dN P w) P w K mg base N qual scope f cd A outer s₀ H₀ E) j:=by
 intro pins σ H s e S I h;let(x,C,d,T,a,rfl,os,B,u,c,k,l,i,n):=h;let(p,g,D,q,o):=S;obtain rfl:o=s.os:=os;let r:=I.call (h':=p) (g':=g) (d':=D) (t':=q) (ch:=[]) u c B (λb z=>absurd z PJ);rwa[D7 r k l i λt v=>m x C d T t a k l v n]
end
section
open PySem.W
variable {prog:ω}{w:bF}{A:bU}{E:η->ι->Prop}{K:Ψ}{x C:ζ}{ox:gs}{vs:Array η}{env:Env}
def ZB{ev:Sem η}(e:A.handled=θ)
  (h:π (χ prog w) A ev (λv S=>∃x C ox vs,v= .ref x/\K.In S.heap/\wq K C/\typeIn K (.ref C)=δ (.type "type")/\S.heap.get? x=δ ox/\ox.cls= .ref C/\ox.data= .fields vs/\vs[1]?=δ .none/\E (.ref x) S) E s):
  π (χ prog w) A (raiseStmt env (δ ev) θ) Q E s:=by
 unfold raiseStmt;erw[Rp$ SN h (λv S a=>?_) λ_ _ z=>z];let(x,C,ox,vs,rfl,X,f,i,b,j,c,m,n):=a;let(H,g,d,T,os):=S;let L:Looks (χ prog w) H (typeOf$ .ref x) (.ref C):=j▸(Looks.ld b).andThen .now;let l:Looks (χ prog w) H (isType$ .ref x) ν:=by intro u y B D k q;unfold isType loadHead;erw[Rp$ WT (k _ _ b) ?_];rw[c];rwa[Rt q]
 let _L:=looks_mroIn (M:=χ prog w) X f.mb;let o:=looks_typeIn (M:=χ prog w) X i;let L4:Looks (χ prog w) H (isInstance (.ref x)$ .type "BaseException") μ:=L.andThen _L;let p:Looks (χ prog w) H (isExcClass$ .ref x) ν:=by unfold isExcClass;rwa[l.andThen .now]
 let r:Looks (χ prog w) H (raisedInstance$ .ref x) (.ref x):=by unfold raisedInstance;rwa[L.andThen$ o.andThen (by rw[RB PM];rwa[.now])]
 let t:Looks (χ prog w) H (excFromValue (.ref x) "exceptions must derive from BaseException") (.ref x):=by unfold excFromValue;rwa[p.andThen (by rw[RD PM];rwa[L4.andThen (by rw[RB Z];rwa[.now])])]
 erw[Rp$ Rt ?_];erw[Rp$ RY$ t.at ?_];dsimp only;erw[Rp$ l.at ?_];rw[RD PM];erw[Rp$ r.at ?_];unfold setFlight;erw[Rp$ Rp$ R4 b c m ?_];rw[RD PM];rwa[Rt$ wpAny_raiseNew_none e n]
end
def Ee(X:Cx)(W:ζ->ζ->ym ζ->Hp->Prop):Prop:=∀(p:xL (ζ×gs)) (a:St) (H:Hp) (s:ι) (x C:ζ) (d:ym ζ),ay X p a H s->H x=δ (Ed C d x)->W x C d H->X.xe (.ref x) s
def Xl{P:ω}{K:Ψ}:
  Ee (gZ (dN P w) P w K m b N q s f g A o a c E) (λx C d H=>∀T,H T=θ->E (.ref C) d (af (af H T$ iM T) x$ i9 C d T x)):=
 λ_ _ _ _ _ _ _ I e h=>Bo I e h
inductive sP(K:Ψ)(b:ζ->ζ->ym ζ->Hp->Prop)(v:V)(a:Hp):Prop
 |mk(x C d:_)(_:v= .ref x)(_:a x=δ (Ed C d x))(_:wq K C)(_:typeIn K (.ref C)=δ (.type "type"))(_:b x C d a)
def Io(K:Ψ)(t:TE)(W:ζ->ζ->ym ζ->Hp->Prop):TS:=λ_u0 a H=>t a H (sP K W)
def Yp{X:Cx}{e:dw}{t:TE}{P:Pos}{W:ζ->ζ->ym ζ->Hp->Prop}(f:X.calm=μ)(F:Ee X W)(g:PE X e t):PS X (.Raise (δ e) θ P) (Io X.K t W):=by intro p s b H D I h;rw[arm_exec_Raise];erw[Rp$ Uh ?_];erw[ZB (K:=X.K) (ev:=do let v <- eval e X.env;standAt P;pure v) (I.ok.hd f)$ Rp$ a8 (g p s b H _ I h) λu S a=>Rp (Uh$ Rt ?_)];let(v,j,i,r,x,C,d,ev,c,k,l,q):=a;subst ev;obtain rfl:u=Θ x:=r;obtain⟨⟨o,m,n,A,B,V,w,y,z⟩,_⟩:=i.hok x _ c;exact#[x,C,o,V,Z,i.kIn,k,l,m,n,w,y,F p b j S x C d i c q]
section
variable {X:Cx}{pins:xL (ζ×gs)}{σ:St}{H:Hp}{s:ι}{x C:ζ}{d:ym ζ}
def ay.noted{t':Nat}(I:ay X pins σ H s)(a:H x=δ (.ext m))(r:s.heap.get? x=δ O)(t:O.cls= .ref C)(w:O.dict=d)(y:O.data= .fields v)(c:1 < v.size)(f:v[2]?=δ .none)
  (N:dU .none (mJ X.stack) x O s.heap A):∃T,H T=θ/\T≠x/\ay X pins σ (af (af H T$ iM T) x$ i9 C d T x) { s with heap:=A,toks:=t' }:=by
 let(T,p,g,i,j):=dU.hok (C:=C) (d:=d) (fl:=.none) I a r t w y c f (λb h=>I.stkFree b h) N;let k:∀b,H b=θ->b≠x:=λb e z=>by rw[z,a]at e;cases e
 let U:∀b u,H b=δ u->(∀m,u≠ .ext m)->af (af H T$ iM T) x (i9 C d T x) b=δ u:=λb u e z=>by rw[ji (λq=>by rw[q,a]at e;cases e;rwa[z _ Z]),ji$ jk e p];rwa[e]
 erw[#[T,p,g,I.call (g':=s.gens) (d':=s.drawn) (ch:=[]) ?_ j I.bare (λb z=>absurd z PJ)]];erw[#[λb o e n h _=>N.keep b o h (k b n) e,λb o e n _ _=>N.slot b o (k b n) e,λb o e n _=>?_,λb o e _=>?_,λb B e=>U b _ e (by intro _ q;cases q),λb o u e=>U b _ e (by intro _ q;cases q),λb P e=>#[(ε []),by rw[U b _ e (by intro _ q;cases q)];simp]]]
 .rw[ji$ k b n,ji$ RJ$ RQ (Rz e) i];rwa[n]
 .by_cases h:b=x
  .let(D,_,_,_,l,_):=N.ex;exact#[_,by rw[h];rwa[l]]
  .let(S,q):=N.slot b o h e;exact#[_,q]
end
noncomputable abbrev Cx.mark(X:Cx)(e:η)(xe:η->ι->Prop):Cx:={ X with A:=X.A.mark (δ e),calm:=ν,xe:=xe }
def ay.mark{X:Cx}(I:ay X p a H s)(e:η)(x:η->ι->Prop):ay (X.mark e x) p a H s:=
 #[#[I.ok.mod,I.ok.kind,I.ok.glob,I.ok.blt,I.ok.above,I.ok.inj,I.ok.has,I.ok.cab,(λz=>nomatch (show ν=μ from z)),I.ok.frames,I.ok.stk,I.ok.exf,I.ok.bs,I.ok.bsz,I.ok.noex,I.ok.exfs,I.ok.funs,I.ok.frf],I.os,I.bare,I.base,I.loc,I.cell,I.free,I.freeC,I.pin,I.hok,I.len]
def ay.unmark{X:Cx}(o:X.Ok)(I:ay (X.mark e x) p a H s):ay X p a H s:=
 #[o,I.os,I.bare,I.base,I.loc,I.cell,I.free,I.freeC,I.pin,I.hok,I.len]
section
open PySem.W
def QN{K:Ψ}(X:K.In h)(a:h.get? x=δ o)(b:o.cls= .ref C)(H:clsIn K B≠θ)(tB:typeIn K (.ref B)=δ (.type "type"))(m:mroIn K B (.type "BaseException")=δ μ)(c:mroIn K C (.ref B)=δ μ):
  Looks M h (excMatches (.ref x)$ .ref B) μ:=by
 let L:Looks M h (typeOf$ .ref x) (.ref C):=b▸(Looks.ld a).andThen .now;let l:=looks_typeIn (M:=M) X tB;let _L:Looks M h (isInstance (.ref B)$ .type "tuple") ν:=l.andThen (Looks.of_pure tc_notTuple);let d:Looks M h (isType$ .ref B) μ:=by
  unfold clsIn at H;split at H
  .rename_i e
   intro A Q E s k q;unfold isType loadHead;rwa[Rp$ WT (k _ _$ X _ _ e)$ Rt q]
  .rwa[absurd Z H]
 let L4:Looks M h (isExcClass$ .ref B) μ:=by unfold isExcClass;rwa[d.andThen (by rw[RB Z];rwa[looks_mroIn X m])]
 let f:=looks_mroIn (M:=M) X c;intro A Q E s k q;unfold excMatches;erw[Rp$ _L A _ E s k ?_];rw[RD PM];erw[Rp$ Rt ?_];dsimp only;erw[Rp ?_];rw[T8];erw[Rp$ Rp$ L4 A _ E s k ?_];simp only[UP,RO,Ta];erw[Rt ?_];dsimp only;rw[U1];erw[Rt ?_];erw[Rp$ L A _ E s k ?_];erw[Rp ?_];rw[T8];erw[Rp$ Rp$ f A _ E s k ?_];simp only[UX];erw[Rt$ Rt ?_];rwa[Rt q]
end
abbrev XR:=ζ->ζ->ym ζ->ζ->Hp->Prop
def XW(X:Cx)(p:xL (ζ×gs))(a:St)(R:XR)(e:η)(s:ι):Prop:=
 ∃x C d T H,e= .ref x/\ay X p a H s/\H x=δ (i9 C d T x)/\H T=δ (iM T)/\T≠x/\R x C d T H
abbrev NY:=St->Hp->VK->XR->Prop
abbrev N0:=bp->XR->St->Hp->Prop
def OT(X:Cx)(e:dw)(t:NY):Prop:=
 ∀(p:xL (ζ×gs)) (s:ι) (a:St) (H:Hp) (Q:VK) (R:XR),ay X p a H s->t a H Q R->π (χ X.prog X.w) X.A (eval e X.env) (EP X p a Q) (XW X p a R) s
def OX(X:Cx)(st:cc)(t:N0):Prop:=
 ∀(p:xL (ζ×gs)) (s:ι) (a:St) (H:Hp) (D:bp) (R:XR),ay X p a H s->t D R a H->π (χ X.prog X.w) X.A (exec st X.env) (SP X p D) (XW X p a R) s
def Pa(R:XR):XK:=λc d H=>∀x C T,c= .ref C->H x=δ (i9 C d T x)->H T=δ (iM T)->T≠x->R x C d T H
def II(s:Sp)(d:xL V)(t:TA):NY:=λa H Q R=>t a H λv h=>s (v++d) h Q (Pa R)
section
variable {X:Cx}{k:Nat}{f:ζ}{fd:bS}{ps:xL ρ}{sp:Sp}{dvs:xL V}{ds:xL η}{x:ρ}{p pos:Pos}{e:dw}{es:xL dw}{t:TA}{te:NY}
def yJ(F:ai X.prog X.w X.K X.mg X.base (dN X.prog X.w) k f fd ps sp)(y:cf k X.A)(D:Gl X x)(E:X.mg x=↑f)(G:hG X.K (.ref f)=μ)(J:aE X.K fd ps ds)(L:aF dvs ds)
  (M:PA X.nox (e::es) t) (g:↥((x==("__debug__":ρ))=ν)) (N:↥(Δ (e::es) X.env=(ν,eval e X.env)::Δ es X.env)) (j:↥((fy pos$ Δ es X.env).any (·.1)=ν)):
  OT X (.Call (.Name x p) (e::es) [] pos) (II sp dvs t):=by
 intro P s O H Q R I h;erw[SO$ ql I D E ?_ g];erw[VY (h₀:=X.base) I.ok.mod.kin G (SN (M pos P s O H _ (I.wish _) h) (λU S #[v,W,i,r,q]=>#[i.kIn,?_]) λ_ _ z=>z.elim) N j];let i:=i.unwish;let m:aF (v++dvs) (U++ds):=r.append L;let Y:(U++ds).length=ο ps:=by rw[<- m.length];rwa[F.len _ _ _ _ q]
 erw[WV$ Ue (F.run X.A X.stack S W #[U,[]] (U++ds) (v++dvs) Q (Pa R) y i.env0 (J S U i.kIn Y) m q) λr s' a=>?_];cases r with
 |error e=>let(x,C,d,T,H',rfl,os,B,un,l,n,o,c,hw):=a;exact#[x,C,d,T,H',Z,i.call' os un l B (λb z=>absurd z PJ),n,o,c,hw x C T Z n o c]
 |ok fl=>
  cases fl with
  |ret u=>rwa[i.after a]
  |next |brk |cont=>rwa[False.elim a]
def Dm{i:Nat}{y:ρ}{P:Pos}(d:X.N.Nodup)(g:X.N[i]?=δ y)(j:wg X.env.scope y)(l:OT X e te)(m:↥(swapsWith e (δ$ .Name y P) pos.line X.env=pure ν))(n:autoParam (X.fn y=μ∨X.env.scope.names.lookup y=δ .local) Wx._auto_1):
  OX X (.Assign [.Name y P] e pos) (λD R b H=>te b H (λv c=>D.nx (b.set i$ δ v) c) R):=by
 intro a s b H D R I h;erw[wpAny_Assign_Name (a8 (l a s b H _ R I h) λv S z=>?_) m];let(y,c,o,r,q):=z;rwa[zP o d g j r (λw u=>#[_,c,u,q]) n]
end
def aT.ok1{P:ω}{K:Ψ}{st:cc}{a:Sp}(F:aT K x q st f g)(S:am N p (ae st))
  (h:∀(c:η) (A:bU) (o:xL Env) (s:ι) (H:Hp) (v:xL V) (Q:VK) (E:XK),cf k (A.deeper$ envOfC q (ae st) (-s) f c)->a v H Q E->
   let X:=gZ (dN P w) P w K m b N q (ae st) f c A o s H E;∃t,oe X (bM st) t/\t { nx:=λ_ i=>Q .non i,rt:=Q } (iK N v) H)(len:autoParam (∀v H Q E,a v H Q E->ο v=ο p) _L.aT.ok._auto_1):ai P w K m b (dN P w) (k+1) f g p a:=by
 let(l,n,kV,D,r,u,c,C,O,rfl,lk,d):=F.ex;rwa[Ey lk d S len λA o s H v Q E j e=>h c A o s H v Q E j e]
end _L
namespace _L
open PySem PySem.Spec PyProof.Rows PySem.SeqAt
def wV(x y:xL V):Bool:=(dr$ min x.length y.length).all (λj=>o0 (x.getD j .non) (y.getD j .non))&&ο x==ο y
section
variable {X:Cx}
def vV(r:aF x i)(R:aF y I)(f:x.all dJ=μ)(F:y.all dJ=μ)(j:Nat)(c:j < i.toArray.size)(d:j < I.toArray.size):EqAt A s i.toArray[j] I.toArray[j] (o0 (x.getD j .non)$ y.getD j .non):=by
 let L:=r.length;let p:=R.length;let H:j < ο x:=by simp at c;omega
 let h:j < ο y:=by simp at d;omega
 let a:x[j]?=δ x[j]:=Rq H;let b:y[j]?=δ y[j]:=Rq h;let(u,q,g):=r.get a;let(U,Q,k):=R.get b;let l:=sn.mp f _ (TF H);let m:=sn.mp F _ (TF h);let E:i.toArray[j]=u:=by let(_,e):=ξ.mp q;simpa using e
 let n:I.toArray[j]=U:=by let(_,e):=ξ.mp Q;simpa using e
 let G:x.getD j .non=x[j]:=by rw[Se,a];rfl
 let o:y.getD j .non=y[j]:=by rw[Se,b];rfl
 rw[E,n,G,o];rwa[wT g k l m]
inductive Yq(K:Ψ)(x y:V)(H:Hp)(Q:VK):Prop
 |mk(a b c d:_)(_:x= .ref a)(_:y= .ref b)(_:aC K H a c)(_:aC K H b d)(_:c.all dJ=μ)(_:d.all dJ=μ)(_:Q (.bl (wV c d)) H)
def Hr(f:X.A.units < cLine):gf X (compareOp .Eq) (Yq X.K):=by
 intro p s z H x y v u Q I g k h;let(a,b,c,Y,rfl,rfl,l,m,F,n,q):=h;cases g;cases k;let(i,r,P,_):=I.tuple l;let(d,R,o,_):=I.tuple m;erw[eq_tupleAt (e:=λj=>o0 (c.getD j .non) (Y.getD j .non)) (show s.heap.IsTuple a i.toArray from P) (show s.heap.IsTuple b d.toArray from o) f (λj t w=>vV r R F n j t w) ?_];let e:((dr$ min i.toArray.size d.toArray.size).all (λj=>o0 (c.getD j .non) (Y.getD j .non))&&i.toArray.size==d.toArray.size)=wV c Y:=by unfold wV;rw[Rx,Rx,<- r.length,<- R.length]
 rw[e];exact#[.bl _,H,I,Z,q]
end
end _L
namespace _L
open PySem PySem.Spec PyProof.Rows
section
#print v
def ZC{Q:Nat->ι->Prop}(H:n≠0)(h:∀i d,i < n->Q i { s with drawn:=d }):π (χ prog w) A (choose a n) Q E s:=by intro Γ p _;show Sem.wp _ Γ (.choose a n .pure) _ _ p s;rw[Sem.wp_choose];exact#[H,h _ _$ Nat.mod_lt _$ Nat.pos_of_ne_zero H]
def YZ{α:Type}:∀(n:Nat) (xs:xL α) (s:ι) {Q:xL α->ι->Prop},ο xs=n->(∀ys d,ys.Perm xs->Q ys { s with drawn:=d })->
  π (χ prog w) A (drawOrder n xs) Q E s:=by
 intro n;induction n with
 |zero=>
  intro xs s Q hl h;cases xs with
  |nil=>unfold drawOrder;rwa[Rt$ h [] s.drawn .rfl]
  |cons _ _=>cases hl
 |succ n ih=>
  intro xs s Q hl h;cases xs with
  |nil=>cases hl
  |cons x r=>unfold drawOrder;erw[Rp$ ZC PJ λi d hi=>?_];let hg:(x::r)[i]?=δ ((x::r)[i]'hi):=Rq hi;rw[hg];dsimp only;erw[Rp$ ih _ _ (by rw[Wf hi,hl];rfl) λys d' hp=>Rt (h _ d' ?_)];erw[(List.Perm.cons _ hp).trans ?_];rw[VS];erw[List.perm_middle.symm.trans ?_];rw[T5,Vw]
end
def nX:η->ρ
 | .str x _=>x
 |_=>#[(ε [])]
def QO(t:SetTable)(n:Nat):(t.orStandIn n).led=t.led:=by
 unfold SetTable.orStandIn;split
 .rfl
 .rfl
def ZD(t:SetTable)(e:Array (Int×η))(h:Int)(x:η):(layNew t e h x).2.1.led=t.led:=by
 unfold layNew;split
 .rwa[QO _ _]
 .rfl
def X4(t:SetTable)(E:Array (Int×η))(n:Nat):(relayAll t E n).2.1.led=t.led:=by
 unfold relayAll;split
 .rename_i T o e
  unfold SetTable.relaid SetTable.laid at e;cases h:SetTable.layClean (SetTable.sizeAbove n - 1) (E.map (·.1)) with
  |none=>rw[h]at e;cases e
  |some O=>rw[h]at e;cases e;dsimp only;split<;>rfl
 .rfl
def QA(t:SetTable)(E:Array (Int×η))(n:Nat)(H:t.plain=ν):(relayAll t E n).2.1.plain=ν:=by
 unfold relayAll;split
 .rename_i T o e
  unfold SetTable.relaid SetTable.laid at e;cases h:SetTable.layClean (SetTable.sizeAbove n - 1) (E.map (·.1)) with
  |none=>rw[h]at e;cases e
  |some O=>
   rw[h]at e;cases e;dsimp only;split
   .rwa[H]
   .rfl
 .rfl
def dF(p:ω)(w:bF)(h:de)(a:ζ)(L:xL ρ):Prop:=
 ∃o E b t,h.get? a=δ o/\o.ExactSet/\o.data= .set E b t/\ElemsOf (dg p w) E.toList/\(E.toList.map λe=>nX e.2).Perm L/\L.Nodup
  /\E.size < scanBound/\t.fits E.size=μ/\t.led=!(w.params.followText "set-order")/\(t.plain=ν∨E.size=0)
def dF.at{H:de}{a:ζ}(x:dF p w h a L)(e:∀o,h.get? a=δ o->H.get? a=δ o):dF p w H a L:=
 let #[o,E,b,t,c,r]:=x;#[o,E,b,t,e o c,r]
section
#print v
def Kh{a:Array (Int×η)}(b:ElemsOf (dg prog w) a.toList)(x:ρ):
  (a.toList.findIdx? (λe=>(dg prog w).is x e.2)=θ↔¬x∈a.toList.map λe=>nX e.2):=by
 rw[List.findIdx?_eq_none_iff];constructor
 .intro h m;let(e,H,f):=dn.mp m;obtain⟨⟨k,g,_⟩,_⟩:=b e H;let(t,c):=UR g;let q:=h e H;rw[c]at f q;let d:k=x:=f;subst d;let Q:(dg prog w).is k (.str k t)=μ:=strKind_is prog w k t;rw[Q]at q;cases q
 .intro h e H;cases q:(dg prog w).is x e.2 with
  |false=>rfl
  |true=>let(t,c):=UR q;rwa[absurd (dn.mpr #[e,H,by rw[c];rfl]) h]
def Ki{b:Array (Int×η)}{T:SetTable}(d:s.heap.get? a=δ o)(f:o.ExactSet)(h:o.data= .set p c t)
  (g:ElemsOf (dg prog w) b.toList) (i:(b.toList.map λe=>nX e.2).Perm L) (j:L.Nodup) (k:b.size < scanBound) (l:T.fits b.size=μ)
  (m:T.led=!(w.params.followText "set-order")) (n:T.plain=ν):
  (s.heap.update a$ mU b T).get? a=δ { o with data:=.set b (c+1) T }/\dF prog w (s.heap.update a$ mU b T) a L:=by
 let H:(s.heap.update a$ mU b T).get? a=δ { o with data:=.set b (c+1) T }:=by let q:=Sl (mU b T) d (by rw[putSet_of b T h];rfl);rw[putSet_of b T h]at q;assumption
 exact#[H,_,b,c+1,T,H,f,Z,g,i,j,k,l,m,.inl n]
def Y0{Q : Bool -> ι -> Prop}(hS : dF prog w s.heap a L)(room : ο L + 1 < scanBound)
    (h : ∀ b R l, fx a s.heap R -> dF prog w R a (if x ∈ L then L else L ++ [x]) -> s.toks <= l -> Q b { s with heap := R, toks := l }) :
    π (χ prog w) A (setAdd a$ .str x f) Q E s := by
  obtain ⟨o, g, ep, t, n, U, u, H, v, B, hb, V, X, Y⟩ := hS;let d : (dg prog w).is x (.str x f) = μ := strKind_is prog w x f;let C : g.size = ο L := by rw [<- v.length_eq, Rs, RX]
  unfold setAdd;erw[RY$ Rp ((dg prog w).pyHash (k := x) d ?_)];unfold setAddHashed setAddHashedIn;erw[RY$ Rp$ Tw (s := { s with toks := s.toks + 1 }) n u V ?_];dsimp only;rw [byScan_of Z hb H];simp only [↓reduceIte];unfold setAddByScan;erw[Rp$ Rp$ TR$ Rp$ wpAny_setScan_of (knd := dg prog w) d n u V H ?_];cases hr : List.findIdx? (λe => (dg prog w).is x e.2) g.toList with
  | some j =>
    dsimp only;let D : x ∈ L := by erw[Decidable.byContradiction λhn => ?_];let q := (Kh (prog := prog) (w := w) H x).mpr λm => hn (v.mem_iff.mp m);rw [q] at hr; cases hr
    let q := h ν s.heap (s.toks + 1) (Wr a s.heap) (by rw [RB D]; rwa[#[o, g, ep, t, n, U, u, H, v, B, hb, V, X, Y]]) (Tb _);rwa[Rt$ Rt q]
  | none =>
    dsimp only;let D : ¬ x ∈ L :=λm => (Kh (prog := prog) (w := w) H x).mp hr (v.mem_iff.mpr m);let W : ∀ (b : Bool) {S : ι} {Q' : Unit -> ι -> Prop}, Q' () S -> π (χ prog w) A (match b with | true => rule "set.scan.the-table-gave-way" | false => pure ()) Q' E S := by
      intro b S Q' hq;cases b
      · rwa[Rt hq]
      · rwa[TR hq]
    let p := layNew_perm t g ((dg prog w).hash x) (.str x f);let M := layNew_fits t g ((dg prog w).hash x) (.str x f);let O := ZD t g ((dg prog w).hash x) (.str x f);generalize layNew t g ((dg prog w).hash x) (.str x f) = N at p M O ⊢;obtain ⟨c, t1, w0, g4⟩ := N;dsimp only at p M O ⊢;rw [Array.toList_push] at p;let F : ElemsOf (dg prog w) c.toList := (H.push d Z).perm p;let P : (c.toList.map λe => nX e.2).Perm (L ++ [x]) := by erw[(p.map _).trans ?_];rw [RU];rwa[v.append_right _]
    let G : (L ++ [x]).Nodup := List.nodup_append.mpr #[B, by simp,λy hy z hz e => by rw [VI] at hz; subst hz; subst e; rwa[D hy]];let i8 : c.size = g.size + 1 := by rw [<- RX, p.length_eq, Ru, RX]; rfl
    let b1 : c.size < scanBound := by rw [i8, C]; rwa[room]
    erw[Rp$ W _ ?_];let i : ∀ T : SetTable, T.fits c.size = μ -> T.led = t.led -> T.plain = ν ->
        π (χ prog w) A (do
          storeSet a c T
          if (!w0 && T.tooFull) = μ then do
              (match (relayAll T c$ SetTable.grown c.size).2.2 with | true => rule "set.scan.the-table-gave-way" | false => pure ())
              storeSet a (relayAll T c$ SetTable.grown c.size).1 (relayAll T c$ SetTable.grown c.size).2.1
              pure (δ μ)
            else pure (δ μ)) (λr s' => r = δ μ /\ Q μ s') E { s with toks := s.toks + 1 } := by
      intro T g1 g2 g3;erw[Rp$ wpAny_storeSet_of (s := { s with toks := s.toks + 1 }) n u ?_$ Vo b1];obtain ⟨o1, S1⟩ := Ki (s := s) (prog := prog) (w := w) n U u F P G b1 g1 (g2.trans X) g3;let I := Tt s.heap a (mU c T);split
      · have J := relayAll_perm T c (SetTable.grown c.size)
        let f2 := relayAll_fits T c (SetTable.grown c.size);let l2 := X4 T c (SetTable.grown c.size);let q2 := QA T c (SetTable.grown c.size) g3;generalize relayAll T c (SetTable.grown c.size) = Z at J f2 l2 q2 ⊢;obtain ⟨K, t3, g0⟩ := Z;dsimp only at J f2 l2 q2 ⊢;let cg : K.size = c.size := by rw [<- RX, J.length_eq, RX]
        let b2 : K.size < scanBound := by rw [cg]; rwa[b1]
        erw[Rp$ W _$ Rp$ wpAny_storeSet_of (s := { s with heap := s.heap.update a (mU c T), toks := s.toks + 1 }) o1 Z ?_$ Vo b2];obtain ⟨_, S2⟩ := Ki (s := { s with heap := s.heap.update a (mU c T) }) (prog := prog) (w := w) o1 U Z (F.perm J) ((J.map _).trans P) G b2 f2 (l2.trans$ g2.trans X) q2;rwa[Rt #[Z, h μ _ _ (I.trans$ Tt _ a _) (by rw [RD D]; rwa[S2]) (Tb _)]]
      · rwa[Rt #[Z, h μ _ _ I (by rw [RD D]; rwa[S1]) (Tb _)]]
    split
    · rename_i tp
      erw[Rp ?_];rw [hashByValue_scannable 8 (x := .str x f) Z];erw[Rt ?_];let e0 : plainKind (.str x f) = ν := rfl;rw [e0];simp only [RO, ↓reduceIte];erw[SN (i { t1 with plain := ν } (SetTable.fits_plain_off M) O Z) (λr s' q => ?_) λ_ _ z => z];obtain ⟨rfl, q⟩ := q;rwa[Rt q]
    · rename_i tp
      erw[Rp$ Rt ?_];simp only [↓reduceIte];erw[SN (i t1 M O (tp:)) (λr s' q => ?_) λ_ _ z => z];obtain ⟨rfl, q⟩ := q;rwa[Rt q]
end
noncomputable def bN(w:bF):gs:={ cls:=.type "set",dict:=θ,data:=.set (ε []) 0 (.fresh 0 0 (!(w.params.followText "set-order"))) }
section
#print v
def Y1{h:de}(e:h.get? a=δ (bN w)):dF prog w h a []:=
 #[_,(ε []),0,_,e,#[222],Z,λ_ z=>by simp at z,PJ,VA,(PM:(0:Nat) < scanBound),22,.inr Z]
def QP(a:η){G:η->ι->Prop}(h:G (.ref (-s)) {s.heap.push (bN w)}):
  lq (χ prog w) A (.call (.builtin "set.__new__") #[[.type "set",a],[]]) (wants G E) s:=by
 erw[WH ?_];show π _ A.in1 (do checkBuiltinCall "set.__new__" _;again (.builtin "set.__new__" _)) _ _ s;erw[Rp$ Vm (PySem.F.newCall_set_1 a)$ Rt #[T4 WA _,Tg PySem.F.entry_set_new ?_]];rw[SJ WA];unfold dO.«set.__new__» Builtin.Frozenset.newClass;let o:=sub_set_self;let(H,g,d,t,os):=s;dsimp only;wp_walk;erw[Ur$ Rt ?_];dsimp only;simp only[newObj];rwa[Rp$ wpAny_alloc$ Rt$ Rt h]
end
theorem StrsAre.at'{V:xL η}{s:xL ρ}(q:StrsAre V s):∀(i:Nat) (v:η),V[i]?=δ v->∃x t,s[i]?=δ x/\v= .str x t:=by
 induction q with
 |nil=>intro i v h;simp at h
 |cons y t r f=>
  intro i v h;cases i with
  |zero=>simp at h;rwa[#[y,t,Z,h.symm]]
  |succ i=>simp only[List.getElem?_cons_succ]at h;let(x,T,e,E):=f i v h;rwa[#[x,T,by simpa using e,E]]
theorem StrsAre.len{v:xL η}{s:xL ρ}(h:StrsAre v s):ο s=ο v:=by
 induction h with
 |nil=>rfl
 |cons _ _ _ f=>simp [f]
def kB:Slot "set_iterator" "__next__" "set_iterator.__next__":=by
 erw[.of (owner:="set_iterator") (n:="__next__") ?_ PH PH PH ?_ ?_]
 .rw[Tf,Sx];kernel_rfl
 .first |exact .inl PH |exact .inr PH
 .rw[Tv];kernel_rfl
def qA:Slot "set_iterator" "__iter__" "set_iterator.__iter__":=by
 erw[.of (owner:="set_iterator") (n:="__iter__") ?_ PH PH PH ?_ ?_]
 .rw[Tf,Sx];kernel_rfl
 .first |exact .inl PH |exact .inr PH
 .rw[Tv];kernel_rfl
def J4:entryFor table "set_iterator.__next__"=δ dO.«set_iterator.__next__»:=Vy (by kernel_rfl)
def J5:entryFor table "set_iterator.__iter__"=δ dO.«dict_keyiterator.__iter__»:=by erw[VO (id':="dict_keyiterator.__iter__") ?_ Z PH ?_]<;>kernel_rfl
def Ko:entryFor table "set.__iter__"=δ dO.«frozenset.__iter__»:=by erw[VO (id':="frozenset.__iter__") ?_ Z PH ?_]<;>kernel_rfl
def Kq(a:η):argsOk "set_iterator.__next__" #[[a],[]]:=by unfold argsOk;kernel_rfl
def Kr(a:η):argsOk "set_iterator.__iter__" #[[a],[]]:=by unfold argsOk;kernel_rfl
def c7(h:de)(I:ζ)(f:η)(i:Nat)(S:ζ)(n e:Nat):Prop:=
 ∃o,h.get? I=δ o/\o.cls= .type "set_iterator"/\o.data= .fields (ε [f,.int i 0,.ref S,.int n 0,.int e 0])
def c7.at{H:de}{i:Nat}{S:ζ}(x:c7 h I f i S n E)(e:∀o,h.get? I=δ o->H.get? I=δ o):c7 H I f i S n E:=
 let #[o,a,r]:=x;#[o,e o a,r]
def c7.is{s:ι}{S:ζ}(x:c7 s.heap I f i S n e):s.TypeIs (.ref I) "set_iterator":=by let(o,h,H,_):=x;rwa[#[o,h,H]]
section
#print v
def Kv{c:Type}{Q:c->ι->Prop}(d:A.handled=θ)
  (h:∀H e,(∀b o,s.heap.get? b=δ o->H.get? b=δ o)->Shared.TypeIs {H} e "StopIteration"->E e {H}):
  π (χ prog w) A (do raiseNew (<- newExc (.type "StopIteration") []):Sem c) Q E s:=by
 erw[Rp ?_];simp only[newExc,newTuple];erw[Rp$ So ?_ (by size_fits)];erw[Rp (m:=firstArgMember _ _)$ Vm (a:=β) ?_ ?_]
 .first |rfl | (simp only[firstArgMember];rfl)
 erw[So ?_ (by size_fits)];simp only[raiseNew];erw[Rp$ wpAny_handled ?_];rw[d];erw[Rp$ Rt$ wpAny_throw$ h _ _ (λb o e=>Rr _ (Rr _ e)) ?_];exact#[_,Ry _ Z,Z]
def Kw{S:ζ}(H:c7 s.heap I f i S n c)
  (h:π (χ prog w) A.in1 (dO.«set_iterator.__next__» #[[.ref I],[]]) (λF a=>∃v,F= .done (.ret v)/\Q (δ v) a) (λe a=>a.TypeIs e "StopIteration"/\Q θ a) s):
  π (χ prog w) A (pyNext$ .ref I) Q E s:=by
 unfold pyNext;erw[Rp$ Uy$ Sm (name:=Str.ofString "__next__") H.is kB$ Si kB H.is J4 ?_$ Kq _];erw[SN h (λF a q=>?_) λe a q=>?_]
 .let(v,e,q):=q;exact#[v,e,Rt q]
 .rwa[Rp$ T6 (T:="StopIteration") (b:=μ) q.1 VN$ Rt q.2]
def Xm{I:ζ}{f:η}{i:Nat}{S:ζ}{n a:Nat}{o:gs}{v:Array η}(H:s.heap.get? I=δ o)(b:o.cls= .type "set_iterator")(h:o.data= .fields v)(k:Nat)(x:η)
  (e:v.setIfInBounds k x=(ε [f,.int i 0,.ref S,.int n 0,.int a 0])):c7 (s.heap.update I$ gb (·.setIfInBounds k x)) I f i S n a:=
 #[_,Sl _ H$ SW$ Sf h _,(UE ..).trans b,by rw[Sf h,e]]
def ZE{I S P:ζ}{i:Nat}{O j:gs}{e:Array (Int×η)}{a:Nat}{t:SetTable}{k:Array η}{c p:Nat}{hx:Int}{x:η}{Q:ym η->ι->Prop}
  (h:c7 s.heap I (.ref P) i S e.size a) (l:s.heap.get? S=δ O) (H:O.data= .set e a t) (m:t.fits e.size=μ) (n:s.heap.get? P=δ j) (b:j.data= .seq k c)
  (q:k[i]?=δ (.int p 0)) (r:e[p]?=δ (hx,x)) (u:∀d,c7 d I (.ref P) (i+1) S e.size a->fx I s.heap d->Q (δ x) {d}):
  π (χ prog w) A (pyNext$ .ref I) Q E s:=by
 erw[Kw h ?_];let(o,f,v,g):=h;show π _ _ (fieldsOf (.ref I) >>= _) _ _ s;erw[Rp$ VL f g ?_];dsimp only;erw[Rp$ Uv l H m ?_];simp only[Th,RO,↓reduceIte];erw[Rp$ SK n b ?_];simp only[SE,q];unfold setNextDrawn;erw[Rp$ Rp$ Tw l H m ?_];simp only[Th,RO,↓reduceIte,r];erw[Rt ?_];erw[Rp$ SG f g PJ$ Rt #[x,Z,u _ ?_$ Tt ..]];rwa[Xm f v g _ _ (by simp [rawInt])]
def QB(q:A.handled=θ){I S P:ζ}{i:Nat}{O l:gs}{d:Array (Int×η)}{m:Nat}{t:SetTable}{p:Array η}{c:Nat}{Q:ym η->ι->Prop}
  (h:c7 s.heap I (.ref P) i S d.size m) (r:s.heap.get? S=δ O) (f:O.data= .set d m t) (u:t.fits d.size=μ) (v:s.heap.get? P=δ l) (g:l.data= .seq p c)
  (x:p[i]?=θ) (y:∀H,(∀b o,b≠I->s.heap.get? b=δ o->H.get? b=δ o)->Q θ {H}):
  π (χ prog w) A (pyNext$ .ref I) Q E s:=by
 erw[Kw h ?_];let(o,j,B,a):=h;show π _ _ (fieldsOf (.ref I) >>= _) _ _ s;erw[Rp$ VL j a ?_];dsimp only;erw[Rp$ Uv r f u ?_];simp only[Th,RO,↓reduceIte];erw[Rp$ SK v g ?_];simp only[SE,x];erw[Rp$ SG j a PJ ?_];erw[Rp$ SG (Sl _ j$ SW$ Sf a _) (Sf a _) PJ ?_];erw[Kv (s:={_}) (q:) λH e k T=>#[T,y H λb o n z=>k b o ?_]];exact(RV _ _$ Sc n).trans ((RV _ _$ Sc n).trans z)
end
section
#print v
def Xn{I S:ζ}{i j nx:Nat}{O:gs}{e:Array (Int×η)}{a:Nat}{t:SetTable}{x:η}{Q:ym η->ι->Prop}
  (h:c7 s.heap I (.int j 0) i S e.size a) (f:s.heap.get? S=δ O) (b:O.data= .set e a t) (k:t.fits e.size=μ)
  (l:∀(q:ym (η×Nat)->ι->Prop) m,q (δ (x,nx)) s->π (χ prog w) A.in1 (setNext S j i a) q m s)
  (n:∀c,c7 c I (.int nx 0) (i+1) S e.size a->fx I s.heap c->Q (δ x) {c}):
  π (χ prog w) A (pyNext$ .ref I) Q E s:=by
 erw[Kw h ?_];let(o,d,p,H):=h;show π _ _ (fieldsOf (.ref I) >>= _) _ _ s;erw[Rp$ VL d H ?_];dsimp only;erw[Rp$ Uv f b k ?_];simp only[Th,RO,↓reduceIte];simp only[SE];erw[Rp$ l _ _ ?_];dsimp only;erw[Rp$ SG d H PJ ?_];let g:=Sl (gb (·.setIfInBounds 0 (rawInt nx))) d (SW$ Sf H _);let D:=Sf H (·.setIfInBounds 0 (rawInt nx));erw[Rp$ SG g D PJ$ Rt #[x,Z,n _ ?_ ((Tt ..).trans$ Tt ..)]];rwa[Xm (s:={_}) g ((UE ..).trans p) D _ _ (by simp [rawInt])]
def qZ(l:A.handled=θ){I S:ζ}{i j:Nat}{O:gs}{a:Array (Int×η)}{c:Nat}{t:SetTable}{Q:ym η->ι->Prop}
  (h:c7 s.heap I (.int j 0) i S a.size c) (m:s.heap.get? S=δ O) (d:O.data= .set a c t) (n:t.fits a.size=μ)
  (p:∀(q:ym (η×Nat)->ι->Prop) r,q θ s->π (χ prog w) A.in1 (setNext S j i c) q r s)
  (u:∀H,(∀b o,b≠I->s.heap.get? b=δ o->H.get? b=δ o)->Q θ {H}):
  π (χ prog w) A (pyNext$ .ref I) Q E s:=by
 erw[Kw h ?_];let(o,f,y,g):=h;show π _ _ (fieldsOf (.ref I) >>= _) _ _ s;erw[Rp$ VL f g ?_];dsimp only;erw[Rp$ Uv m d n ?_];simp only[Th,RO,↓reduceIte];simp only[SE];erw[Rp$ p _ _ ?_];dsimp only;erw[Rp$ SG f g PJ ?_];erw[Kv (s:={_}) (l:) λH e k T=>#[T,u H λb o v x=>k b o ?_]];exact(RV _ _$ Sc v).trans x
def JL(a:w.params.followText "set-order"=μ){S:ζ}(b:s.heap.get? S=δ o)(H:o.data= .set c d t)
  (f:t.fits c.size=μ) {Q:ym (η×Nat)->ι->Prop} (h:Q (((pickOrder (w.params.setOrder S d) c)[i]?).map λe=>(e.2,j)) s):
  π (χ prog w) A (setNext S j i d) Q E s:=by
 unfold setNext;erw[Rp$ Tw b H f ?_];dsimp only;unfold setsByText;erw[Rp$ Rp$ Ur$ Rt ?_];dsimp only;rw[show(χ prog w).w.params.followText "set-order"=_ from a];simp only[↓reduceIte,Th,RO];unfold setWalk;erw[Rp$ Rp$ Tw b H f ?_];dsimp only;unfold setsByText;erw[Rp$ Rp$ Ur$ Rt ?_];dsimp only;rw[show(χ prog w).w.params.followText "set-order"=_ from a];simp only[↓reduceIte];rwa[Rp$ Ur$ Rt$ Rt h]
def Kj(a:w.params.followText "set-order"=ν){S:ζ}(b:s.heap.get? S=δ o)(H:o.data= .set e c t)
  (d:t.fits e.size=μ) (f:t.led=μ) (l:e.size<=1) {Q:ym (η×Nat)->ι->Prop}
  (h:Q (match e[SetTable.below t.place j]?,t.place[SetTable.below t.place j]? with |some (_,x),δ k=>δ (x,k+1) |_,_=>θ) s):
  π (χ prog w) A (setNext S j i c) Q E s:=by
 unfold setNext;erw[Rp$ Tw b H d ?_];dsimp only;unfold setsByText;erw[Rp$ Rp$ Ur$ Rt ?_];dsimp only;rw[show(χ prog w).w.params.followText "set-order"=_ from a];simp only[RO,↓reduceIte];split
 .rename_i z
  let g:(!t.plain&&decide (e.size > 1))=μ:=z;simp only[SY,decide_eq_true_eq]at g;omega
 .erw[Rp ?_];show π _ _ (if (!t.led&&!e.isEmpty)=μ then _ else _) _ _ _;rw[f];simp only[UP,Bool.false_and,RO,↓reduceIte];rwa[Rt$ Rt h]
end
def Y2{a:Type}(f:Nat->Nat):∀(n k:Nat) (l:xL a) (o:Array a),ο l=n->(pickOrder.go f n k l o).toList.Perm (o.toList++l):=by
 intro n;induction n with
 |zero=>intro k l o h;rw[List.length_eq_zero_iff.mp h];unfold pickOrder.go;simp
 |succ n i=>intro k l o h;unfold pickOrder.go;let H:f k % ο l < ο l:=Nat.mod_lt _ PL;rw[Rq H];dsimp only;erw[(i _ _ _ (by rw[Wf H,h];rfl)).trans ?_];rw[Array.toList_push,Sn,List.singleton_append];erw[Vc _ ?_];rw[VS];erw[List.perm_middle.symm.trans ?_];rw[T5,Vw]
def kM{a:Type}(f:Nat->Nat)(x:Array a):(pickOrder f x).toList.Perm x.toList:=by let h:=Y2 f x.size 0 x.toList (ε []) (RX ..);simpa [pickOrder] using h
def JE{a:Type}(x:Array a)(d:a):(dr x.size).map (λp=>(x[p]?).getD d)=x.toList:=by
 erw[VV PJ λi b h=>?_];let H:i < x.size:=by simpa using h
 simp [H]
def pw(ord:xL (Int×η))(i:Nat)(v:η):Prop:=∃e,ord[i]?=δ e/\v=e.2
section
#print v
def Jk{S:ζ}(H:c7 s.heap I f i S n e){Q:η->ι->Prop}(h:Q (.ref I) s):π (χ prog w) A (pyIter$ .ref I) Q E s:=by erw[V5 H.is qA$ Si qA H.is J5 ?_$ Kr _];show π _ _ (ret$ .ref I) _ _ s;rwa[Rt #[12,"set_iterator",_,H.is,kB.lookup,h]]
def ZF(D:A.handled=θ)(I S P:ζ)(l:S≠I)(m:P≠I){O oP:gs}{y:xL Nat}{c:Nat}(f:O.data= .set d G t)
  (u:t.fits d.size=μ) (g:oP.data= .seq (y.map λ(i:Nat)=>rawInt i).toArray c) (n:y.Perm (dr d.size)):
  WalksS prog w A I [I,S,P] [I] (λa b=>b=a) d.size (pw$ y.map λp=>(d[p]?).getD (0,.none))
   (λi s=>c7 s.heap I (.ref P) i S d.size G/\s.heap.get? S=δ O/\s.heap.get? P=δ oP) where
 sub:=λb H=>by simp at H;simp [H]
 grefl:=λ_=>Z
 gtrans:=λ_ _ _ F J=>J.trans F
 frame:=λi s v T st _ k=>#[st.1.at λo e=>k I PJ o e,k S PJ _ st.2.1,k P PJ _ st.2.2]
 item:=λi s Q E K st j=>by
  let B:ο y=d.size:=by rw[n.length_eq,UA]
  let h:i < ο y:=PL
  let C:y[i] < d.size:=tz.mp (n.mem_iff.mp$ TF h);erw[ZE (p:=y[i]) (hx:=(d[y[i]]).1) (x:=(d[y[i]]).2) st.1 st.2.1 f u st.2.2 g (by simp [h,rawInt]) (by simp [C]) λv q r=>?_];erw[j _ _ #[d[y[i]],by simp [h,C],Z] #[q,?_,?_] #[λb o H e=>?_,222,Rv _]]
  .rw[r.2 S l];rwa[st.2.1]
  .rw[r.2 P m];rwa[st.2.2]
  .rw[r.2 b (λz=>H (by simp [z]))];rwa[e]
 done:=λs Q E st j=>by
  let B:ο y=d.size:=by rw[n.length_eq,UA]
  erw[QB D st.1 st.2.1 f u st.2.2 g (by simp [B]) λv k=>j _ #[λb o H e=>k b o (λz=>H (by simp [z])) e,222,Rv _]]
 self:=λ_ _ _ _ st j=>Jk st.1 j
def vX(r:A.handled=θ)(m:w.params.followText "set-order"=μ)(I S:ζ)(l:S≠I){O:gs}(h:O.data= .set c d t)
  (j:t.fits c.size=μ):
  WalksS prog w A I [I,S] [I] (λa b=>b=a) c.size (pw (pickOrder (w.params.setOrder S d) c).toList)
   (λi s=>c7 s.heap I (.int (0:Nat) 0) i S c.size d/\s.heap.get? S=δ O) where
 sub:=λb H=>by simp at H;simp [H]
 grefl:=λ_=>Z
 gtrans:=λ_ _ _ u v=>v.trans u
 frame:=λi s n T st _ k=>#[st.1.at λo e=>k I PJ o e,k S PJ _ st.2]
 item:=λi s Q E D st f=>by
  let y:(pickOrder (w.params.setOrder S d) c).size=c.size:=by rw[<- RX,(kM _ _).length_eq,RX]
  let g:i < (pickOrder (w.params.setOrder S d) c).size:=PL
  erw[Xn (x:=(pickOrder (w.params.setOrder S d) c)[i].2) (nx:=0) st.1 st.2 h j (λB C q=>JL m st.2 h j (by rw[TN g];rwa[q])) λn q p=>?_];erw[f _ _ #[(pickOrder (w.params.setOrder S d) c)[i],by rw[Tk];rwa[TN g],Z] #[q,?_] #[λb o H e=>?_,222,Rv _]]
  .rw[p.2 S l];rwa[st.2]
  .rw[p.2 b (λz=>H (by simp [z]))];rwa[e]
 done:=λs Q E st f=>by
  let y:(pickOrder (w.params.setOrder S d) c).size=c.size:=by rw[<- RX,(kM _ _).length_eq,RX]
  erw[qZ r st.1 st.2 h j (λB C q=>JL m st.2 h j (by rw[Vl PL];rwa[q])) λn k=>f _ #[λb o H e=>k b o (λz=>H (by simp [z])) e,222,Rv _]]
 self:=λ_ _ _ _ st f=>Jk st.1 f
def ZG(p:Nat):SetTable.below (ε [p]) 0=0:=by simp [SetTable.below,SetTable.below.go]
def ZH(p:Nat):SetTable.below (ε [p]) (p+1)=1:=by simp [SetTable.below,SetTable.below.go]
def Bi(G:A.handled=θ)(u:w.params.followText "set-order"=ν)(I S:ζ)(n:S≠I){O:gs}(h:O.data= .set c L t)
  (g:t.fits c.size=μ) (v:t.led=μ) (y:c.size<=1):
  WalksS prog w A I [I,S] [I] (λa b=>b=a) c.size (pw c.toList)
   (λi s=>(∃j:Nat,c7 s.heap I (.int j 0) i S c.size L/\(i=0->j=0)/\(i=1->∃p,t.place=(ε [p])/\j=p+1))/\s.heap.get? S=δ O) where
 sub:=λb d=>by simp at d;simp [d]
 grefl:=λ_=>Z
 gtrans:=λ_ _ _ K M=>M.trans K
 frame:=λi s B W st _ k=>#[let #[j,a,r]:=st.1;#[j,a.at λo e=>k I PJ o e,r],k S PJ _ st.2]
 item:=λi s Q E X st l=>by
  obtain⟨⟨j,H,J,C⟩,f⟩:=st;let N:i=0:=PL
  subst N;cases J Z;let D:c.size=1:=PL
  let P:t.place.size=1:=by simp only[SetTable.fits,SY,beq_iff_eq]at g;omega
  let(p,m):=Array.size_eq_one_iff.mp P;erw[Xn (x:=(c[0]'PL).2) (nx:=p+1) H f h g (λR T q=>Kj u f h g v y (by rw[m,ZG,TN PL];rwa[q])) λB q F=>?_];erw[l _ _ #[c[0]'PL,by rw[Tk];rwa[TN PL],Z] #[#[_,q,λz=>by omega,λ_=>#[p,m,Z]],?_] #[λb o d e=>?_,222,Rv _]]
  .rw[F.2 S n];rwa[f]
  .rw[F.2 b (λz=>d (by simp [z]))];rwa[e]
 done:=λs Q E st l=>by
  obtain⟨⟨j,H,J,C⟩,f⟩:=st;erw[qZ G H f h g (λR T q=>Kj u f h g v y ?_) λB k=>l _ #[λb o d e=>k b o (λz=>d (by simp [z])) e,222,Rv _]];by_cases z:c.size=0
  .rw[Vl (show c.size<=_ by omega)];rwa[q]
  .let D:c.size=1:=by omega
   let(p,U,V):=C D;subst V;rw[U,ZH,Vl (show c.size<=1 by rwa[N09])];rwa[q]
 self:=λ_ _ _ _ st l=>let #[#[_,a,_],_]:=st;Jk a l
end
def qw{prog:ω}{w:bF}(h:ElemsOf (dg prog w) E)(i:Nat)(v:η)(b:pw E i v):∃x t,(E.map λe=>nX e.2)[i]?=δ x/\v= .str x t:=by let(e,H,rfl):=b;obtain⟨⟨k,c,_⟩,_⟩:=h e (RL H);let(t,a):=UR c;exact#[k,t,by rw[RP,H];show δ (nX e.2)=_;rw[a];rfl,a]
def Fo(p:ω)(w:bF)(s c:ι)(S I:ζ)(L:xL ρ):Prop:=
 ∃(f:xL ζ) (d:xL ρ) (P:Nat->η->Prop) (St:Nat->ι->Prop),(∀b o,s.heap.get? b=δ o->c.heap.get? b=δ o)/\c.gens=s.gens/\c.os=s.os/\s.toks<=c.toks/\
  -s<=I/\I < -c/\c.TypeIs (.ref I) "set_iterator"/\(∀b∈f,b=S∨-s<=b)/\(∀A:bU,A.handled=θ->WalksS p w A I f [I] (λa b=>b=a) d.length P St)/\St 0 c/\
  (∀i v,P i v->∃x t,d[i]?=δ x/\v= .str x t)/\d.Perm L
section
#print v
def ZI{S:ζ}(V:dF prog w s.heap S L){Q:η->ι->Prop}(h:∀f I,Fo prog w s f S I L->Q (.ref I) f):π (χ prog w) A (pyIter$ .ref S) Q E s:=by
 let(o,a,x,t,H,W,m,n,M,X,r,u,Y,N):=V;let P:s.TypeIs (.ref S) "set":=#[o,H,W.1];let v:S < -s:=Rz H;erw[V5 P Wv$ Si Wv P Ko ?_$ PySem.F.args_set_iter_1 _];unfold dO.«frozenset.__iter__»;show π _ _ (Builtin.Frozenset.sizeOf S >>= _) _ _ s;unfold Builtin.Frozenset.sizeOf;erw[Rp$ Rp$ Uv H m u$ Rt ?_];unfold setDrawn;erw[Rp$ Rp$ Tw H m u ?_];dsimp only;unfold setsByText;erw[Rp$ Rp$ Ur$ Rt$ Rt ?_];split
 .rename_i z
  let B:(!(w.params.followText "set-order")&&(!t.plain&&decide (a.size > 1)))=μ:=z;simp only[SY,decide_eq_true_eq]at B;erw[Rp$ YZ a.size (dr a.size) s PJ λy d G=>?_];let C:ο y=a.size:=by rw[G.length_eq,UA]
  let O:((y.map λ(i:Nat)=>rawInt i).length)<=υ:=by rw[Rs,C];rwa[Vo r]
  erw[Rp$ UM (s:={ s with drawn:=d }) ?_ O];erw[Rp ?_];unfold setEpoch;erw[Rp$ Tw (Rr _ H) m u$ Rt ?_];erw[Rp$ So$ Rt #[12,"set_iterator",_,#[_,Ry _ Z,Z],kB.lookup,h _ _ ?_]];generalize J:s.heap.push { cls:=.type "tuple",data:=.seq (y.map λ(i:Nat)=>rawInt i).toArray }=g;let R:g.objs.size=-s+1:=by rw[<- J,SA]
  let gP:g.get? (-s)=δ { cls:=.type "tuple",data:=.seq (y.map λ(i:Nat)=>rawInt i).toArray }:=by rw[<- J];rwa[Ry _ Z]
  let gS:g.get? S=δ o:=by rw[<- J];rwa[Rr _ H]
  refine#[[g.objs.size,S,-s],(y.map λp=>(a[p]?).getD (0,.none)).map λe=>nX e.2,pw$ y.map λp=>(a[p]?).getD (0,.none),
   (λi f=>c7 f.heap g.objs.size (.ref (-s)) i S a.size x/\f.heap.get? S=δ o/\f.heap.get? (-s)=δ { cls:=.type "tuple",data:=.seq (y.map λ(i:Nat)=>rawInt i).toArray }),λb o e=>?_,22,Rv _,?_,?_,#[_,Ry _ Z,Z],λb r=>?_,
   λT D=>?_,#[#[_,Ry _ Z,22],Rr _ gS,Rr _ gP],?_,?_]
  .rwa[Rr _ (by rw[<- J];rwa[Rr _ e])]
  .show -s<=g.objs.size;omega
  .show g.objs.size < (g.push _).objs.size;rw[SA];rwa[Ti _]
  .simp only[TC,R6,U7]at r;rcases r with e |e |e
   .subst e;rwa[.inr PL]
   .rwa[.inl e]
   .rw[e];rwa[.inr (Rv _)]
  .let q:=ZF (prog:=prog) (w:=w) D g.objs.size S (-s) (RJ (by rw[R];rwa[TZ v])) (RJ (by rw[R];rwa[Ti _])) m u (oP:={ cls:=.type "tuple",data:=.seq (y.map λ(i:Nat)=>rawInt i).toArray }) (c:=0) Z G;simpa [C] using q
  .erw[qw (prog:=prog) (w:=w)$ n.perm ?_];let q:=G.map λp=>(a[p]?).getD ((0:Int),β);rw[JE]at q;assumption
  .let q:=G.map λp=>(a[p]?).getD ((0:Int),β);rw[JE]at q;exact(q.map _).trans M
 .rename_i z
  let B:¬(!(w.params.followText "set-order")&&(!t.plain&&decide (a.size > 1)))=μ:=z;erw[Rp$ Rt ?_];erw[Rp ?_];unfold setEpoch;erw[Rp$ Tw H m u$ Rt ?_];erw[Rp$ So$ Rt #[12,"set_iterator",_,#[_,Ry _ Z,Z],kB.lookup,h _ _ ?_]];let k:∀b∈[-s,S],b=S∨-s<=b:=λb r=>by
   simp only[TC,R6,U7]at r;rcases r with e |e
   .subst e;rwa[.inr (Rv _)]
   .rwa[.inl e]
  let l:∀U:gs,-s < (s.heap.push U).objs.size:=λU=>by rw[SA];rwa[Ti _]
  cases K:w.params.followText "set-order" with
  |true=>
   let pl:(pickOrder (w.params.setOrder S x) a).toList.length=a.size:=by rw[(kM _ _).length_eq,RX]
   refine#[[-s,S],(pickOrder (w.params.setOrder S x) a).toList.map λe=>nX e.2,pw (pickOrder (w.params.setOrder S x) a).toList,
    (λi f=>c7 f.heap (-s) (.int (0:Nat) 0) i S a.size x/\f.heap.get? S=δ o),λb o e=>Rr _ e,22,Rv _,Rv _,l _,#[_,Ry _ Z,Z],k,
    λT D=>?_,#[#[_,Ry _ Z,22],Rr _ H],?_,?_]
   .let q:=vX (prog:=prog) (w:=w) D K (-s) S (RJ v) m u;rw[Rs,pl];rwa[q]
   .rwa[qw (prog:=prog) (w:=w)$ n.perm$ kM _ _]
   .exact((kM _ _).map _).trans M
  |false=>
   let hs:a.size<=1:=by
    rw[K]at B;rcases N with e |e
    .rw[e]at B;simp at B;rwa[B]
    .omega
   refine#[[-s,S],a.toList.map λe=>nX e.2,pw a.toList,
    (λi f=>(∃j:Nat,c7 f.heap (-s) (.int j 0) i S a.size x/\(i=0->j=0)/\(i=1->∃p,t.place=(ε [p])/\j=p+1))/\f.heap.get? S=δ o),λb o e=>Rr _ e,22,Rv _,Rv _,l _,#[_,Ry _ Z,Z],k,
    λT D=>?_,#[#[0,#[_,Ry _ Z,22],λ_=>Z,λz=>by cases z],Rr _ H],?_,?_]
   .let q:=Bi (prog:=prog) (w:=w) D K (-s) S (RJ v) m u (by rw[Y,K];rfl) hs;rw[Rs,RX];rwa[q]
   .rwa[qw (prog:=prog) (w:=w) n]
   .rwa[M]
theorem q8:∀(V:xL η) (S:xL ρ),ο V=ο S->(∀(i:Nat) (v:η),V[i]?=δ v->∃x t,S[i]?=δ x/\v=lu x t)->StrsAre V S
 | [],[],_,_=>.nil
 | [],_::_,h,_ |_::_,[],h,_=>by cases h
 |v::V,y::S,h,k=>by let(x,t,e,rfl):=k 0 v Z;cases e;rwa[.cons y t$ q8 V S (h:) λi u H=>k (i+1) u (H:)]
def QQ{S:ζ}(hh:A.handled=θ)(y:dF prog w s.heap S L){Q:xL η->ι->Prop}
  (h:∀a V g,-s<=-a->(∀b o,s.heap.get? b=δ o->a.heap.get? b=δ o)->a.gens=s.gens->a.os=s.os->s.toks<=a.toks->StrsAre V g->g.Perm L->Q V a):π (χ prog w) A (collect$ .ref S) Q E s:=by
 let n:ο L < scanBound:=by let(o,es,ep,t,j,M,hd,h0,u,h1,k,hf,hl,h2):=y;rw[<- u.length_eq,Rs,RX];rwa[k]
 unfold collect;erw[Rp$ WS$ Tg VU ?_];rw[SJ VT];show π _ A.in1 (newList [] >>= λl=>again (.builtin "list.__iadd__" #[[l,.ref S],[]])) _ _ s;erw[Rp$ So$ Rt #[T4 Uo _,Tg Wc ?_]];rw[SJ Uo];show π _ A.in1 (hJ (.ref (-s)) (.ref S)$ .ref (-s)) _ _ _;unfold hJ;let p:S < -s:=by let(o,_,_,_,j,_):=y;rwa[Rz j]
 generalize x:s.heap.push { cls:=.type "list",data:=.seq ([]:xL η).toArray }=H;let gl:H.get? (-s)=δ { cls:=.type "list",data:=.seq ([]:xL η).toArray }:=by rw[<- x];rwa[Ry _ Z]
 let R:dF prog w H S L:=y.at λo e=>by rw[<- x];rwa[Rr _ e]
 let gk:∀b o,s.heap.get? b=δ o->H.get? b=δ o:=λb o e=>by rw[<- x];rwa[Rr _ e]
 let T:Shared.TypeIs {H} (.ref S) "set":=by let(o,_,_,_,j,M,_):=R;exact#[o,j,M.1]
 erw[Rp$ TK T ?_];let n1:eT (.ref (-s)) (.ref S)=ν:=by simp only[eT,beq_eq_false_iff_ne];rwa[SH p]
 let n2:(fr "set"==fr "list")=ν:=PM
 let n3:(fr "set"==fr "tuple")=ν:=PM
 simp only[n1,n2,n3,WE,RO,Ta];erw[Rp$ ZI (s:={H}) R λr I B=>?_];let(fp,g,P,St,K,kg,ko,kt,C,h3,h4,D,W,st,hv,u):=B;let G:H.objs.size=-s+1:=by rw[<- x,SA]
 let f:r.TypeIs (.ref S) "set":=by let(o,j,hc):=T;exact#[o,K _ _ j,hc]
 erw[Rp$ RY ?_];unfold ls;erw[Rp$ Tz f PySem.F.slot_set_len.lookup ?_]
 wp_delta
 erw[Rp$ T6 (b:=μ) f sub_set_self ?_];show π _ A.in1 (typeOf (Θ S) >>= _) _ _ _;erw[Rp$ TK f$ Rt ?_];rw[RB PM];erw[Rp$ TR ?_];let U:=K _ _ gl;erw[Rp ?_];show π _ A.in1 (updateSeq (-s) (·.push .none) >>= λ_=>updateSeq (-s) (·.pop)) _ _ _;erw[Rp$ VD U Z ?_];let X:=Sl (ab (·.push β)) U Z;erw[VD X Z ?_];let g3:=Sl (ab (·.pop)) X Z;let N:¬-s∈fp:=λm=>by
  rcases D _ m with e |e
  .rwa[absurd p (by rw[<- e];rwa[SI _])]
  .let e':H.objs.size<=-s:=e;omega
 let O:∀b o,b≠-s->r.heap.get? b=δ o->((r.heap.update (-s)$ ab (·.push β)).update (-s)$ ab (·.pop)).get? b=δ o:=
  λb o k e=>(RV _ _$ Sc k).trans ((RV _ _$ Sc k).trans e)
 let Y:=W A.in1 (hh:);let hn:ο g<=υ:=by rw[u.length_eq];rwa[Vo n]
 erw[Rt #[T4 VZ _,codeAny_extend_loopS Y hn _ N _ g.length 0 _ _ _ Z (RE _) (Y.frame 0 r _ r.toks st (Rv _) λb k o e=>O b o (λz=>N (z▸k)) e) g3 (ItemsOf.nil P) λa J c m gS d=>?_]];show π _ A (load (-s) >>= _) _ _ a;erw[Rp$ wpAny_load gS$ Rt$ h a J.toList g (T3$ Rz gS) (λb o e=>?_) ?_ ?_ ?_ ?_ u]
 .let ne:b≠-s:=RJ (Rz e);erw[m.heap b o ?_$ O b o ne$ K b o$ gk b o e];simp only[TC,R6,U7,not_or];erw[#[ne,λz=>?_]];let q:-s+1<=I:=G▸C;let q2:=Rz e;rw[z]at q2;rwa[absurd (RQ (TZ q2) q)$ SI _]
 .rwa[m.gens.trans kg]
 .rwa[m.os.trans ko]
 .rwa[RM kt m.toks]
 .erw[q8 _ _ (by rw[RX,d.1]) λi v e=>hv i v (d.2 i v (by rw[Tk]at e;assumption))]
end
section
#print v
def X5{S:ζ}(z:A.handled=θ)(B:dF prog w s.heap S L)(j:ο L < 64){Q:η->ι->Prop}
  (h:∀f a c v i,-s<=a->(∀b o,s.heap.get? b=δ o->f.heap.get? b=δ o)->f.gens=s.gens->f.os=s.os->f.heap.get? a=δ (seqObj "list" v c)->StrsAre v.toList i->i.Perm L->sortedS i=μ->Q (.ref a) f):
  π (χ prog w) A (call (.builtin "sorted") [.ref S]) Q E s:=by
 erw[Uj Ws V6 V7 (V8 _) ?_];unfold dO.«sorted»;erw[Rp (m:=checkCount "sorted" 1 1 _)$ Rt ?_];erw[Rp$ QQ (z:) B λd v i K k C D P H r=>?_];let F:ο v < 64:=by rw[<- _L.StrsAre.len H,r.length_eq];rwa[j]
 erw[Rp$ Ux ?_ (by let q:υ=1000000000∨64<=υ:=.inr PM;omega)];let g:=Ry d.heap (o:=seqObj "list" v.toArray 0) Z;erw[Rp$ RY$ Si VM #[_,g,Z] VF (list_sort_treeK strKind_oneLt g H.keysOf (λV t R e=>keyKind_strs (by rw[<- e];rwa[H])) F λl G I=>#[12,?_]) (VP _)];let(n,u,J,M):=sorted_out_str H G I;generalize (arrOf l).map (·.2)=out at u ⊢;let(c,N):=sortedHeap_at (out:=out) g;let O:∀b o,s.heap.get? b=δ o->(sortedHeap (d.heap.push$ seqObj "list" v.toArray 0) (-d) v out).get? b=δ o:=by
  intro b o e;let x:=k b o e;let y:b < -d:=Rz x;let p:b < (d.heap.push$ seqObj "list" v.toArray 0).objs.size:=by rw[WX];rwa[TZ y]
  rw[sortedHeap_old (RJ y) p];rwa[Rr _ x]
 rwa[Rt #[12,h { d with heap:=sortedHeap (d.heap.push$ seqObj "list" v.toArray 0) (-d) v out } (-d) c out n K O C D N u (J.trans r) M]]
end
def JM(h:StrsAre v s):aF (s.map vr) v:=by
 induction h with
 |nil=>rwa[.nil]
 |cons y t _ i=>rwa[.cons #[t,Z] i]
def NB(P:ω)(w:bF)(a:ζ)(L:xL ρ):HO:=.ext λh=>dF P w h a L
section
variable {X:Cx}
def qx(i:X.calm=μ):dS X (.builtin "sorted") (λx H Q=>∃(p:ζ) (L:xL ρ),x=[.ref p]/\H p=δ (NB X.prog X.w p L)/\ο L < 64/\
  ∀l S,H l=θ->S.Perm L->L.Nodup->sortedS S=μ->Q (.ref l) (af H l$ .lst$ S.map vr)):=by
 intro P s B H x U Q I r h;let(p,L,rfl,j,d,q):=h;let(u,rfl,R):=fo r;cases R;let(f,_,_):=I.hok p _ j;let b:L.Nodup:=by let(_,_,_,_,_,_,_,_,_,b,_):=f;rwa[b]
 erw[X5 (I.ok.hd i) f d λm a c v S e k K o t y g A=>?_];let len:(S.map vr).length<=υ:=by rw[Rs,g.length_eq];rwa[RM (T3 d) PM]
 let n:aU X.prog X.w (af H a$ .lst$ S.map vr) m.heap a (.lst$ S.map vr):=#[len,v.toList,c,JM y,t];erw[#[.ref a,_,I.call' (ch:=[]) o (Un.laid k e$ I.hok.fresh e) (I.hok.laid k e n) (by rw[K];rwa[I.bare]) (λ_ z=>nomatch z),Z,q _ _ (I.hok.fresh e) g b A]]
def X6:dS X (.builtin "sorted") (λx H Q=>∃(p:ζ) (a:xL ρ),x=[.ref p]/\aJ X.K H p (a.map vr)/\ο a < 64/\
  ∀l S,H l=θ->S.Perm a->sortedS S=μ->Q (.ref l) (af H l$ .lst$ S.map vr)):=by
 intro P s v H x U Q I r h;let(p,a,rfl,f,b,q):=h;let(u,rfl,R):=fo r;cases R;let(i,g,j,y):=I.list f;let d:=qu g;let k:ο i=ο a:=(_L.StrsAre.len d).symm;erw[sorted_strs j.isList d (by rw[k];rwa[b]) λo S m A n=>?_];let(c,t):=sortedAll_at s.heap i o;let len:(S.map vr).length<=υ:=by rw[Rs,A.length_eq];rwa[RM (T3 b) PM]
 erw[#[.ref$ -s+1,_,I.laid (t':=s.toks) (λ_ _ e=>sortedAll_old e) (Tb _) (show aU X.prog X.w _ _ _ (.lst$ S.map vr) from #[len,o.toList,c,JM m,t]),Z,q _ _ (I.hok.fresh$ Tb _) A n]]
end
def rW:mroOf (.type "reversed")=pure [.type "reversed",.type "object"]:=by rw[mroOf_type];kernel_rfl
def QC:typeLookup (.type "reversed") "__new__"=pure (δ$ .builtin "reversed.__new__"):=by rw[Tf,Sx];kernel_rfl
def QR:Slot "reversed" "__init__" "object.__init__":=by
 erw[.of (owner:="object") (n:="__init__") ?_ PH PH PH ?_ ?_]
 .rw[Tf,Sx];kernel_rfl
 .first |exact .inl PH |exact .inr PH
 .rw[Tv];kernel_rfl
def ZJ:TypeCalled "reversed" "reversed.__new__" "object.__init__":=by erw[#[PH,PH,#[11,rW],madeBy_type rW QC PH,PH,?_,QR]];rw[Tv];kernel_rfl
def X7(a:η):checkTypeCall "reversed" #[[a],[]]=pure ():=by kernel_rfl
def Y3(a:η):checkBuiltinCall "reversed.__new__" #[[.type "reversed",a],[]]=pure ():=by kernel_rfl
def QS:entryFor table "reversed.__new__"=δ dO.«reversed.__new__»:=Vy (by kernel_rfl)
def DX:isSubtype (.type "reversed") (.type "reversed")=pure μ:=by rw[Tv];kernel_rfl
def X8:typeLookup (.type "tuple") "__reversed__"=pure θ:=by rw[Tf,Sx];kernel_rfl
def QD:isSubtype (.type "tuple") (.type "dict")=pure ν:=by rw[Tv];kernel_rfl
noncomputable def revObj(t:ζ)(n:Int):gs:={ cls:=.type "reversed",data:=.fields (ε [.ref t,.int (n - 1) 0]) }
section
#print v
def wH{Q:η->ι->Prop}(H:IsTup s.heap t i)(c:(i.size:Int) < 2 ^ 63)
  (h:Q (.ref (-s)) { s with heap:=s.heap.push (revObj t i.size),toks:=s.toks+1+1 }):π (χ prog w) A (call (.type "reversed") [.ref t]) Q E s:=by
 refine callType_new (S:=λ_ R a=>a=s/\R (.ok$ .ret$ .ref (-s)) { s with heap:=s.heap.push (revObj t i.size),toks:=s.toks+1+1 }) ZJ PM (X7 _) (Y3 _) (λo=>UT o _) QS
  (.of_wp λp W f R a d=>?_) #[Z,#[_,Ry _ Z,Z],h]
 let(rfl,e):=d;unfold dO.«reversed.__new__» Builtin.SmallTypes.newClass;erw[Rp ?_];dsimp only;erw[Rp$ Rt ?_];simp only[UP,RO,Ta];erw[Rp$ Vm DX ?_];simp only[UP,RO,Ta];erw[Rt ?_];erw[Rp (m:=Builtin.SmallTypes.refuseKeywords _ _ _)$ Rt ?_];erw[Rp (m:=checkCount "reversed" 1 1 _)$ Rt ?_];dsimp only;erw[Rp$ Tz H.typeIs X8 ?_];dsimp only;erw[Rp ?_];show π _ _ (isInstance (.ref t) (.type "dict") >>= _) _ _ _;erw[Rp$ T6 (b:=ν) H.typeIs QD ?_];simp only[RO,Ta];erw[Rp$ Tz H.typeIs PyProof.Rows.slot_tuple_getitem.lookup ?_];dsimp only;rw[RB PH];erw[Rt ?_];simp only[UP,RO,Ta];erw[Rp$ len_tuple H c ?_];erw[Rp (m:=asInt? _)$ Rt ?_];dsimp only;show π _ _ (newObj (.type "reversed") (.fields [Θ t,rawInt ((i.size:Int) - 1)].toArray) >>= _) _ _ _;rwa[Rp$ So$ Rt #[12,e]]
end
def qd:Slot "reversed" "__next__" "reversed.__next__":=by
 erw[.of (owner:="reversed") (n:="__next__") ?_ PH PH PH ?_ ?_]
 .rw[Tf,Sx];kernel_rfl
 .first |exact .inl PH |exact .inr PH
 .rw[Tv];kernel_rfl
def q9:Slot "reversed" "__iter__" "reversed.__iter__":=by
 erw[.of (owner:="reversed") (n:="__iter__") ?_ PH PH PH ?_ ?_]
 .rw[Tf,Sx];kernel_rfl
 .first |exact .inl PH |exact .inr PH
 .rw[Tv];kernel_rfl
def QE:entryFor table "reversed.__next__"=δ dO.«reversed.__next__»:=Vy (by kernel_rfl)
def QF:entryFor table "reversed.__iter__"=δ dO.«dict_keyiterator.__iter__»:=by erw[VO (id':="dict_keyiterator.__iter__") ?_ Z PH ?_]<;>kernel_rfl
def QT(a:η):argsOk "reversed.__next__" #[[a],[]]:=by unfold argsOk;kernel_rfl
def QU(a:η):argsOk "reversed.__iter__" #[[a],[]]:=by unfold argsOk;kernel_rfl
def eV(h:de)(I t:ζ)(k:Int):Prop:=∃o,h.get? I=δ o/\o.cls= .type "reversed"/\o.data= .fields (ε [.ref t,.int k 0])
def eV.at{H:de}(x:eV h I t k)(e:∀o,h.get? I=δ o->H.get? I=δ o):eV H I t k:=by let(o,a,r):=x;rwa[#[o,e o a,r]]
def eV.is{s:ι}(x:eV s.heap I t k):s.TypeIs (.ref I) "reversed":=by let(o,h,H,_):=x;rwa[#[o,h,H]]
section
#print v
def Yr(H:eV s.heap I t k)
  (h:π (χ prog w) A.in1 (dO.«reversed.__next__» #[[.ref I],[]]) (λf S=>∃v,f= .done (.ret v)/\Q (δ v) S) (λe S=>S.TypeIs e "StopIteration"/\Q θ S) s):
  π (χ prog w) A (pyNext$ .ref I) Q E s:=by
 unfold pyNext;erw[Rp$ Uy$ Sm (name:=Str.ofString "__next__") H.is qd$ Si qd H.is QE ?_$ QT _];erw[SN h (λf S q=>?_) λe S q=>?_]
 .let(v,e,q):=q;exact#[v,e,Rt q]
 .rwa[Rp$ T6 (T:="StopIteration") (b:=μ) q.1 VN$ Rt q.2]
def Mq{I t:ζ}{k:Nat}{items:Array η}{x:η}{Q:ym η->ι->Prop}(H:eV s.heap I t k)(c:IsTup s.heap t items)(d:items[k]?=δ x)(e:(items.size:Int) < 2 ^ 63)
  (f:∀b,eV b I t ((k:Int) - 1)->fx I s.heap b->Q (δ x) { s with heap:=b,toks:=s.toks+1 }):π (χ prog w) A (pyNext$ .ref I) Q E s:=by
 erw[Yr H ?_];let(o,a,g,h):=H;let i:k < items.size:=(bm.mp d).1;show π _ _ (field (.ref I) 0 >>= _) _ _ s;erw[Rp$ R4 a h (x:=.ref t) Z$ Rp$ R4 a h (x:=.int k 0) Z ?_];dsimp only;rw[RD PL];erw[Rp$ Tz c.typeIs PyProof.Rows.slot_tuple_getitem.lookup ?_];simp only[Option.isNone_some,RO,Ta];erw[Rp$ wpAny_mkInt$ Rp$ Uy ?_];erw[getItem_tuple (s:={ s with toks:=s.toks+1 }) c PL PL (j:=k) ?_ d ?_]
 .unfold seqIndex?;simp;omega
 erw[Rp$ R4 (s:={ s with toks:=s.toks+1 }) a h (x:=.int k 0) Z ?_];dsimp only;erw[Rp$ SG a h PJ$ Rt #[x,Z,f _ ?_$ Tt ..]];exact#[_,Sl _ a$ SW$ Sf h _,(UE ..).trans g,by rw[Sf h];simp [rawInt]]
def uX(f:A.handled=θ){Q:ym η->ι->Prop}(h:eV s.heap I t (-1))
  (g:∀a,(∀b o,b≠I->s.heap.get? b=δ o->a.get? b=δ o)->Q θ {a}):π (χ prog w) A (pyNext$ .ref I) Q E s:=by
 erw[Yr h ?_];let(o,c,j,H):=h;show π _ _ (field (.ref I) 0 >>= _) _ _ s;erw[Rp$ R4 c H (x:=.ref t) Z$ Rp$ R4 c H (x:=.int (-1) 0) Z ?_];dsimp only;rw[RB PM];erw[Rp$ TR$ Rp ?_];show π _ _ (setField (.ref I) 1 (rawInt (-1)) >>= λ_=>setField (.ref I) 0 .none) _ _ _;erw[Rp$ SG c H PJ ?_];erw[SG (Sl _ c$ SW$ Sf H _) (Sf H _) PJ ?_];erw[Rp ?_];erw[Kv (s:={_}) (f:) λa e k T=>#[T,g a λb o d i=>k b o ?_]];exact(RV _ _$ Sc d).trans ((RV _ _$ Sc d).trans i)
def EE(H:eV s.heap I t k){Q:η->ι->Prop}(h:Q (.ref I) s):π (χ prog w) A (pyIter$ .ref I) Q E s:=by erw[V5 H.is q9$ Si q9 H.is QF ?_$ QU _];show π _ _ (ret$ .ref I) _ _ s;rwa[Rt #[12,"reversed",_,H.is,qd.lookup,h]]
end
def Kk:entryFor table "dict.update.loop"=δ dO.«dict.update.loop»:=Vy (by kernel_rfl)
def zX:plainId "dict.update.loop"=μ:=PH
section
variable {X:Cx}{o lo hi:dw}{to tl th:TE}{pos p2:Pos}
inductive Me(v:V)(h:St)(Q:St->Hp->Prop)(e a c:V)(d:Hp):Prop
 |mk(l b f g i j:_)(_:e= .ref l)(_:v= .ref b)(_:a= .int i)(_:c= .int j)(_:d l=δ (.lst f))(_:d b=δ (.lst g))(_:l≠b)(_:0<=i)(_:i<=j)(_:j<=(f.length:Int))(_:ο f+ο g<=υ)(_:Q h (af d l (.lst (f.take i.toNat++g++f.drop j.toNat))))
def Pe(to tl th:TE):TG:=λv b H Q=>to b H λO h=>tl b h λa c=>th b c (Me v b Q O a)
def yK(n:PE X o to)(t:PE X lo tl)(w:PE X hi th)
  (A:autoParam (∀v,assign (.Subscript o (.Slice (δ lo) (δ hi) θ p2) pos) X.env v=(do
   let O <- mB [v] (eval o X.env)
   let c <- mB [v,O] (eval (.Slice (δ lo) (δ hi) θ p2) X.env)
   standAt pos
   mB [v,O,c] (setItem O c v)
   release [c,v,O] [])) Cv._auto_1):PG X (.Subscript o (.Slice (δ lo) (δ hi) θ p2) pos) (Pe to tl th):=by
 intro p s a H v u Q I r h;rw[A];erw[Rp$ RY$ a8 (n p s a H _ I h) λO B d=>?_];let(x,C,D,R,E):=d;erw[Rp$ RY ?_];erw[wpAny_Slice$ a8 (t p B a C _ D E) λV F #[y,G,J,K,L]=>a8 (w p F a G _ J L) λm S f=>?_];let(z,M,N,P,l,b,xs,ys,i,j,T,U,W,Y,h1,h2,g,h0,k,hj,hz,q):=f;subst T U W Y;cases (show O=Θ l from R);cases (show u=Θ b from r);erw[Rt ?_];let I4:ay X p a M { S with heap:=S.heap.push { cls:=.type "slice",data:=.fields (ε [V,m,.none]) } }:=N.kept (t':=S.toks) λb o e=>Rr _ e;erw[Rp$ Uh$ Rp$ RY ?_];rwa[vS I4 h1 h2 g (V3 S.heap V m .none) K P h0 k hj hz λs5 I5=>wpAny_release #[a,_,I5,q]]
end
end _L
namespace _L
open PySem PySem.Spec PyProof.Rows Builtin Builtin.Str
section
#print v
def JP{lo:ym Int}{Q:η->ι->Prop}(H:IsTup s.heap t i)(d:s.heap.IsSliceOf e v j .none)(p:IsPart v lo)(P:IsPart j f)
  (g:HT.sIx i.size 0 lo=0/\HT.sIx i.size i.size f=i.size) (h:Q (.ref t) s):π (χ prog w) A (getItem (.ref t)$ .ref e) Q E s:=by
 let(os,a,b,k):=id d;let c:s.TypeIs (.ref e) "slice":=#[os,a,b];unfold getItem;try with_reducible erw[RY ?_]
 first |refine Rp (Rt ?_) |skip
 erw[Rp$ V4 H.typeIs PM ?_];refine Rp (Sm (name:=Str.ofString "__getitem__") H.typeIs TM
  (Si TM H.typeIs PyProof.Rows.entry_tuple_getitem ?_$ PyProof.Rows.args_tuple_getitem _ _))
 show π _ _ (rb (.ref t) >>= _) _ _ s;erw[Rp$ PyProof.Rows.tupleItemsOf_ H ?_];erw[Rp$ TK c ?_];rw[RB PM];erw[Rp$ HT.sliceApplied_gen d p P ?_];show π _ _ (if (((HT.sIx i.size 0 lo:Nat):Int)==0&&(1:Int)==1&&(HT.sIx i.size i.size f - HT.sIx i.size 0 lo)==i.size)=μ then _ else _) _ _ s;rw[g.1,g.2,RB PJ];unfold Builtin.Tuple.tupleIsExact;erw[Rp$ Rp$ TK H.typeIs$ Rt ?_];rw[RB PM];first
  |exact TR (Rt #[12,Rt h])
  |exact Rp (TR (Rt #[12,Rt h]))
  |exact Rp (Rt (Rt #[12,Rt h]))
end
section
variable {X:Cx}
inductive yR(x y:V)(H:Hp)(Q:VK):Prop
 |mk(a b c d:_)(_:x= .ref a)(_:y= .ref b)(_:H a=δ (.tup c))(_:H b=δ (.tup d))(_:ο c+ο d<=υ)(_:∀r H',H' r=δ (.tup (c++d))->aa H H'->Q (.ref r) H')
def jW:gf X (binaryOp .Add) yR:=by
 intro P s G H x y v u Q I r R h;let(a,b,m,Y,rfl,rfl,d,f,J,q):=h;let t:=aC.of (K:=X.K) d;let w:=aC.of (K:=X.K) f;by_cases z:m=[]
 .subst z;cases r;cases R;let(l,L,M,_):=I.tuple t;let(i,r2,N,_):=I.tuple w;let O:l=[]:=L.nil_iff.mpr Z;subst O;obtain⟨⟨T,U,A,V⟩,B,C,n,E⟩:=id M;obtain⟨⟨F,D,data2,S⟩,g,j,W,k⟩:=id N;simp only at C E j k;subst C E j k;exact concat_meets #[_,B,Z] #[_,g,Z] Wk seq_tuple_add Va U5 (U3 _ _)
   (tuple_addW0 a b ([]:xL η).toArray i.toArray n W U D V S Z) #[B,g,.ref b,H,I,Z,q b H f$ aa.refl H]
 .refine C6 P s G H _ _ v u Q I r R #[a,b,m,Y,22,t,w,z,J,λe=>?_,λ_ p np=>?_]
  .subst e;rwa[q a H (by rw[Sb];rwa[d])$ aa.refl H]
  .exact q p _ jc λc o e=>by rw[ji$ jk e np];rwa[e]
inductive HV(x:V)(c b:ym Int)(H:Hp)(Q:VK):Prop
 |mk(a d:_)(_:x= .ref a)(_:H a=δ (.tup d))(_:∀r H',H' r=δ (.tup (aQ d c b))->aa H H'->Q (.ref r) H')
def ke:NA X HV:=by
 intro P s u H x v V w lo j S Q I R k l m h;let(a,b,rfl,d,q):=h;let n:=aC.of (K:=X.K) d;by_cases g:HT.sIx b.length 0 lo=0/\HT.sIx b.length b.length j=ο b
 .cases R;let(i,r,t,y):=I.tuple n;let f:i.toArray.size=ο b:=by rw[Rx];exact r.length.symm
  erw[#["tuple",_,PyProof.Rows.slot_tuple_getitem.lookup,t.typeIs,?_]];erw[JP t k l m (by rw[f];rwa[g]) #[.ref a,H,I,Z,q a H ?_$ aa.refl H]];rw[d];unfold aQ;rw[g.1,g.2,Wg,UZ,Su]
 .rwa[IB P s u H _ v V w lo j S Q I R k l m #[a,b,Z,n,g,λp N=>q p _ jc λc o e=>by rw[ji$ jk e N];rwa[e]]]
end
end _L
namespace _L
open PySem PySem.Spec PyProof.Rows
def Ej{G:Bool->Hp->Prop}(y:G μ H)(n:b=ν->G b H):G b H:=by
 cases b
 .rwa[n Z]
 .rwa[y]
def aX{A:Prop}(h:∀G:Prop,(A->G)->G):A:=h A λz=>z
section
variable {t u:TS}{D:bp}{σ:St}{H:Hp}
def hZ(h:∀E:bp,(∀a b,u D a b->E.nx a b)->t E σ H):cw t u D σ H:=h { D with nx:=u D } λ_ _ h=>h
def ah(h:∀F:St->Hp->Prop,(∀a b,u D a b->F a b)->t { D with nx:=F } σ H):cw t u D σ H:=h _ λ_ _ h=>h
def pI{c:TT}(h:∀F:Bool->Hp->Prop,(∀b a,(if b=μ then t D σ a else u D σ a)->F b a)->c σ H F):lh c t u D σ H:=h _ λ_ _ x=>x
def ms{c:TT}(h:∀F:Bool->Hp->Prop,(∀a,t D σ a->F μ a)->(∀a,u D σ a->F ν a)->c σ H F):lh c t u D σ H:=by
 erw[h _ (λa x=>?_) λa x=>?_]
 .show if μ=μ then _ else _;rw[RB Z];rwa[x]
 .show if ν=μ then _ else _;rw[RD PM];rwa[x]
def eI(R:St->Hp->Prop)(c:∀E:bp,E.rt=D.rt->(∀a b,R a b->E.nx a b)->t E σ H)(d:∀a b,R a b->D.nx a b):Nj t D σ H:=#[R,c { D with nx:=R } Z λ_ _ h=>h,d]
def p7{c:TT}{T:TS}(W:Nat->St->Hp->Prop)(d:Nat)(e:W d σ H)
  (f:∀m σ H,∀E:bp,E.rt=D.rt->(∀M a b,M < m->W M a b->E.nx a b)->∀F:Bool->Hp->Prop,(∀b,T E σ b->F μ b)->(∀b,D.nx σ b->F ν b)->∀G:Prop,(c σ H F->G)->W m σ H->G):A4 c T D σ H:=by
 erw[#[W,#[d,e],λm σ H w=>?_]];erw[f m σ H { D with nx:=λa b=>∃M,M < m/\W M a b,ct:=λa b=>∃M,M < m/\W M a b,bk:=D.nx } Z (λM a b l g=>#[M,l,g]) _ (λb x=>?_) (λb x=>?_) _ (λz=>z) w]
 .show if μ=μ then _ else _;rw[RB Z];exact#[_,λ_ _ h=>h,x]
 .show if ν=μ then _ else _;rw[RD PM];rwa[x]
def uh(J:It)(g:TG)(T:TS)(D:bp)(σ:St)(H:Hp):Prop:=∃W:Nat->Nat->St->Hp->Prop,(∃m,W 0 m σ H)/\∀i m σ H,W i m σ H->
 (J.stop i H/\D.nx σ H)∨(J.go i H/\∃N:St->Hp->Prop,(∀a h,N a h->∃M,M < m/\W (i+1) M a h)/\∀x h,J.yld i H x h->g x σ h λb c=>T { D with nx:=N,ct:=N,bk:=D.nx } b c)
def eG{w:TI}(h:∀F:It->Hp->Prop,(∀J a,uh J g T D σ a->F J a)->w σ H F):IL w g T D σ H:=h _ λ_ _ z=>z
def Pq{g:TG}{Q:St->Hp->Prop}(h:∀F:St->Hp->Prop,(∀a b,Q a b->F a b)->g x σ H F):g x σ H Q:=h _ λ_ _ z=>z
def kn{lo:Int}{g:TG}{T:TS}{D:bp}{σ:St}{H:Hp}(Pv:Nat->St->Hp->Prop)(d:Pv 0 σ H)
  (e:∀E:bp,E.rt=D.rt->∀i σ H,i < n->(∀a c,Pv (i+1) a c->E.nx a c)->∀G:Prop,((g (.int$ lo+i) σ H λb f=>T E b f)->G)->Pv i σ H->G) (j:∀σ H,Pv n σ H->D.nx σ H):uh (wf lo n) g T D σ H:=
 Q7 Pv d (λi σ H k p=>e { D with nx:=Pv (i+1),ct:=Pv (i+1),bk:=D.nx } Z i σ H k (λ_ _ h=>h) _ (λz=>z) p) j
def qi{K:Ψ}{a:ζ}{xs:xL V}{g:TG}{T:TS}{D:bp}{σ:St}{H:Hp}(Pv:Nat->St->Hp->Prop)(e:Pv 0 σ H)(f:∀i σ H,i<=ο xs->Pv i σ H->aJ K H a xs)
  (j:∀E:bp,E.rt=D.rt->∀i x σ H,xs[i]?=δ x->(∀b d,Pv (i+1) b d->E.nx b d)->∀G:Prop,((g x σ H λc k=>T E c k)->G)->Pv i σ H->G) (l:∀σ H,Pv xs.length σ H->D.nx σ H):uh (Br K a) g T D σ H:=
 xo Pv e f (λi x σ H m p=>j { D with nx:=Pv (i+1),ct:=Pv (i+1),bk:=D.nx } Z i x σ H m (λ_ _ h=>h) _ (λz=>z) p) l
def Qa{K:Ψ}{xs:xL V}{g:TG}{T:TS}{D:bp}{σ:St}{H:Hp}(Pv:Nat->St->Hp->Prop)(e:Pv 0 σ H)(f:∀i σ H,i<=ο xs->Pv i σ H->aC K H a xs)
  (j:∀E:bp,E.rt=D.rt->∀i x σ H,xs[i]?=δ x->(∀b d,Pv (i+1) b d->E.nx b d)->∀G:Prop,((g x σ H λc k=>T E c k)->G)->Pv i σ H->G) (l:∀σ H,Pv xs.length σ H->D.nx σ H):uh (Bz K a) g T D σ H:=
 Cj Pv e f (λi x σ H m p=>j { D with nx:=Pv (i+1),ct:=Pv (i+1),bk:=D.nx } Z i x σ H m (λ_ _ h=>h) _ (λz=>z) p) l
end
end _L
namespace _L
open PySem PySem.Spec PyProof.Rows PySem.SeqAt
section
#print v
def ZK{P:Fin->ι->Prop}(H:s.heap.get? a=δ (seqObj "list" [v].toArray n))
  (h:P (.done$ .ret .none) {sortedHeap s.heap a [v] (ε [v])}):π (χ prog w) A (dO.«list.sort» #[[.ref a],[]]) P E s:=by
 rw[WF];erw[Rp$ listItems_at H Z ?_];erw[Rp$ UW H Z ?_];obtain⟨e,b⟩:∃e,(s.heap.update a$ ab λ_=>(ε [])).get? a=δ (seqObj "list" (ε []) e):=#[_,WG H (λ_=>(ε []))];erw[Rp$ Vn b Z ?_];erw[Rp$ UM ?_];erw[Rp$ Ux ?_];erw[RY ?_];let g:(((s.heap.update a$ ab λ_=>(ε [])).push$ seqObj "tuple" [v].toArray 0).push$ seqObj "list" (ε []) 0).get? a=δ (seqObj "list" (ε []) e):=Rr _ (Rr _ b);show π (χ prog w) A _ P E {((s.heap.update a$ ab λ_=>(ε [])).push$ seqObj "tuple" [v].toArray 0).push (seqObj "list" (ε []) 0)};dsimp only;let S:[v].toArray.size < 2:=by show 1 < 2;decide
 rw[RB S,RB S];erw[Rp$ Rt ?_];rw[StateT.run_pure];erw[Rp$ Rt ?_];dsimp only;erw[Rp$ Vn g Z ?_];let c:(arrOf$ SortSt.mk' general' ([v].toArray.zip [v].toArray) (ε []) 7 θ).map (·.2)=(ε [v]):=by show([v].toArray.zip [v].toArray).map (·.2)=(ε [v]);simp
 rw[c];erw[Rp$ UW g Z ?_ (hsz2:=by show 1<=υ+1;omega)];simp only[Th,RO,Ta];rwa[Rt h]
def DS{Q:η->ι->Prop}(H:s.heap.IsList l [v].toArray)
  (h:Q (.ref$ -s+1) {sortedAll s.heap [v] (ε [v])}):π (χ prog w) A (call (.builtin "sorted") [.ref l]) Q E s:=by
 erw[Uj Ws V6 V7 (V8 _) ?_];unfold dO.«sorted»;erw[Rp (m:=checkCount "sorted" 1 1 _)$ Rt ?_];erw[Rp$ collect_list H ?_];erw[Rp$ Ux ?_];let z:((s.heap.push$ seqObj "list" (ε []) 0).update (-s)$ ab (·++[v].toArray)).objs.size=-s+1:=by rw[VW,WX]
 let g:(((s.heap.push$ seqObj "list" (ε []) 0).update (-s)$ ab (·++[v].toArray)).push$ seqObj "list" [v].toArray 0).get? (-s+1)=δ (seqObj "list" [v].toArray 0):=by rw[<- z];rwa[Ry _ Z]
 show π _ _ _ _ _ {((s.heap.push$ seqObj "list" (ε []) 0).update (-s)$ ab (·++[v].toArray)).push (seqObj "list" [v].toArray 0)};rw[z];erw[Rp$ RY$ Si VM #[_,g,Z] VF (ZK g #[12,?_]) (VP _)];rwa[Rt #[12,h]]
end
inductive Tr where
 |lf (v:V) |tp (l:Tr) |nil |cons (h t:Tr)
noncomputable def Tr.dep:Tr->Nat
 | .lf _=>0
 | .tp l=>l.dep+1
 | .nil=>0
 | .cons h t=>max h.dep t.dep
noncomputable def Tr.isL:Tr->Bool
 | .nil | .cons _ _=>μ
 |_=>ν
def Pk:V->Bool
 | .byt _ | .flt _=>ν
 |_=>μ
end _L
namespace _L
open PySem PySem.Spec PyProof.Rows
def NR(K:Ψ)(a:ζ)(n:Nat):It:=
 #[λi H=>∃X x,aC K H a X/\ο X=n/\X.reverse[i]?=δ x,λi H x h=>h=H/\∀X,aC K H a X->X.reverse[i]?=δ x,λi H=>∃X,aC K H a X/\ο X=n/\i=n]
def Bc{P:ω}{K:Ψ}(a f:ζ)(n:Nat):pF P w K tg (NR K a n) [f] f (λi h=>eV h f a ((n:Int) - 1 - i)) where
 mem:=by simp
 obj:=λi h st b j=>by
  let e:b=f:=by simpa using j
  subst e;let(o,e,c,d):=st;exact#[o,e,λv z=>by rw[d]at z;cases z]
 keep:=λi h q st k=>st.at λo e=>k f PJ o e
 item:=by
  intro X y A B O i g s Q H E I t st C;subst y A B;let(l,x,D,T,m):=C;let(r,R,p,hz):=I.tuple D;let hl:=R.length;let U:=gu;let V:i < ο l:=by
   rcases Vr i l.length with z |z
   .rwa[z]
   .rw[Sw (z:)]at m;cases m
  let F:l[ο l - 1 - i]?=δ x:=by rw[UJ V]at m;rwa[m]
  let(u,W,Y):=R.get F;let(G,J,f2,L,M,N):=t f PJ;let e:((n:Int) - 1 - i)=((ο l - 1 - i:Nat):Int):=by rwa[N09]
  rw[e]at st;erw[Mq (items:=r.toArray) st (show IsTup s.heap a r.toArray from p) (x:=u) (W:) (by simp only[Rx];omega) λq S sb=>?_];let I1:ay X g Q H { s with heap:=q,toks:=s.toks+1 }:=I.turned (t':=s.toks+1) (λb o j e=>(sb.2 b j).trans e) G J L M N;let(o,e',c,d):=id S;erw[#[u,Z,Z3 (s:={ s with heap:=q,toks:=s.toks+1 }) e' c d PM #[x,H,I1,Y,#[Z,λys hy=>by rw[I.tuple_inj hy D];rwa[m]],?_,λb j=>(t b j).1]]];let e2:((n:Int) - 1 - ((i+1:Nat):Int))=((ο l - 1 - i:Nat):Int) - 1:=PL
  show eV q f a ((n:Int) - 1 - ((i+1:Nat):Int));rw[e2];rwa[S]
 done:=by
  intro X y A B O i g s Q H E I t st C;subst y A B;let(l,D,T,m):=C;let(G,J,f2,L,M,N):=t f PJ;let e:((n:Int) - 1 - (i:Int))= -1:=PL
  rw[e]at st;rwa[uX (I.ok.hd O) st λq eb=>#[Z,I.turned (t':=s.toks) (λb o j e=>eb b o j e) G J L M N]]
 self:=λ_ _ _ _ _ st h=>EE st h
section
variable {X:Cx}{tg:dw}
inductive EC(K:Ψ)(R:It->Hp->Prop)(x:V)(b:Hp):Prop
 |mk(a c:_)(_:x= .ref a)(_:aC K b a c)(_:R (NR K a c.length) b)
def Of(K:Ψ)(t:TE):TI:=λa H R=>t a H (EC K R)
def yL{e:dw}{t:TE}{c:ρ}{p P:Pos}(j:Gl X c)(k:X.mg c=θ)(l:bootBuiltins c=δ (.type "reversed"))(y:PE X e t)(m:↥(c≠"__name__"))(n:↥((c==("__debug__":ρ))=ν))
  (r:↥(Δ [e] X.env=(ν,eval e X.env)::Δ [] X.env)) (A:↥((fy P$ Δ [] X.env).any (·.1)=ν)):PI X tg (.Call (.Name c p) [e] [] P) (Of X.K t):=by
 intro d s B H R I h;erw[SO$ zN I j k l ?_ m n];erw[Sr ?_ r A];rw[r];show π _ _ (spliced ((ν,eval e X.env)::fy P (Δ [] X.env))) _ _ s;erw[TH$ a8 (y d s B H _ I h) λu S z=>?_];let(x,C,g,D,a,v,E,F,q):=z;subst E;cases (show u=Θ a from D);let(i,G,J,N):=g.tuple F;let f:=G.length;let L:=gu;erw[Uc$ wH (show IsTup S.heap a i.toArray from J) (by simp only[Rx];omega) ?_];let w:eV (S.heap.push$ revObj a i.toArray.size) (-S) a ((v.length:Int) - 1 - ((0:Nat):Int)):=#[_,Ry _ Z,Z,by rw[Rx,<- f];simp [revObj]];erw[EE (s:={ S with heap:=S.heap.push (revObj a i.toArray.size),toks:=S.toks+1+1 }) w ?_];erw[#[-S,[-S],11,C,Z,g.kept (t':=S.toks+1+1) λb o e=>Rr _ e,Bc a _ v.length,w,λb M=>?_,q]];let e:b=-S:=by simpa using M
 subst e;rwa[g.fpOk (Rv _)$ g.hok.fresh$ Rv _]
end
def Ys{K:Ψ}{xs:xL V}{g:TG}{t:TS}{D:bp}(Pv:Nat->St->Hp->Prop)(k:Pv 0 b H)(l:∀i b H,i<=ο xs->Pv i b H->aC K H a xs)
  (n:∀E:bp,E.rt=D.rt->∀i x b H,xs.reverse[i]?=δ x->(∀c f,Pv (i+1) c f->E.nx c f)->∀G:Prop,((g x b H λj o=>t E j o)->G)->Pv i b H->G) (r:∀b H,Pv xs.length b H->D.nx b H):uh (NR K a xs.length) g t D b H:=by
 erw[#[λi m b H=>m=ο xs - i/\i<=ο xs/\Pv i b H,#[xs.length,PJ,RE _,k],?_]];rintro i m b H ⟨rfl,s,p⟩;let q:=l i b H s p;by_cases d:i < ο xs
 .erw[.inr #[#[xs,_,q,Z,Rq (d:)],Pv$ i+1,λc f P=>#[ο xs - (i+1),N09,Z,d,P],λx f y=>?_]];let(e,y):=y;subst e;rwa[n { D with nx:=Pv (i+1),ct:=Pv (i+1),bk:=D.nx } Z i x b _ (y xs q) (λ_ _ h=>h) _ (λz=>z) p]
 .let e:i=ο xs:=by omega
  subst e;rwa[.inl #[#[xs,q,22],r b H p]]
def AH:Slot "list_reverseiterator" "__length_hint__" "list_reverseiterator.__length_hint__":=by erw[Slot.of (owner:="list_reverseiterator") (n:="__length_hint__") (by rw[Tf,Sx];kernel_rfl) PH PH PH ?_ (by rw[Tv];kernel_rfl)];first |exact .inl PH |exact .inr PH
def uZ:typeLookup (.type "list_reverseiterator") "__len__"=pure θ:=by rw[Tf,Sx];kernel_rfl
def IG:isSubtype (.type "list_reverseiterator") (.type "list_reverseiterator")=pure μ:=by rw[Tv];kernel_rfl
section
#print v
def Ga(H:s.heap.IsRevIter I t k){Q:Bool->ι->Prop}(h:Q ν s):π (χ prog w) A (ls$ .ref I) Q E s:=by
 unfold ls;erw[Rp$ Tz H.typeIs uZ ?_];show π _ A (specialOf (Θ I) (Str.ofString "__length_hint__") >>= _) _ _ _;erw[Rp$ Tz H.typeIs AH.lookup ?_];let e:splitId "list_reverseiterator.__length_hint__"=δ ("list_reverseiterator","__length_hint__"):=PH
 dsimp only;rw[e];dsimp only;erw[Rp$ T6 (b:=μ) H.typeIs IG ?_];simp only[UP,RO,Ta];rw[RB PH,RD PH];rwa[Rt h]
def uo{a:Array η}{Q:xL η->ι->Prop}(z:A.handled=θ)(f:s.heap.IsRevIter I t ((a.size:Int) - 1))(r:s.heap.IsList t a)(B:t≠I)(C:a.size<=υ)
  (D:∀S,(∀b o,b≠I->s.heap.get? b=δ o->S.heap.get? b=δ o)->-s<=-S->S.gens=s.gens->S.os=s.os->Q a.toList.reverse S):π (χ prog w) A (collect$ .ref I) Q E s:=by
 let j:I < -s:=by let(o,k,_):=f;rwa[Rz k]
 let n:t < -s:=by let(o,k,_):=r;rwa[Rz k]
 let u:I≠-s:=RJ j;let F:t≠-s:=RJ n;unfold collect;refine Rp (WS (Tg VU (by
  rw[SJ VT _];show π _ A.in1 (newList [] >>= λl=>again (.builtin "list.__iadd__" #[[l,.ref I],[]])) _ _ s;erw[Rp$ So$ Rt #[T4 Uo _,Tg Wc ?_]];rw[SJ Uo _];generalize v:s.heap.push { cls:=.type "list",data:=.seq ([]:xL η).toArray }=H;let J:H.get? (-s)=δ { cls:=.type "list",data:=.seq (ε []) }:=by rw[<- v];rwa[Ry _ Z]
  let G:∀b o,s.heap.get? b=δ o->H.get? b=δ o:=λb o e=>by rw[<- v];rwa[Rr _ e]
  let h:H.IsRevIter I t ((a.size:Int) - 1):=f.at λo e=>G I o e;let p:H.IsList t a:=r.at λo e=>G t o e;show π _ A.in1 (hJ (.ref (-s)) (.ref I)$ .ref (-s)) _ _ {H};unfold hJ;erw[Rp$ TK (s:={H}) h.typeIs ?_];let K:eT (.ref (-s)) (.ref I)=ν:=by simp only[eT,beq_eq_false_iff_ne];rwa[Sc u]
  let L:(fr "list_reverseiterator"==fr "list")=ν:=PM
  let M:(fr "list_reverseiterator"==fr "tuple")=ν:=PM
  simp only[K,L,M,WE,RO,Ta];erw[Rp$ wpAny_pyIter_revIter (s:={H}) h$ Rp$ RY$ Ga (s:={H}) h ?_];let N:¬-s∈[I,t]:=by simp only[TC,R6,U7,not_or];exact#[Sc u,Sc F]
  rw[RD PH];erw[Rt #[T4 VZ _,?_]];let W:=(Walks.listRev (prog:=prog) (w:=w) (A:=A.in1) (z:) I t B a).toS;erw[codeAny_extend_loopS W C _ N _ a.size 0 _ (ε []) _ Z (RE _) #[RE _,by simpa using h,p] J (ItemsOf.nil _) λS d U m x c=>?_];let O:d=a.toList.reverse.toArray:=by
   apply Array.ext';erw[List.ext_getElem? λi=>?_];by_cases y:i < a.size
   .let g:i < d.size:=by rw[c.1];exact y
    let q:=c.2 i d[i] (by simp [g]);rw[Tk,TN g,<- q];show a[a.size - 1 - i]?=a.toList.reverse[i]?;rw[UJ (y:)];simp
   .rw[Sw (by rw[RX,c.1];omega),Sw (by simp;omega)]
  subst O;show π _ A (load (-s) >>= _) _ _ S;erw[Rp$ wpAny_load x$ Rt ?_];let P:a.toList.reverse.toArray.toList=a.toList.reverse:=by simp
  rw[P];erw[D S (λb o R e=>?_) ?_ m.gens m.os]
  .let T:b≠-s:=RJ (Rz e);rwa[m.heap b o (by simp only[TC,R6,U7,not_or];exact#[T,R])$ G b o e]
  .rwa[T3$ Rz x])))
end
section
#print v
def X9{i:Array η}{Q:η->ι->Prop}(f:A.handled=θ)(H:s.heap.IsRevIter I t ((i.size:Int) - 1))(g:s.heap.IsList t i)(j:t≠I)(d:i.size<=υ)
  (h:∀S:ι,(∀b o,b≠I->s.heap.get? b=δ o->S.heap.get? b=δ o)->-s<=-S->S.gens=s.gens->S.os=s.os->
   Q (.ref (-S)) { S with heap:=S.heap.push { cls:=.type "tuple",data:=.seq i.toList.reverse.toArray } }):
  lq (χ prog w) A (.call (.builtin "tuple.__new__") #[[.type "tuple",.ref I],[]]) (wants Q E) s:=by
 erw[WH (show π _ A.in1 (do checkBuiltinCall "tuple.__new__" #[[.type "tuple",.ref I],[]];again (.builtin "tuple.__new__" #[[.type "tuple",.ref I],[]])) _ _ s from ?_)];refine Rp (Vm (PySem.F.newCall_tuple_1 _) (Rt #[T4 V' _,Tg PySem.F.entry_tuple_new (by
  rw[SJ V' _];let e:=sub_tuple_self;let a:=init_tuple_lookup;let l:=madeHere_tuple;let c:=H.typeIs;wp_walk using TK c,uo (f:) H g j d;intro S k z m n;show π _ _ (ef i.toList.reverse.toArray >>= λv=>ret v) _ _ _;unfold ef;rwa[Rp$ So (Rt$ h S k z m n) (by show i.toList.reverse.toArray.size<=υ;simpa using d)])]))
def Ya{items:Array η}{Q:η->ι->Prop}(d:A.handled=θ)(c:s.heap.IsRevIter I t ((items.size:Int) - 1))(e:s.heap.IsList t items)(f:t≠I)(g:items.size<=υ)
  (h:∀a:ι,(∀b o,b≠I->s.heap.get? b=δ o->a.heap.get? b=δ o)->-s<=-a->a.gens=s.gens->a.os=s.os->
   Q (.ref (-a)) { a with heap:=a.heap.push { cls:=.type "tuple",data:=.seq items.toList.reverse.toArray } }):π (χ prog w) A (call (.type "tuple") [.ref I]) Q E s:=by
 erw[callType_codes (Q₁:=λO S=>S.TypeIs O "tuple"/\Q O S) oA (PySem.F.typeCall_tuple_1 _) PySem.F.entry_object_init (X9 (d:) c e f g λa k z i j=>#[#[_,Ry _ Z,Z],h a k z i j]) λO S H=>?_];exact#[H.1,UT O _,object_init_meets oA.init.lookup oA.made PM prog w A.in1 _ S #[H.1,Z,H.2]]
end
section
variable {X:Cx}{e:dw}{te:TE}{xl xr:ρ}{p p2 pos pos2:Pos}
inductive oW(K:Ψ)(Q:VK)(x:V)(b:Hp):Prop
 |mk(a c:_)(_:x= .ref a)(_:aJ K b a c)(_:∀l,b l=θ->Q (.ref l) (af b l (.tup c.reverse)))
def D2(K:Ψ)(te:TE):TE:=λa H Q=>te a H (oW K Q)
def vA(M:X.calm=μ)(g:Gl X xl)(j:X.mg xl=θ)(l:bootBuiltins xl=δ (.type "tuple"))(m:Gl X xr)(n:X.mg xr=θ)(r:bootBuiltins xr=δ (.type "reversed"))(O:PE X e te)
  (t:↥(xl≠"__name__")) (v:↥((xl==("__debug__":ρ))=ν)) (y:↥(xr≠"__name__")) (A:↥((xr==("__debug__":ρ))=ν))
  (E:↥(Δ [.Call (.Name xr p2) [e] [] pos2] X.env=(ν,eval (.Call (.Name xr p2) [e] [] pos2) X.env)::Δ [] X.env)) (T:↥((fy pos$ Δ [] X.env).any (·.1)=ν))
  (F:↥(Δ [e] X.env=(ν,eval e X.env)::Δ [] X.env)) (U:↥((fy pos2$ Δ [] X.env).any (·.1)=ν)):
  PE X (.Call (.Name xl p) [.Call (.Name xr p2) [e] [] pos2] [] pos) (D2 X.K te):=by
 intro P s V H Q I h;erw[SO$ zN I g j l ?_ t v];erw[Sr ?_ E T];rw[E];show π _ _ (spliced ((ν,eval (.Call (.Name xr p2) [e] [] pos2) X.env)::fy pos (Δ [] X.env))) _ _ s;erw[TH ?_];erw[SO$ zN I m n r ?_ y A];erw[Sr ?_ F U];rw[F];show π _ _ (spliced ((ν,eval e X.env)::fy pos2 (Δ [] X.env))) _ _ s;erw[TH$ a8 (O P s V H _ I h) λu d B=>?_];let(x,W,f,Y,a,G,ex,hq,q):=B;subst ex;cases (show u=Θ a from Y);let(i,R,C,hz):=f.list hq;let J:=R.length;erw[Uc$ call_reversed_list C.isList$ Uc ?_];let D:a < -d:=by let(o,ho,_):=C.isList;rwa[Rz ho]
 refine Ya (s:={ d with heap:=d.heap.push (PySem.revObj a ((i.toArray.size:Int) - 1)) }) (items:=i.toArray) (I.ok.hd M) #[_,Ry _ Z,22] (C.isList.at λo e=>Rr _ e) (RJ D)
  (by simp only[Rx];omega) λS k hl kg ko=>?_
 let c:-d<=-S:=RM (by show _<=(d.heap.push _).objs.size;rw[SA];rwa[Tb _]) hl;let L:∀b o,d.heap.get? b=δ o->(S.heap.push { cls:=.type "tuple",data:=.seq i.toArray.toList.reverse.toArray }).get? b=δ o:=λb o e=>Rr _ (k b o (RJ$ Rz e)$ Rr _ e);let hg:(S.heap.push { cls:=.type "tuple",data:=.seq i.toArray.toList.reverse.toArray }).get? (-S)=δ { cls:=.type "tuple",data:=.seq i.toArray.toList.reverse.toArray }:=Ry _ Z;let N:aU X.prog X.w (af W (-S)$ .tup G.reverse) (S.heap.push { cls:=.type "tuple",data:=.seq i.toArray.toList.reverse.toArray }) (-S) (.tup G.reverse):=by
  erw[#[by rw[List.length_reverse];rwa[hz],i.reverse,aF.reverse R,?_]];let ee:i.toArray.toList.reverse.toArray=i.reverse.toArray:=by simp
  rw[<- ee];exact#[_,hg,212]
 exact#[.ref (-S),_,f.call' (ch:=[]) ko (Un.laid L c$ f.hok.fresh c) (f.hok.laid L c N) (by show AllBare S.gens;rw[kg];rwa[f.bare]) (λ_ z=>nomatch z),Z,q _$ f.hok.fresh c]
end
section
#print v
def Qs{x:η}{Q:η->ι->Prop}(a:s.heap.IsTupleIter J T i)(e:s.heap.IsTuple T I)(f:I[i]?=δ x)
  (q:∀b,b.IsTupleIter J T (i+1)->fx J s.heap b->Q x {b}):π (χ prog w) A (Ω$ .ref J) Q E s:=by
 let(o,H,g,h):=id a;let(O,c,_,n,d):=e;unfold Ω;erw[Rp$ Sm (name:=Str.ofString "__next__") a.typeIs SV$ Si SV a.typeIs Us (show π _ _ (field (.ref J) 0 >>= _) _ _ s from ?_)$ Um _];erw[Rp$ R4 H h (x:=.ref T) Z (show π _ _ (if (Θ T==β)=μ then _ else _) _ _ s from ?_)];rw[RD (show ¬((Θ T==β)=μ) from RI)];erw[(show π _ _ (field (.ref J) 1 >>= _) _ _ s from Rp$ R4 H h (x:=.int i 0) Z (show π _ _ (seqItems? (.ref T) >>= _) _ _ s from Rp$ SK c d ?_))];simp only[SE,f];erw[Rp$ SG H h PJ$ Rt #[x,Z,Rt$ q _ #[_,Sl _ H$ SW$ Sf h _,(UE ..).trans g,by rw[Sf h];simp [rawInt]] (Tt ..)]]
def uY(g:A.handled=θ)(H:s.heap.IsTupleIter J T i)(j:s.heap.IsTuple T I)(l:I[i]?=θ)
  (q:∀h e,oS J s.heap h->Shared.TypeIs {h} e "StopIteration"->E e {h}):π (χ prog w) A (Ω$ .ref J) Q E s:=by
 let(o,a,p,c):=id H;let(O,d,_,N,f):=j;unfold Ω;erw[Rp$ Sm (name:=Str.ofString "__next__") H.typeIs SV$ Si SV H.typeIs Us (show π _ _ (field (.ref J) 0 >>= _) _ _ s from ?_)$ Um _];erw[Rp$ R4 a c (x:=.ref T) Z (show π _ _ (if (Θ T==β)=μ then _ else _) _ _ s from ?_)];rw[RD (show ¬((Θ T==β)=μ) from RI)];erw[(show π _ _ (field (.ref J) 1 >>= _) _ _ s from Rp$ R4 a c (x:=.int i 0) Z (show π _ _ (seqItems? (.ref T) >>= _) _ _ s from Rp$ SK d f ?_))];simp only[SE,l];erw[Rp$ TR$ Rp$ SG a c PJ ?_];erw[Kv (g:) λh e k t=>q h e (λb o m n=>k b o ?_) t];exact(RV _ _$ Sc m).trans n
end
def iY(b:Bool)(h:de)(i l:ζ)(k:Nat):Prop:=match b with
 |true=>h.IsListIter i l k
 |false=>h.IsTupleIter i l k
def mn(b:Bool)(h:de)(l:ζ)(x:Array η):Prop:=match b with
 |true=>h.IsList l x
 |false=>h.IsTuple l x
def iw:Bool->String
 |true=>"list_iterator"
 |false=>"tuple_iterator"
def iY.kp{b:Bool}{H:de}(x:iY b h i l k)(e:∀o,h.get? i=δ o->H.get? i=δ o):iY b H i l k:=by
 cases b
 .rwa[Heap.IsTupleIter.at x e]
 .let(o,a,r):=x;exact#[o,e o a,r]
def mn.kp{b:Bool}{H:de}(x:mn b h l a)(e:∀o,h.get? l=δ o->H.get? l=δ o):mn b H l a:=by
 cases b
 .let(o,c,r):=x;exact#[o,e o c,r]
 .rwa[Heap.IsList.at x e]
def iY.ob(x:iY b h i l k):∃o,h.get? i=δ o/\o.cls= .type (iw b)/\∀v,o.data≠ .cell v:=by
 cases b
 .let(o,H,c,d):=x;exact#[o,H,c,λv z=>by rw[d]at z;cases z]
 .let(o,H,c,d):=x;exact#[o,H,c,λv z=>by rw[d]at z;cases z]
section
#print v
def qv{Q:η->ι->Prop}(H:iY b s.heap J T i)(a:mn b s.heap T I)(c:I[i]?=δ x)
  (q:∀h,iY b h J T (i+1)->fx J s.heap h->Q x {h}):π (χ prog w) A (Ω$ .ref J) Q E s:=by
 cases b
 .rwa[Qs H a c q]
 .rwa[wpAny_nextOf_list_item H a c q]
def Xo(H:A.handled=θ)(a:iY b s.heap J T i)(c:mn b s.heap T I)(d:I[i]?=θ)
  (q:∀h e,oS J s.heap h->Shared.TypeIs {h} e "StopIteration"->E e {h}):π (χ prog w) A (Ω$ .ref J) Q E s:=by
 cases b
 .rwa[uY H a c d q]
 .rwa[wpAny_nextOf_list_end H a c d λh e k #[o,f,g]=>q h (.ref e) k #[o,f,g]]
def EF{Q:η->ι->Prop}(h:mn b s.heap T i)
  (q:Q (.ref (-s)) {s.heap.push { cls:=.type (iw b),data:=.fields (ε [.ref T,.int 0 0]) }}):π (χ prog w) A (pyIter$ .ref T) Q E s:=by
 cases b
 .rwa[UD h q]
 .rwa[UL h q]
structure BJ(z u v c d a b:ζ):Prop where
 uz:u≠z
 vz:v≠z
 cz:c≠z
 dz:d≠z
 uv:u≠v
 uc:u≠c
 ud:u≠d
 vc:v≠c
 vd:v≠d
 cd:c≠d
 az:a≠z
 av:a≠v
 ac:a≠c
 ad:a≠d
 bz:b≠z
 bv:b≠v
 bc:b≠c
 bd:b≠d
def D9{Q:ym η->ι->Prop}(D:BJ z u v c d a b)
  (H:IsZip s.heap z u v .none) (hu:IsPair s.heap u (.ref c) (.ref d)) (hv:IsPair s.heap v p q) (h1:iY B s.heap c a k) (h2:iY C s.heap d b k) (g1:mn B s.heap a xs) (g2:mn C s.heap b ys) (hx:xs[k]?=δ x) (hy:ys[k]?=δ y)
  (hQ:∀h,IsZip h z u v (rawInt (-s))->IsPair h v x y->iY B h c a (k+1)->iY C h d b (k+1)->IsPair h (-s) x y->h.objs.size=-s+1->
   (∀e o,e≠z->e≠v->e≠c->e≠d->s.heap.get? e=δ o->h.get? e=δ o)->Q (δ$ .ref (-s)) {h}):π (χ prog w) A (pyNext$ .ref z) Q E s:=by
 let W:s.TypeIs (.ref z) "zip":=#[_,H,Z];unfold pyNext;erw[Rp$ Uy$ Sm (name:=Str.ofString "__next__") W S0$ Si S0 W Uw (show π _ _ (field (.ref z) 2 >>= _) _ _ _ from ?_)$ Up _];erw[Rp$ R4 H Z (x:=.bool ν) Z (show π _ _ (field (.ref z) 3 >>= _) _ _ _ from Rp$ R4 H Z (x:=.ref u) Z$ Rp$ SK hu Z ?_)];erw[(show π _ _ (bx (.ref z) >>= _) _ _ _ from Rp ?_)];unfold bx;erw[Rp$ R4 H Z (x:=.none) Z$ Rt ?_];simp only[UX];erw[Rp$ TR$ Rp$ R4 H Z (x:=.ref v) Z$ Rp$ Ud H PJ λX F S=>?_];replace F:IsZip X z u v .ellipsis:=F;erw[Rp ?_];simp only[List.zipIdx_cons,List.zipIdx_nil,T8,U1];erw[Rp$ Rp$ wpAny_onRaise (show π _ _ (Ω (.ref c) >>= _) _ _ _ from ?_)];erw[Rp$ qv (s:={X}) (h1.kp λo e=>S.extBut _ _ D.cz e) (g1.kp λo e=>S.extBut _ _ D.az e) hx λG i2 l=>Rt ?_];let Y:IsPair G v p q:=l.extBut _ _ D.vc (S.extBut _ _ D.vz hv);erw[Rp$ SK (s:={G}) Y Z$ Rp$ wpAny_updateSeq_pair (s:={G}) Y λI J r=>?_];replace J:IsPair I v x q:=J;erw[Rp$ wpAny_letGo$ Rt$ Rp$ Rp$ wpAny_onRaise (show π _ _ (Ω (.ref d) >>= _) _ _ _ from ?_)];let K:∀e o,e≠z->e≠c->e≠v->s.heap.get? e=δ o->I.get? e=δ o:=λe o N f g w=>r.extBut _ _ g (l.extBut _ _ f$ S.extBut _ _ N w);erw[Rp$ qv (s:={I}) (h2.kp λo e=>K _ _ D.dz D.cd.symm D.vd.symm e) (g2.kp λo e=>K _ _ D.bz D.bc D.bv e) hy λL i4 i=>Rt ?_];let v4:IsPair L v x q:=i.extBut _ _ D.vd J;erw[Rp$ SK (s:={L}) v4 Z$ Rp$ wpAny_updateSeq_pair (s:={L}) v4 λm V j=>?_];replace V:IsPair m v x y:=V;erw[Rp$ wpAny_letGo$ Rt$ Rt$ Rp$ SK (s:={m}) V Z$ Rp$ UM ?_];let e5:m.objs.size=-s:=by rw[j.1,i.1,r.1,l.1,S.1]
 let k5:∀e o,e≠z->e≠v->e≠c->e≠d->s.heap.get? e=δ o->m.get? e=δ o:=λe o N f g O w=>j.extBut _ _ f (i.extBut _ _ O$ K e o N g f w);let z5:IsZip m z u v .ellipsis:=j.extBut _ _ D.vz.symm (i.extBut _ _ D.dz.symm$ r.extBut _ _ D.vz.symm$ l.extBut _ _ D.cz.symm F);let j1:iY B m c a (k+1):=i2.kp λo e=>j.extBut _ _ D.vc.symm (i.extBut _ _ D.cd$ r.extBut _ _ D.vc.symm e);let j2:iY C m d b (k+1):=i4.kp λo e=>j.extBut _ _ D.vd.symm e;let lz:z < m.objs.size:=Rz z5;erw[(show π _ _ (mT (.ref z) (.ref m.objs.size) >>= _) _ _ _ from Rp ?_)];unfold mT;let z6:IsZip (m.push { cls:=.type "tuple",data:=.seq (ε [x,y]) }) z u v .ellipsis:=Rr _ z5;erw[Rp$ Ud z6 PJ λm7 P R=>?_];replace P:IsZip m7 z u v (rawInt m.objs.size):=P;erw[Ud P PJ λM t T=>?_];replace t:IsZip M z u v (rawInt m.objs.size):=t;let U:∀e o,e≠z->m.get? e=δ o->M.get? e=δ o:=λe o n w=>T.extBut _ _ n (R.extBut _ _ n$ Rr _ w);let t8:IsPair M m.objs.size x y:=T.extBut _ _ (SH lz) (R.extBut _ _ (SH lz)$ Ry _ Z);let e8:M.objs.size=m.objs.size+1:=by rw[T.1,R.1,SA]
 rw[e5]at t t8 e8;erw[Rt #[12,Rt ?_]];show Q (δ$ .ref m.objs.size) _;rw[e5];rwa[hQ M t (U _ _ D.vz V) (j1.kp λo e=>U _ o D.cz e) (j2.kp λo e=>U _ o D.dz e) t8 e8 λe o N f g O w=>U e o N (k5 e o N f g O w)]
def IX{b2:Bool}{ys:Array η}{p q:η}{Q:ym η->ι->Prop}(C:A.handled=θ)(D:BJ z u v c d a b)
  (h:IsZip s.heap z u v .none) (F:IsPair s.heap u (.ref c) (.ref d)) (G:iY I s.heap c a k) (J:mn I s.heap a L) (K:L[k]?=θ)
  (O:∀H,(∀e o,e≠z->e≠v->e≠c->e≠d->s.heap.get? e=δ o->H.get? e=δ o)->Q θ {H}):π (χ prog w) A (pyNext$ .ref z) Q E s:=by
 let g:s.TypeIs (.ref z) "zip":=#[_,h,Z];unfold pyNext;erw[Rp$ Uy$ Sm (name:=Str.ofString "__next__") g S0$ Si S0 g Uw (show π _ _ (field (.ref z) 2 >>= _) _ _ _ from ?_)$ Up _];erw[Rp$ R4 h Z (x:=.bool ν) Z (show π _ _ (field (.ref z) 3 >>= _) _ _ _ from Rp$ R4 h Z (x:=.ref u) Z$ Rp$ SK F Z ?_)];erw[(show π _ _ (bx (.ref z) >>= _) _ _ _ from Rp ?_)];unfold bx;erw[Rp$ R4 h Z (x:=.none) Z$ Rt ?_];simp only[UX];erw[Rp$ TR$ Rp$ R4 h Z (x:=.ref v) Z$ Rp$ Ud h PJ λm f S=>?_];replace f:IsZip m z u v .ellipsis:=f;erw[Rp ?_];simp only[List.zipIdx_cons,List.zipIdx_nil,T8,U1];erw[Rp$ Rp$ wpAny_onRaise (show π _ _ (Ω (.ref c) >>= _) _ _ _ from ?_)];erw[Rp$ Xo (s:={m}) (C:) (G.kp λo e=>S.extBut _ _ D.cz e) (J.kp λo e=>S.extBut _ _ D.az e) K λM e i j=>?_];let l:IsZip M z u v .ellipsis:=i _ _ D.cz.symm f;erw[Ud (s:={M}) l PJ λn U r=>?_];let t:Shared.TypeIs {n} e "StopIteration":=by
  cases e with
  |ref x=>
   let(o,y,B):=j;let P:x≠z:=λw=>by subst w;let:=y.symm.trans l;cases this;injection B with w;rwa[absurd w PM]
   exact#[o,r.extBut _ _ P y,B]
  |_=>rwa[j]
 rwa[Rp$ T6 (T:="StopIteration") (b:=μ) t VN$ Rt$ O n λe o N V R W w=>r.extBut _ _ N (i _ _ R$ S.extBut _ _ N w)]
def IY{b1 b2:Bool}{xs ys:Array η}{Q:η->ι->Prop}(J:mn b1 s.heap a xs)(L:mn b2 s.heap b ys)
  (h:∀H,IsZip H (-s+4) (-s+2) (-s+3) .none->IsPair H (-s+2) (.ref (-s)) (.ref$ -s+1)->
   IsPair H (-s+3) .none .none->iY b1 H (-s) a 0->iY b2 H (-s+1) b 0->(∀e o,s.heap.get? e=δ o->H.get? e=δ o)->Q (.ref$ -s+4) {H}):
  π (χ prog w) A (call (.type "zip") [.ref a,.ref b]) Q E s:=by
 refine callType_new (S:=λ_ R c=>c=s/\R (.ok$ .ret$ .ref$ -s+4) {((((s.heap.push { cls:=.type (iw b1),data:=.fields (ε [.ref a,.int 0 0]) }).push { cls:=.type (iw b2),data:=.fields (ε [.ref b,.int 0 0]) }).push { cls:=.type "tuple",data:=.seq (ε [.ref (-s),.ref$ -s+1]) }).push { cls:=.type "tuple",data:=.seq (ε [.none,.none]) }).push { cls:=.type "zip",data:=.fields (ε [.none,.bool ν,.bool ν,.ref$ -s+2,.ref$ -s+3]) }})
  PySem.F.called_zip PM (PySem.F.typeCall_zip_2 _ _) (PySem.F.newCall_zip_2 _ _) (λO=>PySem.F.args_object_init_3 O _ _) PySem.F.entry_zip_new (.of_wp λp w' A' R c P=>?_) #[Z,?_]
 .let(rfl,q):=P;let(r,g,D,t,os):=c;let u:=sub_zip;let T:mn b1 (Shared.heap #[r,g,D,t,os]) a xs:=J;let _L:mn b2 (Shared.heap #[r.push { cls:=.type (iw b1),data:=.fields (ε [.ref a,.int 0 0]) },g,D,t,os]) b ys:=L.kp λo e=>Rr _ e;wp_walk using EF T,EF _L;erw[#[12,?_]];simp only[SA]at q ⊢;rwa[q]
 .let z (h:de) (o:gs):(h.push o).objs.size=h.objs.size+1:=SA ..;generalize d:s.heap.push { cls:=.type (iw b1),data:=.fields (ε [.ref a,.int 0 0]) }=M;generalize f:M.push { cls:=.type (iw b2),data:=.fields (ε [.ref b,.int 0 0]) }=i;generalize j:i.push { cls:=.type "tuple",data:=.seq (ε [.ref (-s),.ref$ -s+1]) }=k;generalize l:k.push { cls:=.type "tuple",data:=.seq (ε [.none,.none]) }=n;generalize v:n.push { cls:=.type "zip",data:=.fields (ε [.none,.bool ν,.bool ν,.ref$ -s+2,.ref$ -s+3]) }=m;let N:M.objs.size=-s+1:=by rw[<- d,z]
  let x:i.objs.size=-s+2:=by rw[<- f,z,N]
  let y:k.objs.size=-s+3:=by rw[<- j,z,x]
  let U:n.objs.size=-s+4:=by rw[<- l,z,y]
  let K:∀e o,n.get? e=δ o->m.get? e=δ o:=λe o w=>by rw[<- v];rwa[Rr _ w]
  let B:∀e o,k.get? e=δ o->m.get? e=δ o:=λe o w=>K e o (by rw[<- l];rwa[Rr _ w]);let C:∀e o,i.get? e=δ o->m.get? e=δ o:=λe o w=>B e o (by rw[<- j];rwa[Rr _ w]);let G:∀e o,M.get? e=δ o->m.get? e=δ o:=λe o w=>C e o (by rw[<- f];rwa[Rr _ w]);let V:∀e o,s.heap.get? e=δ o->m.get? e=δ o:=λe o w=>G e o (by rw[<- d];rwa[Rr _ w]);let I:IsZip m (-s+4) (-s+2) (-s+3) .none:=by rw[<- U,<- v];rwa[Ry _ Z]
  let W:IsPair m (-s+3) .none .none:=K _ _ (by rw[<- y,<- l];rwa[Ry _ Z]);let X:IsPair m (-s+2) (.ref (-s)) (.ref$ -s+1):=B _ _ (by rw[<- x,<- j];rwa[Ry _ Z]);let Y:m.get? (-s+1)=δ { cls:=.type (iw b2),data:=.fields (ε [.ref b,.int 0 0]) }:=C _ _ (by rw[<- N,<- f];rwa[Ry _ Z]);let q1:m.get? (-s)=δ { cls:=.type (iw b1),data:=.fields (ε [.ref a,.int 0 0]) }:=G _ _ (by rw[<- d];rwa[Ry _ Z]);erw[#[#[_,I,Z],h m I X W ?_ ?_ V]]
  .cases b1<;>exact#[_,q1,22]
  .cases b2<;>exact#[_,Y,22]
end
def Ea(n a b:Nat)(h:a < n)(H:b < n):BJ (n+4) (n+2) (n+3) n (n+1) a b:=by erw[#[?_,?_,?_,?_,?_,?_,?_,?_,?_,?_,?_,?_,?_,?_,?_,?_,?_,?_]]<;>(show(_:Nat)≠_;omega)
section
variable {prog:ω}{w:bF}{A:bU}{E:η->ι->Prop}
theorem Eo(h:l≠J):∀(n i:Nat) (s:ι) (Q:xL η->ι->Prop),s.heap.IsListIter J l i->s.heap.IsList l I->i+n<=I.size->
  (∀a,a.IsListIter J l (i+n)->fx J s.heap a->Q ((I.toList.drop i).take n) {a})->π (χ prog w) A (draw (.ref J) n) Q E s
 |0,i,s,Q,b,_,_,q=>show π _ _ (pure []) Q E s from Rt (q s.heap b (Wr ..):)
 |n+1,i,s,Q,b,c,d,q=>by
  let H:i < I.size:=PL
  erw[(show π _ _ (pyNext (.ref J) >>= _) Q E s from Rp$ wpAny_pyNext_list_item b c (x:=I[i]) (by simp [H]) λm j S=>?_)];erw[Rp$ RY$ Eo h n (i+1) _ _ j (c.extBut S.extBut h) PL λf g k=>Rt ?_];let e:=q f (by rw[show i+(n+1)=i+1+n by omega];rwa[g]) (S.trans k);rw[show I.toList.drop i=I[i]::I.toList.drop (i+1) by simp [Wp,H],List.take_succ_cons]at e;assumption
def D4{s:ι}{Q:xL η->ι->Prop}(f:A.handled=θ)(h:s.heap.IsList l i)(a:i.size=n)
  (q:∀c,oS (-s) s.heap c->Q i.toList {c}):π (χ prog w) A (unpackItems (.ref l) n θ) Q E s:=by
 let H:l≠-s:=by let(o,g,_):=h;rwa[RJ$ Rz g]
 unfold unpackItems;erw[Rp ?_];unfold notIterableAtAll;erw[Rp$ Tz h.typeIs slot_list_iter.lookup ?_];erw[Rt ?_];simp only[RO,Ta];erw[Rp$ RY$ UL h ?_];let I:(s.heap.push { cls:=.type "list_iterator",data:=.fields (ε [.ref l,.int 0 0]) }).IsListIter (-s) l 0:=#[_,Ry _ Z,22];erw[Rp$ RY$ Eo H n 0 _ _ I (h.push _) PL λj J S=>?_];let k:(i.toList.drop 0).take n=i.toList:=by rw[Wg,Tx (by simp [a])]
 rw[k,RD (by simp [a])];let L:j.IsList l i:=(h.push _).extBut S.extBut H;erw[Rp$ RY$ wpAny_pyNext_list_end f J L (by simp [a]) λm p=>?_];simp only[Option.isSome_none,RO,Ta];rwa[Rt$ q m λb o d e=>p b o d (S.extBut b o d$ Rr _ e)]
end
section
variable {X:Cx}{pos:Pos}
inductive NG(K:Ψ)(n:Nat)(t:BG)(v:V)(c:St)(H:Hp)(Q:St->Hp->Prop):Prop
 |mk(a b:_)(_:v= .ref a)(_:aJ K H a b)(_:ο b=n)(_:t b c H Q)
def XU{E:xL dw}{k n:Nat}{t:BG}(g:X.calm=μ)(h:J' X E t)
  (i:↥((assignEach E X.env).length=n)) (c:↥((assignEach E X.env).findIdx? (·.1)=θ)):PG X (.Tuple E k pos) (NG X.K n t):=by
 intro P s f H v u Q I r d;let(a,x,j,l,m,d):=d;subst j;cases r;let(q,R,p,A):=I.list l;rw[assign_Tuple];erw[Rp$ Uh ?_];unfold unpack;rw[i,c];erw[Rp$ RY$ D4 (I.ok.hd g) p.isList (by simp [<- m,R.length]) λw y=>?_];let z:ay X P f H {w}:=I.kept (t':=s.toks) λb o e=>y b o (RJ$ Rz e) e;rwa[h P _ f H x _ Q z (R:) d]
inductive AU(K:Ψ)(i j k:Nat)(D:bp)(f:St)(x:V)(b:Hp):Prop
 |mk(a c d e:_)(_:x= .ref a)(_:aC K b a [c,d,e])(_:D.nx (((f.set k (δ e)).set j (δ d)).set i (δ c)) b)
def Fb(K:Ψ)(t:TE)(i j k:Nat):TS:=λD a H=>t a H (AU K i j k D a)
def Dk{t e:dw}{T:TE}{x y z:ρ}{i j k:Nat}(n:X.calm=μ)(c:X.N.Nodup)(w:X.N[i]?=δ x)(A:X.N[j]?=δ y)(B:X.N[k]?=δ z)(L:wg X.env.scope x)(C:wg X.env.scope y)(E:wg X.env.scope z)(F:PE X e T)
  (G:autoParam (X.fn x=μ∨X.env.scope.names.lookup x=δ .local) Wx._auto_1) (J:autoParam (X.fn y=μ∨X.env.scope.names.lookup y=δ .local) Wx._auto_1) (M:autoParam (X.fn z=μ∨X.env.scope.names.lookup z=δ .local) Wx._auto_1)
  (O:↥(swapsWithSole [t] e pos.line X.env=pure ν)) (P:↥(swappedStores [t] e X.env=pure (δ [x,y,z]))):PS X (.Assign [t] e pos) (Fb X.K T i j k):=by
 intro p s f H D I h;rw[exec_Assign_arm];erw[Rp$ Uh ?_];rw[O];erw[Rp$ Rt ?_];rw[RD PM];erw[Rp$ a8 (F p s f H _ I h) λv S d=>?_];let(xv,g,l,R,a,v1,v2,v3,Q,V,q):=d;rw[P];erw[Rp$ Rt ?_];subst Q;cases R;let(W,r,Y,hz):=l.tuple V;cases r with
 |cons q1 r=>
  cases r with
  |cons q2 r=>
   cases r with
   |cons q3 r=>
    cases r
    rename_i u U m
    unfold assignStores;erw[Rp$ TR$ Rp$ wpAny_unpackItems_tuple (items:=(ε [u,U,m])) (I.ok.hd n) Y λh' hx=>?_];let I2:ay X p f g { S with heap:=h' }:=l.kept (t':=S.toks) λb o e=>hx b o (RJ$ Rz e) e;erw[Rp ?_];show π _ _ (assignInOrder [λv=>bindName X.env z v,λv=>bindName X.env y v,λv=>bindName X.env x v] [m,U,u]) _ _ _;erw[Rp$ RY$ WW$ zP I2 c B E q3 (λs2 I3=>?_) M];erw[Rp$ RY$ WW$ zP I3 c A C q2 (λs3 I4=>?_) J];erw[Rp$ RY$ WW$ zP I4 c w L q1 (λs4 I5=>?_) G];rwa[Rt$ Rt #[_,g,I5,q]]
end
def Ce(l b:ζ)(I i:Array η)(n N:Nat)(D:ym ζ)(S:Array (ym η))(e:¬(!I.isEmpty&&fJ (I.size+i.size))=μ)(W:I.size<=υ)(a:I.size+i.size<=υ+1):
  Meets (dO.«list.extend» #[[.ref l,.ref b],[]]) (λ_ R s=>s.heap.get? l=δ { cls:=.type "list",dict:=θ,data:=.seq I n,slots:=(ε []) }/\s.heap.get? b=δ #[.type "tuple",D,.seq i N,S]/\R (.ok$ .ret β) { s with heap:=s.heap.update l (ab λx=>x++i),toks:=s.toks }):=by
 erw[Meets.of_wp λp w A R s h=>?_];let(f,g,d,t,os):=s;let(H,c,h):=h;let F:=AutoSeq1.idx_int;let j:=AutoSeq1.sub_tuple_tuple;let k:=AutoSeq1.sub_list_list;let m:=AutoSeq1.sub_tuple_list;let o:=AutoSeq1.sub_list_tuple;let hz:(I++i).size<=υ+1:=by rw[VQ];rwa[a]
 wp_walk using (VD H Z (hz:=W) (_hz':=hz)),Tn H,Tn c;exact#[12,h]
section
variable {X:Cx}
inductive lJ(K:Ψ)(x:V)(a:xL V)(H:Hp)(Q:VK):Prop
 |mk(l b c d:_)(_:x= .ref l)(_:a=[.ref b])(_:H l=δ (.lst c))(_:aC K H b d)(_:ο c+ο d<=υ)(_:Q .non (af H l (.lst (c++d))))
def ZL:Lq X "list.extend" (lJ X.K):=by
 intro p s A H x V v U Q I g j h;let(l,b,B,C,rfl,rfl,f,k,D,q):=h;cases g;let(u,rfl,m):=j.one;cases m;let(z,a,n,r,E,e):=I.lstM f;let(i,R,P,G):=I.tuple k;let o:=R.length;let d:a.toArray.size+i.toArray.size<=υ:=by rw[Rx,Rx];omega
 let c:¬(!a.toArray.isEmpty&&fJ (a.toArray.size+i.toArray.size))=μ:=by rw[iy d,VC];rwa[RI]
 obtain⟨⟨J,O,L,S⟩,t,w,N,y⟩:=P;cases w;cases y;erw[VX F.slot_list_extend #[_,e,Z] F.entry_list_extend (F.args_list_extend_2 _ _) (Ce l b a.toArray i.toArray n N O S c (by rw[Rx];omega) PL) #[e,t,?_]];erw[#[.non,_,I.lset (its':=a++i) f e PJ (r.append R) (by rw[Ru];rwa[N09]),Z,q]]
end
section
#print v
def JQ{R:Result->ι->Prop}{P:Nat->η->Prop}{St:Nat->ι->Prop}
  (W:WalksS prog w A.in1 I N j G n P St) (S:ζ) (H:¬S∈N) (c:xL ρ) (O:ο c=n) (Q:∀i v,P i v->∃x t,c[i]?=δ x/\v= .str x t) (d:∀L:xL ρ,L.Nodup->(∀x∈L,x∈c)->ο L+1 < scanBound):
  ∀(k i:Nat) (s:ι) (L:xL ρ),n - i=k->i<=n->St i s->dF prog w s.heap S L->(∀x,x∈L↔x∈c.take i)->ο L<=i->
   (∀a l,Moved (S::j) G s a->dF prog w a.heap S l->(∀x,x∈l↔x∈c)->ο l<=n->R (.ok$ .ret .none) a)->
   lq (χ prog w) A (.builtin "set.update.loop" #[[.ref S,.ref I],[]]) R s:=by
 let f:¬S∈j:=λz=>H (W.sub _ z);let sub:∀b∈j,b∈S::j:=λb z=>RZ _ z;intro k;induction k with
 |zero=>
  intro i s L T U st p q F r;let e:i=n:=PL
  subst e;erw[Tg U8 ?_];rw[SJ T7];show π _ A.in1 (pyNext (.ref I) >>= _) _ _ s;erw[Rp$ W.done s _ _ st λa m=>?_];show π _ A.in1 (ret β) _ _ a;erw[Rt$ r a L (m.mono sub) (p.at λo e=>m.heap S o f e) (λx=>?_) F];rw[q x,<- O,Su]
 |succ k V=>
  intro i s L T U st p q F r;let J:i < n:=PL
  erw[Tg U8 ?_];rw[SJ T7];show π _ A.in1 (pyNext (.ref I) >>= _) _ _ s;erw[Rp$ W.item i s _ _ J st λv a X u m=>?_];let(x,t,B,rfl):=Q i v X;show π _ A.in1 (mB [lu x t] (setAdd S$ .str x t) >>= _) _ _ a;erw[Rp$ RY ?_];let h:L.Nodup:=by let(_,_,_,_,_,_,_,_,_,h,_):=p;rwa[h]
  erw[Y0 (p.at λo e=>m.heap S o f e) (d L h λx B=>Sz ((q x).mp B)) λb h' Y K S2 g=>?_];erw[Rt #[T4 T7 _,V (i+1) _ _ PL J (W.frame _ a _ _ u g λb d o e=>?_) S2 (λy=>?_) ?_ λC l M D q1 q2=>?_]]
  .rw[K.2 b (λz:b=S=>H (by rw[<- z];rwa[d]))];rwa[e]
  .let tk:c.take (i+1)=c.take i++[x]:=by rw[Ui,B];rfl
   rw[tk,Ut,VI,<- q y];split
   .rename_i hm
    exact#[.inl,λz=>z.elim id λe=>e▸hm]
   .rw[Ut,VI]
  .split
   .omega
   .rw[Ru,Ub];omega
  .erw[r C l (Moved.trans W.gtrans ((m.mono sub).then_heap g λb o d e=>?_) M) D q1 q2];rw[K.2 b (λz:b=S=>d (by rw[z];rwa[RN]))];rwa[e]
end
section
#print v
set_option maxHeartbeats 3200000 in
def Ks{Q:η->ι->Prop}
  (hh:A.handled=θ) (hl:s.heap.IsList l I) (hi:StrsAre I.toList n) (C:∀L:xL ρ,L.Nodup->(∀x∈L,x∈n)->ο L+1 < scanBound)
  (h:∀(a:de) (t:Nat) L,dF prog w a (-s) L->(∀x,x∈L↔x∈n)->ο L<=I.size->
   (∀b o,b < -s->s.heap.get? b=δ o->a.get? b=δ o)->s.toks<=t->Q (.ref (-s)) { s with heap:=a,toks:=t }):
  π (χ prog w) A (call (.type "set") [.ref l]) Q E s:=by
 let(c,tl,m1):=PySem.F.called_set.mro;let m0:=PySem.F.called_set.made;let sb:=PySem.F.called_set.sub;erw[WV$ WH ?_];show π _ _ (callAny (.type "set") _) _ _ _;erw[Rt #[Code.quiet_builtin _ PH,Tg PySem.F.entry_type_call ?_]];rw[Around.under_plain (weight_type_call_type "set" [.ref l] []) Z];let n1:=PySem.F.called_set.notType;let n2:=PySem.F.called_set.canCreate;let ct:=PySem.F.typeCall_set_1 (.ref l);repeat (any_goals (first |assumption |wp_step))
 erw[Ue (QP (.ref l) (E:=E) (G:=λv S=>v= .ref (-s)/\S={s.heap.push (bN w)}) #[22]) λr S D=>?_];cases r with
 |error e=>rwa[D]
 |ok fl=>
  cases fl with
  |ret o2=>
   let(rfl,rfl):=D;let J:(s.heap.push$ bN w).get? (-s)=δ (bN w):=Ry _ Z;let hT:Shared.TypeIs {s.heap.push (bN w)} (.ref (-s)) "set":=#[_,J,Z];let li:=PySem.F.called_set.init.lookup;let bi:=PySem.F.called_set.init.bind (.ref (-s));repeat (any_goals (first |assumption |wp_step))
   refine Ue (codeAny_call_builtin (R:=wants (λr d=>r= .none/\∃a t L,d={ s with heap:=a,toks:=t }/\dF prog w a (-s) L/\(∀x,x∈L↔x∈n)/\ο L<=I.size/\
     (∀b o,b < -s->s.heap.get? b=δ o->a.get? b=δ o)/\s.toks<=t) E) PySem.F.called_set.init.plain PySem.F.entry_set_init (check_set_init_1 hT ?_)) λp d H=>?_
   .let(ol,q,u,nl,y):=hl;let(o1,g,K,O):=ol;simp only at u y;subst u;subst y;let f:(s.heap.push$ bN w).get? l=δ { cls:=.type "list",dict:=g,data:=.seq I nl,slots:=O }:=Rr _ q;let ns:=PySem.F.sub_list_set;let nf:=PySem.F.sub_list_frozenset;let ne:(fr "list"==fr "dict")=ν:=by decide
    let j:(s.heap.push$ bN w).IsList l I:=#[_,f,Z,nl,Z];unfold bN at J hT f j ⊢;unfold dO.«set.__init__» noKeywords Builtin.Frozenset.updateFrom;generalize M:pyIter=PI;wp_walk;subst M;erw[UL j ?_];erw[Rp$ WS ?_];let z:l < -s:=Rz q;let h3:A.in1.in1.in1.handled=θ:=by simp [hh]
    let N:l≠(s.heap.push$ bN w).objs.size:=by rw[SA];rwa[RJ$ TZ z]
    let P:¬-s∈[(s.heap.push$ bN w).objs.size,l]:=by rw[SA];simp only[TC,R6,U7,not_or];exact#[RJ$ Ti _,SH z]
    let B:ο n=I.size:=by rw[_L.StrsAre.len hi,RX]
    refine JQ ((Walks.list h3 _ l N I).toS) (-s) P n B (λi v hv=>StrsAre.at' hi i v (by rw[Tk];exact hv)) C (I.size - 0) 0 _ [] PL (RE _)
     #[#[_,Ry _ Z,22],j.push _] (Y1$ Rr _ J) (λx=>by simp) (Rv _) λs' L m T U V=>?_
    let(a,g',d',W,X):=s';let eg:g'=s.gens:=m.gens;let ed:d'=s.drawn:=m.drawn;let eo:X=s.os:=m.os;subst eg;subst ed;subst eo;show π _ _ _ _ _ _;erw[Rt ?_];show π _ _ (ret β) _ _ _;erw[Rt #[Z,a,W,L,Z,T,U,V,λb o C e=>?_,m.toks]];let b1:b≠-s:=RJ C;let b2:b≠(s.heap.push$ bN w).objs.size:=by rw[SA];rwa[RJ$ TZ C]
    rwa[m.heap b o (by simp only[TC,R6,U7,not_or];exact#[b1,b2])$ Rr _$ Rr _ e]
   .cases p with
    |error e=>rwa[H]
    |ok k=>
     cases k with
     |ret r=>
      let(rfl,a,t,L,rfl,T,U,V,Y,q3):=H;repeat (any_goals (first |assumption |wp_step))
      rwa[h _ _ _ T U V Y q3]
     |_=>rwa[H.elim]
  |_=>rwa[D.elim]
end
section
variable {X:Cx}
def Jl(m:X.calm=μ):dS X (.type "set") (λg H Q=>∃(p:ζ) (S:xL ρ),g=[.ref p]/\aJ X.K H p (S.map vr)/\(∀L:xL ρ,L.Nodup->(∀x∈L,x∈S)->ο L+1 < scanBound)/\
  ∀l L,H l=θ->L.Nodup->(∀x,x∈L↔x∈S)->Q (.ref l) (af H l$ NB X.prog X.w l L)):=by
 intro P s B H g U Q I r h;let(p,S,rfl,n,t,q):=h;let(u,rfl,R):=fo r;cases R;let(i,v,y,C):=I.list n;let j:=qu v;let D:ο i=ο S:=(_L.StrsAre.len j).symm;erw[Ks (I.ok.hd m) y.isList (j:) t λc T L d z E k _=>?_];let a:L.Nodup:=by let(_,_,_,_,_,_,_,_,_,a,_):=d;rwa[a]
 let A:∀b o,s.heap.get? b=δ o->c.get? b=δ o:=λb o e=>k b o (Rz e) e;obtain⟨o,f⟩:∃o,c.get? (-s)=δ o:=let #[o,111,f,_]:=d;#[o,f]
 exact#[.ref (-s),_,I.laid A (Rv _) (show aU X.prog X.w _ c _ (NB X.prog X.w (-s) L) from #[d,#[o,f],λF G x e=>dF.at x e]),Z,q _ _ (I.hok.fresh$ Rv _) a z]
end
section
variable {X:Cx}{CX:ua}{k:Nat}{f C:ζ}{fd:bS}{ps:xL ρ}{sp:Sp}{dvs:xL V}{ds:xL η}{E:XK}{x m:ρ}{p pos apos:Pos}{e:dw}{es:xL dw}{t:TA}
structure wc(K:Ψ)(C:ζ)(m:ρ)(f:ζ):Prop where
 rd:PySem.W.readsIn K C (.type "type")=μ
 ga:specialIn K (.ref C) "__getattribute__"=δ (δ$ .builtin "type.__getattribute__")
 at_:PySem.W.findCls K (.ref C) (.type "type") m=δ (.val$ .ref f)
 kp:hG K (.ref f)=μ
def sh{pl:Sem Bool}(j:Gl X x)(l:X.mg x=↑C)(M:wc X.K C m f)(F:ai X.prog X.w X.K X.mg X.base CX k f fd ps sp)(n:cf k X.A)(q:aE X.K fd ps ds)(u:aF dvs ds)(v:eL CX X E)(y:PA X (e::es) t)
  (a:↥((x==("__debug__":ρ))=ν))
  (c:↥(Δ (e::es) X.env=(ν,eval e X.env)::Δ es X.env)) (d:↥((fy pos$ Δ es X.env).any (·.1)=ν))
  (z:↥(eval (.Call (.Attribute (.Name x p) m apos) (e::es) [] pos) X.env=(do
   let O <- eval (.Name x p) X.env
   standAt apos.atName
   let (f,first) <- mB [O] (getMethod O m pl)
   callWith pos f first (fy pos$ Δ (e::es) X.env) (backToKw pos$ keywordEach [] X.env)))):
  PE X (.Call (.Attribute (.Name x p) m apos) (e::es) [] pos) (fj sp dvs E t):=by
 intro P s g H Q I h;erw[Ve (pl:=pl) (ql I j l ?_ a) z];erw[PySem.W.method_cls I.kIn M.ga$ PySem.W.cls_value I.kIn M.rd M.at_ Z ?_];let B:ay X P g H { s with toks:=s.toks+1 }:=I.kept (h':=s.heap) λb o e=>e;erw[VY (h₀:=X.base) I.ok.mod.kin M.kp (a8 (y pos P _ g H _ B h) λU S #[G,J,i,r,D]=>#[i.kIn,?_]) c d];rwa[Xx F n q u v i r D]
end
abbrev gX(h:de)(z u v T:ζ)(f:Bool):Prop:=
 h.get? z=δ { cls:=.type "zip",dict:=θ,data:=.fields (ε [rawInt T,.bool f,.bool ν,.ref u,.ref v]),slots:=(ε []) }
section
#print v
def vY{Q:ym gs->ι->Prop}(h:Q (s.heap.get? a) s):π M A (loadIfAlive a) Q E s:=λ_ _ _=>h
def LI{Q:Bool->ι->Prop}(H:gX s.heap z u v T f)(a:∃o,s.heap.get? T=δ o)
  (q:∀h,gX h z u v T μ->oS z s.heap h->h.objs.size=-s->Q ν {h}):π (χ prog w) A (bx$ .ref z) Q E s:=by
 unfold bx;erw[Rp$ R4 H Z (x:=rawInt T) Z ?_];show π _ _ (loadIfAlive ((T:Int).toNat) >>= _) _ _ s;erw[Rp$ vY ?_];let(o,c):=a;rw[SE,c];simp only[Option.isNone_some,RO,Ta];erw[Rp$ R4 H Z (x:=.bool f) Z ?_];cases f with
 |true=>simp only[Th,RO,Ta];rwa[Rp$ Rt$ Rt$ q s.heap H (λb o _ e=>e) Z]
 |false=>rw[RB PM];erw[Rp$ Ud H PJ λh d S=>Rt (q h d S.extBut S.1)]
def D8{Q:ym η->ι->Prop}(D:BJ z u v c d a b)
  (g:gX s.heap z u v T f) (p:∃o,s.heap.get? T=δ o) (q:IsPair s.heap u (.ref c) (.ref d)) (r:iY B s.heap c a k) (t:iY l s.heap d b k) (G:mn B s.heap a C) (F:mn l s.heap b Y) (I:C[k]?=δ x) (J:Y[k]?=δ y)
  (L:∀h,gX h z u v T μ->iY B h c a (k+1)->iY l h d b (k+1)->IsPair h (-s) x y->h.objs.size=-s+1->
   (∀e o,e≠z->e≠c->e≠d->s.heap.get? e=δ o->h.get? e=δ o)->Q (δ$ .ref (-s)) {h}):π (χ prog w) A (pyNext$ .ref z) Q E s:=by
 let H:s.TypeIs (.ref z) "zip":=#[_,g,Z];unfold pyNext;erw[Rp$ Uy$ Sm (name:=Str.ofString "__next__") H S0$ Si S0 H Uw (show π _ _ (field (.ref z) 2 >>= _) _ _ _ from ?_)$ Up _];erw[Rp$ R4 g Z (x:=.bool ν) Z (show π _ _ (field (.ref z) 3 >>= _) _ _ _ from Rp$ R4 g Z (x:=.ref u) Z$ Rp$ SK q Z ?_)];erw[(show π _ _ (bx (.ref z) >>= _) _ _ _ from Rp$ LI g p λO P i n=>?_)];simp only[RO,Ta];erw[Rp ?_];simp only[List.forIn_toArray,T8,U1];erw[Rp$ Rp$ RY (show π _ _ (Ω (.ref c) >>= _) _ _ _ from ?_)];erw[Rp$ qv (s:={O}) (r.kp λo e=>i _ _ D.cz e) (G.kp λo e=>i _ _ D.az e) I λM R j=>Rt (Rt ?_)];erw[Rp$ Rp$ RY (show π _ _ (Ω (.ref d) >>= _) _ _ _ from ?_)];let K:∀e o,e≠z->e≠c->s.heap.get? e=δ o->M.get? e=δ o:=λe o n U w=>j.extBut _ _ U (i _ _ n w);erw[Rp$ qv (s:={M}) (t.kp λo e=>K _ _ D.dz D.cd.symm e) (F.kp λo e=>K _ _ D.bz D.bc e) J λm V S=>Rt (Rt$ Rt ?_)];show π _ _ (newTuple [x,y] >>= _) _ _ _;erw[Rp$ UM$ Rt #[12,Rt ?_]];let N:m.objs.size=-s:=by rw[S.1,j.1];rwa[n]
 let W:gX m z u v T μ:=S.extBut _ _ D.dz.symm (j.extBut _ _ D.cz.symm P);show Q (δ$ .ref m.objs.size) _;rw[N];erw[L _ (Rr _ W) (R.kp λo e=>Rr _ (S.extBut _ _ D.cd e)) (V.kp λo e=>Rr _ e) (by rw[<- N];rwa[Ry _ Z]) (by rw[SA,N]) λe o X a2 a3 w=>Rr _ (S.extBut _ _ a3$ K _ _ X a2 w)]
def IW{b2:Bool}{ys:Array η}{Q:ym η->ι->Prop}(j:A.handled=θ)(D:BJ z u v c d a b)
  (H:gX s.heap z u v T f) (l:∃o,s.heap.get? T=δ o) (m:IsPair s.heap u (.ref c) (.ref d)) (p:iY B s.heap c a k) (G:mn B s.heap a q) (r:q[k]?=θ)
  (t:∀i,(∀e o,e≠z->e≠c->e≠d->s.heap.get? e=δ o->i.get? e=δ o)->Q θ {i}):π (χ prog w) A (pyNext$ .ref z) Q E s:=by
 let h:s.TypeIs (.ref z) "zip":=#[_,H,Z];unfold pyNext;erw[Rp$ Uy$ Sm (name:=Str.ofString "__next__") h S0$ Si S0 h Uw (show π _ _ (field (.ref z) 2 >>= _) _ _ _ from ?_)$ Up _];erw[Rp$ R4 H Z (x:=.bool ν) Z (show π _ _ (field (.ref z) 3 >>= _) _ _ _ from Rp$ R4 H Z (x:=.ref u) Z$ Rp$ SK m Z ?_)];erw[(show π _ _ (bx (.ref z) >>= _) _ _ _ from Rp$ LI H l λM F g n=>?_)];simp only[RO,Ta];erw[Rp ?_];simp only[List.forIn_toArray,T8,U1];erw[Rp$ Rp$ RY (show π _ _ (Ω (.ref c) >>= _) _ _ _ from ?_)];erw[Rp$ Xo (s:={M}) (j:) (p.kp λo e=>g _ _ D.cz e) (G.kp λo e=>g _ _ D.az e) r λy e S C=>?_];rwa[Rp$ T6 (T:="StopIteration") (b:=μ) C VN$ Rt$ t y λe o n N I w=>S _ _ N (g _ _ n w)]
end
def J6:typeLookup (.type "zip") "__getattr__"=pure θ:=by rw[Tf,Sx];kernel_rfl
def Y4:typeLookup (.type "zip") "keys"=pure θ:=by rw[Tf,Sx];kernel_rfl
def Yb:entryFor table "zip.__getattribute__"=δ dO.«object.__getattribute__»:=
 VO (id':="object.__getattribute__") (by kernel_rfl) PH PH (by kernel_rfl)
def QG(a:ζ)(x:Array η)(S:Array (ym η))(u:Tok):
  Meets (dO.«object.__getattribute__» #[[.ref a,.str "keys" u],[]]) (λA R s=>s.heap.get? a=δ { cls:=.type "zip",dict:=θ,data:=.fields x,slots:=S }/\raisesAttr (.ref a) "keys" A R s):=
 Meets.of_wp λp w A R s H=>by
  let(c,g,d,t,os):=s;let(e,H):=H;let f:(#[c,g,d,t,os]:ι).TypeIs (.ref a) "zip":=#[_,e,Z];let b:=Y4;let h:(["__module__","__name__","__qualname__","__doc__","__annotations__"]:xL ρ).contains "keys"=ν:=PH
  unfold dO.«object.__getattribute__»;repeat (any_goals (first |assumption |wp_step))
  try simp only[h,RO,Ta]
  repeat (any_goals (first |assumption |wp_step))
  rwa[wpAny_raiseAttrError H.1 H.2$ attrMsg_fits PH (by size_fits)]
section
#print v
def CG{Q:ym η->ι->Prop}(f:s.heap.get? a=δ { cls:=.type "zip",dict:=θ,data:=.fields x,slots:=j })(k:A.handled=θ)
  (h:∀c T,(∀b o,s.heap.get? b=δ o->c.get? b=δ o)->Q θ { s with heap:=c,toks:=T }):π (χ prog w) A (getAttr? (.ref a) "keys") Q E s:=by
 let(l,g,d,T,os):=s;let i:∀t,(#[l,g,d,t,os]:ι).TypeIs (.ref a) "zip":=λ_=>#[_,f,Z];let m:=sub_AttributeError;let n:=mu.lookup;let p:=mu.bind (.ref a);let q:=J6;unfold getAttr? getAttrBy? getAttrBy;repeat (any_goals (first |assumption |exact i _ | ((with_reducible show π _ _ (call (Value.builtin "zip.__getattribute__") _ _) _ _ _);erw[VX mu (i _) Yb (PySem.F.args_zip_getattribute_2 _ _) (QG a x j _) #[f,by simpa using k,λc t e H=>?_]]) |wp_step))
 let(r,u,v):=H.there;show π _ _ (getattributeRaised _ _ _ _ _ _ _) _ _ _;unfold getattributeRaised;repeat (any_goals (first |assumption |wp_step))
 rwa[h _ _ H.keeps]
def Fq(h:de)(z u v c d a b Dd:ζ)(x y:Array η)(i:Nat):Prop:=
 ((IsZip h z u v .none/\∃p q,IsPair h v p q)∨∃T f o,gX h z u v T f/\h.get? T=δ o/\T≠z/\T≠c/\T≠d/\T≠Dd)/\IsPair h u (.ref c) (.ref d)/\iY ν h c a i/\iY ν h d b i/\mn ν h a x/\mn ν h b y
def Eb{Dd:ζ}{Q:ym η->ι->Prop}(D:BJ z u v c d a b)(l:Dd < -s)(S:Fq s.heap z u v c d a b Dd J Y k)(L:J[k]?=δ x)(M:Y[k]?=δ y)
  (N:∀h,Fq h z u v c d a b Dd J Y (k+1)->IsPair h (-s) x y->h.objs.size=-s+1->(∀e o,e≠z->e≠v->e≠c->e≠d->s.heap.get? e=δ o->h.get? e=δ o)->Q (δ$ .ref (-s)) {h}):π (χ prog w) A (pyNext$ .ref z) Q E s:=by
 let(H,g,j,m,G,i):=S;let(oc,n,_):=j.ob;let(od,r,_):=m.ob;rcases H with ⟨H,p,q,U⟩ | ⟨T,f,o,H,O,t,P,R,V⟩
 .erw[D9 D H g U j m G i L M λh B v1 I C t F K=>N h #[.inr #[-s,ν,_,B,t,SH$ Rz H,SH$ Rz n,SH$ Rz r,SH l],K _ _ D.uz D.uv D.uc D.ud g,I,C,G.kp λo e=>K _ _ D.az D.av D.ac D.ad e,i.kp λo e=>K _ _ D.bz D.bv D.bc D.bd e] t F K]
 .erw[D8 D H #[o,O] g j m G i L M λh B I C W F K=>N h #[.inr #[T,μ,o,B,K _ _ t P R O,t,P,R,V],K _ _ D.uz D.uc D.ud g,I,C,G.kp λo e=>K _ _ D.az D.ac D.ad e,i.kp λo e=>K _ _ D.bz D.bc D.bd e] W F λe o X n2 n3 n4 w=>K e o X n3 n4 w]
def IZ{Dd:ζ}{Q:ym η->ι->Prop}(g:A.handled=θ)(D:BJ z u v c d a b)(n:Fq s.heap z u v c d a b Dd x ys k)(i:x[k]?=θ)
  (j:∀H,(∀e o,e≠z->e≠v->e≠c->e≠d->s.heap.get? e=δ o->H.get? e=δ o)->Q θ {H}):π (χ prog w) A (pyNext$ .ref z) Q E s:=by
 let(h,l,m,B,G,C):=n;rcases h with ⟨h,p,q,F⟩ | ⟨T,f,o,h,r,I,J,L,M⟩
 .rwa[IX (b2:=ν) (p:=p) (q:=q) (ys:=ys) g D h l m G i j]
 .rwa[IW (b2:=ν) (ys:=ys) g D h #[o,r] l m G i λH K=>j H λe o N O t y w=>K e o N t y w]
structure NQ(D z u v c d a b:ζ):Prop where
 z:D≠z
 u:D≠u
 v:D≠v
 c:D≠c
 d:D≠d
 a:D≠a
 b:D≠b
def Fq.keep{h j:de}{Dd:ζ}(F:NQ Dd z u v c d a b)(k:∀e o,e≠Dd->h.get? e=δ o->j.get? e=δ o)(st:Fq h z u v c d a b Dd x y i):Fq j z u v c d a b Dd x y i:=by
 let(H,l,m,n,G,r):=st;erw[#[?_,k _ _ F.u.symm l,m.kp λo e=>k _ _ F.c.symm e,n.kp λo e=>k _ _ F.d.symm e,G.kp λo e=>k _ _ F.a.symm e,r.kp λo e=>k _ _ F.b.symm e]];rcases H with ⟨H,p,q,B⟩ | ⟨T,f,o,H,g,C,D,I,t⟩
 .rwa[.inl #[k _ _ F.z.symm H,p,q,k _ _ F.v.symm B]]
 .rwa[.inr #[T,f,o,k _ _ F.z.symm H,k _ _ t g,C,D,I,t]]
def QH{K:Type}[DecidableEq K]{knd:KeyKind prog w K}{R:Result->ι->Prop}{Dd:ζ}{x:Array η}(X:A.handled=θ)(D:BJ z u v c d a b)(F:NQ Dd z u v c d a b)(m:xL (K×η))(Y:ο m=x.size)(h0:x.size<=υ)
  (hP:∀(i:Nat),i < x.size->∃f V k,x[i]?=δ f/\ys[i]?=δ V/\knd.is k f=μ/\m[i]?=δ (k,V)):
  ∀(j i:Nat) (s:ι) (n:Int),x.size - i=j->i<=x.size->Fq s.heap z u v c d a b Dd x ys i->s.heap.DictOf knd Dd (merged []$ m.take i)->
   (∀h T,(∀e o,e≠Dd->e≠z->e≠v->e≠c->e≠d->s.heap.get? e=δ o->h.get? e=δ o)->h.DictOf knd Dd (merged [] m)->R (.ok$ .ret .none) { s with heap:=h,toks:=T })->
   lq (χ prog w) A (.builtin "dict.update.loop" #[[.ref Dd,.ref z,.int n 0,.none],[]]) R s:=by
 intro j;induction j with
 |zero=>
  intro i s n hj hi st q C;let e:i=x.size:=PL
  subst e;erw[Tg Kk ?_];rw[SJ zX];show π _ A.in1 (pyNext (.ref z) >>= _) _ _ s;erw[Rp$ IZ (X:) D st PJ λh g=>?_];show π _ A.in1 (Builtin.Dict.addKeywords Dd [] >>= λ_=>ret β) _ _ {h};erw[Rp ?_];unfold Builtin.Dict.addKeywords;erw[Rt$ Rt$ C h s.toks (λe o _ N t y B w=>g e o N t y B w) ?_];rw[<- Y,Su]at q;let(o,es,ep,ho,r):=q;exact#[o,es,ep,g _ _ F.z F.v F.c F.d ho,r]
 |succ j ih=>
  intro i s n hj hi st q C;let M:i < x.size:=PL
  let(f,V,k,hx,hy,O,hm):=hP i M;erw[Tg Kk ?_];rw[SJ zX];show π _ A.in1 (pyNext (.ref z) >>= _) _ _ s;let(oD,G,I,H,rD):=id q;let L:Dd < -s:=Rz H;erw[Rp$ Eb D L st hx hy λl S P N g=>?_];let hb:Shared.TypeIs {l} (.ref (-s)) "tuple":=#[_,P,Z];let J:l.DictOf knd Dd (merged []$ m.take i):=#[oD,G,I,g _ _ F.z F.v F.c F.d H,rD];dsimp only;erw[Rp$ RY ?_];erw[Rp$ wpAny_tryCatch ?_];unfold Builtin.Dict.pairItems;erw[Rp$ TK hb ?_];rw[RB PM];erw[Rp$ SK P Z$ Rt ?_];show π _ A.in1 (mB [f,V]$ dictSet Dd f V) _ _ {l};unfold dictSet;erw[RY$ RY$ Rp$ knd.pyHash O ?_];let Q:(merged ([]:xL (K×η))$ m.take i).length<=i:=by let:=merged_length_le ([]:xL (K×η)) (m.take i);rw[R0]at this;simp only[V2]at this;omega
  erw[wpAny_dictSetHashed_pairs (s:={ s with heap:=l,toks:=s.toks+1 }) O J (λh p sb=>?_) PL];rw[<- merged_take_succ [] m i (k,V) hm]at p;let U:∀e o,e≠Dd->l.get? e=δ o->h.get? e=δ o:=λe o ne w=>(sb.2 e ne).trans w;erw[Rt #[T4 zX _,ih (i+1) _ (n+1) PL M (S.keep F U) p λh2 T k2 d2=>C h2 T (λe o W N t y B w=>k2 e o W N t y B (U _ _ W$ g e o N t y B w)) d2]]
def QV{K:Type}[DecidableEq K]{knd:KeyKind prog w K}{more:xL (K×η)}{Q:η->ι->Prop}(N:A.handled=θ)(D:BJ z u v c d a b)
  (j:IsZip s.heap z u v .none) (P:IsPair s.heap u (.ref c) (.ref d)) (m:∃p q,IsPair s.heap v p q) (U:iY ν s.heap c a 0) (V:iY ν s.heap d b 0) (W:mn ν s.heap a x) (X:mn ν s.heap b ys)
  (hn:ο more=x.size) (n:x.size<=υ) (hP:∀(i:Nat),i < x.size->∃Y vu k,x[i]?=δ Y/\ys[i]?=δ vu/\knd.is k Y=μ/\more[i]?=δ (k,vu))
  (h:∀l t,l.DictOf knd (-s) (merged [] more)->(∀e o,e≠z->e≠v->e≠c->e≠d->s.heap.get? e=δ o->l.get? e=δ o)->Q (.ref (-s)) { s with heap:=l,toks:=t }):
  π (χ prog w) A (call (.type "dict") [.ref z]) Q E s:=by
 erw[callType_codes (Q₁:=λO S=>O= .ref (-s)/\S={s.heap.push { cls:=.type "dict",data:=.dict (ε []) }}) PySem.F.kt_called_dict (PySem.F.kt_typeCall_dict_1 _) PySem.F.entry_dict_init (kt_code_dict_new _ #[22]) ?_];rintro O S ⟨rfl,rfl⟩;let f:(s.heap.push { cls:=.type "dict",data:=.dict (ε []) }).DictOf knd (-s) []:=WR s.heap;erw[#[f.typeIs,PySem.F.args_dict_init_2 _ _,?_]];unfold dO.«dict.__init__»;erw[Rp ?_];unfold Builtin.Dict.selfAndRest;erw[Rp$ wpAny_notOrdered_dict f.typeIs ?_];show π _ _ (pure (-s,[Θ z])) _ _ _;erw[Rt ?_];show π _ _ (Builtin.Dict.updateFrom "dict.__init__" (-s) (.ref z) [] .none) _ _ _;unfold Builtin.Dict.updateFrom;generalize hH:s.heap.push { cls:=.type "dict",data:=.dict (ε []) }=H at f ⊢;let G:∀b o,s.heap.get? b=δ o->H.get? b=δ o:=λb o e=>by rw[<- hH];rwa[Rr _ e]
 erw[Rp$ TK #[_,G _ _ j,Z] ?_];rw[RB PM];erw[Rp$ CG (s:={H}) (G _ _ j) (N:) λM t k1=>?_];simp only[Option.isNone_none,UX];erw[Rp$ TR ?_];let g:∀b o,s.heap.get? b=δ o->M.get? b=δ o:=λb o e=>k1 _ _ (G _ _ e);erw[Rp$ wpAny_pyIter_zip (s:={ s with heap:=M,toks:=t }) (g _ _ j) ?_];let(oD,eD,y,B,rD):=f;let(p,q,m):=m;let(oc,C,_):=U.ob;let(od,I,_):=V.ob;let(oa,J,_):=id W;let(ob,L,_):=id X;let F:NQ (-s) z u v c d a b:=#[SH$ Rz j,SH$ Rz P,SH$ Rz m,SH$ Rz C,SH$ Rz I,SH$ Rz J,SH$ Rz L];refine Rt #[T4 zX _,Ue (QH (knd:=knd) (A:=A.in1) (R:=λr s'=>r= .ok (.ret .none)/\Q (.ref (-s)) s') (N:) D F more hn n hP x.size 0 { s with heap:=M,toks:=t } 0 Z (RE _)
  #[.inl #[g _ _ j,p,q,g _ _ m],g _ _ P,U.kp λo e=>g _ _ e,V.kp λo e=>g _ _ e,W.kp λo e=>g _ _ e,X.kp λo e=>g _ _ e] #[oD,eD,y,k1 _ _ B,rD] λl T k2 d2=>#[Z,?_]) λr s' q=>?_]
 .rwa[h l T d2 λe o n1 n2 n3 n4 w=>k2 e o (RJ$ Rz w) n1 n2 n3 n4 (g _ _ w)]
 .let(rfl,q):=q;exact#[Z,q]
end
section
variable {X:Cx}{e1 e2:dw}{ta:TA}{p p2 pos pos2:Pos}
inductive Nh(K:Ψ)(Q:VK)(e:xL V)(c:Hp):Prop
 |mk(a b:ζ)(d:xL bY)(f:xL V)(_:e=[.ref a,.ref b])(_:aC K c a (d.map kV))(_:aC K c b f)(_:ο d=ο f)(_:∀l,c l=θ->Q (.ref l) (af c l (.dK (dW [] (d.zip f)))))
def Pm(K:Ψ)(ta:TA):TE:=λa H Q=>ta a H (Nh K Q)
theorem rP{P:ω}{w:bF}:∀{K:xL bY} {U:xL η},aF (K.map kV) U->∀(i:Nat) (k:bY),K[i]?=δ k->∃u,U[i]?=δ u/\(be P w).is k u=μ
 | [],_,_,i,k,h=>by simp at h
 |k0::K,_,.cons (b:=u) h t,0,k,e=>by
  let E:k0=k:=by simpa using e
  subst E;exact#[u,Z,KK h]
 |k0::K,_,.cons h t,i+1,k,e=>by simpa using rP (P:=P) (w:=w) t i k (e:)
theorem xR:∀{K:xL bY} {y:xL V} {u:xL η},aF y u->KV (K.zip y) (K.zip u)
 | [],_,_,_=>by simp only[List.zip_nil_left];rwa[.nil]
 |_::_,_,_,.nil=>by simp only[List.zip_nil_right];rwa[.nil]
 |k::K,_,_,.cons h t=>.cons #[Z,h] (xR t)
def si(m:Gl X "dict")(n:X.mg "dict"=θ)(t:Gl X "zip")(v:X.mg "zip"=θ)(N:X.calm=μ)(O:PA X [e1,e2] ta)
  (T:↥(Δ [e1,e2] X.env=(ν,eval e1 X.env)::Δ [e2] X.env)) (U:↥((fy pos2$ Δ [e2] X.env).any (·.1)=ν))
  (f:↥(Δ [Expr.Call (.Name "zip" p2) [e1,e2] [] pos2] X.env=(ν,eval (.Call (.Name "zip" p2) [e1,e2] [] pos2) X.env)::Δ [] X.env)) (x:↥((fy pos$ Δ [] X.env).any (·.1)=ν)):
  PE X (.Call (.Name "dict" p) [.Call (.Name "zip" p2) [e1,e2] [] pos2] [] pos) (Pm X.K ta):=by
 intro P s V H Q I h;erw[SO$ zN I m n PyProof.Rows.boot_dict ?_];erw[Sr ?_ f x];rw[f];show π _ _ (spliced ((ν,eval _ X.env)::fy pos (Δ [] X.env))) _ _ s;erw[TH ?_];erw[SO$ zN I t v PyProof.Rows.boot_zip ?_];erw[Sr (a8 (O pos2 P s V H _ I h) λus S z=>?_) T U];let(vs,H1,d,W,Y):=z;let(a,b,c,ys,e,gx,gy,hl,q):=Y;subst e;cases W with
 |cons r rr=>
  cases rr with
  |cons r' y=>
   cases y;cases r;cases r';let(A,F,G,z1):=d.tuple gx;let(j,R,C,z2):=d.tuple gy;let l1:=F.length;let l2:=R.length;rw[Rs]at l1 z1;let la:a < -S:=by let(o,D,_):=G;rwa[Rz D]
   let lb:b < -S:=by let(o,D,_):=C;rwa[Rz D]
   erw[IY (b1:=ν) (b2:=ν) (xs:=A.toArray) (ys:=j.toArray) G C λE J u' v' i1 i2 k=>?_];erw[Uc ?_];let Dz:=Ea (-S) a b la lb;erw[QV (s:={ S with heap:=E }) (knd:=be X.prog X.w) (more:=c.zip j) (d.ok.hd N) Dz J u' #[11,v'] i1 i2 (mn.kp (b:=ν) G λo e=>k _ _ e) (mn.kp (b:=ν) C λo e=>k _ _ e) (by rw[V1,Rx];omega) (by rw[Rx];omega) (λi hi=>?_) λh2 tk dd k2=>?_]
   .rw[Rx]at hi;let L:i < ο c:=by omega
    let M:i < ο j:=PL
    let(u,hu,ku):=rP F i _ (Rq L);erw[#[u,j[i],c[i],by simpa using hu,by simp [M],ku,?_]];rw[Wo];exact#[Rq L,Rq M]
   .let g:KV (dW []$ c.zip ys) (merged []$ c.zip j):=KV.merge (xR R) .nil;let zl:(dW []$ c.zip ys).length<=υ:=by rw[g.length];let:=merged_length_le ([]:xL (bY×η)) (c.zip j);rw[V1]at this;simp only[V2]at this;omega
    let k3:∀e o,S.heap.get? e=δ o->h2.get? e=δ o:=λe o w=>by let l:=Rz w;rwa[k2 e o (RJ$ RQ l$ Uk _ _) (RJ$ RQ l$ Uk _ _) (RJ l) (RJ$ RQ l$ Uk _ _)$ k _ _ w]
    let B:-S<=E.objs.size:=T3 (Tc (Uk _ 4)$ Rz J);exact#[.ref E.objs.size,_,d.laid k3 B$ Xy zl (beq_eq_false_iff_ne.mpr$ Sc$ RJ$ RQ d.big B) g dd,Z,q _$ d.hok.fresh B]
end
section
variable {X:Cx}{st:cc}{ss:xL cc}{e:dw}{es:xL dw}
def Pl:TS:=λ_ _ _=>False
def yN:oe X ss Pl:=λ_ _ _ _ _ _ h=>False.elim h
end
end _L
namespace _L
open PySem PySem.Spec PyProof.Rows PySem.SeqAt
inductive MP(K:Ψ)(x y:V)(H:Hp)(Q:VK):Prop
 |mk(a b d e:_)(_:x= .ref a)(_:y= .ref b)(_:aC K H a d)(_:aC K H b e)(_:(d.all dJ=μ/\e.all dJ=μ/\Q (.bl (wV d e)) H)∨∃(w:ρ) (c:ζ) (zs:xL V) (u:ρ) (i:Int),d=[.str w,.ref c]/\aC K H c zs/\e=[.str u,.int i]/\Q (.bl ν) H)
def Hs{X:Cx}(d:X.A.units+1 < cLine):gf X (compareOp .Eq) (MP X.K):=by
 intro p s m H x y v U Q I f g h;obtain⟨a,b,n,Y,rfl,rfl,k,l,h | ⟨w,c,M,u,i,rfl,o,rfl,q⟩⟩:=h
 .rwa[Hr (Uf d) p s m H _ _ v U Q I f g #[a,b,n,Y,22,k,l,h.1,h.2.1,h.2.2]]
 cases f;cases g;let(N,r,P,_):=I.tuple k;let(O,R,t,_):=I.tuple l;let(S,V,z,_):=I.tuple o;cases r with
 |cons B r=>
  cases r with
  |cons C r=>
   cases r;cases R with
   |cons D R=>
    cases R with
    |cons E R=>
     cases R;let(T,rfl):=B;cases C;let(F,rfl):=D;let(G,rfl):=E;erw[eq_tupleAt (e:=λj=>if j=0 then w==u else ν) (show s.heap.IsTuple a _ from P) (show s.heap.IsTuple b _ from t) (Uf d) (λj J L=>?_) ?_]
     .match j,J,L with
      |0,_,_=>rwa[EqAt.str_str w T u F]
      |1,_,_=>rwa[EqAt.tuple_int i G (show s.heap.IsTuple c _ from z) (by simpa [Around.in1,Around.units] using d)]
     .let e:((dr$ min 2 2).all (λj=>if j=0 then w==u else ν)&&(2:Nat)==2)=ν:=by show((if 0=0 then w==u else ν)&&((if 1=0 then w==u else ν)&&μ)&&μ)=ν;simp
      exact#[.bl ν,H,I,SM nz e,q]
end _L
namespace _L
open PySem PySem.Spec PyProof.Rows
def Y5(l:ζ)(i:Array η)(n:Nat)(D:ym ζ)(S:Array (ym η)):
  Meets (dO.«enumerate.__new__» #[[.type "enumerate",.ref l],[]]) (λ_ R s=>s.heap.get? l=δ { cls:=.type "tuple",dict:=D,data:=.seq i n,slots:=S }/\
   R (.ok$ .ret$ .ref (s.heap.push { cls:=.type "tuple_iterator",data:=.fields (ε [.ref l,.int 0 0]) }).objs.size)
    {(s.heap.push { cls:=.type "tuple_iterator",data:=.fields (ε [.ref l,.int 0 0]) }).push { cls:=.type "enumerate",data:=.fields (ε [.none,.bool ν,.ref (-s),rawInt 0,.none,.none]) }}):=
 .of_wp λp w A R s h=>by
  let(e,g,d,t,os):=s;let(H,h):=h;let b:=sub_enumerate;let a:Heap.IsTuple (Shared.heap #[e,g,d,t,os]) l i:=#[_,H,Z,n,Z];wp_walk using Tn H;erw[wpAny_stack_any λst=>Rt ?_];split
  .rename_i c _ _ _ _ _
   cases (c==fr "enumerate")
   .wp_walk using Tn H,UD a;exact#[12,h]
   .wp_walk using Tn H,UD a;exact#[12,h]
  .wp_walk using Tn H,UD a;exact#[12,h]
section
#print v
def ZM{Q:η->ι->Prop}(j:s.heap.IsTuple l i)
  (h:∀H,IsEnum H (-s+1) (-s) 0 .none->H.IsTupleIter (-s) l 0->(∀b o,s.heap.get? b=δ o->H.get? b=δ o)->Q (.ref$ -s+1) {H}):
  π (χ prog w) A (call (.type "enumerate") [.ref l]) Q E s:=by
 obtain⟨⟨c,d,D,S⟩,k,a,n,e⟩:=j;replace a:c= .type "tuple":=a;replace e:D= .seq i n:=e;subst a e;erw[callType_new PySem.F.called_enumerate PM (PySem.F.typeCall_enumerate_1 _) (PySem.F.newCall_enumerate_1 _) (λO=>UT O _) PySem.F.entry_enumerate_new (Y5 l i n d S) #[k,?_]];let f:(s.heap.push { cls:=.type "tuple_iterator",data:=.fields (ε [.ref l,.int 0 0]) }).objs.size=-s+1:=SA ..;show _/\_;rw[f];let g:IsEnum ((s.heap.push { cls:=.type "tuple_iterator",data:=.fields (ε [.ref l,.int 0 0]) }).push { cls:=.type "enumerate",data:=.fields (ε [.none,.bool ν,.ref (-s),rawInt 0,.none,.none]) }) (-s+1) (-s) 0 .none:=by let:=Ry (s.heap.push { cls:=.type "tuple_iterator",data:=.fields (ε [.ref l,.int 0 0]) }) (o:={ cls:=.type "enumerate",data:=.fields (ε [.none,.bool ν,.ref (-s),rawInt 0,.none,.none]) }) Z;rw[f]at this;rwa[this]
 exact#[#[_,g,Z],h _ g #[_,Rr _$ Ry _ Z,22] λb o x=>Rr _ (Rr _ x)]
def Bl{c:Type}{Q:c->ι->Prop}(d:A.handled=θ)
  (h:∀H (e:ζ),(∀b o,s.heap.get? b=δ o->H.get? b=δ o)->Shared.TypeIs {H} (.ref e) "StopIteration"->E (.ref e) {H}):
  π (χ prog w) A (do raiseNew (<- newExc (.type "StopIteration") []):Sem c) Q E s:=by
 erw[Rp ?_];simp only[newExc,newTuple];erw[Rp$ So ?_ (by size_fits)];erw[Rp (m:=firstArgMember _ _)$ Vm (a:=β) ?_ ?_]
 .first |rfl | (simp only[firstArgMember];rfl)
 erw[So ?_ (by size_fits)];simp only[raiseNew];erw[Rp$ wpAny_handled ?_];rw[d];erw[Rp$ Rt$ wpAny_throw$ h _ _ (λb o e=>Rr _ (Rr _ e)) ?_];exact#[_,Ry _ Z,Z]
def Qt{J T:ζ}{i:Nat}{I:Array η}{Q:η->ι->Prop}(g:A.handled=θ)(H:s.heap.IsTupleIter J T i)(j:s.heap.IsTuple T I)(l:I[i]?=θ)
  (q:∀h (e:ζ),oS J s.heap h->Shared.TypeIs {h} (.ref e) "StopIteration"->E (.ref e) {h}):π (χ prog w) A (Ω$ .ref J) Q E s:=by
 let(o,a,p,c):=id H;let(O,d,_,N,f):=j;unfold Ω;erw[Rp$ Sm (name:=Str.ofString "__next__") H.typeIs SV$ Si SV H.typeIs Us (show π _ _ (field (.ref J) 0 >>= _) _ _ s from ?_)$ Um _];erw[Rp$ R4 a c (x:=.ref T) Z (show π _ _ (if (Θ T==β)=μ then _ else _) _ _ s from ?_)];rw[RD (show ¬((Θ T==β)=μ) from RI)];erw[(show π _ _ (field (.ref J) 1 >>= _) _ _ s from Rp$ R4 a c (x:=.int i 0) Z (show π _ _ (seqItems? (.ref T) >>= _) _ _ s from Rp$ SK d f ?_))];simp only[SE,l];erw[Rp$ TR$ Rp$ SG a c PJ ?_];erw[Bl (g:) λh e k t=>q h e (λb o m n=>k b o ?_) t];exact(RV _ _$ Sc m).trans n
def uC(m:A.handled=θ)(a l:ζ)(d:l≠a)(I:Array η):
  Draws prog w A a [a,l] I.size (λi v=>I[i]?=δ v) (λi h=>h.IsTupleIter a l i/\h.IsTuple l I) where
 live:=λ_ _ st=>let #[o,H,_]:=st.1;#[o,H]
 frame:=λ_ _ _ st g=>#[st.1.at λo e=>g a PJ o e,let #[o,H,r]:=st.2;#[o,g l PJ o H,r]]
 item:=λi s Q E j st n=>Qs st.1 st.2 (x:=I[i]) (by simp [j]) λf b c=>n _ f s.toks (by simp [j]) #[b,let #[o,H,r]:=st.2;#[o,c.extBut l o d H,r]] c
 done:=λs Q E st p=>Qt m st.1 st.2 PJ λf e k t=>p f e k t
def ZN(c:A.handled=θ)(a l:ζ)(I:Array η)(i:Nat)(d:I[i]?=θ):
  Draws prog w A a [a,l] i (λ_ _=>True) (λj h=>j=i/\h.IsTupleIter a l i/\h.IsTuple l I) where
 live:=λ_ _ st=>let #[o,H,_]:=st.2.1;#[o,H]
 frame:=λ_ _ _ st b=>#[st.1,st.2.1.at λo e=>b a PJ o e,let #[o,H,r]:=st.2.2;#[o,b l PJ o H,r]]
 item:=λj s Q E f st n=>absurd st.1 (RJ f)
 done:=λs Q E st g=>Qt c st.2.1 st.2.2 d λm e k t=>g m e k t
end
def Fj(K:Ψ)(a:ζ):It:=
 #[λi H=>∃X x,aC K H a X/\X[i]?=δ x,λi H x h=>∃p v,x= .ref p/\H p=θ/\h=af H p (.tup [.int i,v])/\∀X,aC K H a X->X[i]?=δ v,λi H=>∃X,aC K H a X/\ο X<=i]
def ZO{P:ω}{K:Ψ}(a e g:ζ)(r:e≠g):pF P w K (.Tuple e0 kx tp) (Fj K a) [e,g] e (λi h=>(∃O,IsEnum h e g i O)/\h.IsTupleIter g a i) where
 mem:=by simp
 obj:=λi h st b hb=>by
  obtain⟨⟨O,j⟩,⟨o,ei,c,d⟩⟩:=st;rcases Ξ.mp hb with rfl |hb
  .exact#[_,j,λv z=>by cases (show Data.fields _=Data.cell v from z)]
  .let q:b=g:=by simpa using hb
   subst q;exact#[o,ei,λv z=>by rw[d]at z;cases z]
 keep:=λi h A st k=>#[let #[O,j]:=st.1;#[O,k e PJ _ j],st.2.at λo q=>k g PJ o q]
 item:=by
  intro X Q S T U i f s J H E I L st W;subst Q S T;obtain⟨⟨O,j⟩,l⟩:=st;let(xs,x,M,N):=W;let(m,R,p,hz):=I.tuple M;let(u,hu,ru):=R.get N;let Y:e < -s:=Rz j;let l0:g < -s:=by let(_,q,_):=l;rwa[Rz q]
  let h0:a≠g:=λz=>by rw[z]at p;let(o1,e1,c1,_):=l;let(o2,B,c2,_):=p;rw[e1]at B;cases B;rwa[absurd (c1.symm.trans c2) PM]
  let h1:e∉[g,a]:=λz=>by
   rcases Ξ.mp z with z |z
   .rwa[r z]
   .rw[τ.mp z]at j;let(o2,B,c2,_):=p;unfold IsEnum at j;rw[j]at B;cases B;rwa[absurd (show fr "enumerate"=fr "tuple" from c2) PM]
  erw[wpAny_pyNext_enum_itemD (uC (I.ok.hd U:) g a h0 m.toArray) j #[l,p] (by let:=R.length;let:=(ξ.mp N).1;simp;omega) r h1 λx' A t C ho y hT h4 hk=>#[12,?_]];let D:=y.1;let ex:u=x':=by
   let h2:m.toArray[i]?=δ u:=by simpa using hu
   rw[h2]at C;rwa[Ss C]
  subst ex;let hn:H (-s)=θ:=I.hok.fresh (Rv _);let I1:ay X f J H { s with heap:=A,toks:=t+1 }:=I.turnedN L λb o hb q=>hk b o (λz=>hb (by simp [z])) (λz=>hb (by simp [z])) q;let r2:aF [xb i,x] [ic i t,u]:=.cons #[12] (.cons ru .nil);let I2:ay X f J (af H (-s)$ .tup [.int i,x]) { s with heap:=A,toks:=t+1 }:=
   I1.track (I.fpOk (Rv _) hn) I.sz #[by show 2<=υ;decide,_,r2,_,hT,212]
  let F:∀b∈[e,g],iq X f (af H (-s)$ .tup [.int i,x]) b:=λb hb=>by
   let(f0,f1):=L b hb;erw[#[?_,f1]];rw[ji]
   .rwa[f0]
   .rcases Ξ.mp hb with rfl |hb
    .rwa[RJ Y]
    .let q:b=g:=by simpa using hb
     subst q;rwa[RJ l0]
  erw[wpAny_letOwnedTupleGo_enum (s:={ s with heap:=A,toks:=t+1 }) ho λG h3 n=>?_];replace n:fx e A G:=n;let I3:ay X f J (af H (-s)$ .tup [.int i,x]) { s with heap:=G,toks:=t+1 }:=I2.turnedN F λb o hb q=>(n.2 b λz=>hb (by simp [z])).trans q;erw[#[.ref (-s),_,I3,Z,#[_,x,Z,hn,Z,λys hy=>by rw[I.tuple_inj hy M];rwa[N]],#[#[u,by simpa using h3],D.at λo q=>(n.2 g r.symm).trans q],λb hb=>(F b hb).1]]
 done:=by intro X Q S T U i f s J H E I L st W;subst Q S T;obtain⟨⟨O,j⟩,l⟩:=st;let(xs,M,N):=W;let(m,R,p,hz):=I.tuple M;let hl:=R.length;erw[wpAny_pyNext_enum_endD (ZN (I.ok.hd U:) g a m.toArray i (by simp;omega)) j #[Z,l,p] λA eb=>#[Z,?_]];rwa[I.turnedN (t':=s.toks) L λb o hb q=>eb b o (λz=>hb (by simp [z])) q]
 self:=λ_ _ _ _ _ st h=>by obtain⟨⟨O,j⟩,_⟩:=st;rwa[wpAny_pyIter_enum j h]
section
variable {X:Cx}{elts:xL dw}{kx:Nat}{tp:Pos}
inductive rJ(K:Ψ)(R:It->Hp->Prop)(c:xL V)(b:Hp):Prop
 |mk(a:_)(_:c=[.ref a])(_:∃xs,aC K b a xs)(_:R (Fj K a) b)
def Gb(K:Ψ)(t:TA):TI:=λa H R=>t a H (rJ K R)
def Qb(g:Gl X "enumerate")(j:X.mg "enumerate"=θ)(k:PA X [a] t)(m:↥(Δ [a] X.env=[(ν,eval a X.env)])):PI X (.Tuple elts kx tp) (.Call (.Name "enumerate" p) [a] [] c) (Gb X.K t):=by
 intro P s n H R I h;erw[Call_$ zN I g j PyProof.Rows.boot_enumerate$ Sr (a8 (k c P s n H _ I h) λU S z=>?_) m Z];let(V,o,i,u,Q):=z;obtain⟨l,e,⟨A,v⟩,q⟩:=Q;subst e;cases u with
 |cons r w=>
  cases w;cases r;let(x,B,p,C):=i.tuple v;erw[ZM p λD f d y=>?_];erw[wpAny_pyIter_enum f ?_];erw[#[-S+1,[-S+1,-S],11,o,Z,i.kept (t':=S.toks) y,ZO l _ _$ SH$ Ti _,#[#[_,f],d],λb hb=>?_,q]];rcases Ξ.mp hb with rfl |hb
  .rwa[i.fpOk (Tb _)$ i.hok.fresh$ Tb _]
  .let e:b=-S:=by simpa using hb
   subst e;rwa[i.fpOk (Rv _)$ i.hok.fresh$ Rv _]
end
def Jm{K:Ψ}{xs:xL V}{g:TG}{t:TS}{D:bp}(Pv:Nat->St->Hp->Prop)(j:Pv 0 b H)(k:∀i b H,i<=ο xs->Pv i b H->aC K H a xs)
  (l:∀E:bp,E.rt=D.rt->∀i x p b H,xs[i]?=δ x->H p=θ->(∀c e,Pv (i+1) c e->E.nx c e)->∀G:Prop,((g (.ref p) b (af H p$ .tup [.int i,x]) λf n=>t E f n)->G)->Pv i b H->G) (o:∀b H,Pv xs.length b H->D.nx b H):uh (Fj K a) g t D b H:=by
 erw[#[λi m b H=>m=ο xs - i/\i<=ο xs/\Pv i b H,#[xs.length,PJ,RE _,j],?_]];rintro i m b H ⟨rfl,s,p⟩;let q:=k i b H s p;by_cases d:i < ο xs
 .erw[.inr #[#[xs,xs[i],q,Rq d],Pv$ i+1,λc e P=>#[ο xs - (i+1),N09,Z,d,P],λx e y=>?_]];let(r,v,rfl,u,rfl,w):=y;rwa[l { D with nx:=Pv (i+1),ct:=Pv (i+1),bk:=D.nx } Z i v r b H (w xs q) u (λ_ _ h=>h) _ (λz=>z) p]
 .rwa[.inl #[#[xs,q,PL],o _ _ (by rw[show ο xs=i by omega];rwa[p])]]
abbrev Pd(K:Ψ)(i j:Nat):TG:=uI K 2 (dj (bf i)$ dj (bf j) uH)
def Ml{t:St}(h:ο t=2):∃a b,t=[a,b]:=by
 cases t with
 |nil=>cases h
 |cons a r=>
  cases r with
  |nil=>cases h
  |cons b R=>
   cases R with
   |nil=>exact#[a,b,Z]
   |cons _ _=>cases h
def Y6{K:Ψ}{X:xL V}{t:TE}{n:xL V->Hp->Prop}(f:Nat->V)(u:ο X<=υ)(b:aJ K H a X)
  (p:∀(i:Nat) (x:V),X[i]?=δ x->∃q y z,x= .ref q/\aC K H q [y,z]/\∀Q:VK,Q (f i) H->t (δ y::δ z::c) H Q) (r:n ((dr X.length).map f) H):
  fi (Br K a) 2 c (Pd K 0 1) mw t n H:=by
 erw[#[λi m o d=>m=ο X - i/\i<=ο X/\o=(dr i).map f/\d=H,#[X.length,PJ,RE _,PJ,Z],?_]];rintro i m o d ⟨rfl,w,rfl,rfl⟩;by_cases h:i < ο X
 .refine .inr #[#[X,X[i],b,Rq h],?_,λY g=>Y=(dr$ i+1).map f/\g=d,λY g #[P,s]=>#[ο X - (i+1),PL,Z,h,P,s],λv g T j y=>?_]
  .rw[Rs,UA];omega
  let(e,y):=y;subst e;let(q,A,B,rfl,k,l):=p i v (y X b);let(C,D,rfl):=Ml j;erw[#[q,12,k,21121122,#[[δ _,δ _],22],l _ #[?_,Z]]];rw[List.range_succ,RU];rfl
 .let e:i=ο X:=by omega
  subst e;rwa[.inl #[#[X,b,Rv _],r]]
end _L
namespace _L
open PySem PySem.Spec PyProof.Rows PySem.SeqAt PySem.W
noncomputable def gM:xL Int->xL Int->Bool
 | [],[]=>ν
 | [],_::_=>μ
 |_::_,[]=>ν
 |a::p,b::q=>if a=b then gM p q else decide (a < b)
theorem JF:∀{p q:xL Int},gM p q=μ->gM q p=ν
 | [],[],h=>by cases h
 | [],_::_,_=>rfl
 |_::_,[],h=>by cases h
 |a::p,b::q,h=>by
  let h:(if a=b then gM p q else decide (a < b))=μ:=h;show(if b=a then gM q p else decide (b < a))=ν;by_cases e:a=b
  .rw[RB e]at h;rw[RB e.symm];rwa[JF h]
  .rw[RD e]at h;rw[RD$ Sc e];let:=Sq h;rwa[RC PL]
section
variable {prog:ω}{w:bF}{A:bU}{E:η->ι->Prop}{s:ι}{Q:Bool->ι->Prop}
def vt(f:Bool)(h:Q (decide$ a < b) s):π (χ prog w) A (oneLt' f (.int a t)$ .int b u) Q E s:=by
 cases f with
 |true=>rwa[oneLt_int h]
 |false=>rwa[kat_one _ _ (lt_int h)]
theorem Yt:∀{p q:xL Int} {U v:xL η},aF (p.map xb) U->aF (q.map xb) v->∀i,f=decide (ο p < ο q)->Q (gM p q) s->KatLex prog w A b f Q (U.zip v) i s
 | [],[],_,_,.nil,.nil,_,e,h | [],_::_,_,_,.nil,.cons _ _,_,e,h |_::_,[],_,_,.cons _ _,.nil,_,e,h=>by subst e;rwa[h]
 |x::p,y::q,_,_,.cons #[t,c] r,.cons #[u,d] R,i,e,h=>by
  subst c;subst d;let h:Q (if x=y then gM p q else decide (x < y)) s:=h;erw[kat_cons$ EqAt.int_int x t y u prog w _ _ ?_];by_cases H:x=y
  .rw[RB H]at h;rw[beq_iff_eq.mpr H];erw[kat_yes$ Yt r R (i+1) ?_ h];rw[e];show decide (ο p+1 < ο q+1)=_;by_cases a:ο p < ο q
   .rw[RG a,RG PL]
   .rw[RC a,RC PL]
  .rw[RD H]at h;rw[beq_eq_false_iff_ne.mpr H];rwa[kat_no$ vt _ h]
def Eh(h:de)(v:η)(p:xL Int):Prop:=∃a o u n,v= .ref a/\h.get? a=δ o/\o.cls= .type "tuple"/\o.data= .seq u n/\aF (p.map xb) u.toList
def Np(c:Eh s.heap x p)(d:Eh s.heap y q)(h:Q (gM p q) s):π (χ prog w) A (keyLt' (tuples' b) x y) Q E s:=by let(a,o,U,n,rfl,e,_,f,H):=c;let(i,O,u,N,rfl,K,_,g,k):=d;erw[kat_lt e f K g$ Yt H k 0 ?_ h];let l:=H.length;let L:=k.length;rw[Rs]at l L;rw[<- RX,<- RX,<- l,<- L]
def cq(l:Nat->Nat->Bool)(n:Nat){b:Type}(R:b->Prop):KasT b->Prop
 | .ret a=>R a
 | .ask i j k=>i < n/\j < n/\cq l n R (k (l i j))
theorem cq.bind{b c:Type}{R:b->Prop}{S:c->Prop}{f:b->KasT c}(H:∀a,R a->cq l n S (f a)):∀{t:KasT b},cq l n R t->cq l n S (t.bind f)
 | .ret _,h=>H _ h
 | .ask _ _ _,z=>by let(d,e,g):=z;rwa[#[d,e,cq.bind H g]]
theorem cq.wp{l:Nat->Nat->Bool}{n:Nat}{b:Type}{R:b->Prop}{c:Nat->Nat->(Bool->ι->Prop)->ι->Prop}(H:∀i j (C:Bool->ι->Prop),i < n->j < n->C (l i j) s->c i j C s){G:b->ι->Prop}(d:∀a,R a->G a s):∀{t:KasT b},cq l n R t->t.kasWp c G s
 | .ret _,h=>d _ h
 | .ask i j _,z=>by let(e,f,g):=z;rwa[H i j _ e f (cq.wp H d g)]
theorem tV:∀{vs:xL η} {ps:xL (xL Int)},ο vs=ο ps->(∀(i:Nat) (v:η) (p:xL Int),vs[i]?=δ v->ps[i]?=δ p->Eh h v p/\p≠[])->∃F:xL η,ο F=ο vs/\(∀f∈F,∃i t,f= .int i t)/\KatTups h vs F
 | [],[],_,_=>#[[],Z,λ_ z=>(nomatch z),trivial]
 | [],_::_,e,_ |_::_,[],e,_=>by cases e
 |v::vs,p::ps,e,k=>by
  let(F,g,j,l):=tV (vs:=vs) (ps:=ps) (e:) λi v p b c=>k (i+1) v p (b:) (c:);obtain⟨⟨a,o,U,n,rfl,b,c,m,H⟩,q⟩:=k 0 v p Z Z;cases p with
  |nil=>rwa[absurd Z q]
  |cons i p=>
   cases d:U.toList with
   |nil=>rw[d]at H;cases H
   |cons u r=>
    rw[d]at H;cases H with
    |cons R y=>
     let(t,rfl):=(show ∃t,u=ic i t from R);let x:U[0]?=δ (ic i t):=by rw[<- Tk,d];rfl
     exact#[ic i t::F,by simp [g],λf hf=>by
      rcases Ξ.mp hf with rfl |hf
      .exact#[112]
      .rwa[j f hf],KatTups.cons b c m x l]
def ZP{V:xL η}{d:xL (xL Int)}{P:Fin->ι->Prop}(u:s.heap.get? a=δ (seqObj "list" V.toArray n))(I:ο V=ο d)(N:2<=ο V)(y:ο V < 64)
  (O:∀(i:Nat) (v:η) (p:xL Int),V[i]?=δ v->d[i]?=δ p->Eh s.heap v p/\p≠[]/\v≠ .ref a) {R:Array Nat->Prop} (U:cq (λi j=>gM (d.getD i []) (d.getD j [])) d.length R (kas_sort d.length))
  (h:∀p,R p->P (.done$ .ret .none) {sortedHeap s.heap a V (p.toList.map λi=>V.getD i β).toArray}):
  π (χ prog w) A (dO.«list.sort» #[[.ref a],[]]) P E s:=by
 rw[WF];let la:a < -s:=Rz u;erw[Rp$ listItems_at u Z ?_];erw[Rp$ UW u Z ?_];obtain⟨g,J⟩:∃g,(s.heap.update a$ ab λ_=>(ε [])).get? a=δ (seqObj "list" (ε []) g):=#[_,WG u (λ_=>(ε []))];erw[Rp$ Vn J Z ?_];erw[Rp$ UM ?_ (by show ο V<=_;rw[Ua];omega)];erw[Rp$ Ux ?_];erw[RY ?_];let K:(((s.heap.update a$ ab λ_=>(ε [])).push$ seqObj "tuple" V.toArray 0).push$ seqObj "list" (ε []) 0).get? a=δ (seqObj "list" (ε []) g):=Rr _ (Rr _ J);let k:∀c v,c≠a->s.heap.get? c=δ v->(((s.heap.update a$ ab λ_=>(ε [])).push$ seqObj "tuple" V.toArray 0).push$ seqObj "list" (ε []) 0).get? c=δ v:=λc v W e=>
  Rr _ (Rr _ (by rw[Heap.get?_update_ne _ _ _ _ W];rwa[e]))
 show π (χ prog w) A _ P E {((s.heap.update a$ ab λ_=>(ε [])).push$ seqObj "tuple" V.toArray 0).push (seqObj "list" (ε []) 0)};dsimp only;let H:∀(i:Nat) (v:η) (p:xL Int),V[i]?=δ v->d[i]?=δ p->Eh (((s.heap.update a$ ab λ_=>(ε [])).push$ seqObj "tuple" V.toArray 0).push$ seqObj "list" (ε []) 0) v p/\p≠[]:=λi v p B x=>by obtain⟨⟨b,o,X,m,rfl,Y,b2,b3,b4⟩,l,D⟩:=O i v p B x;exact#[#[b,o,X,m,Z,k _ _ (λz=>D (by rw[z])) Y,b2,b3,b4],l]
 let(fs,f1,f2,f3):=tV I H;let q:¬V.toArray.size < 2:=by rw[Rx];omega
 rw[RD q,RD q];erw[Rp$ kat_kind (T:=.type "int") f3 PL (λf hf=>?_) PM ?_]
 .let(i,t,rfl):=f2 f hf;rwa[Looks.of_pure Z]
 refine Rp (SN (kat_run (Q:=λS r=>r={((s.heap.update a$ ab λ_=>(ε [])).push$ seqObj "tuple" V.toArray 0).push (seqObj "list" (ε []) 0)}/\∃p,R p/\(arrOf S).map (·.2)=(p.toList.map λi=>V.getD i β).toArray/\failedOf S=θ/\(arrOf S).size=ο V)
  (G:=λp r=>r={((s.heap.update a$ ab λ_=>(ε [])).push$ seqObj "tuple" V.toArray 0).push (seqObj "list" (ε []) 0)}/\R p) Z N y (λp S r B x a3 L=>#[L.1,p,L.2,?_,a3,?_]) (cq.wp (n:=d.length) (R:=R) (λi j C F hj hC=>?_) (λp l=>#[Z,l]) (by rw[I];rwa[U]))) ?_ λ_ _ e=>e)
 .rw[kat_snds Z x]
 .rw[x,Array.size_map,B]
 .let M:∀i,i < ο d->Eh (((s.heap.update a$ ab λ_=>(ε [])).push$ seqObj "tuple" V.toArray 0).push$ seqObj "list" (ε []) 0) (V.getD i β) (d.getD i []):=λi F=>by
   let g:V[i]?=δ (V.getD i β):=by rw[Se,Rq (PL:i < ο V)];rfl
   let e2:d[i]?=δ (d.getD i []):=by rw[Se,Rq F];rfl
   exact(H i _ _ g e2).1
  rwa[Np (M i F) (M j hj) hC]
 rintro ⟨⟨⟩,S⟩ r ⟨rfl,p,l,q1,q2,q3⟩;dsimp only;erw[Rp$ Vn K Z ?_];erw[Rp$ UW K Z ?_ (hsz2:=by rw[Array.size_map,q3,Ua];omega)];rw[q2];simp only[Th,RO,Ta];erw[Rt ?_];rw[q1];rwa[h p l]
end
section
#print v
def ZQ{P:Fin->ι->Prop}(H:s.heap.get? a=δ (seqObj "list" ([]:xL η).toArray n))
  (h:P (.done$ .ret .none) {sortedHeap s.heap a ([]:xL η) (ε [])}):π (χ prog w) A (dO.«list.sort» #[[.ref a],[]]) P E s:=by
 rw[WF];erw[Rp$ listItems_at H Z ?_];erw[Rp$ UW H Z ?_];obtain⟨e,b⟩:∃e,(s.heap.update a$ ab λ_=>(ε [])).get? a=δ (seqObj "list" (ε []) e):=#[_,WG H (λ_=>(ε []))];erw[Rp$ Vn b Z ?_];erw[Rp$ UM ?_];erw[Rp$ Ux ?_];erw[RY ?_];let g:(((s.heap.update a$ ab λ_=>(ε [])).push$ seqObj "tuple" ([]:xL η).toArray 0).push$ seqObj "list" (ε []) 0).get? a=δ (seqObj "list" (ε []) e):=Rr _ (Rr _ b);show π (χ prog w) A _ P E {((s.heap.update a$ ab λ_=>(ε [])).push$ seqObj "tuple" ([]:xL η).toArray 0).push (seqObj "list" (ε []) 0)};dsimp only;let S:([]:xL η).toArray.size < 2:=by show 0 < 2;decide
 rw[RB S,RB S];erw[Rp$ Rt ?_];rw[StateT.run_pure];erw[Rp$ Rt ?_];dsimp only;erw[Rp$ Vn g Z ?_];let c:(arrOf$ SortSt.mk' general' (([]:xL η).toArray.zip ([]:xL η).toArray) (ε []) 7 θ).map (·.2)=(ε []):=by show(([]:xL η).toArray.zip ([]:xL η).toArray).map (·.2)=(ε []);simp
 rw[c];erw[Rp$ UW g Z ?_ (hsz2:=by show 0<=υ+1;omega)];simp only[Th,RO,Ta];rwa[Rt h]
def DT{vs:xL η}{ps:xL (xL Int)}{Q:η->ι->Prop}(q:s.heap.IsList l vs.toArray)(H:ο vs=ο ps)(r:2<=ο vs)(b:ο vs < 64)
  (t:∀(i:Nat) (v:η) (p:xL Int),vs[i]?=δ v->ps[i]?=δ p->Eh s.heap v p/\p≠[]) {R:Array Nat->Prop} (u:cq (λi j=>gM (ps.getD i []) (ps.getD j [])) ps.length R (kas_sort ps.length))
  (h:∀p,R p->Q (.ref$ -s+1) {sortedAll s.heap vs (p.toList.map λi=>vs.getD i β).toArray}):π (χ prog w) A (call (.builtin "sorted") [.ref l]) Q E s:=by
 erw[Uj Ws V6 V7 (V8 _) ?_];unfold dO.«sorted»;erw[Rp (m:=checkCount "sorted" 1 1 _)$ Rt ?_];erw[Rp$ collect_list q ?_ (by rw[Ua];omega)];erw[Rp$ Ux ?_ (by rw[Ua];omega)];let f:((s.heap.push$ seqObj "list" (ε []) 0).update (-s)$ ab (·++vs.toArray)).objs.size=-s+1:=by rw[VW,WX]
 let g:(((s.heap.push$ seqObj "list" (ε []) 0).update (-s)$ ab (·++vs.toArray)).push$ seqObj "list" vs.toArray 0).get? (-s+1)=δ (seqObj "list" vs.toArray 0):=by rw[<- f];rwa[Ry _ Z]
 let k:∀c v,s.heap.get? c=δ v->(((s.heap.push$ seqObj "list" (ε []) 0).update (-s)$ ab (·++vs.toArray)).push$ seqObj "list" vs.toArray 0).get? c=δ v:=λc v e=>
  Rr _ (by rw[Heap.get?_update_ne _ _ _ _$ RJ$ Rz e];rwa[Rr _ e])
 show π _ _ _ _ _ {((s.heap.push$ seqObj "list" (ε []) 0).update (-s)$ ab (·++vs.toArray)).push (seqObj "list" vs.toArray 0)};rw[f];erw[Rp$ RY$ Si VM #[_,g,Z] VF (ZP g H r b (λi v p x y=>?_) u λp d=>#[12,?_]) (VP _)]
 .obtain⟨⟨a,o,U,n,rfl,B,C,D,F⟩,d⟩:=t i v p x y;exact#[#[a,o,U,n,Z,k _ _ B,C,D,F],d,λz=>by injection z with z;rwa[absurd z$ RJ$ TZ$ Rz B]]
 .rwa[Rt #[12,h p d]]
def DR{Q:η->ι->Prop}(H:s.heap.IsList l ([]:xL η).toArray)
  (h:Q (.ref$ -s+1) {sortedAll s.heap [] (ε [])}):π (χ prog w) A (call (.builtin "sorted") [.ref l]) Q E s:=by
 erw[Uj Ws V6 V7 (V8 _) ?_];unfold dO.«sorted»;erw[Rp (m:=checkCount "sorted" 1 1 _)$ Rt ?_];erw[Rp$ collect_list H ?_];erw[Rp$ Ux ?_];let z:((s.heap.push$ seqObj "list" (ε []) 0).update (-s)$ ab (·++([]:xL η).toArray)).objs.size=-s+1:=by rw[VW,WX]
 let g:(((s.heap.push$ seqObj "list" (ε []) 0).update (-s)$ ab (·++([]:xL η).toArray)).push$ seqObj "list" ([]:xL η).toArray 0).get? (-s+1)=δ (seqObj "list" ([]:xL η).toArray 0):=by rw[<- z];rwa[Ry _ Z]
 show π _ _ _ _ _ {((s.heap.push$ seqObj "list" (ε []) 0).update (-s)$ ab (·++([]:xL η).toArray)).push (seqObj "list" ([]:xL η).toArray 0)};rw[z];erw[Rp$ RY$ Si VM #[_,g,Z] VF (ZQ g #[12,?_]) (VP _)];rwa[Rt #[12,h]]
end
section
variable {X:Cx}
def IQ(I:ay X b f H s){p:xL Int}(h:H a=δ (.tup$ p.map xb)):Eh s.heap (.ref a) p:=by let(i,r,P,_):=I.tuple (aC.of (K:=X.K) h);let(o,c,d,n,e):=P;exact#[a,o,i.toArray,n,Z,c,d,e,r]
end
end _L
namespace _L
open PySem PySem.W PySem.Spec PyProof.Rows
theorem cq.weak{c:Type}{R S:c->Prop}(h:∀a,R a->S a):∀{t:KasT c},cq l n R t->cq l n S t
 | .ret _,k=>h _ k
 | .ask _ _ _,z=>by let(a,b,k):=z;rwa[#[a,b,cq.weak h k]]
def Yu{a:Array Nat}{u v i:Nat}(b:u < a.size)(c:v < a.size):(a.swapIfInBounds u v).getD i 0=if i=v then a.getD u 0 else if i=u then a.getD v 0 else a.getD i 0:=by
 unfold Array.swapIfInBounds;rw[dif_pos b,dif_pos c];simp only[Array.getD_eq_getD_getElem?,Array.getElem?_swap];by_cases h:v=i<;>by_cases H:u=i
 .subst h;subst H;simp [b]
 .subst h;let E:¬v=u:=λe=>H e.symm;simp [b,c,H,E]
 .subst H;let d:¬u=v:=λe=>h e.symm;simp [b,c,h,d]
 .let d:¬i=v:=λe=>h e.symm;let E:¬i=u:=λe=>H e.symm;simp [b,c,h,H,d,E]
theorem Qu(a:Array Nat)(k:Nat)(c:k < a.size):∀(d:Nat),d<=k->∀i,(bubble a k d).getD i 0=if i=k - d then a.getD k 0 else if k - d < i/\i<=k then a.getD (i - 1) 0 else a.getD i 0
 |0,_,i=>by
  show a.getD i 0=_;by_cases e:i=k - 0
  .rw[RB e,e,UZ]
  .rw[RD e,RD PL]
 |d+1,f,i=>by
  let I:=Qu a k c d PL;rw[bubble_succ,Yu (by rw[bubble_size];omega) (by rw[bubble_size];rwa[N09]),I,I,I];by_cases H:i=k - d - 1
  .rw[RB H,RB Z,RB N09]
  .rw[RD H,RD (show ¬i=k - (d+1) by rwa[N09])];by_cases h:i=k - d
   .rw[RB h,RD PL,RD N09,RB N09];congr 1;rwa[N09]
   .rw[RD h,RD h];by_cases b:k - d < i/\i<=k
    .rw[RB b,RB N09]
    .rw[RD b,RD PL]
theorem Qv(a:Array Nat)(k:Nat)(c:k<=a.size):∀(d:Nat),2*d<=k->∀i,(mirror a 0 k d).getD i 0=if i < d∨(k - d<=i/\i < k) then a.getD (k - 1 - i) 0 else a.getD i 0
 |0,_,i=>by show a.getD i 0=_;rw[RD PL]
 |d+1,e,i=>by
  let I:=Qv a k c d PL;rw[mirror_succ,Yu (by rw[mirror_size];omega) (by rw[mirror_size];rwa[N09]),I,I,I];by_cases h:i=k - 1 - d
  .rw[RB h,RD PL,RB PL];congr 1;rwa[N09]
  .rw[RD h];by_cases H:i=0+d
   .rw[RB H,RD PL,RB PL];congr 1;omega
   .rw[RD H];by_cases b:i < d∨(k - d<=i/\i < k)
    .rw[RB b,RB N09]
    .rw[RD b,RD PL]
def sL{a:Array Nat}{k:Nat}(b:k<=a.size)(i:Nat):(kas_rev a 0 k).getD i 0=if i < k then a.getD (k - 1 - i) 0 else a.getD i 0:=by
 unfold kas_rev;rw[Qv a k b _ PL];by_cases h:i < k
 .rw[RB h];by_cases H:i < (k - 0) / 2∨(k - (k - 0) / 2<=i/\i < k)
  .rw[RB H]
  .rw[RD H];congr 1;omega
 .rw[RD h,RD PL]
structure OR(lt:Nat->Nat->Bool)(n:Nat):Prop where
 tot:∀i j,i < n->j < n->i≠j->lt i j=ν->lt j i=μ
 tr:∀i j k,i < n->j < n->k < n->lt i j=μ->lt j k=μ->lt i k=μ
 asy:∀i j,i < n->j < n->lt i j=μ->lt j i=ν
structure nY(n:Nat)(p:Array Nat):Prop where
 z:p.size=n
 m:∀i,i < n->p.getD i 0 < n
 inj:∀i j,i < n->j < n->p.getD i 0=p.getD j 0->i=j
 pm:p.toList.Perm (dr n)
def gV(l:Nat->Nat->Bool)(p:Array Nat)(m:Nat):Prop:=∀i,i+1 < m->l (p.getD i 0) (p.getD (i+1) 0)=μ
def ug(l:Nat->Nat->Bool)(p:Array Nat)(m:Nat):Prop:=∀i,i+1 < m->l (p.getD (i+1) 0) (p.getD i 0)=μ
def EZ{n:Nat}{p:Array Nat}(h:p.toList.Perm (dr n)):nY n p:=by
 let a:p.size=n:=by let:=h.length_eq;simpa using this
 let N:p.toList.Nodup:=h.nodup_iff.mpr List.nodup_range;let g:∀i (H:i < n),p.getD i 0=p.toList[i]'(by simpa using (PL:i < p.size)):=λi H=>by simp [Array.getD,show i < p.size by omega]
 erw[#[a,λi H=>?_,λi j H b e=>?_,h]]
 .rw[g i H];let:=h.mem_iff.mp (TF (l:=p.toList) (n:=i) (by simpa using (PL:i < p.size)));simpa using this
 .rw[g i H,g j b]at e;let L:i < ο p.toList:=by simpa using (PL:i < p.size)
  let c:j < ο p.toList:=by simpa using (PL:j < p.size)
  exact(UC L N).mp (by rw[Rq L,Rq c,e])
def nY.of{n:Nat}{p q:Array Nat}(h:nY n p)(k:q.Perm p):nY n q:=EZ (k.toList.trans h.pm)
section
variable {lt:Nat->Nat->Bool}{n:Nat}(O:OR lt n)
include O
theorem wA{p:Array Nat}(h:nY n p){m:Nat}(b:m<=n)(a:gV lt p m):∀(d i:Nat),i+d+1 < m->lt (p.getD i 0) (p.getD (i+d+1) 0)=μ
 |0,i,H=>a i H
 |d+1,i,H=>O.tr _ _ _ (h.m _ PL) (h.m _ PL) (h.m _ PL) (wA h b a d i PL) (a (i+d+1) N09)
def Kx{p:Array Nat}(h:nY n p){m:Nat}(H:m<=n)(a:gV lt p m){i j:Nat}(b:i < j)(c:j < m):lt (p.getD i 0) (p.getD j 0)=μ:=by let z:=wA O h H a (j - i - 1) i N09;rw[show i+(j - i - 1)+1=j by rwa[N09]]at z;rwa[z]
theorem yD{p:Array Nat}(h:nY n p):∀f m,1<=m->m+f<=n->gV lt p m->cq lt n (λr=>m<=r/\r<=m+f/\gV lt p r/\(r < m+f->lt (p.getD r 0) (p.getD (r - 1) 0)=μ)) (kas_asc p f m)
 |0,m,b,d,a=>#[Rv _,Rv _,a,λz=>absurd z PL]
 |f+1,m,b,d,a=>by
  erw[#[h.m _ PL,h.m _ PL,?_]];by_cases c:lt (p.getD m 0) (p.getD (m - 1) 0)=μ
  .rw[c];exact#[Rv _,PL,a,λ_=>c]
  .let C:lt (p.getD m 0) (p.getD (m - 1) 0)=ν:=by simpa using c
   rw[C];let t:=O.tot _ _ (h.m m PL) (h.m (m - 1) PL) (λe=>by let:=h.inj _ _ PL PL e;omega) C;let A:gV lt p (m+1):=λi g=>by
    by_cases e:i+1 < m
    .rwa[a i e]
    .rw[show i=m - 1 by omega,show m - 1+1=m by omega];rwa[t]
   rwa[cq.weak (λr H=>#[N09,N09,H.2.2.1,λz=>H.2.2.2 N09])$ yD h f (m+1) PL PL A]
theorem yE{p:Array Nat}(h:nY n p):∀f m,2<=m->m+f=n->ug lt p m->cq lt n (λr:Array Nat×Nat×Nat=>r.1=p/\r.2.2=0/\m<=r.2.1/\r.2.1<=n/\ug lt p r.2.1) (kas_desc f p m 0)
 |0,m,b,d,a=>#[22,Rv _,(by show m<=n;omega),a]
 |f+1,m,b,d,a=>by
  erw[#[h.m _ PL,h.m _ PL,?_]];by_cases c:lt (p.getD m 0) (p.getD (m - 1) 0)=μ
  .rw[c];let A:ug lt p (m+1):=λi g=>by
    by_cases e:i+1 < m
    .rwa[a i e]
    .rw[show i=m - 1 by omega,show m - 1+1=m by omega];rwa[c]
   rwa[cq.weak (λr H=>#[H.1,H.2.1,Nat.le_of_succ_le H.2.2.1,H.2.2.2])$ yE h f (m+1) PL PL A]
  .let C:lt (p.getD m 0) (p.getD (m - 1) 0)=ν:=by simpa using c
   rw[C];let t:=O.tot _ _ (h.m m PL) (h.m (m - 1) PL) (λe=>by let:=h.inj _ _ PL PL e;omega) C;erw[#[h.m _ PL,h.m _ PL,?_]];rw[t];exact#[22,Rv _,(by show m<=n;omega),a]
def HK{p:Array Nat}(h:nY n p){k:Nat}(c:1<=k)(H:k<=n)(a:ug lt p k):cq lt n (λr:Nat×Array Nat=>nY n r.2/\1<=r.1/\r.1<=n/\gV lt r.2 r.1) (kas_tail3 k n p):=by
 let b:nY n (kas_rev p 0 k):=h.of (mirror_perm _ _ _ _);let A:gV lt (kas_rev p 0 k) k:=λi d=>by rw[sL (by rw[h.z];rwa[H]),sL (by rw[h.z];rwa[H]),RB PL,RB d];let z:=a (k - 1 - (i+1)) N09;rw[show k - 1 - (i+1)+1=k - 1 - i by omega]at z;rwa[z]
 erw[cq.bind (R:=λr=>k<=r/\r<=k+(n - k)/\gV lt (kas_rev p 0 k) r/\(r < k+(n - k)->lt ((kas_rev p 0 k).getD r 0) ((kas_rev p 0 k).getD (r - 1) 0)=μ)) (λr e=>?_)$ yD O b _ _ c PL A];exact#[b,by show 1<=r;rwa[N09],by show r<=n;rwa[N09],e.2.2.1]
def C9{p:Array Nat}(h:nY n p)(k:1<=n):cq lt n (λr:Nat×Array Nat=>nY n r.2/\1<=r.1/\r.1<=n/\gV lt r.2 r.1) (kas_count n p):=by
 erw[cq.bind (R:=λr=>1<=r/\r<=1+(n - 1)/\gV lt p r/\(r < 1+(n - 1)->lt (p.getD r 0) (p.getD (r - 1) 0)=μ)) (λr H=>?_)$ yD O h _ _ (Rv 1) N09 (λi a=>absurd a PL)];by_cases e:r=n
 .rw[RB (by simp [e])];exact#[h,H.1,PL,H.2.2.1]
 .rw[RD (by simp [e])];by_cases g:r > 1
  .rw[RB g];erw[#[h.m _ PL,h.m _ N09,?_]];rw[Kx O h N09 H.2.2.1 (show 0 < r - 1 by rwa[N09]) N09];exact#[h,H.1,N09,H.2.2.1]
  .rw[RD g];let b:r=1:=by rwa[N09]
   subst b;let d:ug lt p 2:=λi a=>by rw[show i=0 by omega];rwa[H.2.2.2 PL]
   erw[cq.bind (R:=λr:Array Nat×Nat×Nat=>r.1=p/\r.2.2=0/\2<=r.2.1/\r.2.1<=n/\ug lt p r.2.1) (λr H=>?_)$ yE O h _ _ (Rv 2) PL d];let(E,c,l,f,j):=H;rw[c,RD$ SI 0,E];rwa[HK O h PL f j]
theorem XV{p:Array Nat}(h:nY n p){k:Nat}(H:k < n)(a:gV lt p k):∀f l r,l<=r->r<=k->r - l<=f->(∀i,i < l->lt (p.getD i 0) (p.getD k 0)=μ)->(∀i,r<=i->i < k->lt (p.getD k 0) (p.getD i 0)=μ)->
  cq lt n (λq=>q<=k/\(∀i,i < q->lt (p.getD i 0) (p.getD k 0)=μ)/\∀i,q<=i->i < k->lt (p.getD k 0) (p.getD i 0)=μ) (kas_place p k f l r)
 |0,l,r,u,s,v,b,d=>#[PL,b,λi j=>d i PL]
 |f+1,l,r,u,s,v,b,d=>by
  unfold kas_place;by_cases g:l≥r
  .rw[RB g];exact#[PL,b,λi j=>d i PL]
  .rw[RD g];erw[#[h.m _ N09,h.m _ PL,?_]];by_cases c:lt (p.getD k 0) (p.getD ((l+r) / 2) 0)=μ
   .show cq lt n _ (if lt (p.getD k 0) (p.getD ((l+r) / 2) 0)=μ then _ else _);rw[RB c];erw[XV h H a f l ((l+r) / 2) PL PL N09 b λi j o=>?_];by_cases e:i=(l+r) / 2
    .rw[e];rwa[c]
    .rwa[O.tr _ _ _ (h.m _ H) (h.m _ PL) (h.m _ PL) c$ Kx O h PL a PL o]
   .let C:lt (p.getD k 0) (p.getD ((l+r) / 2) 0)=ν:=by simpa using c
    show cq lt n _ (if lt (p.getD k 0) (p.getD ((l+r) / 2) 0)=μ then _ else _);rw[RD c];let t:=O.tot _ _ (h.m k H) (h.m ((l+r) / 2) PL) (λe=>by let:=h.inj _ _ H PL e;omega) C;erw[XV h H a f ((l+r) / 2+1) r PL s N09 (λi j=>?_) d];by_cases e:i=(l+r) / 2
    .rw[e];rwa[t]
    .rwa[O.tr _ _ _ (h.m _ PL) (h.m _ PL) (h.m _ H) (Kx O h PL a (show i < (l+r) / 2 by omega) PL) t]
theorem EM:∀f {p:Array Nat} (_:nY n p) k,1<=k->k+f=n->gV lt p k->cq lt n (λq=>nY n q/\gV lt q n) (kas_bin f p k)
 |0,p,h,k,d,e,a=>#[h,by rw[<- e];rwa[a]]
 |f+1,p,h,k,d,e,a=>by
  erw[cq.bind (R:=λq=>q<=k/\(∀i,i < q->lt (p.getD i 0) (p.getD k 0)=μ)/\∀i,q<=i->i < k->lt (p.getD k 0) (p.getD i 0)=μ) (λl j=>?_)$ XV O h PL a k 0 k (RE _) (Rv _) PL (λi H=>absurd H PL) (λi H m=>absurd H PL)];let(lk,L,o):=j;erw[EM f (h.of$ bubble_perm _ _ _) (k+1) PL PL λi H=>?_];let g:=Qu p k (by rw[h.z];omega) (k - l) PL;rw[g,g];by_cases c:i=k - (k - l)
  .rw[RB c,RD PL,RB PL,show i+1 - 1=i by omega];rwa[o i PL PL]
  .rw[RD c];by_cases C:k - (k - l) < i/\i<=k
   .rw[RB C,RD PL,RB PL,show i+1 - 1=i - 1+1 by omega];rwa[a (i - 1) PL]
   .rw[RD C];by_cases b:i+1=k - (k - l)
    .rw[RB b];rwa[L i PL]
    .rw[RD b,RD PL];rwa[a i PL]
def HJ(b:1<=n):cq lt n (λq=>nY n q/\gV lt q n) (kas_sort n):=by
 erw[cq.bind (R:=λr:Nat×Array Nat=>nY n r.2/\1<=r.1/\r.1<=n/\gV lt r.2 r.1) (λr c=>?_)$ C9 O (p:=ε (dr n)) (EZ PJ) b];let(h,a,d,H):=c;by_cases g:r.1 < n
 .rw[RB g,Nat.max_eq_left a];rwa[EM O _ h _ a PL H]
 .rw[RD g];exact#[h,by rw[show r.1=n by omega]at H;rwa[H]]
end
theorem rS:∀{p q:xL Int},p≠q->gM p q=ν->gM q p=μ
 | [],[],h,_=>absurd Z h
 | [],_::_,_,z=>by cases z
 |_::_,[],_,_=>rfl
 |a::p,b::q,h,z=>by
  let z:(if a=b then gM p q else decide (a < b))=ν:=z;show(if b=a then gM q p else decide (b < a))=μ;by_cases e:a=b
  .rw[RB e]at z;rw[RB e.symm];rwa[rS (λw=>h (by rw[e,w])) z]
  .rw[RD e]at z;rw[RD$ Sc e];let:=UQ z;rwa[RG PL]
theorem xX:∀{p q r:xL Int},gM p q=μ->gM q r=μ->gM p r=μ
 | [],[],_,h,_=>by cases h
 | [],_::_,[],_,k=>by cases k
 | [],_::_,_::_,_,_=>rfl
 |_::_,[],_,h,_=>by cases h
 |_::_,_::_,[],_,k=>by cases k
 |a::p,b::q,c::r,h,k=>by
  let h:(if a=b then gM p q else decide (a < b))=μ:=h;let k:(if b=c then gM q r else decide (b < c))=μ:=k;show(if a=c then gM p r else decide (a < c))=μ;by_cases e:a=b
  .rw[RB e]at h;by_cases E:b=c
   .rw[RB E]at k;rw[RB$ e.trans E];rwa[xX h k]
   .rw[RD E]at k;rw[RD PL];let:=Sq k;rwa[RG PL]
  .rw[RD e]at h;let h:=Sq h;by_cases E:b=c
   .rw[RD PL];rwa[RG PL]
   .rw[RD E]at k;let k:=Sq k;rw[RD PL];rwa[RG PL]
def xA{p:xL (xL Int)}(n:p.Nodup){i j:Nat}(h:i < ο p)(H:j < ο p)(e:p.getD i []=p.getD j []):i=j:=by rw[Se,Se,Rq h,Rq H]at e;exact(UC h n).mp (by rw[Rq h,Rq H];rwa[SM δ e])
def yC{p:xL (xL Int)}(N:p.Nodup):OR (λi j=>gM (p.getD i []) (p.getD j [])) p.length:=
 #[λi j H c n h=>rS (λe=>n (xA N H c e)) h,λi j k _ _ _ a b=>xX a b,λi j _ _ a=>JF a]
def QI(p:xL (xL Int)):(dr p.length).map (λi=>p.getD i [])=p:=by
 erw[List.ext_getElem? λi=>?_];rw[RP];by_cases h:i < ο p
 .rw[List.getElem?_range h,Rq h];show δ (p.getD i [])=_;rw[Se,Rq h];rfl
 .rw[Sw (by rw[UA];omega),Sw PL];rfl
def wz{a b:xL (xL Int)}(c:a.Pairwise λx y=>gM x y=μ)(d:b.Pairwise λx y=>gM x y=μ)(h:a.Perm b):a=b:=
 h.eq_of_pairwise (λx y _ _ e H=>by rw[JF e]at H;cases H) c d
section
variable {X:Cx}
inductive yV(K:Ψ)(d:xL V)(H:Hp)(Q:VK):Prop
 |mk(l:ζ)(c:xL V)(b:xL (xL Int))(_:d=[.ref l])(_:aJ K H l c)(_:ο c=ο b)(_:ο c < 64)(_:∀(i:Nat) (v:V) (p:xL Int),c[i]?=δ v->b[i]?=δ p->∃a:ζ,v= .ref a/\H a=δ (.tup (p.map xb))/\p≠[])(_:b.Nodup)(_:∀(r:ζ) (ws:xL V) (qs:xL (xL Int)),H r=θ->qs.Perm b->(qs.Pairwise λx y=>gM x y=μ)->ο ws=ο qs->(∀(i:Nat) (v:V) (p:xL Int),ws[i]?=δ v->qs[i]?=δ p->∃a:ζ,v= .ref a/\H a=δ (.tup (p.map xb))/\p≠[])->Q (.ref r) (af H r (.lst ws)))
def qy:dS X (.builtin "sorted") (yV X.K):=by
 intro C s σ H xs us Q I r h;let(l,vs,ps,rfl,hl,J,M,N,nd,k):=h;let(u,rfl,rx):=fo r;cases rx;let(b,R,P,_):=I.list hl;let L:=R.length;let f:∀(o:xL η) (W:xL V) (t:xL (xL Int)),aF W o->ο W < 64->t.Perm ps->(t.Pairwise λx y=>gM x y=μ)->ο W=ο t->(∀(i:Nat) (v:V) (p:xL Int),W[i]?=δ v->t[i]?=δ p->∃a:ζ,v= .ref a/\H a=δ (.tup$ p.map xb)/\p≠[])->EP X C σ Q (.ref$ -s+1) {sortedAll s.heap b o.toArray}:=λo W t rw lw g1 g2 g3 g4=>by let(c,hc):=sortedAll_at s.heap b o.toArray;exact#[.ref$ -s+1,_,I.laid (t':=s.toks) (λ_ _ e=>sortedAll_old e) (Tb _) (show aU X.prog X.w _ _ _ (.lst W) from #[by rw[Ua];omega,o,c,rw,hc]),Z,k _ W t (I.hok.fresh$ Tb _) g1 g2 g3 g4]
 let pk:∀i,i < ο vs->∃v u,vs[i]?=δ v/\b[i]?=δ u/\aK v u:=λi d=>by let(u',D,A):=R.get (Rq d);exact#[_,u',Rq d,D,A]
 by_cases F:2<=ο b
 .refine DT (vs:=b) (ps:=ps) P.isList PL F PL (λi v p G O=>?_) (HJ (yC nd) PL) λp T=>?_
  .let d:i < ο vs:=by let:=(ξ.mp G).1;omega
   let(v',u',D,A,U):=pk i d;rw[G]at A;cases A;let(a,ea,ha,hn):=N i v' p D O;subst ea;cases U;exact#[IQ I ha,hn]
  .let(S,Y):=T;let n:∀x∈p.toList,x < ο ps:=λx B=>by simpa using S.pm.mem_iff.mp B
   erw[f _ (p.toList.map λi=>vs.getD i .non) (p.toList.map λi=>ps.getD i []) ?_ (by rw[Rs,RX,S.z];omega) ?_ ?_ (by rw[Rs,Rs]) (λi v q e1 e2=>?_)]
   .generalize p.toList=l at n;induction l with
    |nil=>rwa[.nil]
    |cons i l ih=>have d:=n i RN;let(v,u,D,A,U):=pk i PL;erw[.cons ?_$ ih λx B=>n x (RZ _ B)];show aK (vs.getD i V.non) (b.getD i β);rw[Se,Se,D,A];rwa[U]
   .let z:=S.pm.map (λi=>ps.getD i []);rw[QI]at z;rwa[z]
   .rw[Wn];intro i j d hj h0;rw[Rs,RX,S.z]at d hj;let z:=Kx (yC nd) S (Rv _) Y h0 hj;let g:∀(m:Nat) (n:m < ο ps) (h1:m < (p.toList.map λi=>ps.getD i []).length),(p.toList.map λi=>ps.getD i [])[m]'h1=ps.getD (p.getD m 0) []:=λm n h1=>by rw[List.getElem_map];congr 1;simp [Array.getD,show m < p.size by rw[S.z];exact n]
    rw[g i d,g j hj];rwa[z]
   .rw[RP]at e1 e2;let(x,B,rfl):=cJ.mp e1;rw[B]at e2;cases e2;let h3:=n x (RL B);let G:vs[x]?=δ (vs.getD x .non):=by rw[Se,Rq PL];rfl
    let O:ps[x]?=δ (ps.getD x []):=by rw[Se,Rq h3];rfl
    rwa[N x _ _ G O]
 .match b,R,P,L,f,F with
  | [],R,P,L,f,_=>have e:ps=[]:=List.length_eq_zero_iff.mp (by rw[<- J];rwa[L]);erw[DR (P.isList:)$ f [] [] [] .nil PM (by rw[e]) .nil Z (λi v p h=>by simp at h)]
  | [v],R,P,L,f,_=>
   let l1:ο ps=1:=by rw[<- J];rwa[L]
   erw[DS (P.isList:)$ f [v] vs ps R M (Tq _) ?_ J N]
   match ps,l1 with
   | [x],_=>rwa[List.pairwise_singleton _ _]
  |v1::v2::E,R,P,L,f,F=>rwa[absurd (by show 2<=ο E+2;omega) F]
end
end _L
namespace _L
open PySem PySem.Spec PyProof.Rows
def Fe(K:Ψ)(A:ζ)(t:N0)(b:TS):TS:=λD a H=>t D (λx C d _ h=>mroIn K C (.ref A)=δ μ/\∀T,h T=θ->b D a (af (af h T$ iM T) x$ i9 C d T x)) a H
section
variable {X:Cx}{st a₀ b₀:cc}{as bs:xL cc}{tb:N0}{ta tc:TS}{ca cb:ρ}{np np' hp hp' pos:Pos}{A B:ζ}
def Dl(a:X.stack=X.env::X.outer)(J:X.env.frame=δ X.env.locals)(hb:OX X st tb)(hg:Gl X ca)(hm:X.mg ca=↑A)(hA:clsIn X.K A≠θ)(tA:typeIn X.K (.ref A)=δ (.type "type"))(mA:mroIn X.K A (.type "BaseException")=δ μ)
  (hs:∀e,oe (X.mark e λ_ _=>False) (a₀::as) ta) (L:↥((ca==("__debug__":ρ))=ν)):
  PS X (.Try [st] [.ExceptHandler (δ$ .Name ca np) θ (a₀::as) hp] [] [] pos) (Fe X.K A tb ta):=by
 intro p s M H D I h;erw[wpAny_Try_except$ Wj$ SN (hb p s M H D _ I h) (λf b q=>?_) λe b q=>?_]
 .cases f with
  |next=>rwa[Uz (Uz q)]
  |ret v |brk |cont=>rwa[q]
 let(x,C,d,T,N,rfl,l,hx,hT,m,q):=q;obtain⟨⟨ox,vs,h1,h2,h3,h4,O,h6,P⟩,_⟩:=l.hok x _ hx;obtain⟨⟨oT,G,t1,t2,t3⟩,_⟩:=l.hok T _ hT;let o:=(bm.mp h6).1;let R:X.A.frames=δ (X.env::X.outer):=by rw[<- a];rwa[l.ok.frames]
 let U:b.heap.FunFrames X.base (X.env::X.outer):=by rw[<- a];rwa[l.stack]
 erw[Xk (base:=X.base) R U J h1 O h6 m t1 t2 t3 λg2 Nd=>?_];let u:(gi T b.heap).get? x=δ ox:=(RV _ _ m).trans h1;erw[Gk (s:={ b with heap:=g2 }) Nd u O o λg3 V=>?_];let(t,hn,E,i):=(l.cleared hT t1 t2 t3).noted (C:=C) (d:=d) (t':=b.toks) hx u h2 h4 O o P (by unfold mJ;rw[a];rwa[V]);let i:ay X p M (af (af N t$ iM t) x$ i9 C d t x) { b with heap:=g3 }:=i;obtain⟨⟨o1,v0,k1,k2,k3,k4,k5,k6,k0⟩,_⟩:=i.hok x _ jc;let F:af (af N t$ iM t) x (i9 C d t x) t=δ (iM t):=by rw[ji E,jc]
 obtain⟨⟨o2,t0,u1,u2,u3⟩,_⟩:=i.hok t _ F;let g:∀{E':η->ι->Prop} {c:cc} {W:xL cc} {G:TS} {hp:Pos},(∀e,oe (X.mark e λ_ _=>False) (c::W) G)->G D M (af (af N t$ iM t) x$ i9 C d t x)->lq (χ X.prog X.w) (X.A.mark$ ↑x) (Code.handlers (.ref x) [.ExceptHandler θ θ (c::W) hp] X.env) (λr S=>match r with | .ok f=>SP X p D f S | .error y=>cameBackBy (χ X.prog X.w) X.A X.env E' y S) { b with heap:=g3 }:=by
  intro E' c W G hp hz qz;erw[codeAny_handlers_suite ?_];unfold setFlight;erw[Rp$ R4 k1 k5 k6 ?_];rw[RB (show(Θ t != β)=μ from by simp)];erw[SG u1 u2 (bm.mp u3).1 ?_];let I4:=i.cleared F u1 u2 u3;erw[SN (hz (.ref x) p _ _ _ D (I4.mark (.ref x) λ_ _=>False) qz) (λf s6 Q=>?_) λ_ _ z=>z.elim];cases f with
  |next |brk |cont=>let(j,Y,k,n):=Q;exact#[11,k.unmark I.ok,n]
  |ret v=>let(y,j,Y,k,rv,n):=Q;exact#[y,11,k.unmark I.ok,rv,n]
 let(mC,q):=q;erw[wpAny_handleBy_cons (codeAny_handlers_test ?_) BT];erw[ql (i.mark (.ref x) λ_ _=>False) hg hm ?_ L];erw[QN i.kIn k1 k2 hA tA mA mC _ _ _ _ (λ_ _ e=>e) ?_];rwa[g hs$ q t hn]
end
section
variable {X:Cx}
inductive Xp(x:V)(c:xL V)(H:Hp)(Q:VK):Prop
 |mk(a:ζ)(b:xL (bY×V))(k:bY)(v:V)(_:x= .ref a)(_:c=[kV k])(_:H a=δ (.dK b))(_:cR b k=δ v)(_:Q v (af H a (.dK (mH b k))))
def CA:Lq X "dict.pop" Xp:=by intro p s d H x f v U Q I r R h;let(a,K,k,V,rfl,rfl,e,l,q):=h;let(u,rfl,b):=aF.one R;cases r;rwa[LQ I e b l (.inl Z) λw S i c=>#[V,_,i,c,q]]
end
end _L
namespace _L
open PySem PySem.Spec PyProof.Rows
def cf.m(r:cf k A)(h:autoParam (j<=k) PL._auto_1):cf j A:=r.mono h
def bP{N P:xL ρ}{s:ge}(a:↥(s.kind=.function))(b:↥(s.isCoroutine=ν))(c:↥(s.isGenerator=ν))(d:autoParam N.Nodup PH._auto_1)(e:↥(N.take (ο P)=P))(f:autoParam (∀x∈P,s.names.lookup x=δ .local ∨ s.names.lookup x=δ .cell) PH._auto_1)(g:autoParam (∀y∈s.names,y.2≠.free) PH._auto_1):am N P s:=#[a,b,c,d,e,f,g]
def oi{N:xL ρ}{s t:ge}{M:xL ρ}{i:xL Nat}(a:autoParam (∀y∈t.names,y.2≠.cell) PH._auto_1)(b:↥(t.kind=.function))(c:autoParam (∀y∈t.names,y.2=.local->t.names.lookup y.1=δ .local) PH._auto_1)(d:autoParam (∀y∈t.names,y.2=.free->s.names.lookup y.1=δ .cell) PH._auto_1)(e:autoParam (M.drop n=i.map (λi=>N.getD i Str.empty)) PH._auto_1)(f:↥(ο M=n+ο i))(g:autoParam (∀j∈i,t.names.lookup (N.getD j Str.empty)=δ .free) PH._auto_1):bh N s t M n i:=#[a,b,c,d,e,f,g]
end _L
local macro_rules|`(tactic|left)=>`(tactic|try refine let s:=_;(?_:(_:_L.TS) _ s _))
local macro_rules|`(tactic|sleep $n)=>do{let f (i:Nat):=Lean.mkIdent (.num `t i);let mut t←`((?_:_L.cw _ $(f 1) _ _ _));let m:=n.getNat;for i in[1:m+1]do{t←if i==m then `(let $(f i):ident:=_;$t) else `(let $(f i):ident:=_L.cw _ $(f (i+1));$t)};`(tactic|refine $t)}
local macro_rules|`(tactic|symm)=>do{let g:=Lean.mkIdent `ℊ;`(tactic|first|with_reducible refine (?_:$g)|refine let $g:ident:Prop:=_;(?_:$g)|skip)}
local macro_rules|`(tactic|right)=>do{let g:=Lean.mkIdent `ℊ;`(tactic|try unfold $g)}
local macro_rules|`(tactic|obtain $p:rcasesPat:=$t)=>`(tactic|(refine _L.aX λG k=>?_;rcases $t:term with $p:rcasesPat<;>(refine k ?_;clear k)))
local macro_rules|`(⇑$n)=>do{let i:=Lean.mkIdent;`(_L.ai $(i `P) $(i `w) $(i `K) $(i `mg) $(i `base) _L.aH $n)}
namespace _K
open PySem PySem.Spec PyProof.Rows _L
noncomputable abbrev z0z:xL ρ:=["_law_box_here","_law_wide"]
abbrev z1z:xL ρ:=["_law_box_here"]
abbrev z2z:xL ρ:=["term"]
noncomputable abbrev z3z:xL ρ:=["statement","behind"]
abbrev z4z:xL ρ:=["statement"]
noncomputable abbrev z5z:xL ρ:=["_law_box_here","_law_names_here","_law_heads","_law_spare","_law_deep"]
abbrev z6z:xL ρ:=["_law_one"]
noncomputable abbrev z7z:xL ρ:=["self","parts","cells","most"]
noncomputable abbrev z8z:xL ρ:=["self","statement","behind"]
noncomputable abbrev z9z:xL ρ:=["part","n","held"]
abbrev z10z:xL ρ:=["path","what"]
abbrev z11z:xL ρ:=["term","held"]
noncomputable abbrev z12z:xL ρ:=["self","deed","deep"]
noncomputable abbrev z13z:xL ρ:=["_law_box_here","_law_names_here","_law_deep"]
noncomputable abbrev z14z:xL ρ:=["self","body","behind"]
noncomputable abbrev z15z:xL ρ:=["self","part","args","deep"]
noncomputable abbrev z16z:xL ρ:=["self","path","old","deep"]
noncomputable abbrev z17z:xL ρ:=["_law_chain","_law_at"]
abbrev z18z:xL ρ:=["body","behind"]
noncomputable abbrev z19z:xL ρ:=["_law_box_here","_law_a","_law_b"]
noncomputable abbrev z20z:xL ρ:=["_law_old","_law_new","_law_old_at","_law_new_at","_law_found_here"]
noncomputable abbrev z21z:xL ρ:=["name","params","body"]
noncomputable abbrev z22z:xL ρ:=["_law_box_here","_law_f","_law_inner_here","_law_w"]
noncomputable abbrev z23z:xL ρ:=["_law_old","_law_new"]
noncomputable abbrev z24z:xL ρ:=["_law_box_here","_law_total"]
noncomputable abbrev z25z:xL ρ:=["self","statement","place","behind"]
noncomputable abbrev z26z:xL ρ:=["sign","left","right"]
noncomputable abbrev z27z:xL ρ:=["self","cells","most"]
noncomputable abbrev z28z:xL ρ:=["self","path","old","deed","deep"]
noncomputable abbrev z29z:xL ρ:=["_law_box_here","_law_names_here"]
noncomputable abbrev z30z:xL ρ:=["parts","f","args","cells","most"]
noncomputable abbrev z31z:xL ρ:=["_law_j","_law_old","_law_step"]
noncomputable abbrev z32z:xL ρ:=["_law_box_here","_law_total","_law_letters","_law_wide","_law_spot_here","_law_signs","_law_first","_law_form","_law_found_here","_law_k","_law_one","_law_word","_law_some","_law_odd"]
noncomputable abbrev z33z:xL ρ:=["_law_k","_law_box_here","_law_letters"]
noncomputable abbrev z34z:xL ρ:=["_law_j","_law_box_here","_law_letters"]
noncomputable abbrev z35z:xL ρ:=["num","var","op","go","ask","back","chain","sets","iff","ends","calls","reads","gives"]
noncomputable abbrev z36z:xL ρ:=["_law_one","_law_box_here","_law_names_here"]
noncomputable abbrev z37z:xL ρ:=["_law_box_here","_law_total","_law_room"]
noncomputable abbrev z38z:xL ρ:=["_law_box_here","_law_f","_law_g","_law_w"]
noncomputable abbrev z39z:xL ρ:=["_law_old","_law_new","_law_old_at","_law_new_at","_law_found_here","_law_mark","_law_k","_law_step","_law_path","_law_j","_law_some","_law_lenders","_law_calls","_law_pair","_law_both"]
noncomputable abbrev z40z:xL ρ:=["_law_parts","_law_f","_law_args","_law_cells_here"]
noncomputable abbrev z41z:xL ρ:=["_law_box_here","_law_names_here","_law_heads","_law_spare","_law_deep","_law_kind","_law_x","_law_f","_law_params","_law_body_here"]
noncomputable abbrev z42z:xL ρ:=["_law_box_here","_law_f","_law_inner_here","_law_w","_law_n","_law_i","_law_s","_law_x","_law_y","_law_body_here","_law_spot_here","_law_start","_law_loop"]
noncomputable abbrev z43z:xL ρ:=["_law_box_here","_law_f","_law_inner_here","_law_w","_law_n","_law_i","_law_s","_law_x","_law_y","_law_spot_here","_law_body_here","_law_kept","_law_some","_law_start","_law_loop"]
noncomputable abbrev z44z:xL ρ:=["_law_box_here","_law_program","_law_total","_law_f","_law_params","_law_body_here"]
noncomputable abbrev z45z:xL ρ:=["_law_box_here","_law_w","_law_n","_law_i","_law_s","_law_y","_law_z","_law_spot_here","_law_test","_law_deeper","_law_body_here","_law_inner_here","_law_loop","_law_top"]
noncomputable abbrev z46z:xL ρ:=["_law_script","_law_parts","_law_books_here","_law_box_here","_law_k","_law_old","_law_new","_law_cells_here","_law_told","_law_path"]
variable {P:ω}{w:bF}{K:Ψ}{mg:ρ->ym η}{base:de}
noncomputable def bX(i:Nat):cc:=PySem.Challenge.pw_againbook_k40_whole_anew_as_laid.main.body.getD i (.Pass #[0,0,0,0])
abbrev Ie:cc:=bX 60
abbrev Ak:cc:=bX 61
abbrev lN:cc:=bX 63
def aI(p:ζ)(H h:Hp):Prop:=∀b o,b≠p->H b=δ o->h b=δ o
def aI.refl:aI p H H:=λ_ _ _ h=>h
def aI.trans(a:aI p H d)(b:aI p d e):aI p H e:=λc o n h=>b c o n (a c o n h)
def aI.of_eq{H a:Hp}(h:∀b,b≠p->a b=H b):aI p H a:=λb o n e=>by rw[h b n];rwa[e]
def aI.upd_new{o:HO}(a:aI p H h)(n:h r=θ):aI p H (af h r o):=λb u N e=>by let q:=a b u N e;rw[ji$ jk q n];rwa[q]
def aI.upd_own(a:aI p H h)(n:H r=θ):aI p H (af h r o):=λb u N e=>by rw[ji$ jk e n];rwa[a b u N e]
structure ax(H:Hp)(p:ζ):Prop where
 ob:∃a b:Int,0<=a/\1<=b/\b<=2147483646/\H p=δ (.lst [.int a,.int b])
def ax.eq{c:Hp}(B:ax H p)(e:c p=H p):ax c p:=by let(a,b,d,f,g,h):=B.ob;exact#[a,b,d,f,g,by rw[e];rwa[h]]
def ax.upd_new{o:HO}(B:ax H p)(n:H r=θ):ax (af H r o) p:=by let(a,b,c,d,e,h):=B.ob;rwa[B.eq (by rw[ji$ jk h n])]
def ax.ne(B:ax H p)(n:H r=θ):r≠p:=by let(a,b,c,d,e,h):=B.ob;rwa[Sc$ jk h n]
inductive aZ(c:xL V)(H:Hp)(Q:VK)(a:XK):Prop
 |mk(p:ζ)(w:Int)(_:c=[.ref p,.int w])(_:ax H p)(_:0 < w)(_:w<=1000000000000000000)(_:∀(d:Int) (H':Hp),0<=d->d < w->ax H' p->(∀b,b≠p->H' b=H b)->Q (.int d) H')
inductive oI(K:Ψ)(e:xL V)(H:Hp)(Q:VK)(c:XK):Prop
 |mk(a:ζ)(d:xL Int)(k:Int)(_:e=[.ref a,.int k])(_:aJ K H a (d.map xb))(_:0<=k)(_:k < 1000)(_:∀(r:ζ) (H':Hp),H r=θ->ax H' r->(∀b,b≠r->H' b=H b)->Q (.ref r) H')
def oX:(10:Int) ^ (18:Int).toNat=1000000000000000000:=PM
def xO{ns:xL Int}{k:Int}(H:0<=k)(a:k < (ns.length:Int)):∃v:Int,eW (ns.map xb) k=δ (.int v):=by
 let h:k.toNat < ο ns:=PL
 let e:k=((k.toNat:Nat):Int):=PL
 let q:eW (ns.map xb) ((k.toNat:Nat):Int)=δ (.int ns[k.toNat]):=jE (by rw[RP,Rq h];rfl);rw[<- e]at q;exact#[_,q]
structure Cl(P:ω)(w:bF)(K:Ψ)(mg:ρ->ym η)(base:de)(L:Nat)(f:ζ)(fd:bS)(ps:xL ρ)(sp:Sp)(py:ρ):Prop where
 g:⇑L f fd ps sp
 b:aE K fd ps []
 k:hG K (.ref f)=μ
 m:mg py=↑f
def Cl.e{X:Cx}{e:dw}(c:Cl X.prog X.w X.K X.mg X.base L f o q s a)(i:cf L X.A)(j:PA X (e::E) t)(l:↥(Gl X a))(h:↥((a==("__debug__":ρ))=ν))(n:↥(Δ (e::E) X.env=(ν,eval e X.env)::Δ E X.env))(H:↥((fy d$ Δ E X.env).any (·.1)=ν)):PE X (.Call (.Name a p) (e::E) [] d) (fj s [] E0 t):=kN c.g i l c.m c.k c.b .nil b6 j h n H
def jx{X:Cx}(h:PE X a t):PE X (.Subscript a (.Constant (.int i) j p) b) (fb (db X.K) t$ tC$ .int i):=jp jF h jf λ_ _=>Z
def jz{X:Cx}{p:Pos}(i:Nat)(h:X.N.Nodup)(H:PE X e t)(b:↥(X.N[i]?=δ x))(c:wg X.env.scope x:=by rwa[ψ Z])(d:↥(swapsWith e (δ$ .Name x a) p.line X.env=pure ν))(f:autoParam (X.fn x=μ∨X.env.scope.names.lookup x=δ .local) Wx._auto_1):PS X (.Assign [.Name x a] e p) (dI t$ bf i):=zf h b c H d f
def jv{K:Ψ}{H:Hp}{Q:VK}(h:H p=δ (.tup x))(a:eW x n=δ v)(q:Q v H)(e:↥(b[i]?=δ (↑p))):fb (db K) (bn i) (tC$ .int n) b H Q:=#[_,e,p,x,n,v,22,aC.of h,a,q]
def kf{X:Cx}(h:PE X a t):PT X (.Compare a [.Eq] [.Constant (.str x) j p] b) (mX$ fb MN t$ tC$ .str x):=jB qB h jl Z
def zp{X:Cx}(h:PE X a t):PT X (.Compare a [.Eq] [.Constant (.int x) j p] b) (mX$ fb MN t$ tC$ .int x):=jB qB h jf Z
def lP:am ["_law_box_here","_law_wide","_law_digit","_law_one","_law_mixed"] z0z (ae Ak):=bP
def C3(F:xD K "_law_take" Ak f x):⇑1 f x z0z aZ:=by
 erw[F.ok lP λC A o s H V Q E z h=>?_]
 let(p,W,rfl,B,d,g,q):=h;let(a,b,l,i,j,e):=B.ob;refine#[_,jd (jA (jB Jn (jp jr (pv 0) jf ∅) jf$ aG _)
   (jd (jz 2 lP.nd$ jw zu (jp jr (pv 0) jf ∅)$ pv 1)
   (jd (kW (jw K8 (jp jr (pv 0) jf ∅)$ pv 1)$ Jc (pv 0) jf zQ)
   (jg$ jo$ pv 2))) jq)
  (jd (jz 3 lP.nd$ jw zu (jw zD (jp jr (pv 0) jf ∅) jf) jf)
  (jd (kW (jw jV (jw zu (jw jV (jw zD (pv 3) jf) jf) jf) jf)$ Jc (pv 0) jf zQ)
  (jd (jz 4 lP.nd$ jw K8 (jw jV (jw zD (pv 3) jf)$ jp jr (pv 0) jf ∅) jf)
  (jd (jA (jB Jn (pv 1) (jw JR jf jf)$ aG _) (jg$ jz 4 lP.nd$ jw zD (pv 4)$ pv 4) jq)
  (jg$ jo$ jw zu (pv 4)$ pv 1))))),?_]
 erw[#[12,p,11122,aJ.of e,2112212,?_]];erw[cn (λc=>?_) (λc=>?_)]
 .let D:(0:Int) < a:=Sq c;erw[#[12,p,11122,aJ.of e,2121122,d,?_]];erw[#[12,p,11122,aJ.of e,2121122,#[d,g],12,p,11,0,22,e,212,?_]];erw[q (a % W) _ (SQ _ PL) (Sv _ d) #[a / W,b,Int.ediv_nonneg l PL,i,j,jc] λb n=>ji n]
 .let I:0<=b*69621 % 2147483647:=SQ _ PM;let J:b*69621 % 2147483647 < 2147483647:=Sv _ PM;erw[#[12,p,11122,aJ.of e,21122,.inr #[PM,PM],1122,(by show(0:Int) < 2147483647;decide),?_]];erw[#[121122,.inr #[PM,PM],11221122,(by show(0:Int) < 2147483646;decide),112212,p,11,1,22,e,Z,?_]];generalize m:b*69621 % 2147483647=one at*;let N:0<=(one*48271+30103) % 2147483646:=SQ _ PM;let L:(one*48271+30103) % 2147483646 < 2147483646:=Sv _ PM;generalize r:(one*48271+30103) % 2147483646=t at*;erw[#[121122,.inr #[PM,PM],12,p,11122,aJ.of jc,211221122,#[PM,PM],?_]];let X:0<=(one*2147483647+(t+1)) / 8191:=by omega
  let O:(one*2147483647+(t+1)) / 8191 < 18446744073709551616:=PL
  generalize u:(one*2147483647+(t+1)) / 8191=M at*;erw[#[121122,#[PM,PM,PM],112212,?_]];let v:ax (af H p$ .lst [.int a,.int$ t+1]) p:=#[a,t+1,l,PL,PL,jc];erw[cn (λy=>?_) (λy=>?_)]
  .erw[#[12121122,.inl #[N09,N09],?_]];erw[#[12121122,d,?_]];rwa[q _ _ (SQ _ PL) (Sv _ d) v λb n=>ji n]
  .erw[#[12121122,d,?_]];rwa[q _ _ (SQ _ PL) (Sv _ d) v λb n=>ji n]
def oB:am ["_law_script","_law_k","_law_cell","_law_seed"] ["_law_script","_law_k"] (ae Ie):=bP
def GU(F:xD K "_law_box" Ie f I)(m:mg "len"=θ)(M:mg "int"=θ):⇑1 f I ["_law_script","_law_k"] (oI K):=by
 erw[F.ok oB λJ A o s H W Q E X h=>?_]
 let(a,ns,k,rfl,d,i,L,q):=h;refine#[_,jd (jz 2 oB.nd$ jw jV (jw zD jf$ pv 1) jf)
  (jd (jA (jB Q0 (pv 1) (jH jD Z m Sj$ ja (pv 0) jb)$ aG _)
   (jg$ jz 2 oB.nd$ jp jr (pv 0) (pv 1) ∅)
   (jg (jA (jB Jn (jH jD Z m Sj$ ja (pv 0) jb) jf$ aG _)
    (jg$ jz 2 oB.nd$ jw jV (pv 2)$ jw zD (jw zu (jp jr (pv 0) (jw zu (pv 1)$ jH jD Z m Sj$ ja (pv 0) jb) ∅) jf) jf) jq)))
  (jd (jz 3 oB.nd$ jw jV (jw zu (jw jV (jw zD (jw zu (pv 2) jf) jf)$ jw zD jf$ pv 1) jf) jf)
  (jg$ jo$ jI$ ja (jw zD (pv 2)$ jL qT Z M WY$ ja (Kt yA (pv 2) (jw JR jf jf)$ aG _) jb)$ ja (pv 3) jb))),?_]
 let e:(ns.map xb).length=ο ns:=Rs _;let T:∀c:Int,∃v:V,∃x:Int,v= .int x/\1<=x/\x<=2147483646/\v= .int ((c % 2147483629*48271+40692*k) % 2147483646+1):=λc=>by let N:0<=(c % 2147483629*48271+40692*k) % 2147483646:=SQ _ PM;let O:(c % 2147483629*48271+40692*k) % 2147483646 < 2147483646:=Sv _ PM;exact#[112,PL,PL,Z]
 let j:∀(c:Int) (r:ζ),H r=θ->Q (.ref r) (af H r$ .lst [.int$ c*(if decide ((10:Int) ^ (18:Int).toNat<=c)=μ then 1 else 0),.int ((c % 2147483629*48271+40692*k) % 2147483646+1)]):=λc r R=>by
  erw[q r _ R #[11,?_,?_,?_,jc] λb n=>ji n]
  .rw[oX];by_cases h:(1000000000000000000:Int)<=c
   .rw[RG h,RB Z];omega
   .rw[RC h,RD RI];omega
  .let N:0<=(c % 2147483629*48271+40692*k) % 2147483646:=SQ _ PM;omega
  .let O:(c % 2147483629*48271+40692*k) % 2147483646 < 2147483646:=Sv _ PM;omega
 let B:∀c:Int,Bw c (if decide ((10:Int) ^ (18:Int).toNat<=c)=μ then 1 else 0):=λc=>.inr (by split<;>decide);erw[ah λF0 u=>#[121122,.inl #[PM,PM],1122,u _ _ ?_]];erw[ah λS y=>?_];let l:∀c:Int,S [↑a,δ$ .int k,δ$ .int c,θ] H:=λc=>y _ _ (ah λF2 U=>#[121122,(by show(0:Int) < 2147483629;decide),1122,.inr #[PM,PM],121122,.inl #[PM,PM],11221122,(by show(0:Int) < 2147483646;decide),1122,U _ _ (#[12121122,#[PM,PM,PM],1122,.inr #[121122,B c,12,cg,j c]])]);erw[pI λG g=>#[1212,a,12,.inl d,112212,g _ _ ?_]];erw[cn (λc=>?_) (λc=>?_)]
 .let C:k < (((ns.map xb).length:Nat):Int):=Sq c;rw[e]at C;let(v,p):=xO (ns:=ns) i C;exact#[1212,a,11122,d,p,l v]
 .let C:¬k < (((ns.map xb).length:Nat):Int):=UQ (iu.mpr c);rw[e]at C;erw[pI λG g=>#[12,a,12,.inl d,112212,g _ _ ?_]];refine cn (λz=>?_) (λz=>?_)
  .let D:(0:Int) < (((ns.map xb).length:Nat):Int):=Sq z;let(v,p):=xO (ns:=ns) (k:=k % (((ns.map xb).length:Nat):Int)) (SQ _ PL) (by let:=Sv k D;rw[e]at this;rw[e];rwa[this]);exact#[12121212,a,12,.inl d,1122,D,a,11122,d,p,1122,(by show(0:Int) < 2147483629;decide),1122,.inr #[PM,PM],1122,l _]
  .rwa[l _]
def pY(i j:ρ):(i++j).length=i.length+j.length:=by show(i.cps++j.cps).size=i.cps.size+j.cps.size;rwa[VQ]
def zR:1000000<=υ:=by rw[Ua];decide
def aq{H:Hp}{o:HO}(h:H b=δ u)(n:H r=θ):af H r o b=δ u:=by rw[ji$ jk h n];rwa[h]
def AS{z:ρ}{k:Int}(H:0<=k)(a:k < (z.length:Int)):∃c:Nat,eW z.cps.toList k=δ c:=by
 let b:ο z.cps.toList=z.length:=RX;let h:k.toNat < ο z.cps.toList:=PL
 let e:k=((k.toNat:Nat):Int):=PL
 let q:eW z.cps.toList ((k.toNat:Nat):Int)=δ z.cps.toList[k.toNat]:=jE (Rq h);rw[<- e]at q;exact#[_,q]
def KR{ys:xL ρ}{k:Int}(H:0<=k)(a:k < (ys.length:Int)):∃y∈ys,eW (ys.map vr) k=δ (.str y):=by
 let h:k.toNat < ο ys:=PL
 let e:k=((k.toNat:Nat):Int):=PL
 let q:eW (ys.map vr) ((k.toNat:Nat):Int)=δ (.str ys[k.toNat]):=jE (by rw[RP,Rq h];rfl);rw[<- e]at q;exact#[_,TF h,q]
def bL(s:xL ρ)(lo h:ym Int):xL ρ:=(s.drop$ HT.sIx s.length 0 lo).take (HT.sIx s.length s.length h - HT.sIx s.length 0 lo)
def zS(s:xL ρ)(lo h:ym Int):aQ (s.map vr) lo h=(bL s lo h).map vr:=by unfold aQ bL;rw[Rs,Uq,WB]
def qe{lo:ym Int}(h:y∈bL s lo H):y∈s:=VB (Sz h)
def qH(s:xL ρ)(lo h:ym Int):(bL s lo h).length<=ο s:=by unfold bL;rw[R0,Te];omega
theorem Ju:∀{ys:xL ρ},(∀y∈ys,y.length<=1)->(ys.map (·.length)).sum<=ο ys
 | [],_=>Rv _
 |y::r,h=>by let a:=h y RN;let b:=Ju (ys:=r) λz H=>h z (RZ _ H);rw[SR,List.sum_cons,Sa];omega
def Jv{z:ρ}{ys:xL ρ}(H:z.length=0)(h:∀y∈ys,y.length<=1):(Txt.join z ys).length<=ο ys:=by show(Builtin.Str.glued z ys).length<=_;rw[size_glued,H,Nat.mul_zero,Nat.add_zero];rwa[Ju h]
def eJ:ρ:="abcdefghijklmnopqrstuvwxyz"
def Kl:eJ.length=26:=PH
noncomputable def uR(d:Int)(k:Nat):Nat:=97+((d+5*(0+(k:Int))) % 26).toNat
def Cr(H:i < 20)(a:j < 20)(h:uR d i=uR d j):i=j:=by unfold uR at h;omega
def Gn(H:0<=k)(a:k < 26)(h:eW eJ.cps.toList k=δ c):c=97+k.toNat:=by
 let q:∀m:Fin 26,eW eJ.cps.toList (m.val:Int)=δ (97+m.val):=PH
 let e:=q #[k.toNat,PL];let E:((k.toNat:Nat):Int)=k:=PL
 dsimp only at e;rw[E,h]at e;injection e
def Sh(A S:ρ)(d:Int)(c:Nat)(w:ρ):Prop:=if d=2 then ∃R:ρ,w=R++#[(ε [c])] else w=A++#[(ε [c])]++S∨w=A++#[(ε [c])]++S++"z"∨w="qqqqqqq"++#[(ε [c])]
def zb(a b:ρ):(a++b).cps.toList=a.cps.toList++b.cps.toList:=by show(a.cps++b.cps).toList=_;rwa[Array.toList_append]
def Yv{R:ρ}(h:R++(#[(ε [c])]:ρ)=r++#[(ε [C])]):c=C:=by let e:=SM (nI ∘ Str.cps) h;let e:(R++(#[(ε [c])]:ρ)).cps.toList=(r++(#[(ε [C])]:ρ)).cps.toList:=e;rw[zb,zb]at e;let:=List.append_inj_right' e Z;injection this
def Cy{S:ρ}(h:A++(#[(ε [c])]:ρ)++S=A++#[(ε [C])]++S):c=C:=by let e:=SM (nI ∘ Str.cps) h;let e:(A++(#[(ε [c])]:ρ)++S).cps.toList=(A++(#[(ε [C])]:ρ)++S).cps.toList:=e;rw[zb,zb,zb,zb]at e;let:=WM (U9 e);injection this
def M6{A S : ρ}{d : Int}{c C : Nat}{w : ρ}(i : A.length + S.length <= 5)(h : Sh A S d c w)(H : Sh A S d C w) : c = C := by
  unfold Sh at h H;let l : ∀ c : Nat, (#[(ε [c])] : ρ).length = 1 :=λ_ => Z;let L : (Str.ofString "z").length = 1 := by decide +kernel
  let f : (Str.ofString "qqqqqqq").length = 7 := by decide +kernel
  split at h
  · rename_i a
    rw [RB a] at H;obtain ⟨R, rfl⟩ := h;obtain ⟨r, e⟩ := H;rwa[Yv e]
  · rename_i a
    rw [RD a] at H;rcases h with rfl | rfl | rfl <;> rcases H with e | e | e
    · rwa[Cy e]
    all_goals first
      | rwa[Yv e]
      | (have g := SM Str.length e
         simp only [pY, l, L, f] at g;omega)
      | skip
    let E := SM (nI ∘ Str.cps) e;let E : (A ++ (#[(ε [c])] : ρ) ++ S ++ ("z" : ρ)).cps.toList = (A ++ (#[(ε [C])] : ρ) ++ S ++ ("z" : ρ)).cps.toList := E;rw [zb, zb (A ++ _ ++ S)] at E;let b := U9 E;rw [zb, zb, zb, zb] at b;let := WM (U9 b);injection this
def Yw{y:xL ρ}:y.Nodup↔∀i j:Nat,i < j->j < ο y->y[i]?≠y[j]?:=by
 unfold List.Nodup;rw[Wn];erw[#[λh i j H a e=>?_,λh i j b a H e=>h i j H a ?_]]
 .rw[Rq (PL:i < ο y),Rq a]at e;injection e with e;rwa[h i j PL a H e]
 .rw[Rq b,Rq a,e]
def AF{A S:ρ}{d D:Int}{Y:xL ρ}(b:A.length+S.length<=5)(g:Y.length<=20)(h:∀j y,Y[j]?=δ y->Sh A S D (uR d j) y):Y.Nodup:=by rw[Yw];intro i j c H e;let a:=h i _ (Rq (PL:i < ο Y));let f:=h j _ (Rq H);rw[Rq (PL:i < ο Y),Rq H]at e;injection e with e;rw[e]at a;let:=Cr PL PL (M6 b a f);omega
def u5{y:xL ρ}(h:y.Nodup)(b:a∉y):(y.set n a).Nodup:=by
 rw[Yw]at h ⊢;intro i j H c e;rw[Vt]at c;by_cases d:n=i
 .rw[d,UB PL,TY PL]at e;rwa[b$ RL e.symm]
 .by_cases f:n=j
  .rw[f,UB N09,TY PL]at e;rwa[b$ RL e]
  .rw[TY d,TY f]at e;rwa[h i j H c e]
def CM{y:xL ρ}(h:rM (.str a) (y.map vr)=ν):a∉y:=λm=>by unfold rM at h;rw[List.any_eq_false]at h;rwa[h (.str a) (dn.mpr #[a,m,Z]) (by simp [o0])]
def BZ{ss:xL ρ}{d1 d2:Int}(h:ο ss=(1+d1).toNat)(a:0<=d2)(b:d2 < 1+d1):(bL ss θ$ δ d2).length+(bL ss (δ$ d2+1) θ).length<=d1.toNat:=by
 obtain⟨k,rfl⟩:∃k:Nat,d2=k:=#[d2.toNat,(Int.toNat_of_nonneg a).symm];obtain⟨n,rfl⟩:∃n:Nat,d1=n:=#[d1.toNat,(Int.toNat_of_nonneg PL).symm];let H:k<=n:=PL
 let h:ο ss=n+1:=by rw[h];omega
 unfold bL;rw[show((k:Int)+1)=((k+1:Nat):Int) from Z,HT.sIx_nat,HT.sIx_nat,R0,R0,Te,h,TU$ Ts H,TU$ Nat.le_succ_of_le H];erw[RM (Nat.add_le_add (Vv _ _)$ Vv _ _) ?_];show k - 0+(n+1 - (k+1))<=n;rw[UZ,Nat.add_sub_add_right,Nat.add_sub_cancel' H];rwa[Rv _]
def Ou{S:ρ}:Sh A S d c ("qqqqqqq"++#[(ε [c])]):=by
 unfold Sh;split
 .exact#[12]
 .rwa[.inr$ .inr Z]
def Ov{A S:ρ}{d:Int}{c:Nat}{w:ρ}(h:if d=2 then ∃R:ρ,w=R++#[(ε [c])] else w=A++#[(ε [c])]++S∨w=A++#[(ε [c])]++S++"z"):Sh A S d c w:=by
 unfold Sh;split at h
 .rename_i e;rw[RB e];rwa[h]
 .rename_i e;rw[RD e];rwa[h.elim .inl λz=>.inr (.inl z)]
def pre(s:xL ρ)(d:Int):ρ:=Txt.join "" (bL s θ$ δ d)
def h9(s:xL ρ)(d:Int):ρ:=Txt.join "" (bL s (δ$ d+1) θ)
inductive gJ(b:xL V)(H:Hp)(Q:VK)(a:XK):Prop
 |mk(p:ζ)(n:Int)(_:b=[.ref p,.int n])(_:ax H p)(_:1<=n)(_:n<=20)(_:∀(r:ζ) (ys:xL ρ) (H':Hp),H r=θ->H' r=δ (.lst (ys.map vr))->(ys.length:Int)=n->(∀y∈ys,y.length<=20)/\ys.Nodup->ax H' p->aI p H H'->Q (.ref r) H')
def bG:am z32z z24z (ae lN):=bP
noncomputable def QW:ge:=#[.function,[(".0",.local),("_law_k",.local),("_law_take",.globalImplicit),("_law_box_here",.free),("_law_letters",.free)],ν,ν,[]]
def ZR:(z33z:xL ρ).Nodup:=PH
def ZS:bh z32z (ae lN) QW z33z 1 [0,2]:=oi
noncomputable def QX:ge:=#[.function,[(".0",.local),("_law_j",.local),("_law_take",.globalImplicit),("_law_box_here",.free),("_law_letters",.free)],ν,ν,[]]
def ZT:(z34z:xL ρ).Nodup:=PH
def ZU:bh z32z (ae lN) QX z34z 1 [0,2]:=oi
def JN{p:ζ}{Q:xL V->Hp->Prop}(o:n<=20)(B:ax f p)
  (q:∀(S:xL ρ) (H:Hp),ο S=n->(∀s∈S,s.length<=1)->ax H p->(∀b,b≠p->H b=f b)->Q (S.map vr) H):
  fi (wf 0 n) 1 [↑p,δ$ .str eJ] (bf 0) mw (fb yS (bn 2)$ fj aZ [] E0$ ap (bn 1)$ ap (tC$ .int 26) aS) Q f:=by
 refine YW (λi y H=>∃S:xL ρ,y=S.map vr/\ο S=i/\(∀s∈S,s.length<=1)/\ax H p/\∀b,b≠p->H b=f b)
  #[[],22,(λ_ h=>nomatch h),B,λ_ _=>Z] (RM o PM) (λi y H #[S,e,l,_]=>by rw[e,Rs,l];rwa[Rv _]) ?_ ?_
 .intro i y H x a;let(S,rfl,g,j,m,E):=a;erw[#[1212,p,(26),Z,m,PM,PM,λd A D r t u=>?_]];let(c,v):=AS (z:=eJ) D (by rw[Kl];rwa[r]);erw[#[11,c,22,PM,v,S++[#[(ε [c])]],by rw[RU];rfl,by rw[Ru,g];rfl,λs hs=>?_,t,λb N=>(u b N).trans (E b N)]];rcases γ.mp hs with hs |hs
  .rwa[j s hs]
  .rw[τ.mp hs];rwa[Rv 1]
 .intro y H a;let(S,rfl,g,j,m,E):=a;rwa[q S H g j m E]
def Rw(p g r:ζ)(n d D b e:Int)(i c:Nat)(s y:xL ρ)(H:Hp)(L:Nat)(Z:ρ->Prop):_L.St->Hp->Prop:=λa h=>∃W:ρ,(W.length<=L/\Z W)/\
 a=[↑p,δ$ .int n,δ$ .str eJ,δ$ .int (1+d),δ$ .int D,↑g,δ$ .int b,δ$ .int e,↑r,δ$ .int (0+(i:Int)),δ$ .str #[(ε [c])],δ$ .str W,θ,θ]/\
 h g=δ (.lst$ s.map vr)/\h r=δ (.lst$ y.map vr)/\ax h p/\aI p H h
def Rf(p r:ζ)(n:Int)(H:Hp):_L.St->Hp->Prop:=λa h=>a[8]?=δ (↑r)/\∃Y:xL ρ,h r=δ (.lst$ Y.map vr)/\(Y.length:Int)=n/\((∀y∈Y,y.length<=20)/\Y.Nodup)/\ax h p/\aI p H h
def Xq(Y:xL ρ):(Y.map vr).all dJ=μ:=by rw[Vd];intro v h;let(y,_,rfl):=dn.mp h;rfl
def AD(Y:xL ρ)(j:Nat)(y:ρ):(Y.map vr).set j (vr y)=(Y.set j y).map vr:=(List.map_set ..).symm
inductive NI(p g r:ζ)(n b c d e:Int)(v:xL ρ)(H:Hp)(i:Nat)(x:_L.St)(a:Hp):Prop
 |mk(s t u:ym V)(w:xL ρ)(f:x=[↑p,δ (.int n),δ (.str eJ),δ (.int (1+b)),δ (.int c),↑g,δ (.int d),δ (.int e),↑r,s,t,u,θ,θ])(h:a g=δ (.lst (v.map vr)))(k:a r=δ (.lst (w.map vr)))(l:ο w=i)(m:(∀y∈w,y.length<=20)/\∀j y,w[j]?=δ y->Sh (pre v c) (h9 v c) e (uR d j) y)(o:ax a p)(q:aI p H a)
def yu(F:xD K "_law_names" lN f fd)(GT:⇑1 fT f4 z0z aZ)(x:aE K f4 z0z [])(C:hG K (.ref fT)=μ)
  (M:mg "_law_take"=↑fT) (mr:mg "range"=θ):⇑2 f fd z24z gJ:=by
 erw[F.ok bG λc1 A o1 s H vs Q E D h=>?_]
 symm;let(p,n,rfl,B,a4,a5,q):=h;erw[#[_,(@jd _ _ _ _ _ (@zf _ _ (2) _ _ _ _ bG.nd Z (fR Z) (@jl _ _ _ _) Pz$ .inl Z)$ @jd _ _ _ _ _ (@zf _ _ (3) _ _ _ _ bG.nd Z (ψ Z) (@jw _ _ _ _ _ _ _ _ jV (@jf _ _ _ _)$ @kN _ _ _ _ _ _ _ _ _ _ _ _ _ _ _ _ GT D Z M C x .nil b6 (@ja _ _ _ _ _ (@pv _ 0 _ _ Pz (.inr$ .inl Z) PM PM) (@ja _ _ _ _ _ (@jf _ _ _ _) (@jb _) Pz) Pz) PM Pz Pz) Pz$ .inl Z)$ @jd _ _ _ _ _ (@zf _ _ (4) _ _ _ _ bG.nd Z (ψ Z) (@kN _ _ _ _ _ _ _ _ _ _ _ _ _ _ _ _ GT D Z M C x .nil b6 (@ja _ _ _ _ _ (@pv _ 0 _ _ Pz (.inr$ .inl Z) PM PM) (@ja _ _ _ _ _ (@pv _ 3 _ _ Pz (.inl Z) PM PM) (@jb _) Pz) Pz) PM Pz Pz) Pz$ .inl Z)$ @jd _ _ _ _ _ (@qQ _ _ _ _ _ _ _ _ _ _ (5) (z33z) (1) ([0,2]) _ _ _ _ bG.nd Z (ψ Z) Z (@kC _ _ _ _ _ _ Z mr (@ja _ _ _ _ _ (@pv _ 3 _ _ Pz (by first |exact ψ Z |exact fR (ψ Z) |exact fR$ fR Z) PM PM) (@jb _) Pz) Pz) ZS (λ_ _ _ _ _=>(@ju _ _ (0) _ ZR Z (ψ Z) Ch)) (λ_ _ _ _ _=>(@zw _)) (λ_ _ _ _ _=>(@jp _ _ _ _ _ _ _ JS (@pv _ 2 _ _ Pz (by first |exact ψ Z |exact fR (ψ Z) |exact fR$ fR Z) PM PM) (@kN _ _ _ _ _ _ _ _ _ _ _ _ _ _ _ _ GT D Z M C x .nil b6 (@ja _ _ _ _ _ (@pv _ 1 _ _ Pz (by first |exact ψ Z |exact fR (ψ Z) |exact fR$ fR Z) PM PM) (@ja _ _ _ _ _ (@jf _ _ _ _) (@jb _) Pz) Pz) PM Pz Pz) ∅)) Pz Ch Cv)$ @jd _ _ _ _ _ (@zf _ _ (6) _ _ _ _ bG.nd Z (ψ Z) (@kN _ _ _ _ _ _ _ _ _ _ _ _ _ _ _ _ GT D Z M C x .nil b6 (@ja _ _ _ _ _ (@pv _ 0 _ _ Pz (.inr$ .inl Z) PM PM) (@ja _ _ _ _ _ (@jf _ _ _ _) (@jb _) Pz) Pz) PM Pz Pz) Pz$ .inl Z)$ @jd _ _ _ _ _ (@zf _ _ (7) _ _ _ _ bG.nd Z (ψ Z) (@kN _ _ _ _ _ _ _ _ _ _ _ _ _ _ _ _ GT D Z M C x .nil b6 (@ja _ _ _ _ _ (@pv _ 0 _ _ Pz (.inr$ .inl Z) PM PM) (@ja _ _ _ _ _ (@jf _ _ _ _) (@jb _) Pz) Pz) PM Pz Pz) Pz$ .inl Z)$ @jd _ _ _ _ _ (@zf _ _ (8) _ _ _ _ bG.nd Z (ψ Z) (@jI _ _ _ _$ @jb _) Pz$ .inl Z)$ @jd _ _ _ _ _ (@j7 _ _ _ _ _ _ _ _ Sd Z (@kC _ _ _ _ _ _ Z mr (@ja _ _ _ _ _ (@pv _ 1 _ _ Pz (.inl Z) PM PM) (@jb _) Pz) Pz) (@ju _ _ (9) _ bG.nd Z (ψ Z)$ .inl Z) (@jd _ _ _ _ _ (@zf _ _ (10) _ _ _ _ bG.nd Z (ψ Z) (@jp _ _ _ _ _ _ _ JS (@pv _ 2 _ _ Pz (.inr$ .inl Z) PM PM) (@jw _ _ _ _ _ _ _ _ zu (@jw _ _ _ _ _ _ _ _ jV (@pv _ 6 _ _ Pz (.inl Z) PM PM)$ @jw _ _ _ _ _ _ _ _ zD (@jf _ _ _ _)$ @pv _ 9 _ _ Pz (.inl Z) PM PM)$ @jf _ _ _ _) ∅) Pz$ .inl Z)$ @jd _ _ _ _ _ (@j8 _ _ _$ @zf _ _ (11) _ _ _ _ bG.nd Z (ψ Z) (@jw _ _ _ _ _ _ _ _ zV (@jw _ _ _ _ _ _ _ _ zV (@j6 _ _ _ _ _ _ _ _ _ _ _ _ Vb Vg Vf XQ (@jl _ _ _ _) (@ja _ _ _ _ _ (@jK _ _ _ _ _ _ _ _ _ _ km (@pv _ 5 _ _ Pz (.inl Z) PM PM) (@jU _)$ @jJ _ _ _$ @pv _ 4 _ _ Pz (.inl Z) PM PM) (@jb _) Pz) Pz Pz Pz Pz Pz)$ @pv _ 10 _ _ Pz (.inl Z) PM PM)$ @j6 _ _ _ _ _ _ _ _ _ _ _ _ Vb Vg Vf XQ (@jl _ _ _ _) (@ja _ _ _ _ _ (@jK _ _ _ _ _ _ _ _ _ _ km (@pv _ 5 _ _ Pz (.inl Z) PM PM) (@jJ _ _ _$ @jw _ _ _ _ _ _ _ _ jV (@pv _ 4 _ _ Pz (.inl Z) PM PM)$ @jf _ _ _ _)$ @jU _) (@jb _) Pz) Pz Pz Pz Pz Pz) Pz$ .inl Z)$ @jd _ _ _ _ _ (@j8 _ _ _$ @jA _ _ _ _ _ _ _ _ (@PW.pt _ _ _$ @Jb _ _ _ _ _ _ _ (zp$ @pv _ 7 _ _ Pz (.inl Z) PM PM)$ @qm _ _ _ _$ zp$ @jw _ _ _ _ _ _ _ _ zu (@pv _ 9 _ _ Pz (.inl Z) PM PM)$ @jf _ _ _ _) (@jg _ _ _$ @zf _ _ (11) _ _ _ _ bG.nd Z (ψ Z) (@jw _ _ _ _ _ _ _ _ zV (@pv _ 11 _ _ Pz (.inl Z) PM PM)$ @jl _ _ _ _) Pz$ .inl Z)$ @jq _)$ @jd _ _ _ _ _ (@j8 _ _ _$ @jA _ _ _ _ _ _ _ _ (zp$ @pv _ 7 _ _ Pz (.inl Z) PM PM) (@jg _ _ _$ @zf _ _ (11) _ _ _ _ bG.nd Z (ψ Z) (@jw _ _ _ _ _ _ _ _ zV (@j6 _ _ _ _ _ _ _ _ _ _ _ _ Vb Vg Vf XQ (@jl _ _ _ _) (@ja _ _ _ _ _ (@za _ _ _ _ _ _ _ (z34z) (1) ([0,2]) _ _ _ _ Z (@kC _ _ _ _ _ _ Z mr (@ja _ _ _ _ _ (@kN _ _ _ _ _ _ _ _ _ _ _ _ _ _ _ _ GT D Z M C x .nil b6 (@ja _ _ _ _ _ (@pv _ 0 _ _ Pz (by first |exact ψ Z |exact fR (ψ Z) |exact fR$ fR Z) PM PM) (@ja _ _ _ _ _ (@jf _ _ _ _) (@jb _) Pz) Pz) PM Pz Pz) (@jb _) Pz) Pz) ZU (λ_ _ _ _ _=>(@ju _ _ (0) _ ZT Z (ψ Z) Ch)) (λ_ _ _ _ _=>(@zw _)) (λ_ _ _ _ _=>(@jp _ _ _ _ _ _ _ JS (@pv _ 2 _ _ Pz (by first |exact ψ Z |exact fR (ψ Z) |exact fR$ fR Z) PM PM) (@kN _ _ _ _ _ _ _ _ _ _ _ _ _ _ _ _ GT D Z M C x .nil b6 (@ja _ _ _ _ _ (@pv _ 1 _ _ Pz (by first |exact ψ Z |exact fR (ψ Z) |exact fR$ fR Z) PM PM) (@ja _ _ _ _ _ (@jf _ _ _ _) (@jb _) Pz) Pz) PM Pz Pz) ∅)) Cv) (@jb _) Pz) Pz Pz Pz Pz Pz)$ @pv _ 10 _ _ Pz (.inl Z) PM PM) Pz$ .inl Z)$ @jq _)$ @jd _ _ _ _ _ (@j8 _ _ _$ @jA _ _ _ _ _ _ _ _ (@jB _ _ _ _ _ _ _ _ zJ (@pv _ 11 _ _ Pz (.inl Z) PM PM) (@jh _ _ _ _ _$ @XS _ _ Pz) Z) (@jg _ _ _$ @zf _ _ (11) _ _ _ _ bG.nd Z (ψ Z) (@jw _ _ _ _ _ _ _ _ zV (@jl _ _ _ _)$ @pv _ 10 _ _ Pz (.inl Z) PM PM) Pz$ .inl Z)$ @jq _)$ @jg _ _ _$ @jN _ _ _ _ (@j6 _ _ _ _ _ _ _ _ _ _ _ _ RF RT RS jQ (@pv _ 8 _ _ Pz (.inl Z) PM PM) (@ja _ _ _ _ _ (@pv _ 11 _ _ Pz (.inl Z) PM PM) (@jb _) Pz) Pz Pz Pz Pz Pz) Pz) Cv)$ @jd _ _ _ _ _ (@j8 _ _ _$ @jA _ _ _ _ _ _ _ _ (@jB _ _ _ _ _ _ _ _ qB (@kN _ _ _ _ _ _ _ _ _ _ _ _ _ _ _ _ GT D Z M C x .nil b6 (@ja _ _ _ _ _ (@pv _ 0 _ _ Pz (.inr$ .inl Z) PM PM) (@ja _ _ _ _ _ (@jf _ _ _ _) (@jb _) Pz) Pz) PM Pz Pz) (@jf _ _ _ _)$ aG _) (@jd _ _ _ _ _ (@zf _ _ (12) _ _ _ _ bG.nd Z (ψ Z) (@jI _ _ _ _$ @XS _ _ Pz) Pz$ .inl Z)$ @jd _ _ _ _ _ (@zf _ _ (13) _ _ _ _ bG.nd Z (ψ Z) (@jp _ _ _ _ _ _ _ jr (@pv _ 12 _ _ Pz (.inl Z) PM PM) (@kN _ _ _ _ _ _ _ _ _ _ _ _ _ _ _ _ GT D Z M C x .nil b6 (@ja _ _ _ _ _ (@pv _ 0 _ _ Pz (.inr$ .inl Z) PM PM) (@ja _ _ _ _ _ (@jf _ _ _ _) (@jb _) Pz) Pz) PM Pz Pz) ∅) Pz$ .inl Z)$ @jg _ _ _$ @jA _ _ _ _ _ _ _ _ (@jB _ _ _ _ _ _ _ _ JI (@pv _ 13 _ _ Pz (.inl Z) PM PM) (@pv _ 8 _ _ Pz (.inl Z) PM PM) Z) (@jg _ _ _$ @kW _ _ _ _ _ _ (@pv _ 13 _ _ Pz (.inl Z) PM PM) (@Jc _ _ _ _ _ _ _ (@pv _ 8 _ _ Pz (.inl Z) PM PM) (@kN _ _ _ _ _ _ _ _ _ _ _ _ _ _ _ _ GT D Z M C x .nil b6 (@ja _ _ _ _ _ (@pv _ 0 _ _ Pz (.inr$ .inl Z) PM PM) (@ja _ _ _ _ _ (@pv _ 1 _ _ Pz (.inl Z) PM PM) (@jb _) Pz) Pz) PM Pz Pz) zQ Cv) Pz Pz Pz)$ @jq _)$ @jq _)$ @jg _ _ _$ @jo _ _ _ _$ @pv _ 8 _ _ Pz (.inl Z) PM PM),?_]];sleep 9;erw[hZ λE0 f0=>f0 _ _ ?_];erw[hZ λG a=>#[12,p,6,Z,B,PM,PM,λd1 H1 a' b0 U e1=>#[1122,a _ _ ?_]]];erw[hZ λE2 f2=>#[1212,p,12,U,PL,PL,λd2 H2 b1 b2 B2 e2=>f2 _ _ ?_]];erw[hZ λG a=>#[1212,PL,PL,?_]];erw[JN (p:=p) PL B2 λss H3 a3 e B3 e3 g hg=>a _ _ ?_];left;let k3:aI p H H3:=(aI.of_eq e1).trans ((aI.of_eq e2).trans$ aI.of_eq e3);let v:g≠p:=B3.ne hg;erw[hZ λG a=>#[12,p,(26),Z,B3.upd_new hg,PM,PM,λW H4 b3 b4 B4 e4=>a _ _ ?_]];erw[hZ λE2 f2=>#[12,p,3,Z,B4,PM,PM,λI H5 b5 b7 B5 e5=>f2 _ _ ?_]];let h2:H5 g=δ (.lst$ ss.map vr):=by rw[e5 g v,e4 g v];rwa[jc]
 let k5:aI p H H5:=(k3.upd_new hg).trans ((aI.of_eq e4).trans$ aI.of_eq e5);erw[hZ λG a=>#[PM,λr u=>a _ _ ?_]];left;let m:r≠p:=B5.ne u;let h4:g≠r:=jk h2 u;let n3:H g=θ:=by
  cases z:H g with
  |none=>rfl
  |some o=>have:=k3 g o v z;rw[hg]at this;symm;cases this
 let X:H r=θ:=by
  cases z:H r with
  |none=>rfl
  |some o=>have:=k5 r o m z;rw[u]at this;symm;cases this
 let b8:=zR;erw[hZ λG a=>eG λJ j=>#[1212,PL,PL,j _ _ ?_]];erw[kn (lo:=0) (NI p g r n d1 d2 W I ss H) #[θ,θ,θ,[],Z,aq h2 u,jc,Z,#[(λ_ h=>nomatch h),(λ_ _ h=>nomatch h)],B5.upd_new u,k5.upd_new u] ?_ ?_]
 .intro E0 _ i σ H' hi fE Gq T b;symm;let(ok,oo,ow,ys,rfl,L,Y,h0,d,B',k'):=b;left;symm;let(c,hc):=AS (z:=eJ) (k:=(W+5*(0+(i:Int))) % 26) (SQ _ PM) (by rw[Kl];rwa[Sv _ PM]);erw[T ?_];show cw (dI _ _) _ E0 _ _;sleep 5;erw[hZ λG a=>#[1212121122,.inl #[PM,PM],11221122,(by show(0:Int) < 26;decide),11,c,22,PM,hc,a _ _ ?_]];left;let b9:(#[(ε [c])]:ρ).length=1:=rfl;let h5:c=uR W i:=Gn (SQ _ PM) (Sv _ PM) hc;refine hZ λG a=>eI (Rw p g r n d1 d2 W I i c ss ys H 13 (·=pre ss d2++#[(ε [c])]++h9 ss d2)) (λE2 _ t=>?_) λO H1 b=>?_
  .erw[#[2121212,g,12,aJ.of L,λs1 n1=>?_]];let z1:=Ju (ys:=bL ss θ (δ d2)) λy d=>e y (qe d);let z2:=qH ss θ (δ d2);erw[#[_,s1,bL ss θ$ δ d2,22,aJ.of (by rw[jc,zS]),PM,PL,?_]];let j1:=Jv (z:="") (ys:=bL ss θ (δ d2)) PH λy d=>e y (qe d);erw[#[121122,PL,?_]];erw[#[21212112212,g,12,aJ.of$ aq L n1,λs2 n2=>?_]];let z3:=Ju (ys:=bL ss (δ$ d2+1) θ) λy d=>e y (qe d);let z4:=qH ss (δ$ d2+1) θ;erw[#[_,s2,bL ss (δ$ d2+1) θ,22,aJ.of (by rw[jc,zS]),PM,PL,?_]];let j2:=Jv (z:="") (ys:=bL ss (δ$ d2+1) θ) PH λy d=>e y (qe d);erw[#[1122,by rw[pY];omega,?_]];rwa[t _ _ #[_,#[by show(Txt.join ("":ρ) (bL ss θ$ δ d2)++(#[(ε [c])]:ρ)++Txt.join ("":ρ) (bL ss (δ$ d2+1) θ)).length<=13;rw[pY,pY];omega,Z],Z,aq (aq L n1) n2,aq (aq Y n1) n2,(B'.upd_new n1).upd_new n2,(k'.upd_new n1).upd_new n2]]
  symm;obtain⟨w1,⟨b',z1⟩,rfl,g1,r1,U,k1⟩:=b;erw[a _ _ ?_];left;sleep 3;erw[hZ λG a=>eI (Rw p g r n d1 d2 W I i c ss ys H 14 (λw=>w=pre ss d2++#[(ε [c])]++h9 ss d2∨w=pre ss d2++#[(ε [c])]++h9 ss d2++"z")) (λE2 _ t=>?_) λO H2 b=>?_]
  .erw[#[12212,?_]];refine cn (λS=>?_) (λS=>?_)
   .erw[#[121122,(by show(0:Int) < 2;decide),212,?_]];refine cn (λcb=>?_) (λcb=>?_)
    .let hz:(Str.ofString "z").length=1:=by decide+kernel
     erw[#[121122,by rw[hz];omega,?_]];rwa[t _ _ #[_,#[by rw[pY,hz];omega,.inr (by rw[z1])],Z,g1,r1,U,k1]]
    .rwa[t _ _ #[w1,#[PL,.inl z1],Z,g1,r1,U,k1]]
   .rwa[om$ t _ _ #[w1,#[PL,.inl z1],Z,g1,r1,U,k1]]
  symm;obtain⟨w2,⟨c2,z2⟩,rfl,g2,r2,B2,k2⟩:=b;erw[a _ _ ?_];left;erw[hZ λG a=>eI (Rw p g r n d1 d2 W I i c ss ys H 14 (λw=>if I=2 then ∃R:ρ,w=R++#[(ε [c])] else w=pre ss d2++#[(ε [c])]++h9 ss d2∨w=pre ss d2++#[(ε [c])]++h9 ss d2++"z")) (λE2 _ t=>?_) λO H3 b=>?_]
  .erw[#[12212,?_]];refine cn (λS=>?_) (λS=>?_)
   .erw[#[212,p,8,Z,B2,PM,PM,λd6 H6 d0 d3 B6 e6=>?_]];erw[#[12,PL,PL,?_]];erw[JN (p:=p) PL B6 λtt H7 c3 h3 B7 e7 g7 n7=>?_];let jt:=Jv (z:="") (ys:=tt) PH h3;let zt:=Ju h3;erw[#[_,g7,tt,22,aJ.of jc,PM,PL,?_]];erw[#[121122,PL,?_]];let g8:H7 g=δ (.lst$ ss.map vr):=by rw[e7 g v,e6 g v];exact g2
    let r8:H7 r=δ (.lst$ ys.map vr):=by rw[e7 r m,e6 r m];rwa[r2]
    let e5:I=2:=by injection Sq S
    rwa[t _ _ #[_,#[by rw[pY];omega,(RB e5).mpr #[12]],Z,aq g8 n7,aq r8 n7,B7.upd_new n7,(k2.trans ((aI.of_eq e6).trans$ aI.of_eq e7)).upd_new n7]]
   .let e5:I≠2:=λz=>S (by rw[z];rwa[RG Z]);rwa[t _ _ #[w2,#[N09,(RD e5).mpr z2],Z,g2,r2,B2,k2]]
  symm;obtain⟨w3,⟨c4,z3⟩,rfl,g3,r3,B3,k3⟩:=b;erw[a _ _ ?_];left;erw[hZ λG a=>eI (Rw p g r n d1 d2 W I i c ss ys H 14$ Sh (pre ss d2) (h9 ss d2) I c) (λE2 _ t=>?_) λO H4 b=>?_]
  .erw[#[12,PM,λt0 N=>?_]];erw[#[t0,12,.inr$ aC.of jc,Z,uE Pz,12,?_]];refine cn (λS=>?_) (λS=>?_)
   .let hq:(Str.ofString "qqqqqqq").length=7:=by decide+kernel
    erw[#[121122,by rw[hq];omega,?_]];rwa[t _ _ #[_,#[by rw[pY,hq];omega,Ou],Z,aq g3 N,aq r3 N,B3.upd_new N,k3.upd_new N]]
   .rwa[t _ _ #[w3,#[PL,Ov z3],Z,aq g3 N,aq r3 N,B3.upd_new N,k3.upd_new N]]
  symm;obtain⟨w4,⟨c5,z4⟩,rfl,g4,r4,B4,k4⟩:=b;erw[a _ _ ?_];left;erw[#[12,.inl #[21,aJ.of r4],12,r,1122,r4,by rw[Rs];omega,?_]];erw[fE _ _ #[111,ys++[w4],Z,by rw[ji h4];rwa[g4],by rw[jc,RU];rfl,by rw[Ru,h0];rfl,#[λy hm=>?_,λj y hj=>?_],B4.eq$ ji$ Sc m,k4.upd_own X]]
  .symm;rcases γ.mp hm with hm |hm
   .rwa[d.1 y hm]
   .right;rw[τ.mp hm];omega
  .symm;by_cases h6:j < ο ys
   .rw[TQ h6]at hj;rwa[d.2 j y hj]
   .let lj:=(ξ.mp hj).1;rw[Ru,Ub]at lj;let ej:j=ο ys:=by omega
    rw[ej,TJ$ Rv _,Vq]at hj;injection hj with hj;right;rw[<- hj,ej,h0,<- h5];rwa[z4]
 .intro σ H' b;symm;let(ok,oo,ow,ys,rfl,L,Y,h0,d,B',k'):=b;let h1:(ys.length:Int)=n:=by omega
  let f5:=BZ (ss:=ss) (d1:=d1) (d2:=d2) N09 N09 N09;let j1:(pre ss d2).length<=_:=Jv (z:="") (ys:=bL ss θ (δ d2)) PH λy d=>e y (qe d);let j2:(h9 ss d2).length<=_:=Jv (z:="") (ys:=bL ss (δ$ d2+1) θ) PH λy d=>e y (qe d);let nd:=AF PL PL d.2;let d:=d.1;erw[a _ _ ?_];left;erw[ah λF1 a=>eI (Rf p r n H) (λE2 _ t=>?_) λO H1 b=>?_]
  .left;erw[pI λG' g'=>#[12,p,6,Z,B',PM,PM,λd6 H6 d0 d3 B6 e6=>#[212,g' _ _ ?_]]];let r6:H6 r=δ (.lst$ ys.map vr):=by rw[e6 r m];exact Y
   let k6:aI p H H6:=k'.trans (aI.of_eq e6);erw[cn (λS=>?_) (λS=>?_)]
   .sleep 2;erw[hZ λE3 f3=>#[PM,λt0 N=>f3 _ _ ?_]];left;let t1:t0≠p:=B6.ne N;erw[hZ λE4 f3=>#[1212,p,(13),Z,B6.upd_new N,PM,PM,λd7 H7 d' a0 B7 e7=>?_]];let t7:H7 t0=δ (.lst ((z35z:xL ρ).map vr)):=((e7 t0 t1).trans jc).trans (SM (λl=>δ (HO.lst l)) PH);let r7:H7 r=δ (.lst$ ys.map vr):=by rw[e7 r m];exact aq r6 N
    let k7:aI p H H7:=(k6.upd_new N).trans (aI.of_eq e7);symm;let(od,h7,h8):=KR (ys:=(z35z:xL ρ)) d' (a0:);erw[#[t0,11122,aJ.of t7,h8,f3 _ _ ?_]];left;let h':od.length<=20:=by
     let:∀y∈(z35z:xL ρ),y.length<=20:=PH
     rwa[this od h7]
    erw[pI λG' g'=>#[1212,r,12,.inl$ aJ.of r7,Z,Xq _,12,g' _ _ ?_]];erw[cn (λcb=>?_) (λcb=>?_)]
    .erw[#[12121212,p,n,Z,B7,PL,PL,λd8 H8 a1 c6 B8 e8=>?_]];let r8:H8 r=δ (.lst$ ys.map vr):=by rw[e8 r m];exact r7
     let k8:aI p H H8:=k7.trans (aI.of_eq e8);erw[#[r,_,d8,d8.toNat,22,r8,?_,?_]]
     .unfold pK;rw[RB a1,Rs,RB PL]
     erw[t _ _ #[Z,ys.set d8.toNat od,by rw[jc,AD],by rw[Vt];rwa[h1],#[λy hm=>?_,u5 nd$ CM (by let c0:(!rM (.str od) (ys.map vr))=μ:=cb;rw[Bool.not_eq_true']at c0;rwa[c0])],B8.eq$ ji$ Sc m,k8.upd_own X]];symm;rcases List.mem_or_eq_of_mem_set hm with hm |hm
     .rwa[d y hm]
     .right;rw[hm];rwa[h']
    .rwa[t _ _ #[Z,ys,r7,h1,#[d,nd],B7,k7]]
   .rwa[t _ _ #[Z,ys,r6,h1,#[d,nd],B6,k6]]
  symm;let(a2,y0,r1,l1,y1,U,k1):=b;erw[a _ _ ?_];left;exact#[_,a2,q r y0 H1 X r1 l1 y1 U k1]
def aj(H h:Hp):Prop:=∀b x,H b=δ (.tup x)->h b=δ (.tup x)
def aa.tm(a:aa H c):aj H c:=λb x h=>a b _ h
def je{H:Hp}{o:HO}(n:H p=θ):aa H (af H p o):=λb u e=>aq e n
def dB{b:Bool}{A B:Prop}(h:b=μ)(x:A):if b=μ then A else B:=by rw[RB h];rwa[x]
def a9{b:Bool}{A B:Prop}(h:b=ν)(x:B):if b=μ then A else B:=by rw[h,RD RI];rwa[x]
def aL:υ=16777216:=by rw[Ua]
def ax.same(B:ax H p)(s:aa H c):ax c p:=by let(a,b,d,e,f,h):=B.ob;exact#[a,b,d,e,f,s _ _ h]
def aI.of_same(s:aa H h):aI p H h:=λb o _ e=>s _ _ e
def aI.tm(k:aI p H h)(B:ax H p):aj H h:=λb x e=>by let(a,c,_,_,_,f):=B.ob;rwa[k b _ (jO e f (by intro w;cases w)) e]
def aI.none(k:aI p H h)(B:ax h p)(n:h r=θ):H r=θ:=by
 cases z:H r with
 |none=>rfl
 |some o=>have:=k _ _ (B.ne n) z;rw[n]at this;cases this
def J2{K:Ψ}{a:ζ}{xs:xL V}{t:TE}{Q:xL V->Hp->Prop}(u:ο xs<=υ)(Pv:Nat->xL V->Hp->Prop)(l:Pv 0 [] H)
  (n:∀i Y h,Pv i Y h->aJ K h a xs/\ο Y<=i) (o:∀i x Y h,xs[i]?=δ x->Pv i Y h->t (δ x::d) h λy c=>Pv (i+1) (Y++[y]) c) (q:∀Y h,Pv xs.length Y h->Q Y h):
  fi (Br K a) 1 d (bf 0) mw t Q H:=by
 erw[#[λi m Y h=>m=ο xs - i/\i<=ο xs/\Pv i Y h,#[xs.length,PJ,RE _,l],?_]];intro i m Y h f;let(rfl,z,p):=f;let(g,A):=n i Y h p;by_cases b:i < ο xs
 .erw[.inr #[#[xs,xs[i],g,Rq b],PL,Pv$ i+1,λr c s=>#[ο xs - (i+1),PL,Z,b,s],λv c T j y=>?_]];let(e,y):=y;subst e;let(w,rfl):=uQ j;exact#[#[[δ _],22],o i v Y c (y xs g) p]
 .let e:i=ο xs:=by omega
  subst e;rwa[.inl #[#[xs,g,Rv _],q Y h p]]
def qj{K:Ψ}{xs:xL V}{t:TE}{Q:xL V->Hp->Prop}(u:ο xs<=υ)(Pv:Nat->xL V->Hp->Prop)(l:Pv 0 [] H)
  (n:∀i Y h,Pv i Y h->aC K h a xs/\ο Y<=i) (o:∀i x Y h,xs[i]?=δ x->Pv i Y h->t (δ x::d) h λy c=>Pv (i+1) (Y++[y]) c) (q:∀Y h,Pv xs.length Y h->Q Y h):
  fi (Bz K a) 1 d (bf 0) mw t Q H:=by
 erw[#[λi m Y h=>m=ο xs - i/\i<=ο xs/\Pv i Y h,#[xs.length,PJ,RE _,l],?_]];intro i m Y h f;let(rfl,z,p):=f;let(g,A):=n i Y h p;by_cases b:i < ο xs
 .erw[.inr #[#[xs,xs[i],g,Rq b],PL,Pv$ i+1,λr c s=>#[ο xs - (i+1),PL,Z,b,s],λv c T j y=>?_]];let(e,y):=y;subst e;let(w,rfl):=uQ j;exact#[#[[δ _],22],o i v Y c (y xs g) p]
 .let e:i=ο xs:=by omega
  subst e;rwa[.inl #[#[xs,g,Rv _],q Y h p]]
abbrev nG:cc:=bX 62
abbrev sR:cc:=bX 64
inductive Tm where
 |num (n:Int) |var (x:ρ) |op (i:Nat) (a b:Tm)
noncomputable def Tm.depth:Tm->Nat
 | .num _ | .var _=>0
 | .op _ a b=>max a.depth b.depth+1
noncomputable def nM:ρ:="+-*/<="
def AE:nM.length=6:=PH
def Ot(i:Nat):ρ:=#[(ε [nM.cps.toList.getD i 0])]
def IA(H:0<=d)(a:d < 6):eW nM.cps.toList d=δ (nM.cps.toList.getD d.toNat 0):=by
 let b:ο nM.cps.toList=6:=PH
 let h:d.toNat < ο nM.cps.toList:=PL
 let e:d=((d.toNat:Nat):Int):=PL
 let q:eW nM.cps.toList ((d.toNat:Nat):Int)=δ (nM.cps.toList.getD d.toNat 0):=jE (by rw[Se,Rq h];rfl);rw[<- e]at q;rwa[q]
def Tm.Good(y:xL ρ):Tm->Prop
 | .num n=>0<=n/\n < 1000000000000000000
 | .var x=>x∈y
 | .op i a b=>i < 6/\a.Good y/\b.Good y
def bK(H:Hp):Tm->ζ->Prop
 | .num n,p=>H p=δ (.tup [.str "num",.int n])
 | .var x,p=>H p=δ (.tup [.str "var",.str x])
 | .op i a b,p=>∃q r,H p=δ (.tup [.str "op",.str (Ot i),.ref q,.ref r])/\bK H a q/\bK H b r
theorem bK.mono{H a:Hp}(h:∀b x,H b=δ (.tup x)->a b=δ (.tup x)):∀{t:Tm} {p:ζ},bK H t p->bK a t p
 | .num _,_,e | .var _,_,e=>h _ _ e
 | .op _ _ _,_,z=>by let(q,r,e,E,c):=z;rwa[#[q,r,h _ _ e,bK.mono h E,bK.mono h c]]
def bK.same(h:aa H a)(e:bK H t p):bK a t p:=e.mono λb x z=>h b _ z
def bK.but(B:ax H p)(k:aI p H h)(e:bK H t a):bK h t a:=e.mono λb X z=>by let(x,y,_,_,_,d):=B.ob;rwa[k b _ (jO z d (by intro q;cases q)) z]
def bK.new{H:Hp}{o:HO}(n:H r=θ)(e:bK H t a):bK (af H r o) t a:=e.mono λb x z=>aq z n
inductive i7(c:xL V)(H:Hp)(Q:VK)(a:XK):Prop
 |mk(p:ζ)(_:c=[.ref p])(_:ax H p)(_:∀(d:Int) (H':Hp),0<=d->d < 1000000000000000000->ax H' p->(∀b,b≠p->H' b=H b)->Q (.int d) H')
inductive dH(n:Nat)(b:xL V)(H:Hp)(Q:VK)(a:XK):Prop
 |mk(p g:ζ)(d:Int)(c:xL ρ)(_:b=[.ref p,.ref g,.int d])(_:ax H p)(_:H g=δ (.lst (c.map vr)))(_:1<=ο c)(_:c.length<=20)(_:0<=d)(_:d < (n:Int))(_:∀(r:ζ) (T:Tm) (H':Hp),bK H' T r->(T.depth:Int)<=d->T.Good c->ax H' p->aI p H H'->Q (.ref r) H')
def qE{Y:xL ρ}(B:ax H p)(h:H g=δ (.lst$ Y.map vr)):g≠p:=by
 let(x,y,_,_,_,b):=B.ob;erw[jO h b λz=>?_];injection z with z
 match Y,z with
 |a::r,z=>injection z with c _;cases c
def Aw:am z1z z1z (ae nG):=bP
def vm(F:xD K "_law_number" nG f t)(C:Cl P w K mg base 1 I u z0z aZ "_law_take"):⇑2 f t z1z i7:=by
 erw[F.ok Aw (λx A o s H v Q E a h=>?_)]
 let(p,rfl,B,q):=h;erw[#[_,%[Z|_cmD C.e a _a0agbfl C.e a _a0ao JR _ggbtfl C.e a _a0agb],?_]];erw[#[12,p,4,Z,B,PM,PM,λL M y G m r=>#[212,?_]]];erw[cn (λc=>?_) (λc=>?_)]
 .erw[#[121122,#[PM,PM,PM],p,12,m,PM,PM,λD g d i j k=>?_]];let z:=oX;rwa[q D g d PL j λb n=>(k b n).trans (r b n)]
 .erw[#[12,p,9,Z,m,PM,PM,λD g d i j k=>?_]];rwa[q D g d PL j λb n=>(k b n).trans (r b n)]
def pX:am ["_law_box_here","_law_names_here","_law_deep","_law_kind","_law_one"] z13z (ae sR):=bP
def C4(F:xD K "_law_term" sR f fd)(cF:Cl P w K mg base (n+2) f fd z13z (dH n) "_law_term")(S:Cl P w K mg base 1 fT f0 z0z aZ "_law_take")(cN:Cl P w K mg base 2 fN f2 z1z i7 "_law_number")(ml:mg "len"=θ):⇑(n+3) f fd z13z (dH$ n+1):=by
 erw[F.ok pX λc0 A T s H vs Q E u h=>?_]
 let(p,g,d,ys,rfl,B,hg,v,x,h1,h2,q):=h;erw[#[_,%[pX|_ce3 S.e u.m _a0agbcJm (PW.pt$ J7 %[pX|_s Q0 _3gw _]$ Ja$ PW.pt %[pX|_τs Jn _3gw _ _υD2]) _fldana cN.e u.m _a0bbtcms Q0 _3gw _ _fldanaku1 S.e u.m _a0aAεjπζa1bbpbtce4 cF.e u _a0a1aoκ2gbfldanak JS _n S.e u.m _a0agbpa4a cF.e u _a0a1aoκ2gbb],?_]];let b0:=zR;let j:g≠p:=qE B hg;erw[ah λF1 l=>#[12,p,6,Z,B,PM,PM,λM O k0 k1 R e1=>l _ _ ?_]];let k:O g=δ (.lst$ ys.map vr):=by rw[e1 g j];rwa[hg]
 let U:aI p H O:=aI.of_eq e1;let num:∀(D:Int) (a:Hp) (r:ζ),0<=D->D < 1000000000000000000->ax a p->(∀b,b≠p->a b=O b)->a r=θ->Q (.ref r) (af a r$ .tup [.str "num",.int D]):=λD a r C I i o N=>
  q r (.num D) _ jc (by show((0:Nat):Int)<=d;rwa[N09]) #[C,I] (i.upd_new N) ((U.trans$ aI.of_eq o).upd_new N)
 erw[ah λF1 l=>eI (λJ H'=>J=[↑p,↑g,δ$ .int d,δ$ .int M,θ]/\H'=O/\(M<=3∨d≠0)) (λE2 eR fm=>?_) λJ H' W=>?_]
 .erw[pI λG' G=>#[12112212,?_]];refine cn (λc=>?_) (λc=>?_)
  .erw[G _ _$ pJ ?_];show ig _ E2 _ _;unfold ig;rw[eR];exact#[12,p,Z,R,λD a C I i o=>#[cg,λr N=>num D a r C I i o N]]
  erw[#[12112212,?_]];erw[cn (λc2=>?_) (λc2=>?_)]
  .erw[#[12212,G _ _ ?_]];refine cn (λc3=>?_) (λc3=>?_)
   .show ig _ E2 _ _;unfold ig;rw[eR];exact#[12,p,Z,R,λD a C I i o=>#[cg,λr N=>num D a r C I i o N]]
   .rwa[fm _ _ #[22,.inr λz=>c3 (by rw[z];rfl)]]
  .let c1:¬(3:Int) < M:=UQ (iu.mpr c2);rwa[G _ _$ om$ fm _ _ #[22,.inl PL]]
 let(rfl,eH,hk):=W;rw[eH];erw[l _ _ ?_];erw[ah λF1 l=>pI λG' G=>#[12112212,G _ _ ?_]];erw[cn (λc=>?_) (λc=>l _ _ ?_)]
 .-- a variable
  erw[#[121212,g,12,.inl$ aJ.of k,p,12,R,by rw[Rs];omega,by rw[Rs];omega,λD a X L i o=>?_]];rw[Rs]at L;let(y,hy,Y):=KR (ys:=ys) X L;let t:a g=δ (.lst$ ys.map vr):=by rw[o g j];rwa[k]
  erw[#[g,11122,aJ.of t,Y,cg,λr N=>?_]];rwa[q r (.var y) _ jc (by show((0:Nat):Int)<=d;omega) hy (i.upd_new N) ((U.trans$ aI.of_eq o).upd_new N)]
 .let c':¬M < (4:Int):=UQ (iu.mpr c);let hd:d≠0:=hk.resolve_left PL;erw[#[1212121122,p,g,d - 1,ys,Z,R,k,v,x,PL,PL,λr1 T1 a t1 d3 g0 i k2=>?_]];let t:a g=δ (.lst$ ys.map vr):=k2 g _ j k;erw[#[12,p,6,Z,i,PM,PM,λs3 H3 s0 s1 B3 e3=>?_]];let h0:H3 g=δ (.lst$ ys.map vr):=by rw[e3 g j];exact t
  let k3:aI p a H3:=aI.of_eq e3;erw[#[nM,1122,(by rw[AE];omega),IA s0 s1,?_]];erw[#[121212121122,p,g,d - 1,ys,Z,B3,h0,v,x,PL,PL,λr2 T2 H4 t2 d4 g1 B4 k4=>?_]];erw[#[tP,λr N=>?_]];let t0:bK H4 T1 r1:=(t1.but i k3).but B3 k4;erw[q r (.op s3.toNat T1 T2) _ #[r1,r2,jc,t0.new N,t2.new N] ?_ #[PL,g0,g1] (B4.upd_new N) (((U.trans k2).trans$ k3.trans k4).upd_new N)];show((max T1.depth T2.depth+1:Nat):Int)<=d;omega
def CJ:⇑2 f e z13z (dH 0):=by
 let n:∀v H Q E,¬dH 0 v H Q E:=λv H Q E h=>by let(p,g,d,y,_,_,_,_,_,i,b,_):=h;let c:d < ((0:Nat):Int):=b;omega
 exact#[λv H Q E h=>absurd h (n v H Q E),λA o s H a u v Q E _ _ _ _ h=>absurd h (n v H Q E)]
theorem Ff(F:xD K "_law_term" sR f a)(b:aE K a z13z [])(m:mg "_law_term"=↑f)(c:Cl P w K mg base 1 g d z0z aZ "_law_take")(C:Cl P w K mg base 2 h e z1z i7 "_law_number")(M:mg "len"=θ):
  ∀n:Nat,⇑(n+2) f a z13z (dH n)
 |0=>CJ
 |n+1=>C4 F #[(Ff F b m c C M n),b,F.kp,m] c C M
end _K
namespace _K
open PySem PySem.Spec PyProof.Rows _L
variable {P:ω}{w:bF}{K:Ψ}{mg:ρ->ym η}{base:de}
local macro_rules(kind:=«term{_}»)|`({$n})=>do{let i:=Lean.mkIdent;`(_K.Cl $(i `P) $(i `w) $(i `K) $(i `mg) $(i `base) $n)}
noncomputable def Tm.vars:Tm->xL ρ
 | .num _=>[]
 | .var x=>[x]
 | .op _ a b=>a.vars++b.vars
theorem kO:∀{t:Tm},t.Good y->∀x∈t.vars,x∈y
 | .num _,_,_,h=>nomatch h
 | .var _,g,_,h=>by rw[τ.mp h];rwa[g]
 | .op _ _ _,g,_,h=>(γ.mp h).elim (kO g.2.1 _) (kO g.2.2 _)
theorem kG:∀{l m:xL ρ},l.Nodup->(∀x∈l,x∈m)->ο l<=ο m
 | [],_,_,_=>RE _
 |x::l,m,n,h=>by rw[kz]at n;let H:=h x RN;let q:=kG (l:=l) (m:=m.erase x) n.2 λy a=>(List.mem_erase_of_ne (λe=>n.1 (by rw[<- e];rwa[a]))).mpr (h y$ RZ _ a);rw[List.length_erase_of_mem H]at q;let:0 < ο m:=List.length_pos_of_mem H;rw[Sa];omega
theorem Qw:∀{l m:xL ρ},l.Nodup->m.Nodup->(∀x,x∈l↔x∈m)->l.Perm m
 | [],[],_,_,_=>.nil
 | [],y::m,_,_,h=>absurd ((h y).mpr RN) PJ
 |x::l,m,n,N,h=>by
  rw[kz]at n;let a:x∈m:=(h x).mp RN;erw[(List.Perm.cons x$ Qw n.2 (N.erase x) λy=>?_).trans (List.perm_cons_erase a).symm];rw[N.mem_erase_iff];constructor
  .intro H;exact#[λe=>n.1 (by rw[<- e];rwa[H]),(h y).mp$ RZ _ H]
  .rintro ⟨b,H⟩;exact(Ξ.mp ((h y).mpr H)).resolve_left b
theorem Xr:∀{p:ρ} {l:xL ρ},risingS p l=μ->(p::l).Pairwise λa b=>a.cps.toList<=b.cps.toList
 |p,[],_=>by simp
 |p,x::r,h=>by
  let H:(!ltCps x.cps.toList p.cps.toList&&risingS x r)=μ:=h;rw[SY]at H;let i:=Xr H.2;let c:p.cps.toList<=x.cps.toList:=by let z:=H.1;rw[ltCps_eq]at z;simpa using z
  rw[ri]at i ⊢;erw[#[λy hy=>?_,ri.mpr i]];rcases Ξ.mp hy with rfl |hy
  .rwa[c]
  .rwa[List.le_trans c$ i.1 y hy]
def Xs(h:sortedS l=μ):l.Pairwise λa b=>a.cps.toList<=b.cps.toList:=by
 cases l with
 |nil=>rwa[.nil]
 |cons x r=>rwa[Xr h]
def Y7{l:xL ρ}(p:l.Perm m)(h:sortedS l=μ)(H:sortedS m=μ):l=m:=by erw[List.Perm.eq_of_pairwise (λa b _ _ x y=>?_) (Xs h) (Xs H) p];let e:=List.le_antisymm x y;cases a;cases b;rwa[SM Str.mk$ Array.toList_inj.mp e]
inductive Lf where
 |rd (x:ρ) (t:ζ) (T:Tm)
 |st (x:ρ) (t:ζ) (T:Tm)
 |wr (t u:ζ) (T U:Tm)
 |cl (x f:ρ) (q:ζ) (ts:xL (ζ×Tm))
 |gv (t:ζ) (T:Tm)
def BC(H:Hp):Lf->xL V->Prop
 | .rd x t T,v=>v=[.str "read",.str x,.ref t]/\bK H T t
 | .st x t T,v=>v=[.str "set",.str x,.ref t]/\bK H T t
 | .wr t u T U,v=>v=[.str "write",.ref t,.ref u]/\bK H T t/\bK H U u
 | .cl x f q a,v=>v=[.str "call",.str x,.str f,.ref q]/\H q=δ (.tup (a.map λc=>xm c.1))/\∀c∈a,bK H c.2 c.1
 | .gv t T,v=>v=[.str "give",.ref t]/\bK H T t
def BC.mono(k:aj H a)(h:BC H l v):BC a l v:=by
 cases l with
 |rd x t T |st x t T |gv t T=>exact#[h.1,h.2.mono k]
 |wr t u T U=>exact#[h.1,h.2.1.mono k,h.2.2.mono k]
 |cl x f q d=>exact#[h.1,k _ _ h.2.1,λc b=>(h.2.2 c b).mono k]
inductive Bd where
 |nil
 |lf (p:ζ) (l:Lf) (r:Bd)
 |ite (p t:ζ) (T:Tm) (a b r:Bd)
 |loop (p t:ζ) (T:Tm) (a r:Bd)
noncomputable def Bd.app:Bd->Bd->Bd
 | .nil,s=>s
 | .lf p l r,s=>.lf p l (r.app s)
 | .ite p t T a b r,s=>.ite p t T a b (r.app s)
 | .loop p t T a r,s=>.loop p t T a (r.app s)
noncomputable def Bd.size:Bd->Nat
 | .nil=>0
 | .lf _ _ r=>r.size+1
 | .ite _ _ _ a b r=>a.size+b.size+r.size+1
 | .loop _ _ _ a r=>a.size+r.size+1
noncomputable def Bd.dep:Bd->Nat
 | .nil=>0
 | .lf _ _ r=>r.dep
 | .ite _ _ _ a b r=>max (max a.dep b.dep+1) r.dep
 | .loop _ _ _ a r=>max (a.dep+1) r.dep
def em(y:xL ρ)(T:Tm):Prop:=T.Good y/\T.depth < 6
def Lf.Ok(y:xL ρ):Lf->Prop
 | .rd x _ T | .st x _ T=>x∈y/\em y T
 | .wr _ _ T U=>em y T/\em y U
 | .cl x _ _ t=>x∈y/\ο t<=6/\∀c∈t,em y c.2
 | .gv _ T=>em y T
def Bd.Ok(y:xL ρ):Bd->Prop
 | .nil=>True
 | .lf _ l r=>l.Ok y/\r.Ok y
 | .ite _ _ T a b r=>em y T/\a.Ok y/\b.Ok y/\r.Ok y
 | .loop _ _ T a r=>em y T/\a.Ok y/\r.Ok y
abbrev iZ:=xL (ρ×Nat)
def Lf.Cs(F:iZ):Lf->Prop
 | .cl _ f _ t=>(f,t.length)∈F
 |_=>True
def Bd.Cs(F:iZ):Bd->Prop
 | .nil=>True
 | .lf _ l r=>l.Cs F/\r.Cs F
 | .ite _ _ _ a b r=>a.Cs F/\b.Cs F/\r.Cs F
 | .loop _ _ _ a r=>a.Cs F/\r.Cs F
theorem KS{F:iZ}:∀{a b:Bd},a.Cs F->b.Cs F->(a.app b).Cs F
 | .nil,_,_,h=>h
 | .lf _ _ _,_,h,k=>#[h.1,KS h.2 k]
 | .ite _ _ _ _ _ _,_,h,k=>#[h.1,h.2.1,KS h.2.2 k]
 | .loop _ _ _ _ _,_,h,k=>#[h.1,KS h.2 k]
theorem kP{F:iZ}(k:∀f∈F,f∈G):∀{a:Bd},a.Cs F->a.Cs G
 | .nil,_=>trivial
 | .lf _ l _,h=>#[by cases l<;>first |exact k _ h.1 |trivial,kP k h.2]
 | .ite _ _ _ _ _ _,h=>#[kP k h.1,kP k h.2.1,kP k h.2.2]
 | .loop _ _ _ _ _,h=>#[kP k h.1,kP k h.2]
noncomputable def Lf.calls:Lf->iZ
 | .cl _ f _ t=>[(f,t.length)]
 |_=>[]
noncomputable def Bd.calls:Bd->iZ
 | .nil=>[]
 | .lf _ l r=>l.calls++r.calls
 | .ite _ _ _ a b r=>a.calls++(b.calls++r.calls)
 | .loop _ _ _ a r=>a.calls++r.calls
theorem zT:∀b:Bd,b.Cs b.calls
 | .nil=>trivial
 | .lf _ l r=>#[by cases l<;>first |exact mI _ List.mem_cons_self |trivial,kP (λ_ h=>ir _ h) (zT r)]
 | .ite _ _ _ a b r=>#[kP (λ_ h=>mI _ h) (zT a),kP (λ_ h=>ir _ (mI _ h)) (zT b),kP (λ_ h=>ir _ (ir _ h)) (zT r)]
 | .loop _ _ _ a r=>#[kP (λ_ h=>mI _ h) (zT a),kP (λ_ h=>ir _ h) (zT r)]
theorem zU{F:iZ}:∀{b:Bd},b.Cs F->∀f∈b.calls,f∈F
 | .nil,_,_,h=>nomatch h
 | .lf _ l r,k,f,h=>(γ.mp h).elim (λh=>by cases l<;>first | (rw[τ.mp h];rwa[k.1]) |exact nomatch h) (zU k.2 f)
 | .ite _ _ _ a b r,k,f,h=>(γ.mp h).elim (zU k.1 f) λh=>(γ.mp h).elim (zU k.2.1 f) (zU k.2.2 f)
 | .loop _ _ _ a r,k,f,h=>(γ.mp h).elim (zU k.1 f) (zU k.2 f)
theorem j9:∀(a b:Bd),(a.app b).size=a.size+b.size
 | .nil,b=>by show b.size=0+b.size;omega
 | .lf _ _ r,b=>by let:=j9 r b;show(r.app b).size+1=r.size+1+b.size;omega
 | .ite _ _ _ x y r,b=>by let:=j9 r b;show x.size+y.size+(r.app b).size+1=x.size+y.size+r.size+1+b.size;omega
 | .loop _ _ _ x r,b=>by let:=j9 r b;show x.size+(r.app b).size+1=x.size+r.size+1+b.size;omega
theorem zG:∀(a b:Bd),(a.app b).dep=max a.dep b.dep
 | .nil,b=>(Nat.zero_max b.dep).symm
 | .lf _ _ r,b=>zG r b
 | .ite _ _ _ x y r,b | .loop _ _ _ x r,b=>by show max _ (r.app b).dep=max (max _ r.dep) b.dep;rw[zG r b,Nat.max_assoc]
theorem KU:∀{a b:Bd},a.Ok y->b.Ok y->(a.app b).Ok y
 | .nil,_,_,h=>h
 | .lf _ _ _,_,g,h=>#[g.1,KU g.2 h]
 | .ite _ _ _ _ _ _,_,g,h=>#[g.1,g.2.1,g.2.2.1,KU g.2.2.2 h]
 | .loop _ _ _ _ _,_,g,h=>#[g.1,g.2.1,KU g.2.2 h]
inductive ePi(H:Hp)(p t:ζ)(T:Tm)(a b R:xL V->Prop)(x:xL V):Prop|mk(q Q A B y:_)(_:x= .ref p::y)(_:H p=δ (.tup [.str "if",.ref t,.ref q,.ref Q]))(_:bK H T t)(_:H q=δ (.tup A))(_:H Q=δ (.tup B))(_:a A)(_:b B)(_:R y)
inductive ePl(H:Hp)(p t:ζ)(T:Tm)(a R:xL V->Prop)(x:xL V):Prop|mk(q A y:_)(_:x= .ref p::y)(_:H p=δ (.tup [.str "while",.ref t,.ref q]))(_:bK H T t)(_:H q=δ (.tup A))(_:a A)(_:R y)
def eP(H:Hp):Bd->xL V->Prop
 | .nil,x=>x=[]
 | .lf p l r,x=>∃v y,x= .ref p::y/\H p=δ (.tup v)/\BC H l v/\eP H r y
 | .ite p t T a b r,x=>ePi H p t T (eP H a) (eP H b) (eP H r) x
 | .loop p t T a r,x=>ePl H p t T (eP H a) (eP H r) x
def eP.mono(k:aj H m):∀{x:xL V},eP H a x->eP m a x:=by
 induction a with
 |nil=>exactλh=>h
 |lf p l r n=>rintro x ⟨v,y,e,c,d,f⟩;exact#[v,y,e,k _ _ c,d.mono k,n f]
 |ite p t T a b r i o I=>rintro x ⟨q,Q,A,B,y,e,c,g,d,f,j,s,u⟩;exact#[q,Q,A,B,y,e,k _ _ c,g.mono k,k _ _ d,k _ _ f,i j,o s,I u]
 |loop p t T a r i I=>rintro x ⟨q,A,y,e,c,g,d,f,j⟩;exact#[q,A,y,e,k _ _ c,g.mono k,k _ _ d,i f,I j]
def eP.app(k:eP H b y):∀{x:xL V},eP H a x->eP H (a.app b) (x++y):=by
 induction a with
 |nil=>intro x h;let e:x=[]:=h;rw[e];rwa[k]
 |lf p l r I=>rintro x ⟨v,z,e,c,d,f⟩;exact#[v,z++y,by rw[e];rfl,c,d,I f]
 |ite p t T a b r _ _ i=>rintro x ⟨q,Q,A,B,z,e,c,g,d,f,j,m,n⟩;exact#[q,Q,A,B,z++y,by rw[e];rfl,c,g,d,f,j,m,i n]
 |loop p t T a r _ i=>rintro x ⟨q,A,z,e,c,g,d,f,j⟩;exact#[q,A,z++y,by rw[e];rfl,c,g,d,f,i j]
def eP.len{a:Bd}:∀{xs:xL V},eP H a xs->ο xs<=a.size:=by
 induction a with
 |nil=>intro xs h;let e:xs=[]:=h;rw[e];rwa[Rv 0]
 |lf p l r I=>rintro xs ⟨v,y,e,d,f,c⟩;rw[e];rwa[Ts (I c)]
 |ite p t T a b r _ _ i=>rintro xs ⟨q,Q,A,B,y,e,d,j,f,c,g,m,k⟩;rw[e];rwa[Ts (RM (i k) (Nat.le_add_left _ _))]
 |loop p t T a r _ i=>rintro xs ⟨q,A,y,e,d,j,f,c,g⟩;rw[e];rwa[Ts (RM (i g) (Nat.le_add_left _ _))]
inductive lv(H:Hp):V->Bd->Prop
 |lf (p:ζ) (l:Lf) (vs:xL V) (h1:H p=δ (.tup vs)) (h2:BC H l vs):lv H (.ref p) (.lf p l .nil)
 |ite (p t:ζ) (T:Tm) (a b:Bd) (qa qb:ζ) (as bs:xL V) (h1:H p=δ (.tup [.str "if",.ref t,.ref qa,.ref qb])) (h0:bK H T t) (h2:H qa=δ (.tup as)) (h3:H qb=δ (.tup bs)) (h4:eP H a as) (h5:eP H b bs):lv H (.ref p) (.ite p t T a b .nil)
 |loop (p t:ζ) (T:Tm) (a:Bd) (qa:ζ) (as:xL V) (h1:H p=δ (.tup [.str "while",.ref t,.ref qa])) (h0:bK H T t) (h2:H qa=δ (.tup as)) (h3:eP H a as):lv H (.ref p) (.loop p t T a .nil)
def lv.bd(h:lv H v s):eP H s [v]:=by
 cases h with
 |lf p l V c d=>exact#[V,[],Z,c,d,Z]
 |ite p t T a b q Q A B c e d f g i=>exact#[q,Q,A,B,[],Z,c,e,d,f,g,i,Z]
 |loop p t T a q A c e d f=>exact#[q,A,[],Z,c,e,d,f,Z]
def lv.mono(k:aj H g)(h:lv H v s):lv g v s:=by
 cases h with
 |lf p l V c d=>rwa[.lf p l V (k _ _ c) (d.mono k)]
 |ite p t T a b q Q A B c e d f i j=>rwa[.ite p t T a b q Q A B (k _ _ c) (e.mono k) (k _ _ d) (k _ _ f) (i.mono k) (j.mono k)]
 |loop p t T a q A c e d f=>rwa[.loop p t T a q A (k _ _ c) (e.mono k) (k _ _ d) (f.mono k)]
def eP.last:∀{x:xL V},eP H a x->x=[]/\a= .nil∨∃z v b s,x=z++[v]/\a=b.app s/\eP H b z/\lv H v s:=by
 induction a with
 |nil=>exactλh=>.inl #[h,Z]
 |lf p l r i=>
  rintro x ⟨u,y,e,f,g,n⟩;rcases i n with ⟨E,d⟩ | ⟨z,v,b,s,E,d,j,k⟩
  .rwa[.inr #[[],.ref p,.nil,.lf p l .nil,by rw[e,E];rfl,by rw[d];rfl,Z,.lf p l u f g]]
  .rwa[.inr #[.ref p::z,v,.lf p l b,s,by rw[e,E];rfl,by rw[d];rfl,#[u,z,Z,f,g,j],k]]
 |ite p t T a b r _ _ i=>
  rintro x ⟨q,Q,A,B,y,e,f,m,g,n,G,C,o⟩;rcases i o with ⟨E,d⟩ | ⟨z,v,c,s,E,d,j,k⟩
  .rwa[.inr #[[],.ref p,.nil,.ite p t T a b .nil,by rw[e,E];rfl,by rw[d];rfl,Z,.ite p t T a b q Q A B f m g n G C]]
  .rwa[.inr #[.ref p::z,v,.ite p t T a b c,s,by rw[e,E];rfl,by rw[d];rfl,#[q,Q,A,B,z,Z,f,m,g,n,G,C,j],k]]
 |loop p t T a r _ i=>
  rintro x ⟨q,A,y,e,f,m,g,G,o⟩;rcases i o with ⟨E,d⟩ | ⟨z,v,c,s,E,d,j,k⟩
  .rwa[.inr #[[],.ref p,.nil,.loop p t T a .nil,by rw[e,E];rfl,by rw[d];rfl,Z,.loop p t T a q A f m g G]]
  .rwa[.inr #[.ref p::z,v,.loop p t T a c,s,by rw[e,E];rfl,by rw[d];rfl,#[q,A,z,Z,f,m,g,G,j],k]]
theorem zZ:∀{a b:Bd},(a.app b).Ok y->a.Ok y/\b.Ok y
 | .nil,_,h=>#[trivial,h]
 | .lf _ _ _,_,h=>#[#[h.1,(zZ h.2).1],(zZ h.2).2]
 | .ite _ _ _ _ _ _,_,h=>#[#[h.1,h.2.1,h.2.2.1,(zZ h.2.2.2).1],(zZ h.2.2.2).2]
 | .loop _ _ _ _ _,_,h=>#[#[h.1,h.2.1,(zZ h.2.2).1],(zZ h.2.2).2]
structure Nm(ss:xL ρ)(M:ρ->Prop):Prop where
 nd:ss.Nodup
 so:sortedS ss=μ
 mem:∀x,x∈ss↔M x
def Nm.uniq(h:Nm a M)(g:Nm s M):a=s:=Y7 (Qw h.nd g.nd λx=>(h.mem x).trans (g.mem x).symm) h.so g.so
open Classical in
def canon(M:ρ->Prop):xL ρ:=if h:∃s,Nm s M then Classical.choose h else []
def Nm.canon(h:Nm s M):s=canon M:=by let e:∃s,Nm s M:=#[s,h];unfold _K.canon;rw[dif_pos e];rwa[h.uniq$ Classical.choose_spec e]
def Nm.len{s y:xL ρ}{M:ρ->Prop}(h:Nm s M)(H:∀x,M x->x∈y):ο s<=ο y:=kG h.nd λx a=>H x ((h.mem x).mp a)
def Lf.use(M:ρ->Prop):Lf->ρ->Prop
 | .rd x _ T,y | .st x _ T,y=>(M y/\y≠x)∨y∈T.vars
 | .wr _ _ T U,y=>M y∨y∈T.vars∨y∈U.vars
 | .cl x _ _ t,y=>(M y/\y≠x)∨∃c∈t,y∈c.2.vars
 | .gv _ T,y=>y∈T.vars
def Bd.use:Bd->(ρ->Prop)->ρ->Prop
 | .nil,M=>M
 | .lf _ l r,M=>l.use (r.use M)
 | .ite _ _ T a b r,M=>λy=>(a.use (r.use M) y∨b.use (r.use M) y)∨y∈T.vars
 | .loop _ _ T a r,M=>λy=>(a.use (λ_=>False) y∨r.use M y)∨y∈T.vars
theorem Ky:∀(a b:Bd) (M:ρ->Prop),(a.app b).use M=a.use (b.use M)
 | .nil,_,_=>rfl
 | .lf _ l r,b,M=>by show l.use ((r.app b).use M)=l.use (r.use (b.use M));rw[Ky r b M]
 | .ite _ _ T x y r,b,M=>by show(λz=>(x.use ((r.app b).use M) z∨y.use ((r.app b).use M) z)∨z∈T.vars)=λz=>(x.use (r.use (b.use M)) z∨y.use (r.use (b.use M)) z)∨z∈T.vars;rw[Ky r b M]
 | .loop _ _ T x r,b,M=>by show(λz=>(x.use (λ_=>False) z∨(r.app b).use M z)∨z∈T.vars)=λz=>(x.use (λ_=>False) z∨r.use (b.use M) z)∨z∈T.vars;rw[Ky r b M]
def Lf.use_in{M:ρ->Prop}{l:Lf}(h:l.Ok Y)(a:∀x,M x->x∈Y):∀y,l.use M y->y∈Y:=by
 intro y H;cases l with
 |rd x t T |st x t T=>rwa[H.elim (λz=>a y z.1) (kO h.2.1 y)]
 |wr t u T U=>rwa[H.elim (a y) λz=>z.elim (kO h.1.1 y) (kO h.2.1 y)]
 |cl x f q d=>rwa[H.elim (λz=>a y z.1) λ#[c,b,z]=>kO (h.2.2 c b).1 y z]
 |gv t T=>rwa[kO h.1 y H]
theorem Bd.use_in:∀{b:Bd} {M:ρ->Prop},b.Ok Y->(∀x,M x->x∈Y)->∀y,b.use M y->y∈Y
 | .nil,_,_,H,y,c=>H y c
 | .lf _ l r,_,h,H,y,c=>Lf.use_in h.1 (Bd.use_in h.2 H) y c
 | .ite _ _ T a b r,_,h,H,y,c=>c.elim (λz=>z.elim (Bd.use_in h.2.1 (Bd.use_in h.2.2.2 H) y) (Bd.use_in h.2.2.1 (Bd.use_in h.2.2.2 H) y)) (kO h.1.1 y)
 | .loop _ _ T a r,_,h,H,y,c=>c.elim (λz=>z.elim (Bd.use_in h.2.1 (λ_ w=>w.elim) y) (Bd.use_in h.2.2 H y)) (kO h.1.1 y)
abbrev gE:cc:=bX 14
abbrev Im:cc:=bX 44
abbrev Al:cc:=bX 45
abbrev DH:cc:=bX 46
abbrev DG:cc:=bX 47
inductive d9(n:Nat)(c:xL V)(H:Hp)(Q:VK)(b:XK):Prop
 |mk(a:ζ)(T:Tm)(d:xL ρ)(_:c=[.ref a])(_:bK H T a)(_:T.depth < n)(_:T.Good d)(_:ο d<=21)(_:∀(r:ζ) (ss:xL ρ) (H':Hp),H r=θ->H' r=δ (.lst (ss.map vr))->ss.Nodup->(∀x,x∈ss↔x∈T.vars)->sortedS ss=μ->aa H H'->Q (.ref r) H')
def Av:am z2z z2z (ae gE):=bP
def CY{f:ζ}{o:bS}(F:xD K "names_in" gE f o){n:Nat}(C:{n+1} f o z2z (d9 n) "names_in")(M:mg "set"=θ)(p:mg "sorted"=θ):⇑(n+2) f o z2z (d9$ n+1):=by
 erw[F.ok Av (λc0 A O s H vs Q E v h=>?_)]
 let(a,T,Y,rfl,t,dp,g,j,q):=h;erw[#[_,%[Z|_cmxh0flrbtcmxh0flrah0btflA (qx Z) _j p UY _aE (Jl Z) _j M boot_set _aoψ C.e v _ah0b C.e v _ah0bbb],?_]];cases T with
 |num m=>have b:H a=δ (.tup [.str "num",.int m]):=t;erw[(jv b Z #[212,dB PH ?_])];exact#[PM,λr N=>q r [] _ N jc VA (λx=>Wi) Z (je N)]
 |var x=>have b:H a=δ (.tup [.str "var",.str x]):=t;erw[(jv b Z #[212,a9 PH ?_])];erw[(jv b Z #[212,dB PH ?_])];exact(jv b Z #[i8,λr N=>q r [x] _ N jc PJ (λy=>Wi) Z (je N)])
 |op i B D=>let(p1,p2,b,h1,h2):=t;let d0:max B.depth D.depth+1 < n+1:=dp;erw[(jv b Z #[212,a9 PH ?_])];erw[(jv b Z #[212,a9 PH ?_])];erw[(jv b Z #[p1,B,Y,Z,h1,PL,g.2.1,j,λr1 S H1 n1 e1 d1 G o1 u=>?_])];erw[(jv (u _ _ b) Z #[p2,D,Y,Z,h2.same u,PL,g.2.2,j,λr2 k H2 n2 e2 d2 I o2 J=>?_])];let l1:ο S<=21:=RM (kG d1 λx d=>kO g.2.1 x ((G x).mp d)) j;let l2:ο k<=21:=RM (kG d2 λx d=>kO g.2.2 x ((I x).mp d)) j;let b0:=zR;erw[#[r1,r2,1122,J _ _ e1,e2,(by rw[Rs,Rs];omega),λc nc=>?_]];erw[#[c,S++k,Z,aJ.of (by rw[jc,RU]),(λL nd hs=>Tc (Ts$ kG nd hs) (by rw[Ru];show ο S+ο k+1 < 4096;omega)),λl L nl dL R=>?_]];let lL:=kG dL λx d=>(R x).mp d;rw[Ru]at lL;erw[#[l,L,Z,jc,PL,λz ss U W dz oz=>?_]];let X:aa H (af (af H2 c$ .lst$ S.map vr++k.map vr) l$ NB P w l L):=(u.trans J).trans ((je nc).trans$ je nl);erw[q z ss _ (X.free U) jc (W.nodup_iff.mpr dz) (λx=>?_) oz$ X.trans$ je U];rw[W.mem_iff,R x,Ut,G x,I x];rwa[γ.symm]
def CH:⇑1 f d z2z (d9 0):=by
 let n:∀v H Q E,¬d9 0 v H Q E:=λv H Q E h=>by let(a,T,y,_,_,c,_):=h;rwa[absurd c$ UU _]
 exact#[λv H Q E h=>absurd h (n v H Q E),λA o s H b u v Q E _ _ _ _ h=>absurd h (n v H Q E)]
theorem EK(F:xD K "names_in" gE f a)(b:aE K a z2z [])(c:mg "names_in"=↑f)(m:mg "set"=θ)(M:mg "sorted"=θ):
  ∀n:Nat,⇑(n+1) f a z2z (d9 n)
 |0=>CH
 |n+1=>CY F #[(EK F b c m M n),b,F.kp,c] m M
noncomputable def Lf.own:Lf->xL (ζ×Tm)
 | .rd _ t T | .st _ t T=>[(t,T)]
 | .wr t u T U=>[(t,T),(u,U)]
 | .cl _ _ _ a=>a
 | .gv t T=>[(t,T)]
def Bd.own:Bd->xL (ζ×Tm)
 | .nil=>[]
 | .lf _ l _=>l.own
 | .ite _ t T _ _ _ | .loop _ t T _ _=>[(t,T)]
def rT(c:ζ×Tm):V:=.ref c.1
inductive oQ(b:xL V)(H:Hp)(Q:VK)(a:XK):Prop
 |mk(v:V)(s:Bd)(_:b=[v])(_:lv H v s)(_:∀(r:ζ) (H':Hp),H' r=δ (.tup (s.own.map rT))->aa H H'->Q (.ref r) H')
def rg:aQ (a::b::r) (δ 1) (δ 2)=[b]:=by
 unfold aQ;let e:(1:Int)=((1:Nat):Int):=rfl;let E:(2:Int)=((2:Nat):Int):=rfl;rw[E,e,HT.sIx_nat,HT.sIx_nat,Sa,Sa];let c:min 1 (ο r+1+1)=1:=PL
 let d:min 2 (ο r+1+1) - 1=1:=PL
 rw[c,d];rfl
def EU:am ["statement","word"] z4z (ae Im):=bP
def Hh{f:ζ}{j:bS}(F:xD K "own_terms" Im f j):⇑1 f j z4z oQ:=by
 erw[F.ok EU λC A o s H V Q E d h=>?_]
 let(v,st,rfl,m,q):=h;erw[#[_,%[EU|_ce1h0cms zJ _1dananbjflBι0ygUtcmx1flBι0ygUtcmx1flh0tflBι0ygyg],?_]];cases m with
 |lf p l V c g=>
  cases l with
  |rd x t T |st x t T=>let(rfl,i):=g;erw[(jv c Z #[12,cg,λl n=>#[l,12,.inr$ aC.of jc,2212,dB PH ?_]])];exact#[1212,p,12,aq c n,λr e d s=>q r e d ((je n).trans s)]
  |wr t u T U=>let(rfl,i,L):=g;erw[(jv c Z #[12,cg,λl n=>#[l,12,.inr$ aC.of jc,2212,a9 PH ?_]])];erw[#[12212,dB PH ?_]];exact#[1212,p,12,aq c n,λr e d s=>q r e d ((je n).trans s)]
  |cl x M y N=>let(rfl,z,i):=g;erw[(jv c Z #[12,cg,λl n=>#[l,12,.inr$ aC.of jc,2212,a9 PH ?_]])];erw[#[12212,a9 PH ?_]];erw[#[12212,dB PH ?_]];exact(jv (aq c n) Z$ q y _ (aq z n)$ je n)
  |gv t T=>let(rfl,i):=g;erw[(jv c Z #[12,cg,λl n=>#[l,12,.inr$ aC.of jc,2212,a9 PH ?_]])];erw[#[12212,a9 PH ?_]];erw[#[12212,a9 PH ?_]];exact#[121212,p,12,aq c n,λr e d s=>q r e (by rw[rg]at d;rwa[d]) ((je n).trans s)]
 |ite p t T a b B O D R c G g I S W |loop p t T a B D c G g I=>erw[(jv c Z #[12,cg,λl n=>#[l,12,.inr$ aC.of jc,2212,a9 PH ?_]])];erw[#[12212,a9 PH ?_]];erw[#[12212,a9 PH ?_]];exact#[121212,p,12,aq c n,λr e d s=>q r e (by rw[rg]at d;rwa[d]) ((je n).trans s)]
def Qx{K:Ψ}{a:ζ}{Y:xL ρ}{t:TT}{T:TE}{q:xL V->Hp->Prop}{b:_L.St}{H:Hp}(f:ρ->Bool)(L:ο Y<=1000)(A:H a=δ (.lst$ Y.map vr))
  (B:∀y g (Q:Bool->Hp->Prop),y∈Y->aa H g->(∀j,aa g j->Q (f y) j)->t (δ (.str y)::b) g Q)
  (C:∀y g (Q:VK),y∈Y->Q (.str y) g->T (δ (.str y)::b) g Q) (D:∀c,aa H c->q ((Y.filter f).map vr) c):fi (Br K a) 1 b (bf 0) t T q H:=by
 let F:=zR;erw[#[λi m n c=>m=ο Y - i/\i<=ο Y/\n=((Y.take i).filter f).map vr/\aa H c,#[Y.length,PJ,RE _,PJ,aa.refl H],?_]];rintro i m n c ⟨rfl,M,rfl,k⟩;let d:aJ K c a (Y.map vr):=aJ.of (k _ _ A);by_cases h:i < ο Y
 .let o:(Y.map vr)[i]?=δ (.str Y[i]):=by rw[RP,Rq h];rfl
  erw[.inr #[#[11,d,o],?_,λz j=>z=((Y.take$ i+1).filter f).map vr/\aa H j,λz j #[G,I]=>#[ο Y - (i+1),PL,Z,h,G,I],λv j N l y=>?_]]
  .rw[Rs];let:=UH f (Y.take i);rw[R0]at this;omega
  let(e,y):=y;subst e;let p:=y _ d;rw[o]at p;cases p;let(w,rfl):=uQ l;let r:Y[i]∈Y:=TF h;let s:Y.take (i+1)=Y.take i++[Y[i]]:=by rw[SX,Rq h];rfl
  erw[#[#[[δ _],22],B Y[i] _ _ r k λJ u=>?_]];cases x:f Y[i] with
  |true=>
   erw[dB Z$ C Y[i] J _ r #[?_,k.trans u]];rw[s,U2,RU];let E:[Y[i]].filter f=[Y[i]]:=by simp [x]
   rw[E];rfl
  |false=>
   erw[a9 Z #[?_,k.trans u]];rw[s,U2,RU];let E:[Y[i]].filter f=[]:=by simp [x]
   rw[E];simp
 .let e:i=ο Y:=by omega
  subst e;erw[.inl #[#[_,d,PJ],?_]];rw[Tx$ Rv _];rwa[D c k]
def Lf.bt(M:ρ->Prop):Lf->ρ->Prop
 | .rd x _ _,y | .st x _ _,y=>M y/\y≠x
 | .wr _ _ _ _,y=>M y
 | .cl x _ _ _,y=>M y/\y≠x
 | .gv _ _,_=>False
def Bd.bt(M:ρ->Prop):Bd->ρ->Prop
 | .nil,y=>M y
 | .lf _ l _,y=>l.bt M y
 | .ite _ _ _ a b _,y=>a.use M y∨b.use M y
 | .loop _ _ _ a _,y=>a.use (λ_=>False) y∨M y
def Bf(h:lv H v s)(M:ρ->Prop)(y:ρ):s.use M y↔s.bt M y∨∃c∈s.own,y∈c.2.vars:=by
 cases h with
 |lf p l V _ _=>
  cases l with
  |rd x t T |st x t T=>exact#[λz=>z.elim .inl λw=>.inr #[_,τ.mpr Z,w],λz=>z.elim .inl λ#[c,hc,w]=>.inr (by rw[τ.mp hc]at w;rwa[w])]
  |wr t u T U=>
   erw[#[λz=>z.elim .inl λw=>.inr (w.elim (λw=>#[_,RN ..,w]) λw=>#[_,RZ _$ τ.mpr Z,w]),λz=>z.elim .inl λ#[c,hc,w]=>.inr ?_]];rcases Ξ.mp hc with e |hc
   .rw[e]at w;rwa[.inl w]
   .rw[τ.mp hc]at w;rwa[.inr w]
  |cl x f q d=>rwa[Wi]
  |gv t T=>exact#[λw=>.inr #[_,τ.mpr Z,w],λz=>z.elim False.elim λ#[c,hc,w]=>by rw[τ.mp hc]at w;rwa[w]]
 |ite p t T a b Q g A B _ _ _ _ _ _ |loop p t T a Q A _ _ _ _=>exact#[λz=>z.elim .inl λw=>.inr #[_,τ.mpr Z,w],λz=>z.elim .inl λ#[c,hc,w]=>.inr (by rw[τ.mp hc]at w;rwa[w])]
structure NL(H:Hp)(g:ζ)(ss:xL ρ)(M:ρ->Prop)(ys:xL ρ):Prop where
 at':H g=δ (.lst$ ss.map vr)
 nm:Nm ss M
 sub:∀x,M x->x∈ys
 y20:ο ys<=21
def NL.len{H:Hp}{g:ζ}{s:xL ρ}{M:ρ->Prop}{y:xL ρ}(h:NL H g s M y):ο s<=21:=RM (h.nm.len h.sub) h.y20
def NL.same(h:NL H g a M y)(s:aa H b):NL b g a M y:=#[s _ _ h.at',h.nm,h.sub,h.y20]
structure NU(H:Hp)(g:ζ)(ss:xL ρ)(M:ρ->Prop)(ys:xL ρ):Prop where
 at':H g=δ (.lst$ ss.map vr)
 nd:ss.Nodup
 mem:∀x,x∈ss↔M x
 sub:∀x,M x->x∈ys
 y20:ο ys<=21
def NL.nu(h:NL H g s M y):NU H g s M y:=#[h.at',h.nm.nd,h.nm.mem,h.sub,h.y20]
inductive AM(n:Nat)(c:xL V)(H:Hp)(Q:VK)(a:XK):Prop
 |mk(v:V)(g:ζ)(s:Bd)(b:xL ρ)(M:ρ->Prop)(d:xL ρ)(_:c=[v,.ref g])(_:lv H v s)(_:NL H g b M d)(_:s.Ok d)(_:s.dep < n+1)(_:s.size<=10000000)(_:∀(r:ζ) (zs:xL ρ) (H':Hp),H' r=δ (.lst (zs.map vr))->(∀y,y∈zs↔s.bt M y)->ο zs<=50->aa H H'->Q (.ref r) H')
inductive iI(n:Nat)(c:xL V)(H:Hp)(Q:VK)(a:XK):Prop
 |mk(v:V)(g:ζ)(s:Bd)(b:xL ρ)(M:ρ->Prop)(d:xL ρ)(_:c=[v,.ref g])(_:lv H v s)(_:NL H g b M d)(_:s.Ok d)(_:s.dep < n+1)(_:s.size<=10000000)(_:∀(r:ζ) (zs:xL ρ) (H':Hp),H r=θ->NL H' r zs (s.use M) d->aa H H'->Q (.ref r) H')
inductive mf(n:Nat)(e:xL V)(H:Hp)(Q:VK)(c:XK):Prop
 |mk(a g:ζ)(b:Bd)(f:xL V)(d:xL ρ)(M:ρ->Prop)(h:xL ρ)(_:e=[.ref a,.ref g])(_:H a=δ (.tup f))(_:eP H b f)(_:NU H g d M h)(_:b.Ok h)(_:b.dep < n)(_:b.size<=10000000)(_:∀(r:ζ) (zs:xL ρ) (H':Hp),H r=θ->NL H' r zs (b.use M) h->aa H H'->Q (.ref r) H')
def Nm.empty:Nm [] (λ_=>False):=#[VA,Z,λx=>#[λh=>absurd h R6,False.elim]]
def EW:am ["statement","behind","word"] z3z (ae Al):=bP
noncomputable def AC:ge:=#[.function,[(".0",.local),("name",.local),("statement",.free)],ν,ν,[]]
def Mp:(["name","statement"]:xL ρ).Nodup:=PH
def LL:bh ["statement","behind","word"] (ae Al) AC ["name","statement"] 1 [0]:=oi
def yw{L n:Nat}(F:xD K "used_behind_terms" Al f fd)(J:{L} fA f0 z18z (mf n) "used_ahead"):⇑(L+1) f fd z3z (AM n):=by
 erw[F.ok EW λc0 A O s H vs Q E R h=>?_]
 let(v,g,st,G,M,Y,rfl,hs,c,W,hd,hz,q):=h;erw[#[_,%[EW|_ce2h0cms zJ _2danananbjfl (@za _ _ _ _ _ _ _ ["name","statement"] 1 [0] _ _ _ _ Z (kY$ pv 1) LL (λ_ _ _ _ _=>ju (i:=0) Mp Z$ ψ Z) (λ_ _ _ _ _=>@KP _ _ _ %[EW|_s QZ _0K (r:=db K) _G1gpw _]) (λ_ _ _ _ _=>pv 0) Cv) _tcmx2floψ J.e R.m _ah0a1b J.e R.m _ah0a1btcmx2floψ J.e R.m _ah0arbb1tcmx2flrbtfl1],?_]];let g0:=c.len;cases hs with
 |lf p l vs d B=>
  cases l with
  |rd x t T |st x t T=>
   let(rfl,X):=B;erw[(jv d Z #[12,ie,λl N=>#[l,12,.inr$ aC.of jc,2212,dB PH ?_]])];let S:aa H (af H l$ .tup [.str "set",.str "read",.str "call"]):=je N;erw[#[12,g,Z,#[_,aJ.of$ S _ _ c.at'],Qx (λy=>!decide (vr y=vr x)) PL (S _ _ c.at') (λy I Q' hy k C=>?_) (λy I Q' hy C=>#[12,C]) λH' k r j=>?_]]
   .exact#[12,jv (k _ _$ S _ _ d) Z #[212,C _$ aa.refl _]]
   .erw[q r _ _ jc (λy=>?_) (RM (UH ..) PL) ((S.trans k).trans$ je j)];rw[mL,c.nm.mem y];exact and_congr_right λ_=>by simp
  |wr t u T U=>let(rfl,X,hU):=B;erw[(jv d Z #[12,ie,λl N=>#[l,12,.inr$ aC.of jc,2212,a9 PH ?_]])];erw[#[12212,a9 PH ?_]];erw[#[12212,a9 PH ?_]];erw[#[12212,a9 PH ?_]];exact#[12,q g G _ (aq c.at' N) c.nm.mem PL$ je N]
  |cl x f' q' ts=>
   let(rfl,h8,X):=B;erw[(jv d Z #[12,ie,λl N=>#[l,12,.inr$ aC.of jc,2212,dB PH ?_]])];let S:aa H (af H l$ .tup [.str "set",.str "read",.str "call"]):=je N;erw[#[12,g,Z,#[_,aJ.of$ S _ _ c.at'],Qx (λy=>!decide (vr y=vr x)) PL (S _ _ c.at') (λy I Q' hy k C=>?_) (λy I Q' hy C=>#[12,C]) λH' k r j=>?_]]
   .exact#[12,jv (k _ _$ S _ _ d) Z #[212,C _$ aa.refl _]]
   .erw[q r _ _ jc (λy=>?_) (RM (UH ..) PL) ((S.trans k).trans$ je j)];rw[mL,c.nm.mem y];exact and_congr_right λ_=>by simp
  |gv t T=>let(rfl,X):=B;erw[(jv d Z #[12,ie,λl N=>#[l,12,.inr$ aC.of jc,2212,a9 PH ?_]])];erw[#[12212,a9 PH ?_]];erw[#[12212,a9 PH ?_]];erw[#[12212,dB PH ?_]];exact#[gU,λr j=>q r [] _ jc (λy=>#[λh=>absurd h R6,λh=>(show False from h).elim]) (RE _) ((je N).trans$ je j)]
 |ite p t T a b qa qb as bs d h0 B h3 h4 h5=>erw[(jv d Z #[12,ie,λl N=>#[l,12,.inr$ aC.of jc,2212,a9 PH ?_]])];erw[#[12212,dB PH ?_]];let S:aa H (af H l$ .tup [.str "set",.str "read",.str "call"]):=je N;let h6:max (max a.dep b.dep+1) 0 < n+1:=hd;let h7:a.size+b.size+0+1<=10000000:=hz;erw[(jv (S _ _ d) Z #[12,qa,g,a,as,G,M,Y,Z,S _ _ B,h4.mono$ aa.tm S,(c.same S).nu,W.2.1,PL,PL,λr1 z1 I _ D k1=>?_])];let z:=S.trans k1;erw[(jv (z _ _ d) Z #[12,qb,g,b,bs,G,M,Y,Z,z _ _ h3,h5.mono$ aa.tm z,(c.same z).nu,W.2.2.1,PL,PL,λr2 z2 H2 _ n2 k2=>?_])];let l1:=D.len;let l2:=n2.len;let b0:=zR;erw[#[r1,r2,1122,k2 _ _ D.at',n2.at',by rw[Rs,Rs];omega,λr j=>q r (z1++z2) _ (by rw[jc,RU]) (λy=>?_) (by rw[Ru];omega) ((z.trans k2).trans$ je j)]];rw[Ut,D.nm.mem y,n2.nm.mem y];rwa[Wi]
 |loop p t T a qa as d h0 B h3=>erw[(jv d Z #[12,ie,λl N=>#[l,12,.inr$ aC.of jc,2212,a9 PH ?_]])];erw[#[12212,a9 PH ?_]];erw[#[12212,dB PH ?_]];let S:aa H (af H l$ .tup [.str "set",.str "read",.str "call"]):=je N;let h6:max (a.dep+1) 0 < n+1:=hd;let h7:a.size+0+1<=10000000:=hz;erw[(jv (S _ _ d) Z #[gU,λe ne=>?_])];let z:=S.trans (je (o:=.lst []) ne);erw[#[qa,e,a,as,[],λ_=>False,Y,Z,z _ _ B,h3.mono$ aa.tm z,(NL.nu #[jc,Nm.empty,λ_ w=>w.elim,c.y20]),W.2.1,PL,PL,λr1 z1 I _ D k1=>?_]];let l1:=D.len;let s3:=z.trans k1;let b0:=zR;erw[#[12,r1,g,1122,D.at',s3 _ _ c.at',by rw[Rs,Rs];omega,λr j=>q r (z1++G) _ (by rw[jc,RU]) (λy=>?_) (by rw[Ru];omega) (s3.trans$ je j)]];rw[Ut,D.nm.mem y,c.nm.mem y];rwa[Wi]
def Hv(h:lv H v s):∀c∈s.own,bK H c.2 c.1:=by
 cases h with
 |lf p l V _ d=>
  cases l with
  |rd x t T |st x t T |gv t T=>intro c hc;rw[τ.mp hc];rwa[d.2]
  |wr t u T U=>
   intro c hc;rcases Ξ.mp hc with e |hc
   .rw[e];rwa[d.2.1]
   .rw[τ.mp hc];rwa[d.2.2]
  |cl x f q i=>rwa[d.2.2]
 |ite p t T a b Q j A B _ g _ _ _ _ |loop p t T a Q A _ g _ _=>intro c hc;rw[τ.mp hc];rwa[g]
def Hw(h:lv H v s)(o:s.Ok y):ο s.own<=100/\∀c∈s.own,em y c.2:=by
 let one:∀(t:ζ) (T:Tm),em y T->[(t,T)].length<=100/\∀c∈[(t,T)],em y c.2:=λt T h=>#[by show 1<=100;omega,λc hc=>by rw[τ.mp hc];rwa[h]];cases h with
 |lf p l V _ g=>
  cases l with
  |rd x t T |st x t T=>rwa[one t T o.1.2]
  |wr t u T U=>
   erw[#[by show 2<=100;omega,λc hc=>?_]];rcases Ξ.mp hc with e |hc
   .rw[e];rwa[o.1.1]
   .rw[τ.mp hc];rwa[o.1.2]
  |cl x f q i=>exact#[RM o.1.2.1 PM,o.1.2.2]
  |gv t T=>rwa[one t T o.1]
 |ite p t T a b Q j A B _ d _ _ _ _ |loop p t T a Q A _ d _ _=>rwa[one t T o.1]
theorem app_assoc:∀(a b c:Bd),(a.app b).app c=a.app (b.app c)
 | .nil,_,_=>rfl
 | .lf p l r,b,c=>by show Bd.lf p l ((r.app b).app c)=_;rw[app_assoc r b c];rfl
 | .ite p t T x y r,b,c=>by show Bd.ite p t T x y ((r.app b).app c)=_;rw[app_assoc r b c];rfl
 | .loop p t T x r,b,c=>by show Bd.loop p t T x ((r.app b).app c)=_;rw[app_assoc r b c];rfl
theorem app_nil:∀(a:Bd),a.app .nil=a
 | .nil=>rfl
 | .lf p l r=>by show Bd.lf p l (r.app .nil)=_;rw[app_nil r]
 | .ite p t T x y r=>by show Bd.ite p t T x y (r.app .nil)=_;rw[app_nil r]
 | .loop p t T x r=>by show Bd.loop p t T x (r.app .nil)=_;rw[app_nil r]
inductive OI(v:V)(g r k:ζ)(s:Bd)(M:ρ->Prop)(b:Hp)(i:Nat)(n:_L.St)(a:Hp):Prop
 |mk(l:ym V)(m:xL ρ)(d:n=[δ v,↑g,↑k,l])(e:a k=δ (.lst (m.map vr)))(f:∀y,y∈m↔s.bt M y∨∃c∈s.own.take i,y∈c.2.vars)(h:ο m<=50+21*i)(j:aI k b a)
def Az:am ["statement","behind","names","term"] z3z (ae DH):=bP
def yx{L:Nat}(F:xD K "used_ahead_of" DH f fd)(cB:{L+9} fB f0 z3z (AM n) "used_behind_terms")(cO:{1} fO f2 z4z oQ "own_terms")(cN:{7} fN f3 z2z (d9 6) "names_in")(m0:mg "list"=θ)(m2:mg "set"=θ)(m3:mg "sorted"=θ):⇑(L+10) f fd z3z (iI n):=by
 erw[F.ok Az λc0 A o1 s H vs Q E t h=>?_]
 let(v,g,st,ss,M,Y,rfl,j,u,U,hd,hz,q):=h;erw[#[_,%[Az|_ce2E JJ _jY boot_list _a cB.e t.m _a0a1bbcHTjZ cO.e t.m _a0bi3fzCR Tp To qh _2a cN.e t.m _a3bbflA (qx Z) _j m3 UY _aE (Jl Z) _j m2 boot_set _a2bb],?_]];erw[ah λF1 C=>#[1212,v,g,st,ss,M,Y,Z,j,u,U,hd,hz,λr1 G H1 e1 m1 l1 k1=>#[r1,12,.inl$ aJ.of e1,λN I=>C _ _ ?_]]];let s2:aa H (af H1 N$ .lst$ G.map vr):=k1.trans (je I);let J:=j.mono (aa.tm s2);let(o2,O):=Hw j U;let a:af H1 N (.lst$ G.map vr) N=δ (.lst$ G.map vr):=jc;let h0:H N=θ:=k1.free I;generalize af H1 N (.lst$ G.map vr)=H2 at s2 J a;erw[ah λF1 C=>?_];erw[eG λF kF=>#[12,v,st,Z,J,λr H3 t W=>#[r,Z,#[_,aC.of t],kF _ _ ?_]]];let r0:r≠N:=jO t (W _ _ a) BT;let s3:=s2.trans W;let b0:=zR;erw[Qa (K:=K) (xs:=st.own.map rT) (OI v g r N st M H3) #[_,G,Z,W _ _ a,λy=>?_,N09,aI.refl] (λi σ H' hi h=>?_) ?_ (λσ H' h=>C _ _ ?_)]
 .rw[m1 y];exact#[.inl,λz=>z.elim (λw=>w) λ#[c,p,_]=>absurd p R6]
 .let(_,_,_,_,_,_,k):=h;rwa[aC.of$ k _ _ r0 t]
 .intro E _ i x σ H4 B fE Gq D h;let(o3,X,rfl,h1,R,h3,k4):=h;rw[RP]at B;cases p:st.own[i]? with
  |none=>rw[p]at B;cases B
  |some c=>
   rw[p]at B;cases B;erw[D ?_];let cm:=RL p;let hi:i < ο st.own:=by
    rcases Vr i st.own.length with z |z
    .rwa[z]
    .rw[Sw z]at p;cases p
   let tm:aj H3 H4:=λb xs e=>k4 b _ (jO e (W _ _ a) BT) e;show tS _ E [δ v,↑g,↑N,δ$ .ref c.1] H4;erw[#[12,.inl #[21,aJ.of h1],12,c.1,c.2,Y,Z,((Hv j c cm).mono$ aa.tm s3).mono tm,(O c cm).2,(O c cm).1,u.y20,λr5 s5 H5 n5 e5 d5 m5 o5 k5=>?_]];let l5:ο s5<=21:=RM (kG d5 λx B=>kO (O c cm).1 x ((m5 x).mp B)) u.y20;erw[#[N,r5,1122,k5 _ _ h1,e5,by rw[Rs,Rs];omega,fE _ _ #[_,X++s5,Z,by rw[jc,RU],λy=>?_,by rw[Ru];omega,λb o nb e=>?_]]]
   .rw[Ut,R y,m5 y,SX,p];erw[#[λz=>z.elim (λz=>z.elim .inl λ#[d,hd,w]=>.inr #[d,Td _ hd,w]) λw=>.inr #[c,RW _$ τ.mpr Z,w],λz=>z.elim (λw=>.inl (.inl w)) λ#[d,hd,w]=>?_]];rcases γ.mp hd with hd |hd
    .rwa[.inl$ .inr #[d,hd,w]]
    .let ed:d=c:=τ.mp hd;rw[ed]at w;rwa[.inr w]
   .rw[ji nb];rwa[k5 _ _$ k4 b o nb e]
 .let(o3,X,rfl,h1,R,h3,k4):=h;rw[Rs]at R h3;let s4:aa H H':=λb o e=>k4 b o (jk e h0) (s3 _ _ e);erw[#[12,N,X,Z,aJ.of h1,(λL nd j=>Tc (Ts$ kG nd j) (by show ο X+1 < 4096;omega)),λl L S h4 hm=>?_]];let sub:∀y∈L,y∈Y:=λy hy=>Bd.use_in U u.sub y ((Bf j M y).mpr (by let:=(R y).mp ((hm y).mp hy);rw[Su]at this;assumption));let lL:=RM (kG h4 sub) u.y20;erw[#[l,L,Z,jc,PL,λr' s0 T pm nd so=>?_]];erw[q r' s0 _ ((s4.trans$ je S).free T) #[jc,#[pm.nodup_iff.mpr nd,so,λy=>?_],Bd.use_in U u.sub,u.y20] ((s4.trans$ je S).trans$ je T)];rw[pm.mem_iff,hm y,R y,Bf j M y,Su]
def none_of(s:aa H h)(n:h r=θ):H r=θ:=by
 cases z:H r with
 |none=>rfl
 |some o=>have:=s _ _ z;rw[n]at this;cases this
inductive UI(a g:ζ)(b:Bd)(p:xL V)(M:ρ->Prop)(q:xL ρ)(H:Hp)(i:Nat)(s:_L.St)(d:Hp):Prop
 |mk(m:ζ)(o:ym V)(c n:Bd)(r:xL ρ)(e:s=[↑a,↑g,↑m,o])(f:b=c.app n)(h:eP H c (p.take (ο p - i)))(j:NL d m r (n.use M) q)(k:aa H d)(l:H m=θ)
def sW:am ["body","behind","names","statement"] z18z (ae DG):=bP
def Hn{L:Nat}(F:xD K "used_ahead" DG f fd)(cU:{L+10} fU f0 z3z (iI n) "used_ahead_of")(J:mg "sorted"=θ)(N:mg "reversed"=θ):⇑(L+11) f fd z18z (mf$ n+1):=by
 erw[F.ok sW λc0 A O s H vs Q E hr h=>?_]
 let(a,g,b,xs,R,M,Y,rfl,ha,hb,d,ho,hd,hz,q):=h;erw[#[_,%[sW|_ce2A X6 _j J UY _a1bcHTj (@yL _ _ _ _ _ _ _ Z N boot_reversed (pv 0) PM PM Pz Pz) _i3fe2 cU.e hr.m _a3a2bfl2],?_]];let g0:ο R<=21:=RM (kG d.nd λx o=>d.sub x ((d.mem x).mp o)) d.y20;let b0:=aL;erw[ah λF1 t=>#[12,g,R,Z,aJ.of d.at',PL,λl c nl pm so=>t _ _ ?_]];let T:Nm c M:=#[pm.nodup_iff.mpr d.nd,so,λx=>pm.mem_iff.trans (d.mem x)];let U:aa H (af H l$ .lst$ c.map vr):=je nl;let u:NL (af H l$ .lst$ c.map vr) l c M Y:=#[jc,T,d.sub,d.y20];generalize af H l (.lst$ c.map vr)=H1 at U u;let xl:=hb.len;erw[ah λF1 t=>?_];erw[eG λF kF=>#[12,a,xs,Z,aC.of$ U _ _ ha,kF _ _ ?_]];erw[Ys (K:=K) (xs:=xs) (UI a g b xs M Y H) #[l,_,b,.nil,c,Z,(app_nil b).symm,by rw[UZ,Su];rwa[hb],u,U,nl] (λi σ H' hi h=>?_) ?_ (λσ H' h=>t _ _ ?_)]
 .let(_,_,_,_,_,_,_,_,_,k,_):=h;rwa[aC.of$ k _ _ ha]
 .intro E _ i x σ H2 o fE Gq p h;let(I,o3,pre,h9,W,rfl,j,y,X,B,n2):=h;let hi:i < ο xs:=by
   rcases Vr i xs.length with z |z
   .rwa[z]
   .rw[Sw (z:)]at o;cases o
  rw[UJ hi]at o;let et:xs.take (ο xs - i)=xs.take (ο xs - (i+1))++[x]:=by
   let C:ο xs - i=(ο xs - 1 - i)+1:=PL
   let e2:ο xs - (i+1)=ο xs - 1 - i:=PL
   rw[C,e2,SX,o];rfl
  rw[et]at y;rcases y.last with ⟨e,_⟩ | ⟨ws,v,D,S,C,e2,h4,h5⟩
  .rwa[absurd e PJ]
  let(ew,ev):=List.append_inj' C Z;cases ev;subst e2;let h0:=zZ (j▸ho);let G:=zZ h0.1;let a1:b.dep=max (D.app S).dep h9.dep:=by rw[j,zG]
  let a2:(D.app S).dep=max D.dep S.dep:=zG ..;let h6:S.dep<=b.dep:=by rw[a1,a2];rwa[RM (UN ..)$ UV ..]
  let h7:S.size<=b.size:=by rw[j,j9,j9];omega
  erw[p ?_];show dI _ _ E [↑a,↑g,↑I,δ x] H2;erw[#[1212,x,I,S,W,h9.use M,Y,Z,h5.mono$ aa.tm B,X,G.2,PL,PL,λr z H3 nr n3 k3=>fE _ _ #[r,_,D,S.app h9,z,Z,by rw[j,app_assoc],?_,by rw[Ky];rwa[n3],B.trans k3,none_of B nr]]];rw[ew];rwa[h4]
 .let(I,o3,pre,h9,W,rfl,j,y,X,B,n2):=h;rw[Vq]at y;let ep:pre= .nil:=by
   rcases y.last with ⟨_,e⟩ | ⟨ws,v,D,S,C,_⟩
   .rwa[e]
   .rwa[absurd C PJ]
  rw[ep]at j;erw[#[12,q I W H' n2 ?_ B]];rw[j];rwa[X]
def GG:⇑k f e z18z (mf 0):=by
 let n:∀v H Q E,¬mf 0 v H Q E:=λv H Q E h=>by let(a,g,b,x,S,M,y,_,_,_,_,_,d,_):=h;rwa[absurd d$ UU _]
 exact#[λv H Q E h=>absurd h (n v H Q E),λA o s H c u v Q E _ _ _ _ h=>absurd h (n v H Q E)]
theorem Nq(F:xD K "used_ahead" DG f e)(FB:xD K "used_behind_terms" Al r g)(d:xD K "used_ahead_of" DH o b)
  (B:aE K e z18z []) (i:mg "used_ahead"=↑f) (j:aE K g z3z []) (k:mg "used_behind_terms"=↑r) (p:aE K b z3z []) (q:mg "used_ahead_of"=↑o) (C:{1} u s z4z oQ "own_terms") (l:{7} v t z2z (d9 6) "names_in") (M:mg "list"=θ) (a:mg "set"=θ) (m:mg "sorted"=θ) (c:mg "reversed"=θ):
  ∀n:Nat,⇑(3*n+8) f e z18z (mf n)/\⇑(3*n+10) o b z3z (iI n)
 |0=>by let h:⇑8 f e z18z (mf 0):=GG;let H:=yw (L:=8) (n:=0) FB #[h,B,F.kp,i];exact#[h,yx (L:=0) d #[H,j,FB.kp,k] C l M a m]
 |n+1=>by
  let I:=(Nq F FB d B i j k p q C l M a m c n).2;let h:=Hn (L:=3*n) F #[I,p,d.kp,q] m c;let E:3*n+11=3*(n+1)+8:=PL
  rw[E]at h;let H:=yw (L:=3*(n+1)+8) (n:=n+1) FB #[h,B,F.kp,i];exact#[h,yx (L:=3*(n+1)) d #[H,j,FB.kp,k] C l M a m]
abbrev Ib:cc:=bX 49
abbrev Ad:cc:=bX 52
abbrev y9:cc:=bX 53
abbrev nK:cc:=bX 54
abbrev Af:cc:=bX 55
def Lf.cut:Lf->Nat
 | .st _ _ _ | .gv _ _=>0
 |_=>1
noncomputable def Bd.cuts:Bd->Nat
 | .nil=>0
 | .lf _ l r=>l.cut+r.cuts
 | .ite _ _ _ a b r=>1+a.cuts+b.cuts+r.cuts
 | .loop _ _ _ a r=>1+a.cuts+r.cuts
def Bd.inn:Bd->Bd
 | .ite _ _ _ a b _=>a.app b
 | .loop _ _ _ a _=>a
 |_=>.nil
theorem qf:∀(a b:Bd),(a.app b).cuts=a.cuts+b.cuts
 | .nil,b=>by show b.cuts=0+b.cuts;omega
 | .lf _ l r,b=>by let:=qf r b;show l.cut+(r.app b).cuts=l.cut+r.cuts+b.cuts;omega
 | .ite _ _ _ x y r,b=>by let:=qf r b;show 1+x.cuts+y.cuts+(r.app b).cuts=1+x.cuts+y.cuts+r.cuts+b.cuts;omega
 | .loop _ _ _ x r,b=>by let:=qf r b;show 1+x.cuts+(r.app b).cuts=1+x.cuts+r.cuts+b.cuts;omega
inductive oH(b:xL V)(H:Hp)(Q:VK)(a:XK):Prop
 |mk(v:V)(s:Bd)(_:b=[v])(_:lv H v s)(_:s.size<=10000000)(_:∀(r:ζ) (xs:xL V) (H':Hp),H' r=δ (.tup xs)->eP H' s.inn xs->aa H H'->Q (.ref r) H')
inductive iT(d:xL V)(H:Hp)(Q:VK)(c:XK):Prop
 |mk(a:ζ)(b:Bd)(e:xL V)(_:d=[.ref a])(_:H a=δ (.tup e))(_:eP H b e)(_:b.size<=10000000)(_:∀H',aa H H'->Q (.int (b.cuts:Int)) H')
def MW:am z4z z4z (ae Ib):=bP
def GQ(F:xD K "bodies_in" Ib f y):⇑1 f y z4z oH:=by
 erw[F.ok MW λC A o s H V Q E j h=>?_]
 let(v,st,rfl,z,B,q):=h;erw[#[_,%[Z|_cmxh0floVh0h0tcmxh0flh0tfldb],?_]];let D:=aL;cases z with
 |lf p l V c d=>
  cases l with
  |rd x t T |st x t T |wr t u T U |cl x f R S |gv t T=>let(rfl,_):=d;erw[(jv c Z #[212,a9 PH ?_])];erw[(jv c Z #[212,a9 PH ?_])];exact#[gU,λr N=>q r [] _ jc Z (je N)]
 |ite p t T a b e G g I c J d i m n=>erw[(jv c Z #[212,dB PH ?_])];let L:a.size+b.size+0+1<=10000000:=B;let W:=m.len;let X:=n.len;exact(jv c Z$ jv c Z #[e,G,g,I,22,d,i,PL,λr M j s=>q r _ M j ((n.mono$ aa.tm s).app$ m.mono$ aa.tm s) s])
 |loop p t T a e g c J d i=>erw[(jv c Z #[212,a9 PH ?_])];erw[(jv c Z #[212,dB PH ?_])];exact(jv c Z$ q e g H d i$ aa.refl H)
def DV(h:lv H v s):s.inn.size < s.size/\∃(p:ζ) (w:ρ) (r:xL V),v= .ref p/\H p=δ (.tup (.str w::r))/\s.cuts=(if rM (.str w) [.str "set",.str "give"]=μ then 0 else 1)+s.inn.cuts:=by
 cases h with
 |lf p l i c d=>
  erw[#[Nat.zero_lt_succ _,?_]];cases l with
  |rd x t T |wr t u T U |cl x f Q j=>let(rfl,_):=d;exact#[p,112,c,by rw[RD PH];rfl]
  |st x t T |gv t T=>let(rfl,_):=d;exact#[p,112,c,by rw[RB PH];rfl]
 |ite p t T a b q k A B c e d g m n=>erw[#[by show(a.app b).size < a.size+b.size+0+1;rw[j9];omega,p,112,c,?_]];rw[RD PH];show 1+a.cuts+b.cuts+0=1+(a.app b).cuts;rw[qf];omega
 |loop p t T a q A c e d g=>erw[#[by show a.size < a.size+0+1;omega,p,112,c,?_]];rw[RD PH];show 1+a.cuts+0=1+a.cuts;omega
def eQ:eW (v::y) 0=δ v:=jE (j:=0) Z
inductive MI(a n:ζ)(b:Bd)(H:Hp)(m:Nat)(p:_L.St)(c:Hp):Prop
 |mk(l:ym V)(W:Bd)(o:xL V)(k:Nat)(d:m=W.size)(e:p=[↑a,δ (.int (k:Int)),↑n,l])(f:c n=δ (.lst o))(g:eP c W o)(h:k+W.cuts=b.cuts)(i:W.size<=10000000)(j:aI n H c)
def lO:am ["body","many","todo","statement"] ["body"] (ae Ad):=bP
def CW(F:xD K "many_cuts" Ad f fd)(cB:{1} fB f0 z4z oH "bodies_in")(m0:mg "list"=θ):⇑2 f fd ["body"] iT:=by
 erw[F.ok lO λc0 A o1 s H vs Q E hr h=>?_]
 let(a,b,xs,rfl,ha,hb,hz,q):=h;erw[#[_,%[lO|_ce1gce2E JJ _jY boot_list _a0bc (K7 Sd (@yO _ _ _ (pv 2) (λ_=>Z)) %[lO|_ce3 (HP RF PySem.F.slot_list_pop PySem.F.type_list_pop Gr$ pv 2) _cJms JI _h3dananbjf (HS (i:=1) lO.nd Z (ψ Z) jf Ge) _tfzCR Tp To ZL _2a cB.e hr.m _a3bb]) _fl1],?_]];let b0:=aL;erw[ah λU d=>d _ _ ?_];erw[ah λU d=>#[12,a,12,.inr$ aC.of ha,λt C=>d _ _ ?_]];let s0:aa H (af H t$ .lst xs):=je C;erw[ah λU d=>?_];erw[p7 (MI a t b H) b.size #[_,b,xs,0,22,jc,hb.mono$ aa.tm s0,PL,hz,λc o N e=>s0 _ _ e] ?_];intro m σ D E _ fE F X Y Gq y h;let(o3,W,zs,k,rfl,rfl,x,h2,h3,h4,h5):=h;erw[y #[12,!zs.isEmpty,.inl #[zs,aJ.of x,Z],?_]];rcases h2.last with ⟨e1,e2⟩ | ⟨g,v,B,n,e1,e2,g1,g2⟩
 .rw[e1];erw[Y _$ d _ _ #[12,?_]];rw[e2]at h3;let e3:k=b.cuts:=by let:k+0=b.cuts:=h3;rwa[N09]
  rw[e3];rwa[q _ λc o e=>h5 c o (jk e C) e]
 .rw[e1];let ne:(!(g++[v]).isEmpty)=μ:=by cases g<;>rfl
  rw[ne];erw[X _ ?_];let h6:W.size=B.size+n.size:=by rw[e2,j9]
  let h7:W.cuts=B.cuts+n.cuts:=by rw[e2,qf]
  let(h8,p,w',r,rfl,hp,hc):=DV g2;rw[e1]at x;erw[ah λU d=>#[12,.inl #[21,aJ.of x],t,_,.ref p,22,x,PJ,d _ _ ?_]];rw[List.dropLast_concat];let T:aj D (af D t$ .lst g):=λc ys e=>by rw[ji$ jO e x BT];rwa[e]
  let t2:af D t (.lst g) t=δ (.lst g):=jc;let u:=g1.mono T;let I:=g2.mono T;let J:=T _ _ hp;let k2:aI t H (af D t$ .lst g):=λc o N e=>by rw[ji N];rwa[h5 c o N e]
  generalize af D t (.lst g)=H2 at t2 u I J k2;let R:∀(j:Nat) (H3:Hp),aa H2 H3->j+B.cuts+n.inn.cuts=b.cuts->tS (Oz K "list" (lJ K) (bn 2)$ ap (fj oH [] E0$ ap (bn 3) aS) aS) E [↑a,δ$ .int (j:Int),↑t,↑p] H3:=λj H3 L hk=>by
   let g0:=I.mono (aa.tm L);erw[#[12,.inl #[21,aJ.of$ L _ _ t2],12,.ref p,n,Z,g0,PL,λr' ys H4 h0 hy s4=>?_]];let S:=L.trans s4;let l1:=u.len;let l2:=hy.len;erw[#[t,r',g,ys,22,S _ _ t2,aC.of h0,PL,fE (B.app n.inn).size _ _ (by rw[j9];omega) #[_,B.app n.inn,g++ys,j,22,jc,?_,by rw[qf];omega,by rw[j9];omega,λc o N e=>?_]]]
   .let M:aj H4 (af H4 t$ .lst$ g++ys):=λc z0 e=>by rw[ji$ jO e (S _ _ t2) BT];exact e
    exact(hy.mono M).app ((u.mono$ aa.tm S).mono M)
   .rw[ji N];rwa[S _ _$ k2 c o N e]
  erw[ah λU d=>eI (λO H'=>∃j:Nat,O=[↑a,δ$ .int (j:Int),↑t,↑p]/\aa H2 H'/\j+B.cuts+n.inn.cuts=b.cuts) (λE2 _ fm=>?_) λO H' h=>?_]
  .erw[ms λG X Y=>(jv J eQ #[cg,λl nl=>#[l,12,.inr$ aC.of jc,2212,?_]])];cases hv:rM (.str w') [.str "set",.str "give"] with
   |true=>rw[hv,RB Z]at hc;rwa[Y _$ fm _ _ #[k,Z,je nl,PL]]
   |false=>rw[hv,RD RI]at hc;erw[X _ #[121122,fm _ _ #[k+1,?_,je nl,PL]]];show [_,δ$ xb ((k:Int)+1),_,_]=[_,δ$ xb ((k+1:Nat):Int),_,_];rfl
  .let(j,rfl,L,hk):=h;rwa[d _ _$ R j H' L hk]
inductive Nw where
 |go (n:Int) |give (t:ζ)
structure Wy where
 sets:xL (ρ×ζ)
 goal:Nw
inductive Dd where
 |st (p:ζ) |ask (t:ζ)
structure Ct where
 M:ρ->Prop
 d:Dd
 ws:xL Wy
structure Pc where
 M:ρ->Prop
 w:Wy
inductive aVt(H:Hp)(l:Tr)(W:V->xL V->Prop)(x:V):Prop|mk(_:l.isL=μ)(a X:_)(_:x= .ref a)(_:H a=δ (.tup X))(_:W .non X)
inductive aVc(h t:Tr)(W R:V->xL V->Prop)(X:xL V):Prop|mk(_:h.isL=ν)(_:t.isL=μ)(y Y:_)(_:X=y::Y)(_:W y [])(_:R .non Y)
def aV(H:Hp):Tr->V->xL V->Prop
 | .lf v,x,_=>x=v/\Pk v=μ
 | .tp l,x,_=>aVt H l (aV H l) x
 | .nil,_,X=>X=[]
 | .cons h t,_,X=>aVc h t (aV H h) (aV H t) X
def aV.mono(k:aj H d):∀{t:Tr} {x:V} {X:xL V},aV H t x X->aV d t x X:=by
 intro t;induction t with
 |lf v |nil=>exactλh=>h
 |tp l f=>rintro x X ⟨h,a,Y,e,b,c⟩;exact#[h,a,Y,e,k _ _ b,f c]
 |cons h t i I=>rintro x X ⟨E,g,y,Y,e,b,c⟩;exact#[E,g,y,Y,e,i b,I c]
noncomputable def aD:xL Tr->Tr
 | []=>.nil
 |t::T=>.cons t (aD T)
def Xt:∀t:xL Tr,(aD t).isL=μ
 | [] |_::_=>rfl
def aB(t:xL Tr):Tr:=.tp (aD t)
def aM(x:ρ):Tr:=.lf (.str x)
def vF(a:ζ):Tr:=.lf (.ref a)
def au(n:Int):Tr:=.lf (.int n)
section
variable {H:Hp}
def jC:aV H (aD []) .non []:=rfl
def jm{t:Tr}(h:t.isL=ν)(a:aV H t y [])(b:aV H (aD T) .non Y):aV H (aD (t::T)) .non (y::Y):=#[h,Xt T,y,Y,Z,a,b]
def jG(h:H a=δ (.tup x))(b:aV H (aD t) .non x):aV H (aB t) (.ref a) []:=#[Xt t,a,x,Z,h,b]
def jT:aV H (aM x) (.str x) []:=#[22]
def JT:aV H (vF a) (.ref a) []:=#[22]
def jX:aV H (au n) (.int n) []:=#[22]
theorem Kz(a:aV H (aD s) .non Y):∀{T:xL Tr} {x:xL V},aV H (aD T) .non x->aV H (aD$ T++s) .non (x++Y)
 | [],x,h=>by let e:x=[]:=h;rw[e];rwa[a]
 |t::T,x,h=>by let(E,_,y,z,e,b,c):=h;rw[e];rwa[jm E b (Kz a c)]
theorem zA:∀{T:xL Tr} {x:xL V},aV H (aD T) .non x->ο x=ο T
 | [],x,h=>by let e:x=[]:=h;rw[e];rfl
 |t::T,x,h=>by let(_,_,y,z,e,_,a):=h;rw[e,Sa,Sa,zA a]
theorem Yx:∀(S:xL ρ),aV H (aD$ S.map aM) .non (S.map vr)
 | []=>rfl
 |s::S=>jm Z jT (Yx S)
theorem tU:∀{T:xL Tr} {x:xL V},aV H (aD T) .non x->aV H (aD T.reverse) .non x.reverse
 | [],x,h=>by let e:x=[]:=h;rw[e];rfl
 |t::T,x,h=>by let(E,_,y,z,e,a,b):=h;rw[e,U6,U6];rwa[Kz (jm E a jC)$ tU b]
theorem Jd:∀{T:xL Tr} {X:xL V},aV H (aD T) .non X->∀(i:Nat) (x:V),X[i]?=δ x->∃t,T[i]?=δ t/\aV H t x []
 | [],X,h,i,x,a=>by let e:X=[]:=h;rw[e]at a;simp at a
 |t::T,X,h,0,x,a=>by let(_,_,y,z,e,b,c):=h;rw[e]at a;cases a;exact#[t,Z,b]
 |t::T,X,h,i+1,x,a=>by let(_,_,y,z,e,b,c):=h;rw[e]at a;simpa using Jd c i x (a:)
end
def setT(s:ρ×ζ):Tr:=aB [aM s.1,vF s.2]
def Cn:Nw->Tr
 | .go n=>aB [aM "go",au n]
 | .give t=>aB [aM "give",vF t]
def lr(w:Wy):Tr:=aB [aB$ w.sets.map setT,Cn w.goal]
def NE:Dd->Tr
 | .st p=>vF p
 | .ask t=>aB [aM "ask",vF t]
def LM(c:Ct):Tr:=aB [aB ((canon c.M).map aM),NE c.d,aB$ c.ws.map lr]
def F'(g:Nw):(Cn g).isL=ν:=by cases g<;>rfl
def LS(d:Dd):(NE d).isL=ν:=by cases d<;>rfl
inductive oZ(H:Hp)(p:Pc)(v:V)(g:ζ)(y:xL ρ):Prop|mk(r s W:_)(_:v= .ref r)(_:H r=δ (.tup [.ref g,W]))(_:NL H g s p.M y)(_:aV H (lr p.w) W [])
def oZ.same(h:oZ H p v g y)(s:aa H a):oZ a p v g y:=by let(r,S,W,e,b,c,d):=h;exact#[r,S,W,e,s _ _ b,c.same s,d.mono$ aa.tm s]
def oZ.but(h:oZ H p v g y)(k:aI f H c)(d:H f=δ (.lst C))(n:g≠f):oZ c p v g y:=by let(r,s,W,e,i,a,j):=h;let t:aj H c:=λb x e=>k b _ (jO e d BT) e;exact#[r,s,W,e,t _ _ i,#[k _ _ n a.at',a.nm,a.sub,a.y20],j.mono t]
noncomputable def Lf.isCut:Lf->Bool
 | .st _ _ _ | .gv _ _=>ν
 |_=>μ
noncomputable def Bd.deed:Bd->Dd
 | .lf p _ _=>.st p
 | .ite _ t _ _ _ _ | .loop _ t _ _ _=>.ask t
 | .nil=>.st 0
inductive lS(b:xL V)(H:Hp)(Q:VK)(a:XK):Prop
 |mk(v:V)(s:Bd)(_:b=[v])(_:lv H v s)(_:∀(d:V) (H':Hp),aV H' (NE s.deed) d []->aa H H'->Q d H')
inductive iH(b:xL V)(H:Hp)(Q:VK)(a:XK):Prop
 |mk(t:ζ)(T:Tm)(c:xL ρ)(_:b=[.ref t])(_:bK H T t)(_:em c T)(_:ο c<=21)(_:∀(v:V) (g:ζ) (H':Hp),oZ H' #[λx=>x∈T.vars,#[[],.give t]] v g c->H g=θ->aa H H'->Q v H')
inductive tK(K:Ψ)(c:xL V)(H:Hp)(Q:VK)(b:XK):Prop
 |mk(a:ζ)(_:c=[.ref a])(_:aC K H a [.str "num",.int 0])(_:∀(r:ζ),H r=θ->Q (.ref r) (af H r (.lst [])))
inductive tL(K:Ψ)(b:xL V)(H:Hp)(Q:VK)(a:XK):Prop
 |mk(t:ζ)(c:xL ρ)(_:b=[.ref t])(_:aC K H t [.str "num",.int 0])(_:ο c<=21)(_:∀(v:V) (g:ζ) (H':Hp),oZ H' #[λx=>x∈(Tm.num 0).vars,#[[],.give t]] v g c->H g=θ->aa H H'->Q v H')
open Classical in
def lQ(x:ρ)(t:ζ)(p:Pc):Wy:=if p.M x then #[(x,t)::p.w.sets,p.w.goal] else p.w
inductive ma(d:xL V)(H:Hp)(Q:VK)(a:XK):Prop
 |mk(v b:V)(p t:ζ)(x:ρ)(T:Tm)(c:Pc)(g:ζ)(e:xL ρ)(_:d=[v,b])(_:lv H v (.lf p (.st x t T) .nil))(_:oZ H c b g e)(_:x∈e)(_:em e T)(_:ο c.w.sets<=10000000)(_:∀(v':V) (g':ζ) (H':Hp),oZ H' #[(Lf.st x t T).use c.M,lQ x t c] v' g' e->H g'=θ->aa H H'->Q v' H')
def Iu:am z4z z4z (ae y9):=bP
def CS(F:xD K "deed_of" y9 f e):⇑1 f e z4z lS:=by
 erw[F.ok Iu λC A o s H V Q E z h=>?_]
 let(v,st,rfl,g,q):=h;erw[#[_,%[Z|_cms zJ _h0dananbjfldanah0btfl0],?_]];cases g with
 |lf p l V c d=>
  cases l with
  |rd x t T |st x t T |wr t u T U |cl x f B D |gv t T=>let(rfl,_):=d;erw[(jv c Z #[cg,λl n=>#[l,12,.inr$ aC.of jc,2212,a9 PH ?_]])];exact#[12,q _ _ JT$ je n]
 |ite p t T a b i I j J c m d y L M |loop p t T a i j c m d y=>erw[(jv c Z #[cg,λl n=>#[l,12,.inr$ aC.of jc,2212,dB PH ?_]])];erw[(jv (aq c n) Z #[cg,λr N=>?_])];rwa[q _ _ (jG jc$ jm Z jT$ jm Z JT jC) ((je n).trans$ je N)]
def Hg{fN:ζ}{fdN:bS}(F:xD K "names_in" gE f b)(c:{n+1} f b z2z (d9 n) "names_in")(m:mg "set"=θ)(M:mg "sorted"=θ):⇑(n+2) f b z2z (tK K):=by
 erw[F.ok Av (λC A o s H v Q E d h=>?_)]
 let(a,rfl,g,q):=h;erw[#[_,%[Z|_cmxh0flrbtcmxh0flrah0btflA (qx Z) _j M UY _aE (Jl Z) _j m boot_set _aoψ c.e d _ah0b c.e d _ah0bbb],?_]];erw[#[12,a,11122,g,2212,dB PH ?_]];exact#[gU,λr N=>q r N]
def sV:am z2z z2z (ae nK):=bP
def yv(F:xD K "place_of_give" nK f d)(C:{7} U i z2z (d9 6) "names_in"):⇑8 f d z2z iH:=by
 erw[F.ok sV λj A o s H V Q E l h=>?_]
 let(t,T,y,rfl,p,O,b,q):=h;erw[#[_,%[Z|_flda C.e l.m _a0badadbadana0bbb],?_]];erw[#[12,t,T,y,Z,p,O.2,O.1,b,λg v a z B D M G I=>?_]];let J:NL a g v (λx=>x∈T.vars) y:=#[B,#[D,G,M],kO O.1,b];erw[#[gU,λe L=>#[12,cg,λu c=>#[cg,λx N=>#[cg,λr n=>?_]]]]];let S:aa a (af (af (af (af a e$ .tup []) u$ .tup [.str "give",.ref t]) x$ .tup [.ref e,.ref u]) r$ .tup [.ref g,.ref x]):=(((je L).trans$ je c).trans$ je N).trans (je n);erw[q _ g _ #[r,_,.ref x,Z,jc,J.same S,?_] z (I.trans S)];rwa[jG (aq jc n)$ jm Z (jG (aq (aq (aq jc c) N) n) jC)$ jm Z (jG (aq (aq jc N) n)$ jm Z jT$ jm Z JT jC) jC]
def Hj(F:xD K "place_of_give" nK f j)(C:{7} G l z2z (tK K) "names_in"):⇑8 f j z2z (tL K):=by
 erw[F.ok sV λp A o s H V Q E v h=>?_]
 let(t,y,rfl,z,B,q):=h;erw[#[_,%[Z|_flda C.e v.m _a0badadbadana0bbb],?_]];erw[#[12,t,Z,z,λg a=>?_]];let b:aa H (af H g$ .lst []):=je a;let c:NL (af H g$ .lst []) g [] (λx=>x∈(Tm.num 0).vars) y:=#[jc,#[VA,Z,λx=>Wi],λx h=>absurd h R6,B];generalize af H g (.lst [])=d at b c;erw[#[gU,λe D=>#[12,cg,λu i=>#[cg,λx N=>#[cg,λr n=>?_]]]]];let S:aa d (af (af (af (af d e$ .tup []) u$ .tup [.str "give",.ref t]) x$ .tup [.ref e,.ref u]) r$ .tup [.ref g,.ref x]):=(((je D).trans$ je i).trans$ je N).trans (je n);erw[q _ g _ #[r,_,.ref x,Z,jc,c.same S,?_] a (b.trans S)];rwa[jG (aq jc n)$ jm Z (jG (aq (aq (aq jc i) N) n) jC)$ jm Z (jG (aq (aq jc N) n)$ jm Z jT$ jm Z JT jC) jC]
def Co{Y:xL ρ}:rM (.str x) (Y.map vr)=decide (x∈Y):=by
 by_cases h:x∈Y
 .rw[RG h];unfold rM;rw[List.any_eq_true];exact#[.str x,dn.mpr #[x,h,Z],by simp [o0]]
 .rw[RC h];unfold rM;rw[iu];intro z;rw[List.any_eq_true]at z;let(v,a,e):=z;let(y,H,rfl):=dn.mp a;let E:x=y∨y=x:=by
   first
    |exact .inl (by simpa [o0] using e)
    |exact .inr (by simpa [o0] using e)
  rcases E with rfl |rfl
  .rwa[h H]
  .rwa[h H]
def IV{H:Hp}{w:Wy}{v:V}(h:aV H (lr w) v []):∃(W s:ζ) (S:xL V) (y:V),v= .ref W/\H W=δ (.tup [.ref s,y])/\H s=δ (.tup S)/\aV H (aD$ w.sets.map setT) .non S/\aV H (Cn w.goal) y []:=by obtain⟨_,W,x,rfl,a,_,_,l,b,e,⟨_,s,S,c,d,f⟩,_,_,g,Y,E,i,j⟩:=h;let k:Y=[]:=j;rw[k]at E;rw[E]at e;rw[e,c]at a;exact#[W,s,S,g,Z,a,d,f,i]
def pW:am ["statement","behind","way"] z3z (ae Af):=bP
def C0(F:xD K "place_of_set" Af f fd)(cU:{10} fU f0 z3z (iI 0) "used_ahead_of"):⇑11 f fd z3z ma:=by
 erw[F.ok pW λc0 A O s H vs Q E hr h=>?_]
 let(v,bv,p,t,x,T,C,g,Y,rfl,X,hp,hx,ok,hl,q):=h;erw[#[_,%[pW|_ce2h1cJms zJ _h0h1jfe2daoVdaBι0ygUbh2ah2btflda cU.e hr.m _a0ah1ba2b],?_]];let b0:=aL;let(r,ss,wv,rfl,b,B,hW):=hp;let h0:=X;cases X with
 |lf _ _ vs h1 h2=>
  let(rfl,hT):=h2;let(wa,sa,sx,y,rfl,i,D,j,hy):=IV hW;erw[ah λF1 d=>(jv b Z$ d _ _ ?_)];let sl:=zA j;rw[Rs]at sl;erw[ah λF1 d=>eI (λl I=>∃W:V,l=[↑p,↑r,δ W]/\aV I (lr$ lQ x t C) W []/\aa H I) (λE2 _ fm=>?_) λl I h=>?_]
  .erw[ms λG kT kF=>(jv h1 Z$ jv b Z #[g,12,.inl$ aJ.of B.at',Z,Xq _,12,?_])];rw[Co];by_cases a:x∈ss
   .rw[RG a];erw[kT _ #[1212,p,12,h1,λs1 H1 J k1=>#[i8,λu nu=>?_]]];let L:=k1.trans (je (o:=.tup [.ref s1]) nu);erw[(jv (L _ _ i) Z #[u,sa,1122,jc,L _ _ D,by show 1+ο sx<=_;omega,λc H2 hc z=>?_])];let R:=L.trans z;erw[(jv (R _ _ i) Z #[cg,λnw n=>fm _ _ #[.ref nw,Z,?_,R.trans$ je n]])];let tm:=aa.tm (R.trans$ je (o:=.tup [.ref c,y]) n);unfold lQ;rw[RB ((B.nm.mem x).mp a)];erw[jG jc$ jm Z (jG (aq hc n)$ jm Z ?_$ j.mono tm)$ jm (F' _) (hy.mono tm) jC];rwa[jG (aq (z _ _$ aq J nu) n)$ jm Z jT$ jm Z JT jC]
   .rw[RC a];erw[kF _$ fm _ _ #[12,?_,aa.refl _]];unfold lQ;rw[RD λw=>a ((B.nm.mem x).mpr w)];rwa[hW]
  .let(W,rfl,S,k):=h;erw[d _ _ ?_];erw[#[12,jv (k _ _ b) Z #[.ref p,g,.lf p (.st x t T) .nil,ss,C.M,Y,Z,h0.mono$ aa.tm k,B.same k,#[#[hx,ok],trivial],(by show 0 < 1;decide),(by show 0+1<=10000000;decide),λg' zs H3 n3 N3 z=>?_]]];erw[#[12,cg,λr' N=>q _ g' _ #[r',zs,W,Z,jc,N3.same$ je N,S.mono$ aa.tm$ z.trans$ je N] (k.free n3) ((k.trans z).trans$ je N)]]
abbrev Dv:cc:=bZ (bX 56) 1
abbrev DE:cc:=bZ (bX 56) 2
abbrev Dw:cc:=bZ (bX 56) 3
abbrev DI:cc:=bZ (bX 56) 4
abbrev Aa:cc:=bZ (bX 56) 0
def pL(m:Int)(p:ζ)(l:Lf)(q:Pc×xL Ct):Pc×xL Ct:=match l with
 | .gv t T=>(#[λx=>x∈T.vars,#[[],.give t]],q.2)
 | .st x t T=>(#[(Lf.st x t T).use q.1.M,lQ x t q.1],q.2)
 | .rd x t T=>(#[(Lf.rd x t T).use q.1.M,#[[],.go (m - (q.2.length:Int) - 1)]],q.2++[#[(Lf.rd x t T).use q.1.M,.st p,[q.1.w]]])
 | .wr t u T U=>(#[(Lf.wr t u T U).use q.1.M,#[[],.go (m - (q.2.length:Int) - 1)]],q.2++[#[(Lf.wr t u T U).use q.1.M,.st p,[q.1.w]]])
 | .cl x f a b=>(#[(Lf.cl x f a b).use q.1.M,#[[],.go (m - (q.2.length:Int) - 1)]],q.2++[#[(Lf.cl x f a b).use q.1.M,.st p,[q.1.w]]])
def pB(m:Int):Bd->Pc->xL Ct->Pc×xL Ct
 | .nil,c,f=>(c,f)
 | .lf p l r,c,f=>pL m p l (pB m r c f)
 | .ite p t T a b r,c,f=>
  let q:=pB m r c f
  let o:=pB m b q.1 q.2
  let s:=pB m a q.1 o.2
  (#[(Bd.ite p t T a b .nil).use q.1.M,#[[],.go$ m - (q.2.length:Int) - ((Bd.ite p t T a b .nil).cuts:Int)]],s.2++[#[(Bd.ite p t T a b .nil).use q.1.M,.ask t,[s.1.w,o.1.w]]])
 | .loop p t T a r,c,f=>
  let q:=pB m r c f
  let d:Pc:=#[(Bd.loop p t T a .nil).use q.1.M,#[[],.go$ m - (q.2.length:Int) - ((Bd.loop p t T a .nil).cuts:Int)]]
  let s:=pB m a d q.2
  (d,s.2++[#[(Bd.loop p t T a .nil).use q.1.M,.ask t,[s.1.w,q.1.w]]])
theorem KW(m:Int):∀(a b:Bd) (c:Pc) (f:xL Ct),pB m (a.app b) c f=pB m a (pB m b c f).1 (pB m b c f).2
 | .nil,_,_,_=>rfl
 | .lf p l r,b,c,f=>by show pL m p l (pB m (r.app b) c f)=pL m p l (pB m r _ _);rw[KW m r b c f]
 | .ite p t T x y r,b,c,f=>by let e:=KW m r b c f;show pB m (.ite p t T x y$ r.app b) c f=_;unfold pB;rw[e]
 | .loop p t T x r,b,c,f=>by let e:=KW m r b c f;show pB m (.loop p t T x$ r.app b) c f=_;unfold pB;rw[e]
theorem kI(m:Int):∀(b:Bd) (c:Pc) (F:xL Ct),(pB m b c F).2.length=ο F+b.cuts
 | .nil,_,_=>rfl
 | .lf p l r,c,F=>by
  let e:=kI m r c F;show(pL m p l$ pB m r c F).2.length=ο F+(l.cut+r.cuts);cases l with
  |rd x t T |wr t u T U |cl x f a d=>show((pB m r c F).2++[_]).length=ο F+(1+r.cuts);rw[Ru,e];show _+1=_;omega
  |st x t T |gv t T=>show(pB m r c F).2.length=ο F+(0+r.cuts);omega
 | .ite p t T x y r,c,F=>by let e:=kI m r c F;show((pB m x _ (pB m y _ _).2).2++[_]).length=_;rw[Ru,kI m x,kI m y,e];show _+1=ο F+(1+x.cuts+y.cuts+r.cuts);omega
 | .loop p t T x r,c,F=>by let e:=kI m r c F;show((pB m x _ _).2++[_]).length=_;rw[Ru,kI m x,e];show _+1=ο F+(1+x.cuts+r.cuts);omega
def Yy(x:ρ)(t:ζ)(p:Pc):(lQ x t p).sets.length<=ο p.w.sets+1:=by
 unfold lQ;split
 .rwa[Rv _]
 .rwa[Tb _]
theorem se(m:Int):∀(b:Bd) (a:Pc) (f:xL Ct),(pB m b a f).1.w.sets.length<=ο a.w.sets+b.size
 | .nil,_,_=>Rv _
 | .lf p l r,a,f=>by
  let e:=se m r a f;show(pL m p l$ pB m r a f).1.w.sets.length<=ο a.w.sets+(r.size+1);cases l with
  |st x t T=>have:=Yy x t (pB m r a f).1;show(lQ x t (pB m r a f).1).sets.length<=_;omega
  |_=>rwa[RE _]
 | .ite p t T x y r,a,f | .loop p t T x r,a,f=>RE _
theorem zc:∀b:Bd,b.cuts<=b.size
 | .nil=>Rv _
 | .lf _ l r=>by
  let:=zc r;let h:l.cut<=1:=by cases l<;>first |exact Rv _ |exact RE _
  show l.cut+r.cuts<=r.size+1;omega
 | .ite _ _ _ a b r=>by let:=zc a;let:=zc b;let:=zc r;show 1+a.cuts+b.cuts+r.cuts<=a.size+b.size+r.size+1;omega
 | .loop _ _ _ a r=>by let:=zc a;let:=zc r;show 1+a.cuts+r.cuts<=a.size+r.size+1;omega
structure CK(K:Ψ)(C:ζ):Prop where
 cl:ue K C
 nm:ba K C "many"
 nf:ba K C "found"
structure Cg(H:Hp)(C ia dx fa:ζ)(m:Int)(cts:xL Ct)(cs:xL V):Prop where
 ins:H ia=δ (.ins C dx [("many",.int m),("found",.ref fa)])
 fd:H fa=δ (.lst cs)
 tr:aV H (aD$ cts.map LM) .non cs
def Cg.same(h:Cg H C i d f m c a)(s:aa H b):Cg b C i d f m c a:=#[s _ _ h.ins,s _ _ h.fd,h.tr.mono$ aa.tm s]
def Cg.len(h:Cg H C i d f m c a):ο a=ο c:=by rw[zA h.tr,Rs]
def Cg.tm(h:Cg H C i d f m c g)(k:aI f H a):aj H a:=λb x e=>k b _ (jO e h.fd BT) e
structure By(H:Hp)(C ia dx fa:ζ)(m:Int)(cts:xL Ct)(cs:xL V)(pc:Pc)(bv:V)(g:ζ)(ys:xL ρ)(b:Bd):Prop where
 c:Cg H C ia dx fa m cts cs
 p:oZ H pc bv g ys
 ng:g≠fa
 ok:b.Ok ys
 sz:ο cts+ο pc.w.sets+b.size<=10000000
def wm(H:Hp)(C i d f:ζ)(m:Int)(y:xL ρ)(q:Pc×xL Ct)(Q:VK):Prop:=∀(v:V) (g:ζ) (c:xL V) (h:Hp),oZ h q.1 v g y->g≠f->Cg h C i d f m q.2 c->aI f H h->Q v h
inductive oR(C:ζ)(n:Nat)(l:xL V)(H:Hp)(Q:VK)(c:XK):Prop
 |mk(j h i a g:ζ)(m:Int)(d:xL Ct)(f o:xL V)(k:Pc)(e:V)(p:xL ρ)(b:Bd)(_:l=[.ref j,.ref a,e])(_:By H C j h i m d f k e g p b)(_:H a=δ (.tup o))(_:eP H b o)(_:b.dep < n)(_:wm H C j h i m p (pB m b k d) Q)
inductive ID(C:ζ)(n:Nat)(j:xL V)(H:Hp)(Q:VK)(a:XK):Prop
 |mk(h e f g:ζ)(m:Int)(b:xL Ct)(d:xL V)(i:Pc)(v c:V)(k:xL ρ)(s:Bd)(_:j=[.ref h,v,c])(_:By H C h e f m b d i c g k s)(_:lv H v s)(_:s.dep < n+1)(_:wm H C h e f m k (pB m s i b) Q)
def Bd.isCut:Bd->Bool
 | .lf _ l _=>l.isCut
 | .nil=>ν
 |_=>μ
inductive DU(C:ζ)(n:Nat)(j:xL V)(H:Hp)(Q:VK)(a:XK):Prop
 |mk(h e f g:ζ)(m:Int)(b:xL Ct)(d:xL V)(i:Pc)(v c:V)(k:xL ρ)(s:Bd)(_:j=[.ref h,v,c])(_:By H C h e f m b d i c g k s)(_:lv H v s)(_:s.dep < n+1)(_:s.isCut=μ)(_:wm H C h e f m k (pB m s i b) Q)
def iW(m:Int)(c:Pc)(p:Pc)(f:xL Ct):Bd->xL Wy×xL Ct
 | .ite _ _ _ a b _=>([(pB m a p (pB m b p f).2).1.w,(pB m b p f).1.w],(pB m a p (pB m b p f).2).2)
 | .loop _ _ _ a _=>([(pB m a c f).1.w,p.w],(pB m a c f).2)
 |_=>([p.w],f)
inductive IE(C:ζ)(n:Nat)(o:xL V)(H:Hp)(Q:VK)(a:XK):Prop
 |mk(i e f g h:ζ)(m:Int)(b:xL Ct)(d:xL V)(j k:Pc)(v c l:V)(p:xL ρ)(s:Bd)(_:o=[.ref i,v,l,c])(_:By H C i e f m b d j c g p s)(_:oZ H k l h p)(_:h≠f)(_:k.w.sets=[])(_:lv H v s)(_:s.dep < n+1)(_:∀(wv:V) (cs':xL V) (H':Hp),aV H' (aB ((iW m k j b s).1.map lr)) wv []->Cg H' C i e f m (iW m k j b s).2 cs'->aI f H H'->Q wv H')
def Zf(h:lv H v s)(g:s.isCut=μ)(m:Int)(c:Pc)(F:xL Ct):
  pB m s c F=(#[s.use c.M,#[[],.go$ m - (F.length:Int) - (s.cuts:Int)]],(iW m #[s.use c.M,#[[],.go$ m - (F.length:Int) - (s.cuts:Int)]] c F s).2++[#[s.use c.M,s.deed,(iW m #[s.use c.M,#[[],.go$ m - (F.length:Int) - (s.cuts:Int)]] c F s).1]]):=by
 cases h with
 |lf p l V d e=>
  cases l with
  |rd x t T |wr t u T U |cl x f a k=>rfl
  |st x t T |gv t T=>cases g
 |ite p t T a b q Q A B d i e j n o |loop p t T a q A d i e j=>rfl
def Bj(h:oZ H p v g y):∃(r:ζ) (W:V),v= .ref r/\H r=δ (.tup [.ref g,W])/\aV H (lr p.w) W []:=by let(r,s,W,e,a,c,b):=h;exact#[r,W,e,a,b]
def M4:am ["self","statement","place","behind","other"] z25z (ae DI):=bP
def Mz(F:aT K "ways_of" "Cutting.ways_of" DI f fd)(X:CK K C)(GB:⇑(4*n+31) fB f0 z14z (oR C n))(bB:aE K f0 z14z [])(hB:bo K C "place_of_body" fB):⇑(4*n+32) f fd z25z (IE C n):=by
 erw[F.ok M4 λc3 A o1 s H vs Q E hr h=>?_]
 let(i,D,R,g,g2,m,d,S,y,pl,v,bv,G,Y,st,rfl,I,h6,n0,h7,hs,hd,q):=h;erw[#[_,%[M4|_cmxh1ce4L0 X.cl hB GB hr.m bB .nil _ρah1a3bfldakGL0 X.cl hB GB hr.m bB .nil _ρah1a3bgpah4btcmxh1fldakGL0 X.cl hB GB hr.m bB .nil _ρah1a2bgpah3btfldah3b],?_]];let b0:=aL;let(br,bw,rfl,J,L):=Bj I.p;cases hs with
 |lf p l vs e M=>
  let f2:ig (bV$ ap (fb (db K) (bn 3)$ tC$ xb 1) aS) { nx:=λx H'=>Q V.non H',rt:=Q } [↑i,↑p,δ G,↑br,θ] H:=by erw[(jv J Z #[i8,λr N=>q (.ref r) S _ (jG jc$ jm Z (L.mono$ aa.tm$ je N) jC) (I.c.same$ je N) (aI.of_same$ je N)])]
  cases l with
  |rd x t T |st x t T |wr t u T U |cl x f q2 ts |gv t T=>let(rfl,_):=M;erw[(jv e Z #[212,a9 PH ?_])];erw[(jv e Z #[212,a9 PH ?_])];rwa[f2]
 |ite p t T a b qa qb as bs e h0 M h3 h4 h5=>erw[(jv e Z #[212,dB PH ?_])];let h8:max (max a.dep b.dep+1) 0 < n+1:=hd;let hz:ο d+ο y.w.sets+(a.size+b.size+0+1)<=10000000:=I.sz;let W:=I.ok;erw[ah λF1 f1=>#[12,i,D,12,I.c.ins,Z,jv e Z #[12,i,D,R,qb,g,m,d,S,bs,y,.ref br,Y,b,Z,#[I.c,I.p,I.ng,W.2.2.1,PL],h3,h5,PL,λv1 g1 j H1 p1 n1 O z=>f1 _ _ ?_]]];let B:=I.c.tm z;let lc:=kI m b y d;let cb:=zc b;erw[#[12,i,D,12,O.ins,Z,jv (B _ _ e) Z #[12,i,D,R,qa,g,m,_,j,as,y,.ref br,Y,a,Z,#[O,I.p.but z I.c.fd I.ng,I.ng,W.2.1,PL],B _ _ M,h4.mono B,PL,λv2 g2 c0 H2 p2 n2 c2 k2=>?_]]];let(r2,w2,rfl,h',a0):=Bj p2;let(r1,w1,rfl,k,o):=Bj (p1.but k2 O.fd n1);erw[#[r2,11122,aC.of h',Z,jv k Z #[cg,λr N=>q (.ref r) c0 _ (jG jc$ jm Z (a0.mono$ aa.tm$ je N)$ jm Z (o.mono$ aa.tm$ je N) jC) (c2.same$ je N) ((z.trans k2).trans$ aI.of_same$ je N)]]]
 |loop p t T a qa as e h0 M h3=>erw[(jv e Z #[212,a9 PH ?_])];erw[(jv e Z #[212,dB PH ?_])];let h8:max (a.dep+1) 0 < n+1:=hd;let hz:ο d+ο y.w.sets+(a.size+0+1)<=10000000:=I.sz;let W:=I.ok;erw[#[12,i,D,12,I.c.ins,Z,jv e Z #[12,i,D,R,qa,g2,m,d,S,as,pl,G,Y,a,Z,#[I.c,h6,n0,W.2.1,by rw[h7];show ο d+0+a.size<=_;omega],M,h3,PL,λv1 g1 j H1 p1 n1 O z=>?_]]];let(r1,w1,rfl,k,o):=Bj p1;let B:=I.c.tm z;erw[#[r1,11122,aC.of k,Z,jv (B _ _ J) Z #[cg,λr N=>q (.ref r) j _ (jG jc$ jm Z (o.mono$ aa.tm$ je N)$ jm Z ((L.mono B).mono$ aa.tm$ je N) jC) (O.same$ je N) (z.trans$ aI.of_same$ je N)]]]
def Ao:am ["self","statement","behind","n","names","place","ways"] z8z (ae Dw):=bP
def Mw(F:aT K "place_of_cut" "Cutting.place_of_cut" Dw f fd)(y:CK K C)(h7:n<=7)(GW:⇑(4*n+32) fW f0 z25z (IE C n))(bW:aE K f0 z25z [])(hW:bo K C "ways_of" fW)(cM:{2} fM f2 ["body"] iT "many_cuts")(cU:{31} fU f3 z3z (iI 7) "used_ahead_of")(cD:{1} fD f4 z4z lS "deed_of")(ml:mg "len"=θ)(m0:mg "tuple"=θ):⇑(4*n+33) f fd z8z (DU C n):=by
 erw[F.ok Ao λc0 A o1 s H vs Q E Y h=>?_]
 let(z,L,l,g,m,a,cs,j,v,bv,ys,st,rfl,I,B,hd,hc,q):=h;erw[#[_,%[Ao|_ce3oκoκM0jAεjπζaM0jb cM.e Y.m _ada1bbce4 cU.e Y.m _a1ah2bce5da4adadbadana3bbbce6L0 y.cl hW GW Y.m bW .nil _ρa1a5a2bczCRαβXM0jadaEςjYξa4ba cD.e Y.m _a1ba6bbfl5],?_]];let b0:=aL;let(br,ss,bw,rfl,h0,hN,h1):=id I.p;let hz:=I.sz;let lc:=I.c.len;erw[ah λF1 i=>#[12,z,C,L,112,I.c.ins,y.cl,y.nm,212,z,C,L,112,I.c.ins,y.cl,y.nf,Z,l,12,.inl$ aJ.of I.c.fd,112212,i8,λu nu=>?_]];let s1:aa H (af H u$ .tup [v]):=je nu;erw[#[u,st,12,jc,(B.mono$ aa.tm s1).bd,PL,λH1 k1=>#[1122,i _ _ ?_]]];let S:=s1.trans k1;rw[lc];erw[ah λF1 i=>#[12,jv (S _ _ h0) Z #[v,g,st,ss,j.M,ys,Z,B.mono$ aa.tm S,hN.same S,I.ok,PL,PL,λG zs H2 n2 N2 k2=>i _ _ ?_]]];let s3:=S.trans k2;let N:G≠l:=λe=>by rw[e,S _ _ I.c.fd]at n2;cases n2
 erw[ah λF1 i=>#[12,gU,λe ne=>#[12,cg,λU O=>#[cg,λx nx=>#[cg,λr nr=>i _ _ ?_]]]]];let s4:aa H2 (af (af (af (af H2 e$ .tup []) U$ .tup [.str "go",.int$ m - (a.length:Int) - (st.cuts:Int)]) x$ .tup [.ref e,.ref U]) r$ .tup [.ref G,.ref x]):=(((je ne).trans$ je O).trans$ je nx).trans (je nr);let P4:oZ (af (af (af (af H2 e$ .tup []) U$ .tup [.str "go",.int$ m - (a.length:Int) - (st.cuts:Int)]) x$ .tup [.ref e,.ref U]) r$ .tup [.ref G,.ref x]) #[st.use j.M,#[[],.go$ m - (a.length:Int) - (st.cuts:Int)]] (.ref r) G ys:=
  #[r,zs,.ref x,Z,jc,N2.same s4,jG (aq jc nr)$ jm Z (jG (aq (aq (aq jc O) nx) nr) jC)$ jm Z (jG (aq (aq jc nx) nr)$ jm Z jT$ jm Z jX jC) jC]
 generalize af (af (af (af H2 e$ .tup []) U$ .tup [.str "go",.int$ m - (a.length:Int) - (st.cuts:Int)]) x$ .tup [.ref e,.ref U]) r (.tup [.ref G,.ref x])=H4 at s4 P4;let R:=s3.trans s4;let c5:=I.c.same R;erw[ah λF1 i=>#[12,z,L,12,c5.ins,2121212,z,L,l,g,G,m,a,cs,j,_,v,.ref br,.ref r,ys,st,Z,#[c5,I.p.same R,I.ng,I.ok,I.sz],P4,N,Z,B.mono$ aa.tm R,hd,λwv D H6 w6 c6 k6=>i _ _ ?_]];let t0:=c5.tm k6;let p6:=P4.but k6 c5.fd N;let z6:H6 G=δ (.lst$ zs.map vr):=k6 _ _ N (s4 _ _ N2.at');let ez:=N2.nm.canon;let l6:=c6.len;let lw:(iW m #[st.use j.M,#[[],.go$ m - (a.length:Int) - (st.cuts:Int)]] j a st).2.length+1=ο a+st.cuts:=by let:=kI m st j a;rw[Zf B hc m j a,Ru]at this;rwa[this]
 let cl:=zc st;erw[ah λF1 i=>#[12,z,C,L,112,c6.ins,y.cl,y.nf,Z,.inl #[21,aJ.of c6.fd],12,G,12,.inl #[aJ.of z6,λnt n0=>?_]]];let s7:aa H6 (af H6 nt$ .tup$ zs.map vr):=je n0;erw[#[12,v,st,Z,((B.mono$ aa.tm R).mono t0).mono$ aa.tm s7,λd H8 d8 k8=>#[12,ie,λW J=>?_]]];let X:=(s7.trans k8).trans (je (o:=.tup [.ref nt,d,wv]) J);let t:=c6.same X;erw[#[l,D,122,t.fd,PL,i _ _ ?_]];let T9:aV (af H8 W$ .tup [.ref nt,d,wv]) (LM #[st.use j.M,st.deed,(iW m #[st.use j.M,#[[],.go$ m - (a.length:Int) - (st.cuts:Int)]] j a st).1]) (.ref W) []:=by erw[jG jc$ jm Z (jG (aq (k8 _ _ jc) J) ?_)$ jm (LS _) (d8.mono$ aa.tm$ je J)$ jm Z (w6.mono$ aa.tm X) jC];rw[<- ez];rwa[Yx zs]
 let p9:=p6.same X;generalize af H8 W (.tup [.ref nt,d,wv])=H9 at X t T9 p9;let k:aI l H9 (af H9 l$ .lst$ D++[.ref W]):=λb o nb e=>by rw[ji nb];rwa[e]
 let T:=t.tm k;let n1:z≠l:=λe=>by let:=t.ins;rw[e,t.fd]at this;cases this
 erw[#[12,q (.ref r) G (D++[.ref W]) _ ?_ N ?_ (λb o nb e=>k b o nb (X _ _$ k6 b o nb$ R _ _ e))]]
 .rw[Zf B hc m j a];rwa[p9.but k t.fd N]
 .rw[Zf B hc m j a];erw[#[k _ _ n1 t.ins,jc,?_]];rw[RU];rwa[Kz (jm Z (T9.mono T) jC)$ t.tr.mono T]
inductive BI(C u j s a:ζ)(m:Int)(c:xL Ct)(x:Pc)(f:V)(z:xL ρ)(b:Bd)(y:xL V)(H:Hp)(i:Nat)(A:_L.St)(e:Hp):Prop
 |mk(d t:Bd)(v:V)(g:ζ)(h:xL V)(w:ym V)(k:A=[↑u,↑a,δ f,δ v,w])(l:b=d.app t)(n:eP H d (y.take (ο y - i)))(o:oZ e (pB m t x c).1 v g z)(p:g≠s)(q:Cg e C u j s m (pB m t x c).2 h)(r:aI s H e)
theorem KA(m:Int):∀(b:Bd) (c:Pc) (F:xL Ct),(pB m b c F).2.length+(pB m b c F).1.w.sets.length<=ο F+ο c.w.sets+b.size
 | .nil,_,_=>Rv _
 | .lf p l r,c,F=>by
  let e:=KA m r c F;show(pL m p l$ pB m r c F).2.length+(pL m p l$ pB m r c F).1.w.sets.length<=ο F+ο c.w.sets+(r.size+1);cases l with
  |st x t T=>have:=Yy x t (pB m r c F).1;show(pB m r c F).2.length+(lQ x t (pB m r c F).1).sets.length<=_;omega
  |gv t T=>show(pB m r c F).2.length+0<=_;omega
  |rd x t T |wr t u T U |cl x f a d=>show((pB m r c F).2++[_]).length+0<=_;rw[Ru];show _+1+0<=_;omega
 | .ite p t T x y r,c,F=>by let e:=KA m r c F;let h:=zc x;let H:=zc y;show((pB m x _ (pB m y _ _).2).2++[_]).length+0<=ο F+ο c.w.sets+(x.size+y.size+r.size+1);rw[Ru,kI m x,kI m y];show _+1+0<=_;omega
 | .loop p t T x r,c,F=>by let e:=KA m r c F;let h:=zc x;show((pB m x _ _).2++[_]).length+0<=ο F+ο c.w.sets+(x.size+r.size+1);rw[Ru,kI m x];show _+1+0<=_;omega
def Oq:am z8z z8z (ae DE):=bP
def My(F:aT K "place_of" "Cutting.place_of" DE f fd)(ck:CK K C)(GC:⇑(4*n+33) fC D z8z (DU C n))(bC:aE K D z8z [])(hC:bo K C "place_of_cut" fC)(cG:{8} fG f0 z2z iH "place_of_give")(cS:{11} fS f1 z3z ma "place_of_set"):⇑(4*n+34) f fd z8z (ID C n):=by
 erw[F.ok Oq λc0 A O s H vs Q E G h=>?_]
 let(r,J,fa,g,m,j,z,L,v,B,y,st,rfl,I,M,hd,q):=h;erw[#[_,%[Z|_cmxh1fl cG.e G.m _ah1btcmxh1fl cS.e G.m _a1a2btflL0 ck.cl hC GC G.m bC .nil _ρa1a2b],?_]];let hz:=I.sz;let R:=M;let i:st.isCut=μ->ig (AW C "place_of_cut" (DU C n) [] E0 (bn 0)$ ap (bn 1)$ ap (bn 2) aS) { nx:=λx k=>Q V.non k,rt:=Q } [↑r,δ v,δ B] H:=λhc=>
  #[12,r,J,12,I.c.ins,21212,r,J,fa,g,m,j,z,L,v,B,y,st,Z,I,M,hd,hc,q]
 cases M with
 |lf p l vs d o=>
  cases l with
  |rd x t T |wr t u T U |cl x f q2 ts=>let(rfl,_):=o;erw[(jv d Z #[212,a9 PH ?_])];erw[(jv d Z #[212,a9 PH ?_])];rwa[i Z]
  |gv t T=>
   let(rfl,hT):=o;erw[(jv d Z #[212,dB PH ?_])];let Y:ο y<=21:=by let(_,_,_,_,_,hN,_):=I.p;rwa[hN.y20]
   exact(jv d Z #[t,T,y,Z,hT,I.ok.1,Y,λW X k p' N S=>q W X z k p' (λe=>by rw[e,I.c.fd]at N;cases N) (I.c.same S) (aI.of_same S)])
  |st x t T=>let(rfl,hT):=o;erw[(jv d Z #[212,a9 PH ?_])];erw[(jv d Z #[212,dB PH ?_])];exact#[1212,.ref p,B,p,t,x,T,L,g,y,Z,R,I.p,I.ok.1.1,I.ok.1.2,PL,λW X k p' N S=>q W X z k p' (λe=>by rw[e,I.c.fd]at N;cases N) (I.c.same S) (aI.of_same S)]
 |ite p t T a b qa qb as bs d h0 o h3 h4 h5 |loop p t T a qa as d h0 o h3=>erw[(jv d Z #[212,a9 PH ?_])];erw[(jv d Z #[212,a9 PH ?_])];rwa[i Z]
def DL:am ["self","body","behind","place","statement"] z14z (ae Dv):=bP
def Mv(F:aT K "place_of_body" "Cutting.place_of_body" Dv f fd)(ck:CK K C)(GO:⇑(4*n+34) fO T z8z (ID C n))(bO:aE K T z8z [])(hO:bo K C "place_of" fO)(R:mg "reversed"=θ):⇑(4*n+35) f fd z14z (oR C$ n+1):=by
 erw[F.ok DL λc1 A U s H vs Q E hr h=>?_]
 let(r,J,V,a,g,m,d,cs,xs,l,L,Y,b,rfl,I,ha,hb,hd,q):=h;erw[#[_,%[DL|_ce32cHTj (@yL _ _ _ _ _ _ _ Z R boot_reversed (pv 1) PM PM Pz Pz) _i4fe3L0 ck.cl hO GO hr.m bO .nil _ρa4a3bfl3],?_]];let b0:=aL;let hz:=I.sz;let xl:=hb.len;erw[ah λF1 u=>#[12,u _ _ ?_]];erw[ah λF1 u=>?_];erw[eG λF kF=>#[12,a,xs,Z,aC.of ha,kF _ _ ?_]];erw[Ys (K:=K) (xs:=xs) (BI C r J V a m d l L Y b xs H) #[b,.nil,L,g,cs,12,(app_nil b).symm,by rw[UZ,Su];rwa[hb],I.p,I.ng,I.c,aI.refl] (λi σ H' hi h=>?_) ?_ (λσ H' h=>u _ _ ?_)]
 .let(_,_,_,_,_,_,_,_,_,_,_,_,k):=h;rwa[aC.of$ I.c.tm k _ _ ha]
 .intro E _ i x σ H2 M fE Gq t h;let(pre,h9,v,W,o,o4,rfl,j,y,X,h4,N,O):=h;let hi:i < ο xs:=by
   rcases Vr i xs.length with z |z
   .rwa[z]
   .rw[Sw (z:)]at M;cases M
  rw[UJ hi]at M;let et:xs.take (ο xs - i)=xs.take (ο xs - (i+1))++[x]:=by
   let D:ο xs - i=(ο xs - 1 - i)+1:=PL
   let e2:ο xs - (i+1)=ο xs - 1 - i:=PL
   rw[D,e2,SX,M];rfl
  rw[et]at y;rcases y.last with ⟨e,_⟩ | ⟨ws,v',B,S,D,e2,h6,h7⟩
  .rwa[absurd e PJ]
  let(ew,ev):=List.append_inj' D Z;cases ev;subst e2;let h0:=zZ (j▸I.ok);let G:=zZ h0.1;let a1:b.dep=max (B.app S).dep h9.dep:=by rw[j,zG]
  let a2:(B.app S).dep=max B.dep S.dep:=zG ..;let h8:S.dep<=b.dep:=by rw[a1,a2];rwa[RM (UN ..)$ UV ..]
  let h':b.size=B.size+S.size+h9.size:=by rw[j,j9,j9]
  let hl:=kI m h9 l d;let a0:=zc h9;let a3:=se m h9 l d;let a4:(pB m h9 l d).1.w.sets.length+(pB m h9 l d).2.length+S.size<=10000000:=by let:=KA m h9 l d;omega
  erw[t ?_];let tm:=I.c.tm O;show dI _ _ E [↑r,↑a,δ L,δ v,δ x] H2;erw[#[12,r,J,12,N.ins,21212,r,J,V,W,m,_,o,_,x,v,Y,S,Z,#[N,X,h4,G.2,PL],h7.mono tm,PL,λv3 g3 c0 H3 p3 n3 c3 k3=>fE _ _ #[B,S.app h9,v3,g3,c0,12,by rw[j,app_assoc],?_,by rw[KW];rwa[p3],n3,by rw[KW];rwa[c3],O.trans k3]]];rw[ew];rwa[h6]
 .let(pre,h9,v,W,o,o4,rfl,j,y,X,h4,N,O):=h;rw[Vq]at y;let ep:pre= .nil:=by
   rcases y.last with ⟨_,e⟩ | ⟨ws,v,B,S,D,_⟩
   .rwa[e]
   .rwa[absurd D PJ]
  rw[ep]at j;erw[#[12,q v W o H' ?_ h4 ?_ O]]
  .rw[j];rwa[X]
  .rw[j];rwa[N]
def Ms:⇑k f i z14z (oR C 0):=by
 let n:∀v H Q E,¬oR C 0 v H Q E:=λv H Q E h=>by let(I,D,F,a,g,m,d,j,x,p,B,y,b,_,_,_,_,e,_):=h;rwa[absurd e$ UU _]
 exact#[λv H Q E h=>absurd h (n v H Q E),λA o s H c u v Q E _ _ _ _ h=>absurd h (n v H Q E)]
theorem O5(c:CK K C)(FB:aT K "place_of_body" "Cutting.place_of_body" Dv g f)(F:aT K "place_of" "Cutting.place_of" DE A a)(i:aT K "place_of_cut" "Cutting.place_of_cut" Dw D b)(j:aT K "ways_of" "Cutting.ways_of" DI E d)
  (B:aE K f z14z []) (H:bo K C "place_of_body" g) (k:aE K a z8z []) (l:bo K C "place_of" A) (o:aE K b z8z []) (p:bo K C "place_of_cut" D) (q:aE K d z25z []) (r:bo K C "ways_of" E)
  (s:{2} T G ["body"] iT "many_cuts") (t:{31} U I z3z (iI 7) "used_ahead_of") (u:{1} Y J z4z lS "deed_of") (v:{8} fG L z2z iH "place_of_give") (x:{11} fS N z3z ma "place_of_set") (y:mg "len"=θ) (m:mg "tuple"=θ) (M:mg "reversed"=θ):
  ∀n:Nat,n<=8->⇑(4*n+31) g f z14z (oR C n)
 |0,_=>Ms
 |n+1,h=>by
  let O:=O5 c FB F i j B H k l o p q r s t u v x y m M n PL;let Q:=Mz j c O B H;let R:=Mw i c PL Q q r s t u y m;let S:=My F c R o p v x;let z:=Mv FB c S k l M;let e:4*n+35=4*(n+1)+31:=PL
  rw[e]at z;rwa[z]
def sj{X:Cx}{K:Ψ}{n:Nat}(a:X.K=K)(b:X.calm=μ)(h:J' X e t)
  (c:(assignEach e X.env).length=n) (H:(assignEach e X.env).findIdx? (·.1)=θ):PG X (.Tuple e k p) (uI K n t):=by
 subst a;rwa[zk b h c H]
abbrev g3(K:Ψ)(i j k:Nat):TG:=uI K 3 (dj (bf i)$ dj (bf j)$ dj (bf k) uH)
def Oi{t:_L.St}(h:ο t=3):∃a b c,t=[a,b,c]:=by
 cases t with
 |nil=>cases h
 |cons a r=>
  cases r with
  |nil=>cases h
  |cons b R=>
   cases R with
   |nil=>cases h
   |cons c d=>
    cases d with
    |nil=>exact#[a,b,c,Z]
    |cons _ _=>cases h
abbrev Ae:cc:=bX 57
abbrev sO:cc:=bX 58
structure Df where
 f:ρ
 p:ζ
 pa:ζ
 pb:ζ
 b:Bd
def Ec(H:Hp)(d:Df)(v:V):Prop:=∃B,v= .ref d.p/\H d.p=δ (.tup [.str d.f,.ref d.pa,.ref d.pb])/\H d.pb=δ (.tup B)/\eP H d.b B
inductive dic(W:V->Prop)(R:xL V->Prop)(a:xL V):Prop|mk(v r:_)(_:a=v::r)(_:W v)(_:R r)
def di(H:Hp):xL Df->xL V->Prop
 | [],a=>a=[]
 |d::D,a=>dic (Ec H d) (di H D) a
def Ec.mono(k:aj H a)(h:Ec H d v):Ec a d v:=by let(b,e,c,f,g):=h;exact#[b,e,k _ _ c,k _ _ f,g.mono k]
def di.mono(k:aj H b):∀{a:xL V},di H D a->di b D a:=by
 induction D with
 |nil=>exactλh=>h
 |cons d D i=>rintro a ⟨v,r,e,c,f⟩;exact#[v,r,e,c.mono k,i f]
theorem di.snoc{d:Df}(a:Ec H d v):∀{D:xL Df} {b:xL V},di H D b->di H (D++[d]) (b++[v])
 | [],_,h=>by let e:_=[]:=h;rw[e];exact#[v,[],Z,a,Z]
 |_::_,_,z=>by let(u,r,e,c,f):=z;rwa[#[u,r++[v],by rw[e];rfl,c,di.snoc a f]]
theorem di.len:∀{d:xL Df} {v:xL V},di H d v->ο v=ο d
 | [],_,h=>by let e:_=[]:=h;rw[e];rfl
 |_::_,_,z=>by let(u,r,e,b,a):=z;rw[e,Sa,Sa,di.len a]
theorem di.at:∀{D:xL Df} {b:xL V},di H D b->∀(i:Nat) (v:V),b[i]?=δ v->∃d,D[i]?=δ d/\Ec H d v
 | [],_,h,i,v,a=>by let e:_=[]:=h;rw[e]at a;simp at a
 |d::_,_,q,0,v,a=>by let(u,r,e,c,f):=q;rw[e]at a;cases a;exact#[d,Z,c]
 |_::D,_,q,i+1,v,a=>by let(u,r,e,c,f):=q;rw[e]at a;simpa using di.at f i v (a:)
def n8(d:Df):Prop:=(∃y:xL ρ,y.length<=20/\d.b.Ok y)/\d.b.dep < 8/\d.b.size<=3000
def Ol(n:ζ):Pc:=#[λx=>x∈(Tm.num 0).vars,#[[],.give n]]
def i5(n:ζ)(d:Df):Pc×xL Ct:=pB (d.b.cuts:Int) d.b (Ol n) []
def gO(n:ζ)(d:Df):Tr:=aB [aM d.f,vF d.pa,lr (i5 n d).1.w,aB ((i5 n d).2.reverse.map LM)]
def px(K:Ψ)(n:ζ):Prop:=∀H:Hp,aC K H n [.str "num",.int 0]
inductive tF(C:ζ)(f:xL V)(H:Hp)(Q:VK)(c:XK):Prop
 |mk(e d a:ζ)(b:Bd)(g:xL V)(_:f=[.ref e,.ref a])(_:H e=δ (.ins C d []))(_:H a=δ (.tup g))(_:eP H b g)(_:b.size<=10000000)(_:∀(fa:ζ) (H':Hp),H fa=θ->Cg H' C e d fa (b.cuts:Int) [] []->aI e H H'->Q .non H')
inductive nU(K:Ψ)(c:ζ)(e:xL V)(H:Hp)(Q:VK)(a:XK):Prop
 |mk(d:Df)(b:xL V)(_:e=[.str d.f,.ref d.pa,.ref d.pb])(_:H d.pb=δ (.tup b))(_:eP H d.b b)(_:n8 d)(_:∀(v:V) (H':Hp),aV H' (gO c d) v []->aa H H'->Q v H')
inductive nR(K:Ψ)(e:ζ)(f:xL V)(H:Hp)(Q:VK)(b:XK):Prop
 |mk(a:ζ)(c:xL Df)(g:xL V)(_:f=[.ref a])(_:H a=δ (.tup g))(_:di H c g)(_:ο c<=1000)(_:∀d∈c,n8 d)(_:∀(v:V) (H':Hp),aV H' (aB (c.map (gO e))) v []->aa H H'->Q v H')
def ur{K:Ψ}{t:TE}{Q:xL V->Hp->Prop}{H:Hp}(x:H a=δ (.tup g))(u:di H D g)(R:ο D<=1000)
  (Pv:Nat->xL V->Hp->Prop) (z:Pv 0 [] H) (A:∀i Y h,Pv i Y h->aa H h/\ο Y<=i)
  (C:∀i d B Y h,D[i]?=δ d->h d.pb=δ (.tup B)->eP h d.b B->Pv i Y h->t (δ (.str d.f)::δ (.ref d.pa)::δ (.ref d.pb)::l) h λy j=>Pv (i+1) (Y++[y]) j)
  (E:∀Y h,Pv D.length Y h->Q Y h):fi (Bz K a) 3 l (g3 K 0 1 2) mw t Q H:=by
 let F:=aL;let S:=u.len;erw[#[λi m Y h=>m=ο D - i/\i<=ο D/\Pv i Y h,#[D.length,PJ,RE _,z],?_]];intro i m Y h c;let(rfl,T,p):=c;let(s,U):=A i Y h p;let c:aC K h a g:=aC.of (s _ _ x);by_cases n:i < ο D
 .let I:i < ο g:=by omega
  erw[.inr #[#[g,g[i],c,Rq I],PL,Pv$ i+1,λJ j L=>#[ο D - (i+1),PL,Z,n,L],λv j W o y=>?_]];let(e,y):=y;subst e;let q:=y g c;let(d,r,B,rfl,M,N,O):=(u.mono$ aa.tm s).at i v q;let(X,t2,t3,rfl):=Oi o;erw[#[d.p,12,aC.of M,21121121122,#[[δ _,δ _,δ _],22],?_]];rwa[C i d B Y j r N O p]
 .let e:i=ο D:=by omega
  subst e;rwa[.inl #[#[g,c,PL],E Y h p]]
def MZ:am ["self","body"] ["self","body"] (ae Aa):=bP
def G7(F:aT K "__init__" "Cutting.__init__" Aa f t)(d:CK K C)(u:{2} M v ["body"] iT "many_cuts"):⇑3 f t ["self","body"] (tF C):=by
 erw[F.ok MZ λy A O s H V Q E B h=>?_]
 let(i,D,a,b,x,rfl,G,I,J,L,q):=h;erw[#[_,%[Z|_c (@qD _ _ _ _ _ _ _ _ (pv 0) (u.e B.m %[Z|_a1b]) Z) _f (@qD _ _ _ _ _ _ _ _ (pv 0) (jI jb) Z)],?_]];erw[ah λS l=>#[12,a,b,x,Z,I,J,L,λT k=>#[12,i,C,D,12,k _ _ G,d.cl,d.nm,PM,l _ _ ?_]]];erw[#[gU,λg n=>#[12,i,C,D,12,aq jc n,d.cl,d.nf,(by show 1 < 1000;decide),?_]]];let N:g≠i:=λe=>by rw[e,jc]at n;cases n
 let p:H g=θ:=by
  cases e:H g with
  |none=>rfl
  |some o=>rw[ji N,k _ _ e]at n;cases n
 erw[q g _ p #[jc,by rw[ji N,jc],Z] λc o r e=>?_];rw[ji r,ji (λz=>by rw[z,p]at e;cases e),ji r];rwa[k _ _ e]
def pU:am ["name","params","body","cutting","first"] z21z (ae Ae):=bP
def CZ(F:xD K "part_made" Ae f fd)(t:CK K C)(mk:Mk K C fI)(GI:⇑3 fI u ["self","body"] (tF C))(bI:aE K u ["self","body"] [])(mC:mg "Cutting"=↑C)(M:mg "NOUGHT"=↑n)(no:px K n)(GB:⇑63 fB x z14z (oR C 8))(bB:aE K x z14z [])(hB:bo K C "place_of_body" fB)(cG:{8} fG f0 z2z (tL K) "place_of_give")(y:mg "tuple"=θ)(z:mg "reversed"=θ):⇑64 f fd z21z (nU K n):=by
 erw[F.ok pU λc0 A O s H vs Q E B h=>?_]
 let(d,G,rfl,hb,a,I,q):=h;erw[#[_,%[pU|_ce3 (XN mk GI B.m Z mC bI .nil b6 %[pU|_a2b]) _ce4L3 t.cl hB GB B.m bB .nil _ρa2a cG.e B.m _aω (v:=.ref n) _j M _jbbflda0a1ah4a (@vA _ _ _ _ _ _ _ _ _ Z Z y Tu Z z boot_reversed %[pU|_M3j] PM PM PM PM Pz Pz Pz Pz) _b],?_]];let b0:=aL;obtain⟨⟨ys,y0,ok⟩,J,hz⟩:=I;erw[ah λF1 j=>#[12,λi D N L n0=>?_]];let S:aa H (af (af H D$ .own i) i$ .ins C D []):=λc o e=>by rw[ji$ jk e N,ji$ jk e L];rwa[e]
 erw[#[i,D,d.pb,d.b,G,Z,jc,S _ _ hb,a.mono$ aa.tm S,PL,λp H1 nf R k1=>#[Z,j _ _ ?_]]];let s1:aa H H1:=λc o e=>k1 c o (jk e N) (S _ _ e);let T:H p=θ:=S.free nf;erw[ah λF1 j=>#[12,i,D,12,R.ins,212,n,ys,Z,no _,PL,λv g H2 p2 n2 k2=>?_]];let ng:g≠p:=λe=>by rw[e,R.fd]at n2;cases n2
 let U:=s1.trans k2;erw[#[i,D,p,d.pb,g,_,[],[],G,Ol n,v,ys,d.b,Z,#[R.same k2,p2,ng,ok,by show 0+0+d.b.size<=_;omega],U _ _ hb,a.mono$ aa.tm U,J,λv3 g3 k V p3 n3 W k3=>j _ _ ?_]];let(r3,w3,rfl,X,Y):=Bj p3;let s3:aa H V:=λc o e=>k3 c o (jk e T) (U _ _ e);erw[#[1212,jv X Z #[12,i,C,D,112,W.ins,t.cl,t.nf,Z,p,k,Z,aJ.of W.fd,λl nl=>#[tP,λr nr=>?_]]]];let s5:aa V (af (af V l$ .tup k.reverse) r$ .tup [.str d.f,.ref d.pa,w3,.ref l]):=(je nl).trans (je nr);erw[q (.ref r) _ ?_$ s3.trans s5];erw[jG jc$ jm Z jT$ jm Z JT$ jm Z (Y.mono$ aa.tm s5)$ jm Z (jG (aq jc nr) ?_) jC];let e:=tU (W.tr.mono$ aa.tm s5);rw[<- List.map_reverse]at e;rwa[e]
def Iv:am ["program"] ["program"] (ae sO):=bP
noncomputable def AB:ge:=#[.function,[(".0",.local),("name",.local),("params",.local),("body",.local),("part_made",.globalImplicit)],ν,ν,[]]
def yd:(z21z:xL ρ).Nodup:=PH
def LK:bh ["program"] (ae sO) AB z21z 3 []:=oi
def CV(F:xD K "made" sO f p)(C:{64} U t z21z (nU K N) "part_made")(M:mg "tuple"=θ):⇑65 f p ["program"] (nR K N):=by
 erw[F.ok Iv λu A o s H V Q E x h=>?_]
 let(a,D,X,rfl,g,y,B,O,q):=h;erw[#[_,%[Z|_flEςj M _ξa (@za _ _ _ _ _ _ _ z21z 3 [] _ _ _ _ Z (qk$ pv 0) LK (λ_ _ _ _ _=>sj (K:=K) (n:=3) Z Z %[Z|_qI (i:=0) yd _j (ψ Z) _qI (i:=1) yd _j (ψ Z) _qI (i:=2) yd _j (ψ Z) _γ] Z Z) (λ_ _ _ _ _=>@zw _) (λ_ _ _ _ _=>C.e x.m %[Z|_a0a1a2b]) Cv) _b],?_]];erw[#[12,a,Z,#[_,aC.of g],?_]];erw[ur g y B (λi V b=>aV b (aD ((D.take i).map$ gO N)) .non V/\aa H b/\i<=ο D) #[Z,aa.refl _,RE _] (λi V b h=>#[h.2.1,?_]) (λi d G V b c I J h=>?_) (λV b h l L=>?_)]
 .rw[zA h.1,Rs,R0];rwa[Vv ..]
 .let R:i < ο D:=by
   rcases Vr i D.length with z |z
   .rwa[z]
   .rw[Sw z]at c;cases c
  erw[#[121212,d,G,Z,I,J,O d$ RL c,λv Y T j=>#[?_,h.2.1.trans j,R]]];rw[SX,c,RU];rwa[Kz (jm Z T jC)$ h.1.mono$ aa.tm j]
 .erw[#[l,V,Z,.inl #[aJ.of jc,λr S=>?_]]];let s:aa b (af (af b l$ .lst V) r$ .tup V):=(je L).trans (je S);erw[q (.ref r) _ (jG jc ?_)$ h.2.1.trans s];let e:=h.1;rw[Su]at e;rwa[e.mono$ aa.tm s]
abbrev Ag:cc:=bX 65
abbrev Ah:cc:=bX 66
abbrev sM:cc:=bX 67
def bg(p q:ζ)(H h:Hp):Prop:=∀b o,b≠p->b≠q->H b=δ o->h b=δ o
def bg.refl:bg p q H H:=λ_ _ _ _ h=>h
def bg.trans(a:bg p q H d)(b:bg p q d e):bg p q H e:=λc o n m h=>b c o n m (a c o n m h)
def aI.two(a:aI p H b):bg p q H b:=λc o n _ h=>a c o n h
def bg.of_same(a:aa H b):bg p q H b:=λc o _ _ h=>a c o h
def bg.at:bg p q H (af H q o):=λb u _ m e=>by rw[ji m];rwa[e]
def eN(H:Hp)(q:ζ):Prop:=∃k:Int,H q=δ (.lst [.int k])
def eN.new{o:HO}(h:eN H q)(n:H r=θ):eN (af H r o) q:=by let(k,e):=h;rwa[#[k,aq e n]]
def eN.ne(h:eN H q)(B:ax H p):q≠p:=by let(k,e):=h;let(a,b,_,_,_,d):=B.ob;rwa[jO e d BT]
def eN.but(h:eN H q)(B:ax H p)(k:aI p H a):eN a q:=by let n:=h.ne B;let(z,e):=h;exact#[z,k _ _ n e]
def bg.tm(k:bg p q H h)(B:ax H p)(s:eN H q):aj H h:=λb x e=>by let(a,c,_,_,_,f):=B.ob;let(z,g):=s;rwa[k b _ (jO e f (by intro w;cases w)) (jO e g (by intro w;cases w)) e]
noncomputable def iO(H:Hp)(q:ζ):Int:=match H q with
 |some (.lst [.int k])=>k
 |_=>0
def JU{H:Hp}(e:H q=δ (.lst [.int k])):iO H q=k:=by unfold iO;rw[e]
def Zg{h:Hp}(s:eN H q)(k:∀o,H q=δ o->h q=δ o):iO h q=iO H q:=by let(z,e):=s;rw[JU e,JU$ k _ e]
def kQ(B:ax H p)(s:eN H q)(k:aI p H h):iO h q=iO H q:=Zg s λo e=>k _ _ (s.ne B) e
def kL(s:eN H q)(k:aa H h):iO h q=iO H q:=Zg s λo e=>k _ _ e
def Nx(H:Hp)(c:ρ×xL ρ)(v:V):Prop:=∃p t,v= .ref p/\H p=δ (.tup [.str c.1,.ref t])/\H t=δ (.tup$ c.2.map vr)
def fc(H:Hp):xL (ρ×xL ρ)->xL V->Prop
 | [],a=>a=[]
 |c::C,a=>dic (Nx H c) (fc H C) a
theorem fc.mono(k:aj H b):∀{c:xL (ρ×xL ρ)} {a:xL V},fc H c a->fc b c a
 | [],_,h=>h
 |_::_,_,z=>by obtain⟨v,r,e,⟨p,t,E,d,f⟩,g⟩:=z;rwa[#[v,r,e,#[p,t,E,k _ _ d,k _ _ f],fc.mono k g]]
theorem fc.snoc(a:Nx H c v):∀{C:xL (ρ×xL ρ)} {b:xL V},fc H C b->fc H (C++[c]) (b++[v])
 | [],_,h=>by let e:_=[]:=h;rw[e];exact#[v,[],Z,a,Z]
 |_::_,_,z=>by let(u,r,e,d,f):=z;rwa[#[u,r++[v],by rw[e];rfl,d,fc.snoc a f]]
theorem fc.len:∀{c:xL (ρ×xL ρ)} {v:xL V},fc H c v->ο v=ο c
 | [],_,h=>by let e:_=[]:=h;rw[e];rfl
 |_::_,_,z=>by let(u,r,e,b,a):=z;rw[e,Sa,Sa,fc.len a]
theorem fc.at:∀{C:xL (ρ×xL ρ)} {b:xL V},fc H C b->∀(i:Nat) (v:V),b[i]?=δ v->∃c,C[i]?=δ c/\Nx H c v
 | [],_,h,i,v,a=>by let e:_=[]:=h;rw[e]at a;simp at a
 |c::_,_,q,0,v,a=>by let(u,r,e,d,f):=q;rw[e]at a;cases a;exact#[c,Z,d]
 |_::C,_,q,i+1,v,a=>by let(u,r,e,d,f):=q;rw[e]at a;simpa using fc.at f i v (a:)
def HW(h:fc H C a)(i:0<=k)(j:k < (a.length:Int)):∃v c,eW a k=δ v/\c∈C/\Nx H c v:=by
 let b:k.toNat < ο a:=PL
 let d:k=((k.toNat:Nat):Int):=PL
 let E:a[k.toNat]?=δ a[k.toNat]:=Rq b;let e:eW a ((k.toNat:Nat):Int)=δ a[k.toNat]:=jE E;rw[<- d]at e;let(c,f,g):=h.at _ _ E;exact#[_,c,e,RL f,g]
def Bd.fit(h:xL (ρ×xL ρ))(y:xL ρ)(d:Nat)(b:Bd):Prop:=(b.Ok y/\b.Cs (h.map λc=>(c.1,c.2.length)))/\b.dep<=d
def rC:Bd.fit h y d .nil:=#[#[trivial,trivial],RE _]
def FT{H:xL (ρ×xL ρ)}{l:Lf}(h:l.Ok y)(k:l.Cs (H.map λc=>(c.1,c.2.length))):Bd.fit H y d (.lf p l .nil):=#[#[#[h,trivial],k,trivial],RE _]
def rB{a b:Bd}(h:a.fit H y d)(k:b.fit H y d):(a.app b).fit H y d:=#[#[KU h.1.1 k.1.1,KS h.1.2 k.1.2],by rw[zG];let:=h.2;let:=k.2;omega]
def Ci{a b:Bd}(c:em y T)(h:a.fit H y d)(k:b.fit H y d):Bd.fit H y (d+1) (.ite p t T a b .nil):=#[#[#[c,h.1.1,k.1.1,trivial],h.1.2,k.1.2,trivial],by show max (max a.dep b.dep+1) 0<=d+1;let:=h.2;let:=k.2;omega]
def xh{a:Bd}(H:em y T)(h:a.fit b y d):Bd.fit b y (d+1) (.loop p t T a .nil):=#[#[#[H,h.1.1,trivial],h.1.2,trivial],by show max (a.dep+1) 0<=d+1;let:=h.2;omega]
noncomputable def O8:Nat->Nat
 |0=>1
 |d+1=>1+2*(5*O8 d)
inductive md(b:xL V)(H:Hp)(Q:VK)(a:XK):Prop
 |mk(p g:ζ)(c:xL ρ)(_:b=[.ref p,.ref g])(_:ax H p)(_:H g=δ (.lst (c.map vr)))(_:1<=ο c)(_:c.length<=20)(_:∀(r:ζ) (T:Tm) (H':Hp),bK H' T r->em c T->ax H' p->aI p H H'->Q (.ref r) H')
structure oY(H:Hp)(p g h sp:ζ)(ys:xL ρ)(hs:xL (ρ×xL ρ)):Prop where
 B:ax H p
 g:H g=δ (.lst$ ys.map vr)
 y1:1<=ο ys
 y2:ys.length<=20
 h:∃hv,H h=δ (.lst hv)/\fc H hs hv
 h1:1<=ο hs
 h2:hs.length<=20
 h3:∀c∈hs,ο c.2<=6
 s:eN H sp
def oY.gsp{H:Hp}{p g h S:ζ}{y:xL ρ}{b:xL (ρ×xL ρ)}(G:oY H p g h S y b):g≠S:=by
 let(k,e):=G.s;erw[jO G.g e λz=>?_];injection z with z;let c:=G.y1
 match y,c,z with
 |a::r,_,z=>injection z with d _;cases d
def oY.hsp{H:Hp}{p g h S:ζ}{y:xL ρ}{f:xL (ρ×xL ρ)}(G:oY H p g h S y f):h≠S/\h≠p:=by
 let(k,e):=G.s;let(j,E,l):=G.h;let(a,b,_,_,_,m):=G.B.ob;let n:=G.h1;let:∃q r,j= .ref q::r:=by
  match f,n,l with
  |c::C,_,#[v,r,e,#[q,t,o,_],_]=>exact#[q,r,by rw[e,o]]
 let(q,r,rfl):=this;erw[#[jO E e λz=>?_,jO E m λz=>?_]]
 .injection z with z;injection z with d _;cases d
 .injection z with z;injection z with d _;cases d
def oY.but2{H a:Hp}{p g h S:ζ}{y:xL ρ}{b:xL (ρ×xL ρ)}(G:oY H p g h S y b)(B:ax a p)(s:eN a S)(k:bg p S H a):oY a p g h S y b:=by let(c,e,E):=G.h;exact#[B,k _ _ (qE G.B G.g) G.gsp G.g,G.y1,G.y2,#[c,k _ _ G.hsp.2 G.hsp.1 e,E.mono$ k.tm G.B G.s],G.h1,G.h2,G.h3,s]
def oY.but{H a:Hp}{p g h S:ζ}{y:xL ρ}{b:xL (ρ×xL ρ)}(G:oY H p g h S y b)(B:ax a p)(k:aI p H a):oY a p g h S y b:=G.but2 B (G.s.but G.B k) k.two
inductive mV(n:Nat)(f:xL V)(H:Hp)(Q:VK)(a:XK):Prop
 |mk(p g h e:ζ)(d:Nat)(i:xL ρ)(c:xL (ρ×xL ρ))(_:f=[.ref p,.ref g,.ref h,.ref e,.int (d:Int)])(_:oY H p g h e i c)(_:d < n)(_:0 < iO H e)(_:∀(r:ζ) (b:Bd) (H':Hp),eP H' b [.ref r]->(b.size:Int)+iO H' e<=iO H e->0<=iO H' e->b.fit c i d->ax H' p->eN H' e->bg p e H H'->Q (.ref r) H')
inductive iS(n:Nat)(f:xL V)(H:Hp)(Q:VK)(a:XK):Prop
 |mk(p g h e:ζ)(d:Nat)(i:xL ρ)(c:xL (ρ×xL ρ))(_:f=[.ref p,.ref g,.ref h,.ref e,.int (d:Int)])(_:oY H p g h e i c)(_:d < n)(_:0<=iO H e)(_:∀(r:ζ) (b:Bd) (bs:xL V) (H':Hp),H' r=δ (.tup bs)->eP H' b bs->(b.size:Int)+iO H' e<=iO H e->0<=iO H' e->b.fit c i d->ax H' p->eN H' e->bg p e H H'->Q (.ref r) H')
def Ay:am ["_law_box_here","_law_names_here","_law_kind"] z29z (ae Ag):=bP
def C1(F:xD K "_law_spot" Ag f M)(C:{1} Y N z0z aZ "_law_take")(O:{6} fM R z13z (dH 4) "_law_term"):⇑7 f M z29z md:=by
 erw[F.ok Ay λS A o s H vs Q E a h=>?_]
 let(p,g,y,rfl,B,I,i,j,q):=h;erw[#[_,%[Ay|_ce2 C.e a.m _a0agbcms Q0 _2gw _ _fl O.e a _a0a1agbtcmD2fldanaoκoκo JR _ggg C.e a.m _a0agbbtfldana C.e a.m _a0agbb],?_]];let k:g≠p:=qE B I;erw[#[12,p,8,Z,B,PM,PM,λkd J k0 k1 l L=>?_]];let t:J g=δ (.lst$ y.map vr):=by rw[L g k];rwa[I]
 let u:aI p H J:=aI.of_eq L;erw[#[12112212,?_]];erw[cn (λc=>?_) (λc=>?_)]
 .exact#[1212,p,g,1,y,Z,l,t,i,j,PM,PM,λr T v U dT W b X=>q r T v U #[W,PL] b (u.trans X)]
 erw[#[12212,?_]];erw[cn (λc=>?_) (λc=>?_)]
 .erw[#[1122,#[PM,PM,PM],112212,p,4,Z,l,PM,PM,λD v d x b z=>#[1122,cg,λr n=>?_]]];rwa[q r (.num (1000000000000000000 - 1 - D)) _ jc #[#[PL,PL],(by show 0 < 6;decide)] (b.upd_new n) ((u.trans$ aI.of_eq z).upd_new n)]
 .erw[#[12,p,(12),Z,l,PM,PM,λD v d x b z=>#[cg,λr n=>?_]]];rwa[q r (.num D) _ jc #[#[d,PL],(by show 0 < 6;decide)] (b.upd_new n) ((u.trans$ aI.of_eq z).upd_new n)]
def mO:am z41z z5z (ae Ah):=bP
noncomputable def vP:ge:=#[.function,[(".0",.local),("_law_one",.local),("_law_term",.globalImplicit),("_law_box_here",.free),("_law_names_here",.free)],ν,ν,[]]
def Gw:(z36z:xL ρ).Nodup:=PH
def FJ:bh z41z (ae Ah) vP z36z 1 [0,1]:=oi
def RH(p g h s:ζ)(d:Nat)(k:Int)(y:ρ)(H:Hp)(a:_L.St)(b:Hp):Prop:=a=[↑p,↑g,↑h,↑s,δ$ .int (d:Int),δ$ .int k,δ$ .str y,θ,θ,θ]/\b=H
def Hl(F:xD K "_law_statement" Ah f fd)(cT:{1} fT f0 z0z aZ "_law_take")(cM:{6} fM f3 z13z (dH 4) "_law_term")(cP:{7} fP f4 z29z md "_law_spot"){L:Nat}(cB:{L+9} fB f5 z5z (iS n) "_law_body")(ml:mg "len"=θ)(m0:mg "tuple"=θ):⇑(L+10) f fd z5z (mV$ n+1):=by
 erw[F.ok mO λc3 A o2 s H vs Q E R h=>?_]
 symm;let(p,g,h,S,d,ys,hs,rfl,G0,hd,b5,q):=h;erw[#[_,%[mO|_ce5 cT.e R.m _a0agbce6ku1 cT.e R.m _a0aAεjπζa1bbpcOoκku3gpg (Jc (pv 3) jf zQ) _cms Q0 _5gw _ _fldana6a cP.e R.m _a0a1bbtcm (PW.pt %[mO|_θD5μD5]) _fldana cP.e R.m _a0a1ba cM.e R.m _a0a1agbbtcm (PW.pt %[mO|_θD5μD5]) _cOku2 cT.e R.m _a0aAεjπζa2bbpP (n:=2) _jqi7qi8γfldana6a7aEςjYξa (@za _ _ _ _ _ _ _ z36z 1 [0,1] _ _ _ _ Z (qk$ pv 8) FJ (λ_ _ _ _ _=>ju (i:=0) Gw Z$ ψ Z) (λ_ _ _ _ _=>@zw _) (λ_ _ _ _ _=>cM.e R.m %[mO|_a1a2agb]) Cv) _bbtcJm (PW.pt %[mO|_τD5υs Jn _4gw _]) _ce9 cB.e R _a0a1a2a3aoκ4gbfldana cM.e R.m _a0a1agba9a cB.e R _a0a1a2a3aoκ4gbbtcJm (PW.pt %[mO|_τD5υs Jn _4gw _]) _fldana cM.e R.m _a0a1agba cB.e R _a0a1a2a3aoκ4gbbtcmD5fldana cM.e R.m _a0a1agbbtfldana6a cM.e R.m _a0a1agbb],?_]];let b7:=aL;let B:=G0.B;let b8:g≠p:=qE B G0.g;sleep 9;erw[ah λF1 o=>#[12,p,10,Z,B,PM,PM,λkd H1 k0 k1 B1 e1=>o _ _ ?_]];left;let G1:=G0.but B1 (aI.of_eq e1);let y1:=G0.y1;let y2:=G0.y2;erw[ah λF1 o=>#[121212,g,12,.inl$ aJ.of G1.g,p,12,B1,by rw[Rs];omega,by rw[Rs];omega,λd2 H2 d1 d0 B2 e2=>?_]];rw[Rs]at d0;let G2:=G1.but B2 (aI.of_eq e2);symm;let(y,hy,a2):=KR (ys:=ys) d1 d0;erw[#[g,11122,aJ.of G2.g,a2,o _ _ ?_]];left;symm;let(k,hk):=G2.s;let ek:iO H S=k:=((kQ B1 G1.s$ aI.of_eq e2).trans$ kQ B G0.s$ aI.of_eq e1).symm.trans (JU hk);erw[ah λF1 o=>#[12,S,11122,aJ.of hk,2112212,S,11,0,22,hk,Z,o _ _ ?_]];left;let s0:=G2.s.ne B2;let B3:ax (af H2 S$ .lst ([.int k].set 0 (.int$ k - 1))) p:=B2.eq (ji$ Sc s0);let s3:eN (af H2 S$ .lst ([.int k].set 0 (.int$ k - 1))) S:=#[k - 1,jc];let K3:bg p S H (af H2 S$ .lst ([.int k].set 0 (.int$ k - 1))):=((aI.of_eq e1).trans$ aI.of_eq e2).two.trans bg.at;let G:=G0.but2 B3 s3 K3;let e3:iO (af H2 S$ .lst ([.int k].set 0 (.int$ k - 1))) S=k - 1:=JU jc;generalize af H2 S (.lst ([.int k].set 0 (.int$ k - 1)))=H3 at B3 s3 K3 G e3;let l0:∀(l:Lf) (zs:xL V) (j:Hp) (r:ζ),BC j l zs->l.Ok ys->l.Cs (hs.map λc=>(c.1,c.2.length))->oY j p g h S ys hs->bg p S H j->iO j S=k - 1->j r=θ->Q (.ref r) (af j r$ .tup zs):=λl zs j r hl ok cs u K4 e4 nr=>
  q r (.lf r l .nil) _ #[zs,[],Z,jc,hl.mono$ aa.tm$ je nr,Z] (by rw[kL u.s$ je nr];show((0+1:Nat):Int)+_<=_;omega) (by rw[kL u.s$ je nr];omega) (FT ok cs) (u.B.upd_new nr) (u.s.new nr) (K4.trans$ bg.of_same$ je nr)
 erw[ah λF1 o=>pI λG' C=>#[12112212,C _ _ ?_]];erw[cn (λc=>?_) (λc=>o _ _ ?_)]
 .erw[#[121212,p,g,ys,Z,G.B,G.g,y1,y2,λr T j U oT B4 J=>#[ie,λt N=>?_]]];rwa[l0 (.rd y r T) _ j t #[Z,U] #[hy,oT] trivial (G.but B4 J) (K3.trans J.two) ((kQ G.B G.s J).trans e3) N]
 let wr:∀(r:ζ) (T0:Tm) (j:Hp),bK j T0 r->em ys T0->ax j p->aI p H3 j->fj (dH 4) [] E0 (ap (bn 0)$ ap (bn 1)$ ap (tC$ .int 2) aS) [↑p,↑g,↑h,↑S,δ$ .int (d:Int),δ$ .int kd,δ$ .str y,θ,θ,θ] j (λv D=>3<=υ/\∀t,D t=θ->Q (.ref t) (af D t$ .tup [.str "write",.ref r,v])):=λr T0 j h4 o1 B4 J=>by erw[#[1212,p,g,2,ys,Z,B4,(G.but B4 J).g,y1,y2,PM,PM,λW T D U dT gT O a=>#[PM,λt N=>?_]]];rwa[l0 (.wr r W T0 T) _ D t #[Z,h4.but B4 a,U] #[o1,gT,PL] trivial (G.but O$ J.trans a) (K3.trans (J.trans a).two) ((kQ G.B G.s$ J.trans a).trans e3) N]
 erw[ah λF1 o=>pI λG' C=>?_];let Y:G' μ H3:=C _ _ (pJ #[1212,p,g,ys,Z,G.B,G.g,y1,y2,λr T0 j h4 o1 B4 J=>wr r T0 j h4 o1 B4 J]);erw[#[12212,cn (λc=>Y) (λc=>#[12212,Ej Y λc2=>C _ _ (a9 c2$ o _ _ ?_)])]];symm;let(hv,hh,hH):=G.h;let hl:=hH.len;let h1:=G0.h1;let h2:=G0.h2;let c1:∀(f':ρ) (ps:xL ρ) (h':(f',ps.length)∈hs.map λc=>(c.1,c.2.length)) (t:ζ) (j:Hp),oY j p g h S ys hs->bg p S H j->iO j S=k - 1->j t=δ (.tup$ ps.map vr)->ο ps<=6->
   fi (Bz K t) 1 [↑p,↑g] (bf 0) mw (fj (dH 4) [] E0$ ap (bn 1)$ ap (bn 2)$ ap (tC$ .int 1) aS) (λzs D=>∀l,D l=θ->ze K [xm l] (af D l$ .lst zs) λv H6=>4<=υ/\∀r,H6 r=θ->Q (.ref r) (af H6 r$ .tup [.str "call",.str y,.str f',v])) j:=λf' ps h' t j u K4 e4 ht b9=>by
  erw[qj (K:=K) (xs:=ps.map vr) (by rw[Rs];omega) (λi zs D=>∃ts:xL (ζ×Tm),zs=ts.map (λc=>xm c.1)/\ο ts=i/\(∀c∈ts,bK D c.2 c.1/\em ys c.2)/\ax D p/\aI p j D) #[[],22,(λ_ h=>absurd h R6),u.B,aI.refl] (λi zs D h5=>?_) ?_ ?_]
  .symm;let(ts,rfl,e5,_,_,a):=h5;exact#[aC.of$ a.tm u.B _ _ ht,by rw[Rs,e5];rwa[Rv _]]
  .intro i x zs D hx a3;symm;let(ts,rfl,e5,h5,O,a):=a3;erw[#[1212,p,g,1,ys,Z,O,(u.but O a).g,y1,y2,PM,PM,λW T H6 U dT gT B6 k6=>#[ts++[(W,T)],by rw[RU];rfl,by rw[Ru,e5];rfl,λc hc=>?_,B6,a.trans k6]]];symm;rcases γ.mp hc with hc |hc
   .exact#[(h5 c hc).1.but O k6,(h5 c hc).2]
   .right;rw[τ.mp hc];exact#[U,gT,(by show T.depth < 6;omega)]
  .rintro zs D ⟨ts,rfl,e5,h5,O,a⟩ l nl;erw[#[l,12,.inl #[aJ.of jc,λl2 n0=>#[PM,λr nr=>?_]]]];let M:=u.but O a;let s6:aa D (af (af D l$ .lst$ ts.map λc=>xm c.1) l2$ .tup$ ts.map λc=>xm c.1):=(je nl).trans (je n0);rw[Rs]at e5;rwa[l0 (.cl y f' l2 ts) _ _ r #[Z,jc,λc hc=>(h5 c hc).1.same s6] #[hy,PL,λc hc=>(h5 c hc).2] (by show(f',ts.length)∈_;rw[e5];rwa[h']) (M.but2 ((M.B.upd_new nl).upd_new n0) ((M.s.new nl).new n0)$ bg.of_same s6) ((K4.trans a.two).trans$ bg.of_same s6) ((kL M.s s6).trans ((kQ u.B u.s a).trans e4)) nr]
 erw[ah λF1 o=>pI λG' C=>?_];let Y:G' μ H3:=by erw[C _ _$ pJ ?_];erw[ah λF2 f2=>#[121212,h,12,.inl$ aJ.of hh,p,12,G.B,PL,PL,λd4 j d3 d5 B4 e4=>?_]];let u:=G.but B4 (aI.of_eq e4);let J:aI p H3 j:=aI.of_eq e4;let a4:=hH.mono (J.tm G.B);let(v,c0,a5,a0,p4,t4,rfl,z1,z2):=HW a4 d3 d5;erw[#[h,11122,aJ.of$ J _ _ G.hsp.2 hh,a5,p4,12,aC.of z1,21121122,f2 _ _ ?_]];left;erw[#[121212,t4,Z,#[_,aC.of z2],?_]];rwa[c1 c0.1 c0.2 (dn.mpr #[c0,a0,Z]) t4 j u (K3.trans J.two) ((kQ G.B G.s J).trans e3) z2$ G0.h3 c0 a0]
 erw[#[12212,cn (λc=>Y) (λc=>#[12212,Ej Y λc2=>C _ _ (a9 c2$ o _ _ ?_)])]];let l1:∀(c:(0:Int) < (d:Int)),∃X:Nat,d=X+1:=λc=>#[d - 1,PL];erw[ah λF1 o=>eI (RH p g h S d kd y H3) (λE6 eR f6=>?_) λσ0 H' z=>?_]
 .left;erw[pI λG' C=>#[12212,?_]];erw[cn (λc=>?_) (λc=>C _ _ (om$ f6 _ _ #[22]))];erw[#[12112212,C _ _ ?_]];erw[cn (λc2=>?_) (λc2=>f6 _ _ #[22])];symm;let(X,rfl):=l1 (Sq c2);let ed:(((X+1:Nat):Int) - 1)=((X:Nat):Int):=by omega
  erw[#[12121212121122,p,g,h,S,X,ys,hs,(by show [xm p,xm g,xm h,xm S,xb (((X+1:Nat):Int) - 1)]=_;rw[ed]),G,PL,PL,λr b bs j a' b1 c4 b2 b4 B4 s4 J=>?_]];let u:=G.but2 B4 s4 J;erw[#[1212,p,g,2,ys,Z,u.B,u.g,y1,y2,PM,PM,λW T D U dT gT O a=>?_]];let M:=u.but O a;erw[#[1212121212121122,p,g,h,S,X,ys,hs,(by show [xm p,xm g,xm h,xm S,xb (((X+1:Nat):Int) - 1)]=_;rw[ed]),M,PL,(by rw[kQ u.B u.s a];rwa[b2]),λr3 b3 b0 H6 h6 h7 a1 h8 h0 B6 s6 k6=>#[tP,λt N=>?_]]];let G6:=M.but2 B6 s6 k6;let tm:aj j H6:=λb' xs e=>k6.tm M.B M.s _ _ (a.tm u.B _ _ e);let I:aj H6 (af H6 t$ .tup [.str "if",.ref W,.ref r,.ref r3]):=aa.tm (je N);rw[eR];erw[q t (.ite t W T b b3 .nil) _ #[r,r3,bs,b0,[],Z,jc,(U.mono$ k6.tm M.B M.s).mono I,I _ _$ tm _ _ a',I _ _ h6,(b1.mono tm).mono I,h7.mono I,Z] (by let x1:=kQ u.B u.s a;rw[kL G6.s$ je N];show((b.size+b3.size+0+1:Nat):Int)+_<=_;omega) (by rw[kL G6.s$ je N];rwa[h8]) (Ci #[gT,PL] b4 h0) (G6.B.upd_new N) (G6.s.new N) (((K3.trans J).trans$ a.two.trans k6).trans$ bg.of_same$ je N)]
 symm;let(rfl,e):=z;right;rw[e];erw[o _ _ ?_];left;erw[ah λF1 o=>eI (RH p g h S d kd y H3) (λE6 eR f6=>?_) λσ0 H' z=>?_]
 .left;erw[pI λG' C=>#[12212,?_]];erw[cn (λc=>?_) (λc=>C _ _ (om$ f6 _ _ #[22]))];erw[#[12112212,C _ _ ?_]];erw[cn (λc2=>?_) (λc2=>f6 _ _ #[22])];symm;let(X,rfl):=l1 (Sq c2);let ed:(((X+1:Nat):Int) - 1)=((X:Nat):Int):=by omega
  erw[#[1212,p,g,2,ys,Z,G.B,G.g,y1,y2,PM,PM,λW T D U dT gT O a=>?_]];let M:=G.but O a;erw[#[12121212121122,p,g,h,S,X,ys,hs,(by show [xm p,xm g,xm h,xm S,xb (((X+1:Nat):Int) - 1)]=_;rw[ed]),M,PL,(by rw[kQ G.B G.s a];omega),λr3 b3 b0 H6 h6 h7 a1 h8 h0 B6 s6 k6=>#[ie,λt N=>?_]]];let G6:=M.but2 B6 s6 k6;let I:aj H6 (af H6 t$ .tup [.str "while",.ref W,.ref r3]):=aa.tm (je N);rw[eR];erw[q t (.loop t W T b3 .nil) _ #[r3,b0,[],Z,jc,(U.mono$ k6.tm M.B M.s).mono I,I _ _ h6,h7.mono I,Z] (by let x1:=kQ G.B G.s a;rw[kL G6.s$ je N];show((b3.size+0+1:Nat):Int)+_<=_;omega) (by rw[kL G6.s$ je N];rwa[h8]) (xh #[gT,PL] h0) (G6.B.upd_new N) (G6.s.new N) ((K3.trans$ a.two.trans k6).trans$ bg.of_same$ je N)]
 symm;let(rfl,e):=z;right;rw[e];erw[o _ _ ?_];left;erw[ah λF1 o=>pI λG' C=>#[12212,C _ _ ?_]];erw[cn (λc=>?_) (λc=>o _ _ ?_)]
 .erw[#[1212,p,g,2,ys,Z,G.B,G.g,y1,y2,PM,PM,λW T D U dT gT O a=>#[cg,λt N=>?_]]];rwa[l0 (.gv W T) _ D t #[Z,U] #[gT,PL] trivial (G.but O a) (K3.trans a.two) ((kQ G.B G.s a).trans e3) N]
 .erw[#[121212,p,g,3,ys,Z,G.B,G.g,y1,y2,PM,PM,λW T D U dT gT O a=>#[ie,λt N=>?_]]];rwa[l0 (.st y W T) _ D t #[Z,U] #[hy,gT,PL] trivial (G.but O a) (K3.trans a.two) ((kQ G.B G.s a).trans e3) N]
def pT:am ["_law_box_here","_law_names_here","_law_heads","_law_spare","_law_deep","_law_body_here","_law_k"] z5z (ae sM):=bP
def rX(F:xD K "_law_body" sM f fd)(cT:{1} fT f0 z0z aZ "_law_take"){L:Nat}(cS:{L+8} fS f1 z5z (mV n) "_law_statement")(mr:mg "range"=θ)(m2:mg "tuple"=θ):⇑(L+9) f fd z5z (iS n):=by
 erw[F.ok pT λc0 A o1 s H v Q E hr h=>?_]
 let(p,g,h,S,d,ys,hs,rfl,G,hd,h0,q):=h;erw[#[_,%[pT|_ce5rbcHTjοj mr _a cT.e hr.m _a0agbbi6fms Jn _ku3gpgw _ _fzCRαβX5a cS.e hr _a0a1a2a3a4bbtflEςj m2 _ξa5b],?_]];let b0:=aL;erw[#[RE _,λl N=>?_]];let s0:aa H (af H l$ .lst []):=je N;let O:oY (af H l$ .lst []) p g h S ys hs:=G.but2 (G.B.upd_new N) (G.s.new N) (bg.of_same s0);let l1:af H l (.lst []) l=δ (.lst []):=jc;let lp:l≠p:=G.B.ne N;let D:l≠S:=λe=>by let(k,z):=G.s;rw[<- e,N]at z;cases z
 let k1:bg p S H (af H l$ .lst []):=bg.of_same s0;let R:iO (af H l$ .lst []) S=iO H S:=kL G.s s0;generalize af H l (.lst [])=H1 at O l1 k1 R;erw[#[12,p,6,Z,O.B,PM,PM,λm H2 m0 m1 B2 e2=>#[12,PL,PL,?_]]];let G2:=O.but B2 (aI.of_eq e2);refine Q7 (lo:=0) (λi σ I=>∃(o6:ym V) (v:xL V) (b:Bd),σ=[↑p,↑g,↑h,↑S,δ$ .int (d:Int),↑l,o6]/\I l=δ (.lst v)/\eP I b v/\((b.size:Int)+iO I S<=iO H S/\0<=iO I S)/\b.fit hs ys d/\ο v<=i/\ax I p/\eN I S/\bg p S H I)
  #[θ,[],.nil,Z,by rw[e2 l lp];rwa[l1],Z,(by rw[kQ O.B O.s$ aI.of_eq e2,R];exact#[by show((0:Nat):Int)+_<=_;omega,h0]),rC,RE _,B2,G2.s,k1.trans (aI.of_eq e2).two] ?_ ?_
 .intro i σ H3 hi J;let(o6,v,b,rfl,a,u,j,x,h1,T,C,U):=J;let G3:=G.but2 T C U;let(kk,W):=id C;erw[#[12,S,11122,aJ.of W,2112212,?_]];refine cn (λc=>?_) (λc=>?_)
  .erw[#[12,.inl #[21,aJ.of a],1212121212,p,g,h,S,d,ys,hs,Z,G3,hd,(by rw[JU W];rwa[Sq c]),λr b4 H4 h2 h5 h3 h4 B4 s4 k4=>?_]];let X:H4 l=δ (.lst v):=k4 _ _ lp D a;erw[#[l,1122,X,PL,?_]];let tm:aj H4 (af H4 l$ .lst$ v++[.ref r]):=λb' xs e=>by rw[ji$ jO e X BT];exact e
   let Y:aj H3 H4:=k4.tm T C;erw[#[11,b.app b4,Z,jc,(h2.mono tm).app ((u.mono Y).mono tm),?_,rB x h4,by rw[Ru];show ο v+1<=i+1;omega,B4.eq$ ji$ Sc lp,?_,λb' o n1 n2 e=>?_]]
   .rw[j9,Zg s4 λo e=>by rw[ji$ Sc D];rwa[e]];let(z1,z2):=j;exact#[PL,h3]
   .let(z,hz):=s4;exact#[z,by rw[ji$ Sc D];rwa[hz]]
   .rw[ji$ jk e N];rwa[k4 _ _ n1 n2$ U _ _ n1 n2 e]
  .exact#[_,v,b,Z,a,u,j,x,PL,T,C,U]
 .intro σ H3 J;let(o6,v,b,rfl,a,u,j,x,h1,T,C,U):=J;erw[#[12,l,v,Z,.inl #[aJ.of a,λt M=>?_]]];let hm:(m).toNat<=5:=by omega
  erw[q t b v _ jc (u.mono$ aa.tm$ je M) (by rw[kL C$ je M];rwa[j.1]) (by rw[kL C$ je M];rwa[j.2]) x (T.upd_new M) (C.new M)$ U.trans$ bg.of_same$ je M]
def yg:⇑8 f c z5z (mV 0):=by
 let n:∀v H Q E,¬mV 0 v H Q E:=λv H Q E h=>by let(p,g,h,S,d,y,e,_,_,b,_):=h;rwa[absurd b$ UU _]
 exact#[λv H Q E h=>absurd h (n v H Q E),λA o s H a u v Q E _ _ _ _ h=>absurd h (n v H Q E)]
theorem M7(F:xD K "_law_statement" Ah f e)(FB:xD K "_law_body" sM g a)(c:{1} r k z0z aZ "_law_take")(C:{6} s l z13z (dH 4) "_law_term")(h:{7} t o z29z md "_law_spot")(b:aE K e z5z [])(M:mg "_law_statement"=↑f)(B:aE K a z5z [])(i:mg "_law_body"=↑g)(j:mg "len"=θ)(m:mg "tuple"=θ)(d:mg "range"=θ):
  ∀n:Nat,⇑(n+n+8) f e z5z (mV n)/\⇑(n+n+9) g a z5z (iS n)
 |0=>#[yg,rX (L:=0) FB c #[yg,b,F.kp,M] d m]
 |n+1=>by
  let I:=M7 F FB c C h b M B i j m d n;let E:n+n+10=n+1+(n+1)+8:=PL
  let p:n+n+2+9=n+1+(n+1)+9:=PL
  let H:=Hl (L:=n+n) F c C h #[I.2,B,FB.kp,i] j m;let q:=rX (L:=n+n+2) FB c #[H,b,F.kp,M] d m;rw[<- E,<- p];exact#[H,q]
def LO{x:xL V}(h:k<=ο x):aQ x θ (δ (k:Int))=x.take k:=by
 unfold aQ;rw[HT.sIx_nat,HT.sIx_none];let e:min k (ο x)=k:=PL
 rw[e];simp
abbrev Ia:cc:=bX 68
def Cb(h:0<=d)(H:d < 4):∃D:Nat,eW [xb 3,.int 3,.int 3,.int 5] d=δ (.int (D:Int))/\D < 6/\O8 D<=111111/\D<=5:=by
 rcases(PL:d=0∨d=1∨d=2∨d=3) with rfl |rfl |rfl |rfl
 .exact#[3,Z,PM,PM,PM]
 .exact#[3,Z,PM,PM,PM]
 .exact#[3,Z,PM,PM,PM]
 .exact#[5,Z,PM,PM,PM]
def wN{ys:xL ρ}{k:Int}(h:ο ys=20)(H:14<=k)(a:k<=20):1<=(bL ys (δ 8)$ δ k).length/\(bL ys (δ 8)$ δ k).length<=20:=by
 erw[#[?_,by let:=qH ys (δ 8) (δ k);omega]];let e:(8:Int)=((8:Nat):Int):=rfl;let E:k=((k.toNat:Nat):Int):=PL
 unfold bL;rw[e,E,HT.sIx_nat,HT.sIx_nat,R0,Te];rwa[N09]
def BW{ss:xL ρ}(h:0<=k):(bL ss θ$ δ k).length<=k.toNat:=by
 let e:k=((k.toNat:Nat):Int):=PL
 unfold bL;rw[e,HT.sIx_nat,HT.sIx_none,R0];omega
def iF{t u:TS}(h:∀E:bp,(∀a b,u D a b->E.nx a b)->t E c H):cw t u D c H:=h { D with nx:=u D } λ_ _ h=>h
def Lm(h:xL (ρ×xL ρ)):Prop:=∀c∈h,c.1.length<=20/\ο c.2<=6
def Pb(H:Hp)(D:xL Df):Prop:=∀d∈D,∃p:xL ρ,H d.pa=δ (.tup$ p.map vr)/\ο p<=100
def qI{a:Type}{P:a->Prop}{X:xL a}{x:a}(h:∀c∈X,P c)(H:P x):∀c∈X++[x],P c:=λc b=>by
 rcases γ.mp b with h1 |h1
 .rwa[h c h1]
 .rw[τ.mp h1];rwa[H]
def mE(H:Hp)(D:xL Df)(N:xL Nat):Prop:=ο D=ο N/\∀(i:Nat) (d:Df) (n:Nat),D[i]?=δ d->N[i]?=δ n->∃p:xL ρ,H d.pa=δ (.tup$ p.map vr)/\ο p=n/\n<=100
def mE.mono(h:mE H D N)(k:aj H a):mE a D N:=#[h.1,λi d n b c=>let #[p,e,l]:=h.2 i d n b c;#[p,k _ _ e,l]]
def mE.snoc{d:Df}{p:xL ρ}(h:mE H D N)(e:H d.pa=δ (.tup$ p.map vr))(l:ο p<=100):mE H (D++[d]) (N++[p.length]):=by
 erw[#[by rw[Ru,Ru,h.1];rfl,λi c n a b=>?_]];by_cases f:i < ο D
 .rw[TQ f]at a;rw[TQ (by rw[<- h.1];rwa[f])]at b;rwa[h.2 i c n a b]
 .let g:i < (D++[d]).length:=(ξ.mp a).1;rw[Ru]at g;let E:i=ο D:=by let:i < ο D+1:=g;omega
  subst E;rw[TJ$ Rv _,Vq]at a;rw[h.1,TJ$ Rv _,Vq]at b;cases a;cases b;exact#[p,e,Z,l]
def mE.v(h:mE H D n):Pb H D:=λd b=>by
 let(i,a,e):=iv.mp b;let c:D[i]?=δ d:=by rw[<- e];rwa[Rq a]
 let(p,e,l,k):=h.2 i d _ c (Rq (by rw[<- h.1];rwa[a]));exact#[p,e,PL]
def pi(D:xL Df)(n:xL Nat):Prop:=(∀d∈D,n8 d/\d.b.Cs ((D.map Df.f).zip n))/\(D.map Df.f).Nodup/\∀y∈D.map Df.f,y.length<=20
inductive tj(c:xL V)(H:Hp)(Q:VK)(a:XK):Prop
 |mk(p:ζ)(T b:Int)(_:c=[.ref p,.int T,.int b])(_:ax H p)(_:1<=T)(_:T<=8)(_:0<=b)(_:b<=40)(_:∀(r:ζ) (ds:xL Df) (xs:xL V) (H':Hp),H' r=δ (.tup xs)->di H' ds xs->(ds.length:Int)=T->∀ns:xL Nat,pi ds ns->mE H' ds ns->ax H' p->aI p H H'->Q (.ref r) H')
def dM:am ["_law_box_here","_law_total","_law_room","_law_words","_law_most","_law_heads","_law_k","_law_turn","_law_row","_law_some","_law_deep","_law_defs","_law_f","_law_params","_law_spare","_law_body_here"] z37z (ae Ia):=bP
inductive AJ(p k:ζ)(T j:Int)(H:Hp)(b:_L.St)(c:Hp):Prop
 |mk(a:xL ρ)(d:b=[↑p,δ (.int T),δ (.int j),↑k,θ,θ,θ,θ,θ,θ,θ,θ,θ,θ,θ,θ])(e:c k=δ (.lst (a.map vr)))(f:ο a=20)(g:(∀y∈a,y.length<=20)/\(a.take 8).Nodup)(h:ax c p)(i:aI p H c)
inductive AI(p t k:ζ)(T s m:Int)(u:xL ρ)(H:Hp)(i:Nat)(v:_L.St)(a:Hp):Prop
 |mk(o q r:ym V)(l:xL (ρ×xL ρ))(n:xL V)(b:v=[↑p,δ (.int T),δ (.int s),↑t,δ (.int m),↑k,o,q,r,θ,θ,θ,θ,θ,θ,θ])(c:a k=δ (.lst n))(d:fc a l n)(e:ο l=i)(f:Lm l/\l.map (·.1)=u.take i)(g:a t=δ (.lst (u.map vr)))(h:ax a p)(j:aI p H a)
inductive AK(p G y F h:ζ)(T E m:Int)(j:Nat)(I:xL ρ)(z:xL (ρ×xL ρ))(A:xL V)(H:Hp)(i:Nat)(J:_L.St)(g:Hp):Prop
 |mk(B C D b c e f:ym V)(k:xL Df)(l:xL V)(n:J=[↑p,δ (.int T),δ (.int E),↑G,δ (.int m),↑y,B,C,D,↑F,δ (.int (j:Int)),↑h,b,c,e,f])(o:g h=δ (.lst l))(q:di g k l)(r:ο k=i)(s:(∀d∈k,n8 d/\d.b.Cs (z.map λc=>(c.1,c.2.length)))/\k.map Df.f=(z.map (·.1)).take i)(t:g y=δ (.lst A))(u:fc g z A)(v:g F=δ (.lst (I.map vr)))(w:ax g p)(x:aI p H g)(a:mE g k ((z.map λc=>c.2.length).take i))
inductive AL(v:xL (ρ×xL ρ))(D:xL ρ)(p C u z h B A:ζ)(T y m:Int)(i:Nat)(w x:ym V)(c:ρ×xL ρ)(e:Hp)(j:Nat)(E:_L.St)(d:Hp):Prop
 |mk(a:ym V)(f:ζ)(b:Bd)(g:xL V)(k:E=[↑p,δ (.int T),δ (.int y),↑C,δ (.int m),↑u,a,w,x,↑z,δ (.int (i:Int)),↑h,δ (.str c.1),↑B,↑A,↑f])(l:d f=δ (.tup g))(n:eP d b g)(o:(b.size:Int)+iO d A<=y/\0<=iO d A)(q:b.fit v D i)(r:ax d p)(s:eN d A)(t:bg p A e d)
def GL(F:xD K "_law_any" Ia f fd)(cT:{1} fT i' z0z aZ "_law_take")(cA:{2} fA j0 z24z gJ "_law_names")(cB:{21} fB j1 z5z (iS 6) "_law_body")(ml:mg "len"=θ)(mr:mg "range"=θ)(m0:mg "tuple"=θ)(mi:mg "int"=θ):⇑22 f fd z37z tj:=by
 erw[F.ok dM λj2 A o5 s H vs Q E hr h=>?_]
 symm;let(p,T,X,rfl,B,j3,j4,f4,j5,q):=h;erw[#[_,%[dM|_ce3 cA.e hr.m _a0agbcJmD cT.e hr.m _a0agbfOBσ3Uyg (@yK _ _ _ _ _ _ _ _ _ (pv 3) jf jf Cv) _tce4kuragagbE qT _j mi WY _a (Kt qB (cT.e hr.m %[dM|_a0agb]) jf$ aG _) _bpce5rbcHTjοj mr _a1bi6ce7oδg cT.e hr.m _a0agbce8oψBσ3y7ygBσ3ygy7fzCRαβX5adaku36paEςjYξaBσ8Uy cT.e hr.m _a0a4bbbbce9Bσ3ygyoδg cT.e hr.m _a0agbcev 10 _kuragagagagb cT.e hr.m _a0agbpcev 11 _rbcHTjS5P (n:=2) _jqiv 12 _qiv 13 _γcev 14 _ra2bcev 15 _dbcHTjοj mr _agbi6fev 15 _oVv 15 cB.e hr _a0a9a5av 14 _av 10 _bfzCRαβXv 11 _adav 12 _av 13 _av 15 _bbflEςjYξav 11 _b],?_]];let j':=aL;sleep 9;erw[iF λE1 m1=>?_];erw[#[12,p,(20),Z,B,PM,PM,λW ys H1 c2 f5 c3 C B1 k1=>?_]];erw[m1 _ _ ?_];left;erw[iF λE2 m2=>?_];let wp:W≠p:=B.ne c2;erw[eI (AJ p W T X H) (λE0 _ fm=>?_) λσ0 H2 l=>?_]
 .left;erw[pI λG' g'=>#[12,p,2,Z,B1,PM,PM,λd1 H2 l4 l5 B2 e2=>?_]];let Y:H2 W=δ (.lst$ ys.map vr):=by rw[e2 W wp];exact f5
  let k2:=k1.trans (aI.of_eq e2);erw[#[212,g' _ _ ?_]];erw[cn (λc=>?_) (λc=>fm _ _ #[ys,Z,Y,PL,#[C.1,C.2.sublist$ TW _ _],B2,k2])];erw[#[1212,W,12,aJ.of Y,λsl n0=>?_]];let f7:W≠sl:=λe=>by rw[<- e,Y]at n0;cases n0
  let l6:=B2.ne n0;erw[#[12,W,sl,11112222,aq Y n0,jc,f7,PM,PM,by rw[Rs];omega,?_,?_]]
  .let:=zC (ys.map vr) θ (δ 2);rw[Rs]at this ⊢;omega
  let e2:aQ (ys.map vr) θ (δ 2)=(ys.take 2).map vr:=by rw[show(2:Int)=((2:Nat):Int) from Z,LO (by rw[Rs];omega),Uq]
  erw[fm _ _ #[ys.take 8++ys.take 2++ys.drop 10,Z,?_,?_,?_,(B2.upd_new n0).eq$ ji$ Sc wp,?_]]
  .rw[jc,e2,RU,RU,Uq,WB,Uq];rfl
  .rw[Ru,Ru,R0,R0,Te];omega
  .refine#[λy hy=>?_,?_]
   .symm;rcases γ.mp hy with h |h
    .rcases γ.mp h with h |h
     .rwa[C.1 y$ Sz h]
     .rwa[C.1 y$ Sz h]
    .rwa[C.1 y$ VB h]
   .rw[Sn,List.take_append_of_le_length (by rw[R0];omega),List.take_take];rwa[C.2.sublist$ TW _ _]
  .exact(k2.upd_new n0).upd_own c2
 symm;let(ys,rfl,Y,c3,C,B2,k2):=l;erw[m2 _ _ ?_];left;erw[iF λE3 m3=>?_];erw[#[cg,λl1 n7=>?_]];erw[#[12,p,3,Z,B2.upd_new n7,PM,PM,λd2 H3 l8 l9 B3 e3=>?_]];let k3:aI p H2 H3:=((aI.refl).upd_new n7).trans (aI.of_eq e3);let l0:=B2.ne n7;let f8:H3 l1=δ (.lst [.int 4,.int 7]):=by rw[e3 l1 l0];rwa[jc]
 erw[#[Z,.inr #[12,?_]]];let a4:∀c:Bool,∃m:Int,eW [xb 4,xb 7] (if c then 1 else 0)=δ (.int m)/\4<=m/\m<=7:=λc=>by
  symm;cases c
  .exact#[4,Z,PM,PM]
  .exact#[7,Z,PM,PM]
 symm;let(m,hm,m4,m7):=a4 _;erw[#[l1,11122,aJ.of f8,hm,?_]];erw[m3 _ _ ?_];left;erw[iF λE4 m4=>?_];let c4:H3 W=δ (.lst$ ys.map vr):=k3 _ _ wp Y;let k0:=k2.trans k3;erw[#[RE _,λhl n1=>?_]];erw[m4 _ _ ?_];left;erw[iF λE5 m5=>?_];let h0:=B3.ne n1;let n5:H hl=θ:=by
  cases z:H hl with
  |none=>rfl
  |some o=>have:=k0 _ _ h0 z;rw[n1]at this;symm;cases this
 let wh:W≠hl:=λe=>by rw[<- e,c4]at n1;cases n1
 erw[eG λJ j=>#[12,T,Z,PL,PL,j _ _ ?_]];refine kn (lo:=0) (AI p W hl T X m ys H)
  #[θ,θ,θ,[],[],Z,jc,22,#[(λc hc=>nomatch hc),Z],aq c4 n1,B3.upd_new n1,k0.upd_own n5] ?_ ?_
 .intro D' _ i σ H4 hi f0 Gq u l;symm;let(o6,o7,o8,hs,hv,rfl,a5,h5,c5,h6,a',B4,k4):=l;erw[u ?_];show cw (dI _ _) _ D' _ _;sleep 2;erw[iF λF1 f1=>?_];erw[#[12,p,6,Z,B4,PM,PM,λD H5 f9 f' B5 e5=>?_]];let k5:aI p H4 H5:=aI.of_eq e5;let h7:=k5 _ _ wp a';let b1:=k5 _ _ h0 a5;let b2:=h5.mono (k5.tm B4);erw[#[1122,?_]];erw[f1 _ _ ?_];show cw (dI _ _) _ D' _ _;erw[iF λF2 f2=>?_];erw[#[12121212,W,12,aJ.of h7,λs1 n'=>?_]];erw[#[12121212,W,12,aJ.of$ aq h7 n',λs2 b3=>?_]];let L1:=qH ys (δ (8+D)) (δ 14);let L0:=qH ys (δ 8) (δ (8+D));let L3:=zC (ys.map vr) (δ (8+D)) (δ 14);let L4:=zC (ys.map vr) (δ 8) (δ (8+D));rw[Rs]at L3 L4;erw[#[s1,s2,1122,aq jc b3,jc,PL,λrl c6=>?_]];erw[f2 _ _ ?_];let er:aQ (ys.map vr) (δ (8+D)) (δ 14)++aQ (ys.map vr) (δ 8) (δ (8+D))=(bL ys (δ (8+D)) (δ 14)++bL ys (δ 8) (δ (8+D))).map vr:=by rw[zS,zS,RU]
  let s6:aa H5 (af (af (af H5 s1$ .lst$ aQ (ys.map vr) (δ (8+D))$ δ 14) s2$ .lst$ aQ (ys.map vr) (δ 8)$ δ (8+D)) rl$ .lst$ aQ (ys.map vr) (δ (8+D)) (δ 14)++aQ (ys.map vr) (δ 8) (δ (8+D))):=((je n').trans$ je b3).trans (je c6);let r6:af (af (af H5 s1$ .lst$ aQ (ys.map vr) (δ (8+D))$ δ 14) s2$ .lst$ aQ (ys.map vr) (δ 8)$ δ (8+D)) rl (.lst$ aQ (ys.map vr) (δ (8+D)) (δ 14)++aQ (ys.map vr) (δ 8) (δ (8+D))) rl=δ (.lst ((bL ys (δ (8+D)) (δ 14)++bL ys (δ 8) (δ (8+D))).map vr)):=by rw[jc,er]
  let B6:ax (af (af (af H5 s1$ .lst$ aQ (ys.map vr) (δ (8+D))$ δ 14) s2$ .lst$ aQ (ys.map vr) (δ 8)$ δ (8+D)) rl$ .lst$ aQ (ys.map vr) (δ (8+D)) (δ 14)++aQ (ys.map vr) (δ 8) (δ (8+D))) p:=((B5.upd_new n').upd_new b3).upd_new c6;generalize af (af (af H5 s1$ .lst$ aQ (ys.map vr) (δ (8+D))$ δ 14) s2$ .lst$ aQ (ys.map vr) (δ 8)$ δ (8+D)) rl (.lst$ aQ (ys.map vr) (δ (8+D)) (δ 14)++aQ (ys.map vr) (δ 8) (δ (8+D)))=H6 at s6 r6 B6;let LR:(bL ys (δ (8+D)) (δ 14)++bL ys (δ 8) (δ (8+D))).length<=40:=by rw[Ru];omega
  generalize bL ys (δ (8+D)) (δ 14)++bL ys (δ 8) (δ (8+D))=r0 at r6 LR;let c9:=s6 _ _ h7;let h8:=s6 _ _ b1;let ei:(0:Int)+(i:Int)=(i:Int):=Int.zero_add _;rw[ei];symm;obtain⟨y,b4⟩:∃y,ys[i]?=δ y:=#[_,Rq (PL:i < ο ys)];let hy:=RL b4;let a4:eW (ys.map vr) (i:Int)=δ (.str y):=jE (by rw[RP,b4];rfl);let rp:rl≠p:=qE B6 r6;erw[#[12,.inl #[21,aJ.of h8],1212,W,11122,aJ.of c9,a4,121212,p,m,Z,B6,PL,PL,λd7 H7 d0 d4 B7 e7=>?_]];let k7:aI p H6 H7:=aI.of_eq e7;erw[#[12,rl,12,aJ.of$ k7 _ _ rp r6,λs3 c'=>?_]];erw[#[s3,12,.inl #[aJ.of jc,λt nt=>#[cg,λr nr=>?_]]]];rw[zS]at nt nr ⊢;let L8:=BW (ss:=r0) d0;generalize bL r0 θ (δ d7)=ps at*;let s8:aa H7 (af (af (af H7 s3$ .lst$ ps.map vr) t$ .tup$ ps.map vr) r$ .tup [.str y,.ref t]):=((je c').trans$ je nt).trans (je nr);let t8:af (af (af H7 s3$ .lst$ ps.map vr) t$ .tup$ ps.map vr) r (.tup [.str y,.ref t]) t=δ (.tup$ ps.map vr):=aq jc nr;let r8:af (af (af H7 s3$ .lst$ ps.map vr) t$ .tup$ ps.map vr) r (.tup [.str y,.ref t]) r=δ (.tup [.str y,.ref t]):=jc;let B8:ax (af (af (af H7 s3$ .lst$ ps.map vr) t$ .tup$ ps.map vr) r$ .tup [.str y,.ref t]) p:=((B7.upd_new c').upd_new nt).upd_new nr;generalize af (af (af H7 s3$ .lst$ ps.map vr) t$ .tup$ ps.map vr) r (.tup [.str y,.ref t])=R at s8 t8 r8 B8;let d6:=s8 _ _ (k7 _ _ h0 h8);let g0:=s8 _ _ (k7 _ _ wp c9);let h4:=h5.len;erw[#[hl,1122,d6,PL,?_]];let tm:aj R (af R hl$ .lst$ hv++[.ref r]):=λb xs e=>by rw[ji$ jO e d6 BT];rwa[e]
  let g1:=((b2.mono$ aa.tm s6).mono$ k7.tm B6).mono (aa.tm s8);erw[f0 _ _ #[111,hs++[(y,ps)],12,jc,(g1.mono tm).snoc #[r,t,Z,tm _ _ r8,tm _ _ t8],by rw[Ru,c5];rfl,#[qI h6.1 #[C.1 y hy,by show ο ps<=6;omega],by rw[RU,h6.2,Ui,b4];rfl],by rw[ji wh];rwa[g0],B8.eq$ ji$ Sc h0,?_]];erw[aI.upd_own (λb o n e=>?_) n5];rwa[s8 _ _$ k7 _ _ n$ s6 _ _$ k5 _ _ n$ k4 _ _ n e]
 intro σ H4 l;symm;obtain⟨o6,o7,o8,hs,hv,rfl,a5,h5,c5,⟨h6,d8⟩,a',B4,k4⟩:=l;erw[m5 _ _ ?_];left;erw[iF λE6 m6=>?_];erw[#[121212,p,7,Z,B4,PM,PM,λD H5 f9 f' B5 e5=>?_]];let k5:aI p H4 H5:=aI.of_eq e5;let h7:=k5 _ _ wp a';let b1:=k5 _ _ h0 a5;let b2:=h5.mono (k5.tm B4);erw[#[112212,W,12,aJ.of h7,λsm n3=>?_]];erw[m6 _ _ ?_];left;erw[iF λE7 m7=>?_];symm;let(z1,z2):=wN (ys:=ys) (k:=14+D) c3 PL PL;let m6:af H5 sm (.lst$ aQ (ys.map vr) (δ 8)$ δ (14+D)) sm=δ (.lst ((bL ys (δ 8)$ δ (14+D)).map vr)):=by rw[jc,zS]
 let k6:aI p H (af H5 sm$ .lst$ aQ (ys.map vr) (δ 8)$ δ (14+D)):=(k4.trans k5).upd_new n3;let h8:=aq (o:=.lst (aQ (ys.map vr) (δ 8)$ δ (14+D))) b1 n3;let d':=b2.mono (aa.tm$ je (o:=.lst (aQ (ys.map vr) (δ 8)$ δ (14+D))) n3);let B6:=B5.upd_new (o:=.lst (aQ (ys.map vr) (δ 8)$ δ (14+D))) n3;right;generalize af H5 sm (.lst$ aQ (ys.map vr) (δ 8)$ δ (14+D))=H6 at m6 k6 h8 d' B6;generalize bL ys (δ 8) (δ (14+D))=zs at m6 z1 z2;let s':=qE B6 m6;erw[#[tP,λl2 b5=>?_]];erw[#[12,p,4,Z,B6.upd_new b5,PM,PM,λd7 H7 d0 d4 B7 e7=>?_]];let k7:aI p H6 H7:=((aI.refl).upd_new b5).trans (aI.of_eq e7);let l3:=B6.ne b5;let g2:H7 l2=δ (.lst [.int 3,.int 3,.int 3,.int 5]):=by rw[e7 l2 l3];rwa[jc]
 symm;let(dp,g4,g5,l',m'):=Cb d0 d4;erw[#[l2,11122,aJ.of g2,g4,?_]];erw[m7 _ _ ?_];left;erw[iF λE8 m8=>?_];let m7:=k7 _ _ s' m6;let b7:=k7 _ _ h0 h8;let g6:=d'.mono (k7.tm B6);let k9:=k6.trans k7;erw[#[RE _,λdl N=>?_]];erw[m8 _ _ ?_];left;erw[iF λE9 m9=>?_];let d3:=B7.ne N;let n6:H dl=θ:=by
  cases z:H dl with
  |none=>rfl
  |some o=>have:=k9 _ _ d3 z;rw[N]at this;symm;cases this
 let e0:hl≠dl:=λe=>by rw[<- e,b7]at N;cases N
 let s5:sm≠dl:=λe=>by rw[<- e,m7]at N;cases N
 let o':=h5.len;erw[eG λJ j=>#[12,hl,Z,#[_,aJ.of$ aq b7 N],j _ _ ?_]];refine qi (K:=K) (a:=hl) (xs:=hv) (AK p W hl sm dl T X m dp zs hs hv H)
  #[1111111,[],[],Z,jc,22,#[(λc hc=>nomatch hc),Z],aq b7 N,g6.mono$ aa.tm$ je N,aq m7 N,B7.upd_new N,k9.upd_own n6,#[Z,(λi d n h=>nomatch h)]] ?_ ?_ ?_
 .intro i σ R _ l;symm;let(o6,o7,o8,o1,o2,o3,o4,ds,dv,rfl,h4,hD,h',x,hh,hd,b8,B8,k8,p0):=l;rwa[aJ.of hh]
 .intro D' _ i v σ R hx f0 Gq u l;symm;let(o6,o7,o8,o1,o2,o3,o4,ds,dv,rfl,h4,hD,h',x,hh,hd,b8,B8,k8,p0):=l;let p1:i < ο hv:=(ξ.mp hx).1;let(c,hc,q0,t0,rfl,w1,w2):=hd.at i v hx;erw[u ?_];let g7:=RL hc;let e4:=h6 c g7;erw[Pq λF6 f6=>#[q0,12,aC.of w1,21121122,f6 _ _ ?_]];show cw (dI _ _) _ D' _ _;sleep 3;erw[iF λF1 f1=>?_];erw[#[12,i8,λM n2=>?_]];erw[f1 _ _ ?_];show cw (dI _ _) _ D' _ _;erw[iF λF2 f2=>?_];erw[#[gU,λb0 n4=>?_]];erw[f2 _ _ ?_];left;show cw (IL _ _ _) _ D' _ _;erw[iF λF3 f3=>?_];let s9:aa R (af (af R M$ .lst [.int X]) b0$ .tup []):=(je n2).trans (je n4);let s4:eN (af (af R M$ .lst [.int X]) b0$ .tup []) M:=#[X,aq jc n4];let b9:af (af R M$ .lst [.int X]) b0 (.tup []) b0=δ (.tup []):=jc;let B9:ax (af (af R M$ .lst [.int X]) b0$ .tup []) p:=(B8.upd_new n2).upd_new n4;let e9:iO (af (af R M$ .lst [.int X]) b0$ .tup []) M=X:=JU (aq jc n4);generalize af (af R M$ .lst [.int X]) b0 (.tup [])=H9 at s9 s4 b9 B9 e9;let e6:H M=θ:=by
   cases z:H M with
   |none=>rfl
   |some o=>have:=k8 _ _ (B8.ne n2) z;rw[n2]at this;symm;cases this
  let g8:dl≠M:=λe=>by rw[<- e,h4]at n2;cases n2
  let G9:oY H9 p sm hl M zs hs:=#[B9,s9 _ _ b8,z1,z2,#[hv,s9 _ _ hh,hd.mono$ aa.tm s9],PL,PL,λc hc=>(h6 c hc).2,s4];erw[eG λJ j=>#[12,PM,PM,j _ _ ?_]];refine kn (lo:=0) (AL hs zs p W hl sm dl t0 M T X m dp o7 o8 c H9)
   #[_,b0,.nil,[],Z,b9,Z,(by rw[e9];exact#[by show((0:Nat):Int)+_<=_;omega,f4]),rC,B9,s4,bg.refl] ?_ ?_
  .intro D0 _ j σ G hj fin2 Gq u l;symm;let(o9,bb,Bb,bs,rfl,b',a0,a1,I,B',U,L):=l;erw[u ?_];let G0:=G9.but2 B' U L;erw[#[121212121212,p,sm,hl,M,dp,zs,hs,Z,G0,g5,a1.2,λr b p2 H0 uL a3 i0 c0 c1 a2 S k'=>?_]];let tm:=k'.tm B' U;let lb:=a0.len;let p3:=a3.len;symm;let(i1,i2):=a1;erw[#[bb,r,1122,tm _ _ b',uL,PL,λr2 H' e8 s0=>?_]];let i3:ax H' p:=by let(a,b,h1,h2,h3,h):=a2.ob;exact#[a,b,h1,h2,h3,s0 _ _ h]
   let s7:eN H' M:=by let(z,hz):=S;exact#[z,s0 _ _ hz]
   erw[fin2 _ _ #[_,r2,Bb.app b,12,e8,(a3.mono$ aa.tm s0).app ((a0.mono tm).mono$ aa.tm s0),?_,rB I c1,i3,s7,L.trans$ k'.trans$ bg.of_same s0]];rw[j9,kL S s0];exact#[PL,c0]
  .intro σ G l;symm;let(o9,bb,Bb,bs,rfl,b',a0,a1,I,B',U,L):=l;erw[f3 _ _ ?_];left;let O:G dl=δ (.lst dv):=L _ _ d3 g8 (s9 _ _ h4);let G0:=G9.but2 B' U L;let t3:aj R G:=λb xs e=>L.tm B9 s4 _ _ (s9 _ _ e);erw[#[12,.inl #[21,aJ.of O],121212,ie,λr nr=>?_]];let S:aa G (af G r$ .tup [.str c.1,.ref t0,.ref bb]):=je nr;let i4:=hD.len;let e':Bb.size<=40:=by let(i1,i2):=a1;omega
   erw[#[dl,1122,S _ _ O,PL,?_]];let uL:af G r (.tup [.str c.1,.ref t0,.ref bb]) r=δ (.tup [.str c.1,.ref t0,.ref bb]):=jc;let a2:=B'.upd_new (o:=.tup [.str c.1,.ref t0,.ref bb]) nr;generalize af G r (.tup [.str c.1,.ref t0,.ref bb])=H0 at S uL a2;let tm:aj H0 (af H0 dl$ .lst$ dv++[.ref r]):=λb xs e=>by rw[ji$ jO e (S _ _ O) BT];rwa[e]
   let t2:aj G (af H0 dl$ .lst$ dv++[.ref r]):=λb xs e=>tm _ _ (S _ _ e);let t1:aj R (af H0 dl$ .lst$ dv++[.ref r]):=λb xs e=>t2 _ _ (t3 _ _ e);erw[f0 _ _ #[1111111,ds++[#[c.1,r,t0,bb,Bb]],12,jc,(hD.mono t1).snoc #[bs,Z,tm _ _ uL,t2 _ _ b',a0.mono t2],by rw[Ru,h'];rfl,#[qI x.1 #[#[#[zs,z2,I.1.1],Tc I.2 PL,RM e' PM],I.1.2],by rw[RU,x.2,Ui,RP,hc];rfl],?_,hd.mono t1,?_,a2.eq$ ji$ Sc d3,?_,(by rw[Ui,RP,hc];exact(p0.mono t1).snoc (d:=#[c.1,r,t0,bb,Bb]) (t1 _ _ w2) (RM e4.2 PM))]]
   .symm;let(p4,e1,e2):=G0.h;right;rw[ji e0];rwa[S _ _$ L _ _ G9.hsp.2 G9.hsp.1$ s9 _ _ hh]
   .rw[ji s5];rwa[S _ _ G0.g]
   .erw[aI.upd_own (λb o n e=>?_) n6];rwa[S _ _$ L _ _ n (jk e e6)$ s9 _ _$ k8 _ _ n e]
 .intro σ R l;symm;let(o6,o7,o8,o1,o2,o3,o4,ds,dv,rfl,h4,hD,h',x,hh,hd,b8,B8,k8,p0):=l;erw[m9 _ _ ?_];left;erw[#[12,dl,dv,Z,.inl #[aJ.of h4,λt nt=>?_]]];let nn:(ds.map Df.f).Nodup:=by
   rw[x.2,d8];erw[List.Nodup.sublist (TW _ _) ?_];let e:∀m,m<=8->ys.take m=(ys.take 8).take m:=λm hm=>by rw[List.take_take,TU hm]
   rw[e _ PL];rwa[C.2.sublist$ TW _ _]
  rwa[q t ds dv _ jc (hD.mono$ aa.tm$ je nt) PL (hs.map λc=>c.2.length) #[λd hd=>#[(x.1 d hd).1,by let e:=x.2;rw[Tx (by rw[Rs];omega)]at e;rw[e];let z:=(x.1 d hd).2;rw[show(hs.map λc=>(c.1,c.2.length))=(hs.map (·.1)).zip (hs.map λc=>c.2.length) by rw[List.zip_map']]at z;rwa[z]],nn,λy hy=>by rw[x.2,d8]at hy;rwa[C.1 y$ Sz$ Sz hy]] (by let z:=p0.mono (aa.tm$ je (o:=.tup dv) nt);rw[Tx (by rw[Rs];omega)]at z;rwa[z]) (B8.upd_new nt) (k8.upd_new nt)]
def gU:0<=υ:=PM
def i8:1<=υ:=PM
def cg:2<=υ:=PM
def ie:3<=υ:=PM
def tP:4<=υ:=PM
def aj.trans(a:aj H h)(b:aj h d):aj H d:=λc x e=>b c x (a c x e)
def aj.refl:aj H H:=λ_ _ e=>e
def ij(H:Hp)(y:xL ρ)(k:Nat)(a:ζ):Prop:=∃T,bK H T a/\T.Good y/\T.depth<=k
def ij.mono(h:ij H y k a)(m:aj H b):ij b y k a:=by let(T,c,d):=h;rwa[#[T,c.mono m,d]]
def ij.ok(h:ij H y k a)(m:k < 6):∃T,bK H T a/\em y T:=by let(T,b,c,d):=h;rwa[#[T,b,c,Tc d m]]
section
variable {Cf:iZ}{H:Hp}{ys:xL ρ}
def IU(h:H a=δ (.tup [.str "num",.int n]))(b:0<=n)(c:n < 1000000000000000000):ij H ys 0 a:=#[.num n,h,#[b,c],RE _]
def Zh(h:H a=δ (.tup [.str "var",.str x]))(b:x∈ys):ij H ys 0 a:=#[.var x,h,b,RE _]
def Sg(s:ρ):Prop:=∃i,i < 6/\s=Ot i
def Fg(h:H a=δ (.tup [.str "op",.str s,.ref b,.ref c]))(d:Sg s)(e:ij H ys j b)(f:ij H ys k c)(q:j < n)(r:k < n):ij H ys n a:=by let(i,g,rfl):=d;let(B,l,m,t):=e;let(C,o,p,u):=f;exact#[.op i B C,#[b,c,h,l,o],#[g,m,p],by show max B.depth C.depth+1<=n;omega]
def zd:Sg "+":=#[0,PM,PH]
def Yz:Sg "-":=#[1,PM,PH]
def YA:Sg "*":=#[2,PM,PH]
def sY:Sg "/":=#[3,PM,PH]
def qR:Sg "<":=#[4,PM,PH]
def EY:Sg "=":=#[5,PM,PH]
def Dj(h:0<=d)(a:d < 4):∃s,eW [vr "+",.str "+",.str "*",.str "-"] d=δ (.str s)/\Sg s:=by
 rcases(PL:d=0∨d=1∨d=2∨d=3) with rfl |rfl |rfl |rfl
 .exact#[12,zd]
 .exact#[12,zd]
 .exact#[12,YA]
 .exact#[12,Yz]
def Dh(h:0<=d)(a:d < 3):∃c,eW (Str.cps "<=*").toList d=δ c/\Sg #[(ε [c])]:=by
 rcases(PL:d=0∨d=1∨d=2) with rfl |rfl |rfl
 .exact#[12,qR]
 .exact#[12,EY]
 .exact#[12,YA]
def MH{P:ζ->Prop}(e:0<=d)(f:d < 2)(h:P a)(c:P b):∃x,eW [xm a,.ref b] d=↑x/\P x:=by
 rcases(PL:d=0∨d=1) with rfl |rfl
 .exact#[12,h]
 .exact#[12,c]
def MJ{P:ζ->Prop}(g:0<=d)(i:d < 3)(h:P a)(e:P b)(f:P c):∃x,eW [xm a,.ref b,.ref c] d=↑x/\P x:=by
 rcases(PL:d=0∨d=1∨d=2) with rfl |rfl |rfl
 .exact#[12,h]
 .exact#[12,e]
 .exact#[12,f]
def MK{P:ζ->Prop}(h:P a)(d:P b)(c:Bool):∃x,eW [xm a,.ref b] (if c then 1 else 0)=↑x/\P x:=by
 cases c
 .exact#[12,h]
 .exact#[12,d]
def dq(Cf:iZ)(H:Hp)(ys:xL ρ)(d:Nat)(v:V):Prop:=∃s,lv H v s/\(s.Ok ys/\s.Cs Cf)/\s.dep<=d/\s.size<=1+20*d
def iX(Cf:iZ)(H:Hp)(ys:xL ρ)(d:Nat)(x:xL V):Prop:=∃b,eP H b x/\(b.Ok ys/\b.Cs Cf)/\b.dep<=d/\b.size<=(1+20*d)*ο x
def dq.mono(h:dq Cf H ys d v)(m:aj H a):dq Cf a ys d v:=by let(s,b,c):=h;rwa[#[s,b.mono m,c]]
def iX.mono(h:iX Cf H ys d x)(m:aj H a):iX Cf a ys d x:=by let(s,b,c):=h;rwa[#[s,b.mono m,c]]
def dq.up(h:dq Cf H ys 0 v):dq Cf H ys d v:=by let(s,a,b,c,e):=h;rwa[#[s,a,b,PL,PL]]
def KY:iX Cf H ys d []:=#[.nil,Z,#[trivial,trivial],RE _,RE _]
def JV{xs:xL V}(h:iX Cf H ys d xs)(g:iX Cf H ys d z):iX Cf H ys d (xs++z):=by let(a,c,A,f,i):=h;let(b,e,B,j,k):=g;erw[#[a.app b,e.app c,#[KU A.1 B.1,KS A.2 B.2],by rw[zG];omega,?_]];rw[j9,Ru,Nat.mul_add];omega
def zO(h:dq Cf H ys d v):iX Cf H ys d [v]:=by let(s,a,b,c,e):=h;exact#[s,a.bd,b,c,by show s.size<=(1+20*d)*1;omega]
def jZ(h:dq Cf H ys d v)(g:iX Cf H ys d xs):iX Cf H ys d (v::xs):=JV (xs:=[v]) (zO h) g
def Q2{l:Lf}(h:H p=δ (.tup v))(a:BC H l v)(b:l.Ok ys)(c:l.Cs Cf):dq Cf H ys 0 (.ref p):=#[.lf p l .nil,.lf p l v h a,#[#[b,trivial],c,trivial],Rv 0,Rv 1]
def Na(h:H p=δ (.tup [.str "read",.str x,.ref t]))(a:x∈ys)(b:ij H ys k t)(c:↥(k < 6)):dq Cf H ys 0 (.ref p):=by let(T,d,e):=b.ok c;rwa[Q2 (l:=.rd x t T) h #[Z,d] #[a,e] trivial]
def Nb(h:H p=δ (.tup [.str "set",.str x,.ref t]))(a:x∈ys)(b:ij H ys k t)(c:↥(k < 6)):dq Cf H ys 0 (.ref p):=by let(T,d,e):=b.ok c;rwa[Q2 (l:=.st x t T) h #[Z,d] #[a,e] trivial]
def M9(h:H p=δ (.tup [.str "give",.ref t]))(a:ij H ys k t)(b:↥(k < 6)):dq Cf H ys 0 (.ref p):=by let(T,c,d):=a.ok b;rwa[Q2 (l:=.gv t T) h #[Z,c] d trivial]
def Nc(h:H p=δ (.tup [.str "write",.ref t,.ref u]))(a:ij H ys k t)(b:ij H ys j u)(c:↥(k < 6))(d:↥(j < 6)):dq Cf H ys 0 (.ref p):=by let(T,e,f):=a.ok c;let(U,g,i):=b.ok d;rwa[Q2 (l:=.wr t u T U) h #[Z,e,g] #[f,i] trivial]
def M8{f:ρ}(h:H p=δ (.tup [.str "call",.str x,.str f,.ref q]))(b:x∈ys)(a:(f,2)∈Cf)(d:H q=δ (.tup [.ref t,.ref u]))(e:ij H ys k t)(g:ij H ys j u)(i:↥(k < 6))(m:↥(j < 6)):dq Cf H ys 0 (.ref p):=by
 let(T,n,o):=e.ok i;let(U,r,s):=g.ok m;erw[Q2 (l:=.cl x f q [(t,T),(u,U)]) h #[Z,d,λc hc=>?_] #[b,(by show 2<=6;decide),λc hc=>?_] a]
 .rcases Ξ.mp hc with rfl |hc
  .rwa[n]
  .rw[τ.mp hc];rwa[r]
 .rcases Ξ.mp hc with rfl |hc
  .rwa[o]
  .rw[τ.mp hc];rwa[s]
def M'(h:H p=δ (.tup [.str "if",.ref t,.ref q,.ref Q]))(e:ij H ys k t)(f:H q=δ (.tup A))(g:H Q=δ (.tup B))(G:iX Cf H ys 0 A)(i:iX Cf H ys 0 B)(r:ο A+B.length<=20)(j:↥(k < 6)):dq Cf H ys 1 (.ref p):=by let(T,l,m):=e.ok j;let(a,n,c,s,u):=G;let(b,o,d,v,x):=i;exact#[.ite p t T a b .nil,.ite p t T a b q Q A B h l f g n o,#[#[m,c.1,d.1,trivial],c.2,d.2,trivial],(by show max (max a.dep b.dep+1) 0<=1;omega),(by show a.size+b.size+0+1<=21;omega)]
def AT(h:H p=δ (.tup [.str "while",.ref t,.ref q]))(c:ij H ys k t)(d:H q=δ (.tup A))(g:iX Cf H ys 0 A)(l:A.length<=20)(e:↥(k < 6)):dq Cf H ys 1 (.ref p):=by let(T,f,i):=c.ok e;let(a,j,b,m,n):=g;exact#[.loop p t T a .nil,.loop p t T a q A h f d j,#[#[i,b.1,trivial],b.2,trivial],(by show max (a.dep+1) 0<=1;omega),(by show a.size+0+1<=21;omega)]
def uf(Cf:iZ)(n:Nat)(H:Hp)(r:ζ)(f:ρ):Prop:=∃d:Df,Ec H d (.ref r)/\(n8 d/\d.b.Cs Cf)/\∃p:xL ρ,H d.pa=δ (.tup$ p.map vr)/\ο p=n/\d.f=f
def uf.mono(h:uf Cf n H r f)(m:aj H a):uf Cf n a r f:=by let(d,b,c,p,e,g):=h;rwa[#[d,b.mono m,c,p,m _ _ e,g]]
def Ep{f:ρ}{p:xL ρ}(h:H r=δ (.tup [.str f,.ref a,.ref b]))(d:H a=δ (.tup$ p.map vr))(e:ο p=n)(i:H b=δ (.tup x))(g:iX Cf H ys 1 x)(l:ο x<=100)(j:ys.length<=20):uf Cf n H r f:=by let(c,k,C,m,o):=g;exact#[#[f,r,a,b,c],#[x,Z,h,i,k],#[#[#[ys,j,C.1],(by show c.dep < 8;omega),(by show c.size<=3000;omega)],C.2],p,d,e,Z]
structure Wd(H0 H:Hp)(p wl:ζ)(ys:xL ρ):Prop where
 B:ax H p
 K:aI p H0 H
 w:H wl=δ (.lst$ ys.map vr)
def Wd.np(h:Wd b H p a ys):a≠p:=qE h.B h.w
def Wd.same(h:Wd a H p b ys)(s:aa H c):Wd a c p b ys:=#[h.B.same s,h.K.trans$ aI.of_same s,s _ _ h.w]
def Wd.but(h:Wd b H p c ys)(B:ax a p)(k:aI p H a):Wd b a p c ys:=#[B,h.K.trans k,k _ _ h.np h.w]
def Wd.own{xs:xL V}(h:Wd a H p b ys)(n:a l=θ)(L:l≠p)(c:l≠b):Wd a (af H l$ .lst z) p b ys:=#[h.B.eq$ ji$ Sc L,h.K.upd_own n,by rw[ji$ Sc c];rwa[h.w]]
def Xz(h:H l=δ (.lst x)):aj H (af H l$ .lst a):=λb u e=>by rw[ji$ jO e h BT];rwa[e]
end
inductive oO(d:xL V)(H:Hp)(Q:VK)(c:XK):Prop
 |mk(p a b:ζ)(e:xL ρ)(k:Nat)(_:d=[.ref p,.ref a,.ref b])(_:ax H p)(_:ij H e k a)(_:ij H e k b)(_:∀(r:ζ) (H':Hp),ij H' e (k+1) r->ax H' p->aI p H H'->Q (.ref r) H')
inductive dZ(n:Nat)(b:xL V)(H:Hp)(Q:VK)(a:XK):Prop
 |mk(p c:ζ)(f g:ρ)(d:xL ρ)(_:b=[.ref p,.str f,.str g,.ref c])(_:ax H p)(_:H c=δ (.lst (d.map vr)))(_:ο d=6)(_:∀(r:ζ) (H':Hp),uf [(g,2)] n H' r f->ax H' p->aI p H H'->Q (.ref r) H')
abbrev Oo:cc:=bX 69
abbrev pQ:cc:=bX 70
abbrev lB:cc:=bX 71
abbrev iA:cc:=bX 72
abbrev yZ:cc:=bX 73
def Mm{A:xL V}(h:ο A=5):∃a b c d e,A=[a,b,c,d,e]:=by
 cases A with
 |nil=>cases h
 |cons a r=>
  cases r with
  |nil=>cases h
  |cons b R=>
   cases R with
   |nil=>cases h
   |cons c f=>
    cases f with
    |nil=>cases h
    |cons d g=>
     cases g with
     |nil=>cases h
     |cons e i=>
      cases i with
      |nil=>exact#[a,b,c,d,e,Z]
      |cons _ _=>cases h
def Pg{n:Nat}:pK (n+1) 0=δ 0:=by unfold pK;rw[RB PM,RB PL];rfl
def Ph{n:Nat}:pK (n+2) 1=δ 1:=by unfold pK;rw[RB PM,RB PL];rfl
def gY:eW (v::u::y) 1=δ u:=jE (j:=1) Z
structure Fw(p:ζ)(H H':Hp):Prop where
 t:aj H H'
 b:aI p H H'
def Fw.refl:Fw p H H:=#[aj.refl,aI.refl]
def Fw.trans(a:Fw p H h)(b:Fw p h c):Fw p H c:=#[a.t.trans b.t,a.b.trans b.b]
def Fw.new{p:ζ}{H:Hp}{o:HO}(n:H r=θ):Fw p H (af H r o):=#[aa.tm$ je n,aI.of_same$ je n]
def Fw.same(s:aa H h):Fw p H h:=#[aa.tm s,aI.of_same s]
def Fw.but(B:ax H p)(c:aI p H h):Fw p H h:=#[c.tm B,c]
def mY(P:Hp->V->Prop):Prop:=∀H h v,aj H h->P H v->P h v
def Ev(a:Hp)(p W:ζ)(y:xL ρ)(b:Hp)(c:_L.St)(t:TE)(P:Hp->V->Prop):Prop:=∀(H:Hp) (Q:VK),Fw p b H->Wd a H p W y->(∀v h,P h v->Wd a h p W y->Fw p H h->Q v h)->t c H Q
def PT(y:xL ρ)(k:Nat)(H:Hp)(v:V):Prop:=∃a,v= .ref a/\ij H y k a
def PB(C:iZ)(y:xL ρ)(d n:Nat)(H:Hp)(v:V):Prop:=∃a x,v= .ref a/\H a=δ (.tup x)/\iX C H y d x/\ο x<=n
def PN(y:xL ρ)(_:Hp)(v:V):Prop:=∃x,v= .str x/\x∈y
def PG(_:Hp)(v:V):Prop:=∃s,v= .str s/\Sg s
def PP(n:Nat)(H:Hp)(v:V):Prop:=∃(a:ζ) (x:xL ρ),v= .ref a/\H a=δ (.tup$ x.map vr)/\ο x=n
def ui(y:ρ)(_:Hp)(v:V):Prop:=v= .str y
def PD(C:iZ)(n:Nat)(f:ρ)(H:Hp)(v:V):Prop:=∃a,v= .ref a/\uf C n H a f
section
variable {Cf:iZ}{ys:xL ρ}{H0 Hb:Hp}{p wl:ζ}{σ:_L.St}
def ar:mY (PT ys k):=λ_ _ _ m #[a,e,h]=>#[a,e,h.mono m]
def dG:mY (PB Cf ys d n):=λ_ _ _ m #[a,x,e,h,H,b]=>#[a,x,e,m _ _ h,H.mono m,b]
def fu:mY λH v=>dq Cf H ys d v:=λ_ _ _ m h=>h.mono m
def lg:mY (PD Cf n f):=λ_ _ _ m #[a,e,h]=>#[a,e,h.mono m]
def Ev.up{P R:Hp->V->Prop}(h:#[] t P)(k:∀H v,P H v->R H v):#[] t R:=λH Q m W q=>h H Q m W λv a x=>q v a (k _ _ x)
def jM{P:Hp->V->Prop}(e:σ[i]?=δ (δ v))(M:mY P)(h:P Hb v):#[] (bn i) P:=λH Q m W q=>#[v,e,q v H (M _ _ _ m.t h) W .refl]
def zE(h:Sg s):#[] (tC$ .str s) PG:=λH Q m W q=>q _ H #[s,Z,h] W .refl
def kh{K:Ψ}(e:σ[j]?=δ (↑wl))(a:0<=i)(b:i < (ys.length:Int)):#[] (fb (lK K) (bn j)$ tC$ .int i) (PN ys):=λH Q m W q=>by let(y,c,h):=KR (ys:=ys) a b;exact#[_,e,wl,11122,aJ.of W.w,h,q _ H #[y,Z,c] W .refl]
def kH{Q:VK}{P:Hp->V->Prop}(W:Wd H0 H p wl ys)(q:∀v h,P h v->Wd H0 h p wl ys->Fw p H h->Q v h)(n:H r=θ)(x:aj H (af H r o)->af H r o r=δ o->P (af H r o) (.ref r)):Q (.ref r) (af H r o):=
 q _ _ (x (aa.tm$ je n) jc) (W.same$ je n) (.new n)
abbrev wb(n:Int):TE:=fj aZ [] E0 (ap (bn 0)$ ap (tC$ .int n) aS)
def PK(n:Int)(_:Hp)(v:V):Prop:=∃d:Int,v= .int d/\0<=d/\d < n
def kr(e:σ[0]?=δ (↑p))(h:1<=n)(c:n<=1000):#[] (wb n) (PK n):=λH Q m W q=>
 #[_,e,p,n,Z,W.B,PL,PL,λd f D a b E=>q _ _ #[d,Z,D,a] (W.but b$ aI.of_eq E) (.but W.B$ aI.of_eq E)]
def ky(h:#[] t (PK n))(g:n<=1000000000000000000):#[] (bV$ ap (tC$ .str "num")$ ap t aS) (PT ys 0):=λH Q m W q=>
 h H _ m W λv i #[d,e,D,j] a b=>#[cg,λr N=>kH (P:=PT ys 0) a (λV c x f k=>q V c x f (b.trans k)) N λ_ z=>#[r,Z,IU (by rw[z,e]) D PL]]
def QK(h:0<=n)(a:n < m):#[] (tC$ .int n) (PK m):=λH Q _ W q=>q _ H #[n,Z,h,a] W .refl
def Je(h:#[] t (PK n))(c:0<=m):#[] (fb (Bv λi j=>xb (i+j)) (tC$ .int m) t) (PK$ m+n):=λH Q M W q=>
 h H _ M W λv a #[d,e,D,f] b k=>#[m,d,Z,e,q _ a #[m+d,Z,PL,PL] b k]
def J8(h:#[] t (PN ys)):#[] (bV$ ap (tC$ .str "var")$ ap t aS) (PT ys 0):=λH Q m W q=>
 h H _ m W λv i #[d,e,a] b c=>#[cg,λr n=>kH (P:=PT ys 0) b (λV f x g k=>q V f x g (c.trans k)) n λ_ z=>#[r,Z,Zh (by rw[z,e]) a]]
def zq{n:Nat}(h:#[] T PG)(f:#[] g (PT ys j))(i:#[] l (PT ys k))(o:j < n)(u:k < n):#[] (bV$ ap (tC$ .str "op")$ ap T$ ap g$ ap l aS) (PT ys n):=λH Q m W q=>
 h H _ m W λM v #[s,E,X] y c=>f v _ (m.trans c) y λO A #[a,B,C] D d=>i A _ ((m.trans c).trans d) D λR S #[b,F,G] I e=>#[tP,λr N=>kH (P:=PT ys n) I (λV J x L k=>q V J x L (((c.trans d).trans e).trans k)) N λt z=>
  #[r,Z,Fg (by rw[z,E,B,F]) X ((C.mono e.t).mono t) (G.mono t) o u]]
def Mc(e:σ[0]?=δ (↑p)):#[] (fb yS (tC$ .str "<=*")$ wb 3) PG:=λH Q m W q=>
 kr e PM PM H _ m W λv h #[d,E,D,a] b k=>by let(g,i,x):=Dh D a;exact#["<=*",d,g,Z,E,PH,i,q _ h #[12,x] b k]
def Z4{K:Ψ}(e:σ[0]?=δ (↑p))(r:#[] T (PT ys k))(s:#[] u (PT ys k)):#[] (fb (lK K) (nV$ ap T$ ap u aS)$ wb 2) (PT ys k):=λH Q m W q=>
 r H _ m W λV y #[a,E,X] z c=>s y _ (m.trans c) z λA C #[b,D,F] h f=>#[cg,λl n=>kr e PM PM _ _ (((m.trans c).trans f).trans$ .new n) (h.same$ je n) λv G #[d,I,J,L] M j=>by
  let(g,i,x):=MH (P:=ij C ys k) J L (X.mono f.t) F;rw[<- E,<- D]at i;let t:=(Fw.new (p:=p) (o:=HO.lst [V,A]) n).trans j;exact#[l,_,d,12,I,aJ.of$ j.b _ _ (h.B.ne n) jc,i,q _ G #[g,Z,x.mono t.t] M ((c.trans f).trans t)]]
def Eu{K:Ψ}(e:σ[0]?=δ (↑p))(u:#[] T (PT ys k))(y:#[] z (PT ys k))(A:#[] C (PT ys k)):#[] (fb (lK K) (nV$ ap T$ ap z$ ap C aS)$ wb 3) (PT ys k):=λH Q m W q=>
 u H _ m W λV D #[a,E,X] F f=>y D _ (m.trans f) F λG I #[b,J,L] M h=>A I _ ((m.trans f).trans h) M λN O #[c,R,S] r j=>#[ie,λl n=>kr e PM PM _ _ ((((m.trans f).trans h).trans j).trans$ .new n) (r.same$ je n) λv U #[d,Y,d0,d1] W4 s=>by
  let(g,i,x):=MJ (P:=ij O ys k) d0 d1 (X.mono (h.trans j).t) (L.mono j.t) S;rw[<- E,<- J,<- R]at i;let t:=(Fw.new (p:=p) (o:=HO.lst [V,G,N]) n).trans s;exact#[l,_,d,12,Y,aJ.of$ s.b _ _ (r.B.ne n) jc,i,q _ U #[g,Z,x.mono t.t] W4 (((f.trans h).trans j).trans t)]]
def L9{K:Ψ}(e:σ[0]?=δ (↑p))(r:1<=n)(s:n<=1000)(u:#[] T (PT ys k))(y:#[] z (PT ys k)):#[] (fb (lK K) (nV$ ap T$ ap z aS)$ NK (λX H Q=>(∃i,X=[xb i]/\Q (xb i) H)∨∃k,X=[V.bl k]/\Q (xb (if k=μ then 1 else 0)) H)$ ap (fb MN (wb n)$ tC$ .int 0) aS) (PT ys k):=λH Q m W q=>
 u H _ m W λA C #[a,E,D] F c=>y C _ (m.trans c) F λG I #[b,J,L] h f=>#[cg,λl N=>kr e r s _ _ (((m.trans c).trans f).trans$ .new N) (h.same$ je N) λv M #[d,O,S,U] R j=>by
  subst O;erw[#[Z,.inr #[12,?_]]];let(g,i,x):=MK (P:=ij I ys k) (D.mono f.t) L _;rw[<- E,<- J]at i;let t:=(Fw.new (p:=p) (o:=HO.lst [A,G]) N).trans j;exact#[l,11122,aJ.of$ j.b _ _ (h.B.ne N) jc,i,q _ M #[g,Z,x.mono t.t] R ((c.trans f).trans t)]]
def KM(e:σ[0]?=δ (↑p))(h:#[] T (PT ys k))(g:#[] i (PT ys k)):#[] (fj oO [] E0$ ap (bn 0)$ ap T$ ap i aS) (PT ys$ k+1):=λH Q m W q=>
 #[_,e,h H _ m W λv j #[a,E,x] l d=>g j _ (m.trans d) l λV y #[b,n,X] c f=>#[p,a,b,ys,k,by rw[E,n];rfl,c.B,x.mono f.t,X,λr o s u C=>q _ o #[r,Z,s] (c.but u C) ((d.trans f).trans$ .but c.B C)]]
def Cd{w:ρ}{T a:TE}{A B R:Hp->V->Prop}(M:mY A)(d:mY B)(e:#[] T A)(f:#[] a B)(h:∀H r u v,H r=δ (.tup [.str w,u,v])->A H u->B H v->R H (.ref r)):#[] (bV$ ap (tC$ .str w)$ ap T$ ap a aS) R:=λH Q m W q=>
 e H _ m W λC g X i b=>f g _ (m.trans b) i λD E j l c=>#[ie,λr n=>kH (P:=R) l (λo s x y k=>q o s x y ((b.trans c).trans k)) n λt z=>h _ _ _ _ z (M _ _ _ t$ M _ _ _ c.t X) (d _ _ _ t j)]
def Oe{w:ρ}{T:TE}{A R:Hp->V->Prop}(M:mY A)(a:#[] T A)(h:∀H r u,H r=δ (.tup [.str w,u])->A H u->R H (.ref r)):#[] (bV$ ap (tC$ .str w)$ ap T aS) R:=λH Q m W q=>
 a H _ m W λf g X b c=>#[cg,λr n=>kH (P:=R) b (λv d x e k=>q v d x e (c.trans k)) n λt z=>h _ _ _ z (M _ _ _ t X)]
def FM{w:ρ}{T d e:TE}{A B C R:Hp->V->Prop}(M:mY A)(f:mY B)(g:mY C)(i:#[] T A)(j:#[] d B)(l:#[] e C)(h:∀H r u v x,H r=δ (.tup [.str w,u,v,x])->A H u->B H v->C H x->R H (.ref r)):#[] (bV$ ap (tC$ .str w)$ ap T$ ap d$ ap e aS) R:=λH Q m W q=>
 i H _ m W λL n X o a=>j n _ (m.trans a) o λO s y D b=>l s _ ((m.trans a).trans b) D λS U E F c=>#[tP,λr N=>kH (P:=R) F (λG I x J k=>q G I x J (((a.trans b).trans c).trans k)) N λt z=>h _ _ _ _ _ z (M _ _ _ t$ M _ _ _ (b.trans c).t X) (f _ _ _ t$ f _ _ _ c.t y) (g _ _ _ t E)]
def Cz:mY (PN ys):=λ_ _ _ _ h=>h
def Jo{t T:TE}{k:Nat}(h:#[] t (PN ys))(b:#[] T (PT ys k))(c:k < 6):#[] (bV$ ap (tC$ .str "read")$ ap t$ ap T aS) (λH v=>dq Cf H ys 0 v):=Cd Cz ar h b λH r u v z #[x,e,d] #[a,E,f]=>Na (by rw[z,e,E]) d f c
def qV{t T:TE}{k:Nat}(h:#[] t (PN ys))(b:#[] T (PT ys k))(c:k < 6):#[] (bV$ ap (tC$ .str "set")$ ap t$ ap T aS) (λH v=>dq Cf H ys 0 v):=Cd Cz ar h b λH r u v z #[x,e,d] #[a,E,f]=>Nb (by rw[z,e,E]) d f c
def J9{t T:TE}{j k:Nat}(h:#[] t (PT ys j))(b:#[] T (PT ys k))(c:j < 6)(d:k < 6):#[] (bV$ ap (tC$ .str "write")$ ap t$ ap T aS) (λH v=>dq Cf H ys 0 v):=Cd ar ar h b λH r u v z #[x,e,f] #[a,E,g]=>Nc (by rw[z,e,E]) f g c d
def Ka{t:TE}{k:Nat}(h:#[] t (PT ys k))(b:k < 6):#[] (bV$ ap (tC$ .str "give")$ ap t aS) (λH v=>dq Cf H ys 0 v):=Oe ar h λH r v z #[a,e,c]=>M9 (by rw[z,e]) c b
def wX{n o T c:TE}{j k:Nat}(C:#[] n (PN ys)){f:ρ}(D:#[] o (ui f))(d:(f,2)∈Cf)(F:#[] T (PT ys j))(G:#[] c (PT ys k))(I:j < 6)(J:k < 6):#[] (bV$ ap (tC$ .str "call")$ ap n$ ap o$ ap (bV$ ap T$ ap c aS) aS) (λH v=>dq Cf H ys 0 v):=by
 let' R:Hp->V->Prop:=λH v=>∃q a b,v= .ref q/\H q=δ (.tup [.ref a,.ref b])/\ij H ys j a/\ij H ys k b
 let M:mY R:=λ_ _ _ m #[q,a,b,e,g,L,i]=>#[q,a,b,e,m _ _ g,L.mono m,i.mono m];let N:#[] (bV$ ap T$ ap c aS) R:=λH Q m W q=>
  F H _ m W λv2 O #[a,E,X] S s=>G O _ (m.trans s) S λv3 H3 #[b,l,U] Y A=>#[cg,λr nr=>kH (P:=R) Y (λv' H' x W' k=>q v' H' x W' ((s.trans A).trans k)) nr λt z=>#[r,a,b,Z,by rw[z,E,l],(X.mono A.t).mono t,U.mono t]]
 rwa[FM Cz (B:=ui f) (λ_ _ _ _ h=>h) M C D N λH r u v x z #[y,e1,g] (E:v= .str f) #[q,a,b,l,i,h4,h5]=>M8 (f:=f) (by rw[z,e1,E,l]) g d i h4 h5 I J]
def Et{t T b:TE}{k n m:Nat}(h:#[] t (PT ys k))(c:#[] T (PB Cf ys 0 n))(d:#[] b (PB Cf ys 0 m))(e:k < 6)(s:n+m<=20):#[] (bV$ ap (tC$ .str "if")$ ap t$ ap T$ ap b aS) (λH v=>dq Cf H ys 1 v):=
 FM ar dG dG h c d λH r u v x z #[a,E,f] #[Q,X,g,i,j,y] #[A,B,l,o,q,C]=>M' (by rw[z,E,g,l]) f i o j q PL e
def xg{t T:TE}{k n:Nat}(h:#[] t (PT ys k))(b:#[] T (PB Cf ys 0 n))(c:k < 6)(i:n<=20):#[] (bV$ ap (tC$ .str "while")$ ap t$ ap T aS) (λH v=>dq Cf H ys 1 v):=
 Cd ar dG h b λH r u v z #[a,e,d] #[q,x,E,f,g,j]=>AT (by rw[z,e,E]) d f g PL c
def Er{d:Nat}:#[] (bV aS) (PB Cf ys d 0):=λH Q m W q=>#[gU,λr n=>kH (P:=PB Cf ys d 0) W q n λt z=>#[r,[],Z,z,KY,Rv 0]]
def KN(h:#[] T (λH v=>dq Cf H ys d v)):#[] (bV$ ap T aS) (PB Cf ys d 1):=λH Q m W q=>
 h H _ m W λf g X a b=>#[i8,λr n=>kH (P:=PB Cf ys d 1) a (λV c x e k=>q V c x e (b.trans k)) n λt z=>#[r,12,z,zO$ X.mono t,Rv 1]]
def Yd(h:#[] T (λH v=>dq Cf H ys d v))(c:#[] e (λH v=>dq Cf H ys d v)):#[] (bV$ ap T$ ap e aS) (PB Cf ys d 2):=λH Q m W q=>
 h H _ m W λs f X g a=>c f _ (m.trans a) g λu y i j b=>#[cg,λr n=>kH (P:=PB Cf ys d 2) j (λV l x o k=>q V l x o ((a.trans b).trans k)) n λt z=>#[r,12,z,jZ ((X.mono b.t).mono t)$ zO$ i.mono t,Rv 2]]
def Z5(h:#[] T (λH v=>dq Cf H ys d v))(e:#[] f (λH v=>dq Cf H ys d v))(g:#[] i (λH v=>dq Cf H ys d v)):#[] (bV$ ap T$ ap f$ ap i aS) (PB Cf ys d 3):=λH Q m W q=>
 h H _ m W λC j X l a=>e j _ (m.trans a) l λD n o s b=>g n _ ((m.trans a).trans b) s λE F u y c=>#[ie,λr N=>kH (P:=PB Cf ys d 3) y (λV A x B k=>q V A x B (((a.trans b).trans c).trans k)) N λt z=>#[r,12,z,jZ ((X.mono (b.trans c).t).mono t)$ jZ ((o.mono c.t).mono t)$ zO$ u.mono t,Rv 3]]
def Jf(h:#[] T (PB Cf ys d n))(e:#[] f (PB Cf ys d m))(B:n+m<=100):#[] (fb yR T f) (PB Cf ys d$ n+m):=λH Q M W q=>
 h H _ M W λV g #[a,x,E,i,X,L] j c=>e g _ (M.trans c) j λC D #[b,z,l,o,u,F] v k=>#[a,b,x,z,E,l,k.t _ _ i,o,RM (show ο x+ο z<=100 by omega) PM,λr y A s=>q _ y #[r,12,A,JV ((X.mono k.t).mono$ aa.tm s)$ u.mono$ aa.tm s,by rw[Ru];omega] (v.same s) ((c.trans k).trans$ .same s)]
def Q3(e:σ[i]?=δ (δ$ .str x)):#[] (bn i) (ui x):=jM e (λ_ _ _ _ h=>h) Z
def Q4(h:#[] T (ui f))(g:#[] i (PP m))(j:#[] l (PB Cf ys 1 n))(O:n<=100)(o:ys.length<=20):#[] (bV$ ap T$ ap i$ ap l aS) (PD Cf m f):=λH Q M W q=>
 h H _ M W λv s (E:v= .str f) u c=>g s _ (M.trans c) u λR y #[a,S,A,B,L] C d=>j y _ ((M.trans c).trans d) C λU Y #[b,xs,D,F,X,l4] G e=>#[ie,λr N=>kH (P:=PD Cf m f) G (λV I x J k=>q V I x J (((c.trans d).trans e).trans k)) N λt z=>
  #[r,Z,Ep (f:=f) (by rw[z,E,A,D]) (t _ _$ e.t _ _ B) L (t _ _ F) (X.mono t) PL o]]
def Ye(h:#[] T (PN ys)):#[] (bV$ ap T aS) (PP 1):=λH Q m W q=>
 h H _ m W λV f #[X,e,_] a b=>#[i8,λr n=>kH (P:=PP 1) a (λv c x d k=>q v c x d (b.trans k)) n λt z=>#[r,[X],Z,by rw[z,e];rfl,Z]]
def Ew(h:#[] T (PN ys))(b:#[] c (PN ys)):#[] (bV$ ap T$ ap c aS) (PP 2):=λH Q m W q=>
 h H _ m W λV d #[X,e,_] f a=>b d _ (m.trans a) f λs u #[g,E,_] i j=>#[cg,λr n=>kH (P:=PP 2) i (λv l x o k=>q v l x o ((a.trans j).trans k)) n λt z=>#[r,[X,g],Z,by rw[z,e,E];rfl,Z]]
def dq.lift(h:dq Cf H ys 0 v):dq Cf H ys 1 v:=h.up
def PB.lift(h:PB Cf ys 0 n H v):PB Cf ys 1 n H v:=let #[a,x,e,c,#[b,B,d,g,i],f]:=h;#[a,x,e,c,#[b,B,d,PL,PL],f]
def PB.more(h:PB Cf ys d n H v)(k:n<=m):PB Cf ys d m H v:=by let(a,x,e,b,c,f):=h;rwa[#[a,x,e,b,c,RM f k]]
def Jp{a b:TS}(W:Wd H0 H p wl ys)(e:σ[0]?=δ (↑p))(g:1<=n)(i:n<=1000)(j:∀h,Wd H0 h p wl ys->Fw p H h->a D σ h)(l:∀h,Wd H0 h p wl ys->Fw p H h->b D σ h):lh (mX$ fb MN (wb n)$ tC$ .int 0) a b D σ H:=
 kr (Hb:=H) e g i H _ .refl W λv c #[d,E,m,o] f k=>by subst E;exact#[212,cn (λ_=>j c f k) (λ_=>l c f k)]
def jS{D:bp}{P:Hp->V->Prop}(W:Wd H0 H p wl ys)(h:Ev H0 p wl ys H σ t P)(q:∀v a,P a v->Wd H0 a p wl ys->Fw p H a->D.nx (σ.set i$ δ v) a):dI t (bf i) D σ H:=h H _ .refl W q
def KZ{D:bp}{P:Hp->V->Prop}(W:Wd H0 H p wl ys)(h:Ev H0 p wl ys H σ t P)(q:∀v a,P a v->Wd H0 a p wl ys->D.rt v a):ig t D σ H:=h H _ .refl W λv a x b _=>q v a x b
def DP{K:Ψ}{D:bp}(W:Wd H0 H p wl ys)(d:Ev H0 p wl ys H σ T (PT ys 0))(e:Ev H0 p wl ys H σ f (PT ys 0))(g:Ev H0 p wl ys H σ l (PT ys 0))
  (q:∀u v w h,PT ys 0 h u->PT ys 0 h v->PT ys 0 h w->Wd H0 h p wl ys->Fw p H h->D.nx (((σ.set k$ δ w).set j$ δ v).set i$ δ u) h):Fb K (bV$ ap T$ ap f$ ap l aS) i j k D σ H:=
 d H _ .refl W λV m x o a=>e m _ a o λs y X z b=>g y _ (a.trans b) z λA E B C c=>#[ie,λr n=>#[r,1112,aC.of jc,q V s A _ (ar _ _ _ (aa.tm$ je n)$ ar _ _ _ (b.trans c).t x) (ar _ _ _ (aa.tm$ je n)$ ar _ _ _ c.t X) (ar _ _ _ (aa.tm$ je n) B) (C.same$ je n) (((a.trans b).trans c).trans$ .new n)]]
structure Ow(H0 H:Hp)(p wl l:ζ)(xs:xL V):Prop where
 hl:H l=δ (.lst xs)
 np:l≠p
 lw:l≠wl
 l0:H0 l=θ
def Ow.fw(o:Ow H0 H p wl l x)(k:Fw p H h):Ow H0 h p wl l x:=#[k.b _ _ o.np o.hl,o.np,o.lw,o.l0]
def Ow.new(W:Wd H0 H p wl ys)(n:H l=θ):Ow H0 (af H l$ .lst x) p wl l x:=#[jc,W.B.ne n,(λe=>by let z:=W.w;rw[<- e,n]at z;cases z),W.K.none W.B n]
def MF{D:bp}(W:Wd H0 H p wl ys)(b:Ev H0 p wl ys H σ t (λH v=>dq Cf H ys 0 v))(q:∀l v h,Ow H0 h p wl l [v]->dq Cf h ys 0 v->Wd H0 h p wl ys->Fw p H h->D.nx (σ.set i$ ↑l) h):dI (nV$ ap t aS) (bf i) D σ H:=
 b H _ .refl W λV c x a k=>#[i8,λl n=>q l V _ (.new a n) (x.mono$ aa.tm$ je n) (a.same$ je n) (k.trans$ .new n)]
def MG{D:bp}(W:Wd H0 H p wl ys)(c:Ev H0 p wl ys H σ T (λH v=>dq Cf H ys 0 v))(d:Ev H0 p wl ys H σ e (λH v=>dq Cf H ys 0 v))(q:∀l u v h,Ow H0 h p wl l [u,v]->dq Cf h ys 0 u->dq Cf h ys 0 v->Wd H0 h p wl ys->Fw p H h->D.nx (σ.set i$ ↑l) h):dI (nV$ ap T$ ap e aS) (bf i) D σ H:=
 c H _ .refl W λV f x g k=>d f _ k g λj m X a b=>#[cg,λl n=>q l V j _ (.new a n) ((x.mono b.t).mono$ aa.tm$ je n) (X.mono$ aa.tm$ je n) (a.same$ je n) ((k.trans b).trans$ .new n)]
def JW{K:Ψ}{D:bp}(W:Wd H0 H p wl ys)(a:σ[i]?=δ (↑l))(o:Ow H0 H p wl l xs)(b:ο xs<=100)(c:Ev H0 p wl ys H σ T (λH v=>dq Cf H ys 0 v))
  (q:∀v h,dq Cf h ys 0 v->Ow H0 h p wl l (xs++[v])->Wd H0 h p wl ys->aj H h->D.nx σ h):tS (Oz K "list" nj (bn i)$ ap T aS) D σ H:=
 #[_,a,.inl #[21,aJ.of o.hl],c H _ .refl W λv e x d k=>#[l,xs,v,22,(o.fw k).hl,Tc b PM,q v _ (x.mono$ Xz (o.fw k).hl) #[jc,o.np,o.lw,o.l0] (d.own (xs:=xs) o.l0 o.np o.lw) (k.t.trans$ Xz (o.fw k).hl)]]
def DY{K:Ψ}{D:bp}(W:Wd H0 H p wl ys)(h:σ[i]?=δ (↑l))(o:Ow H0 H p wl l (u::v::z))
  (q:∀a,Ow H0 a p wl l (v::u::z)->Wd H0 a p wl ys->aj H a->D.nx σ a):dI (bV$ ap (fb (lK K) (bn i)$ tC$ .int 1)$ ap (fb (lK K) (bn i)$ tC$ .int 0) aS) (uI K 2$ dj (FX (bn i) (tC$ .int 0) sK)$ dj (FX (bn i) (tC$ .int 1) sK) uH) D σ H:=
 #[_,h,l,11122,aJ.of o.hl,gY,_,h,l,11122,aJ.of o.hl,eQ,cg,λt N=>#[t,12,aC.of jc,21121,h,l,_,0,0,22,aq o.hl N,Pg (n:=ο z+1),1121,h,l,_,1,1,22,jc,Ph (n:=z.length),Z,
  q _ #[jc,o.np,o.lw,o.l0] (((W.same$ je N).own (xs:=u::v::z) o.l0 o.np o.lw).own (xs:=u::v::z) o.l0 o.np o.lw) (((aa.tm$ je N).trans$ Xz$ aq o.hl N).trans$ Xz jc)]]
def Ex{K:Ψ}{n:Nat}(e:σ[i]?=δ (↑l))(o:Ow H0 Hb p wl l x)(h:iX Cf Hb ys 0 x)(a:ο x<=n):#[] (NK (ze K)$ ap (bn i) aS) (PB Cf ys 0 n):=λH Q m W q=>
 #[_,e,l,x,Z,.inl #[aJ.of (o.fw m).hl,λr N=>kH (P:=PB Cf ys 0 n) W q N λt z=>#[r,x,Z,z,(h.mono m.t).mono t,a]]]
def Fy{D:bp}(W:Wd H0 H p wl ys)(u:σ[i]?=δ (↑l))(y:σ[j]?=δ (↑m))(o:Ow H0 H p wl l x)(O:Ow H0 H p wl m z)(C:ο x+ο z<=100)(E:iX Cf H ys 0 x)(F:iX Cf H ys 0 z)
  (G:Ev H0 p wl ys H σ T (λH v=>dq Cf H ys 0 v)) (I:Ev H0 p wl ys H σ J (λH v=>dq Cf H ys 0 v)) (q:∀r U h,Ow H0 h p wl r U->iX Cf h ys 0 U->ο U<=ο x+ο z+2->Wd H0 h p wl ys->Fw p H h->D.nx (σ.set i$ ↑r) h):
  dI (fb Do (fb Do (bn i)$ bn j)$ nV$ ap T$ ap J aS) (bf i) D σ H:=
 #[_,u,_,y,l,m,1122,o.hl,O.hl,RM C PM,λc n=>G _ _ (.new n) (W.same$ je n) λV L X M k=>I L _ ((Fw.new n).trans k) M λe R Q A s=>#[cg,λd N=>#[c,d,1122,aq ((k.trans s).b _ _ (W.B.ne n) jc) N,jc,by
  let:=aL;show(x++z).length+2<=υ;rw[Ru];omega,λr a=>q r _ _ (.new (A.same$ je N) a) (by
   let f:=(((Fw.new n).trans k).trans s).trans ((Fw.new (p:=p) (o:=HO.lst [V,e]) N).trans$ Fw.new (o:=HO.lst ((x++z)++[V,e])) a);let g:=(Fw.new (p:=p) (o:=HO.lst [V,e]) N).trans (Fw.new (o:=HO.lst ((x++z)++[V,e])) a);rwa[JV (JV (E.mono f.t)$ F.mono f.t)$ jZ ((X.mono s.t).mono g.t)$ zO$ Q.mono g.t]) (by rw[Ru,Ru];rwa[Rv _]) ((A.same$ je N).same$ je a) ((((Fw.new n).trans k).trans s).trans ((Fw.new N).trans$ Fw.new a))]]]
def rE{K:Ψ}{D:bp}(W:Wd H0 H p wl ys)(k:σ[3]?=δ (↑wl))(l:ο ys=6)
  (q:∀a b c d e g,PT ys 0 g a->PT ys 0 g b->PT ys 0 g c->PT ys 0 g d->PT ys 0 g e->Wd H0 g p wl ys->D.nx (((((σ.set 4$ δ a).set 5$ δ b).set 6$ δ c).set 7$ δ d).set 8$ δ e) g):
  dI (tQ (xI K$ Nl (yU K) (bn 3) nW$ mj$ tC$ xb 5) 1 [] (bf 0) mw$ bV$ ap (tC$ vr "var")$ ap (bn 0) aS) (NG K 5$ dj (bf 4)$ dj (bf 5)$ dj (bf 6)$ dj (bf 7)$ dj (bf 8) uH) D σ H:=by
 let B:=aL;erw[#[_,k,12,wl,12,aJ.of W.w,λs n=>?_]];let E:aQ (ys.map vr) θ (δ 5)=(ys.take 5).map vr:=by rw[show(5:Int)=((5:Nat):Int) from Z,LO (by rw[Rs];omega),Uq]
 let t:af H s (.lst$ aQ (ys.map vr) θ$ δ 5) s=δ (.lst ((ys.take 5).map vr)):=by rw[E];rwa[jc]
 let S:=je (o:=HO.lst (aQ (ys.map vr) θ$ δ 5)) n;generalize af H s (.lst$ aQ (ys.map vr) θ$ δ 5)=A at t S;erw[#[s,Z,#[_,aJ.of t],?_]];erw[J2 (K:=K) (a:=s) (xs:=(ys.take 5).map vr) (by rw[Rs,R0];omega) (λi j g=>ο j=i/\(∀v∈j,PT ys 0 g v)/\aa A g) #[Z,(λ_ h=>absurd h R6),aa.refl _] (λi j g h=>#[aJ.of$ h.2.2 _ _ t,U0 h.1]) (λi x j g C h=>?_) (λj F h L N=>?_)]
 .let(y,l,rfl):=dn.mp (RL C);exact#[12,cg,λr u=>#[by rw[Ru,h.1];rfl,qI (λa z=>ar _ _ _ (aa.tm$ je u) (h.2.1 a z)) #[r,Z,Zh jc$ Sz l],h.2.2.trans$ je u]]
 .let e:=h.1;rw[Rs,R0]at e;let(a,b,c,d,f,rfl):=Mm (show ο j=5 by omega);let m:=aa.tm (je (o:=HO.lst [a,b,c,d,f]) N);exact#[L,12,aJ.of jc,21121121121121122,q a b c d f _ (ar _ _ _ m$ h.2.1 a PJ) (ar _ _ _ m$ h.2.1 b PJ) (ar _ _ _ m$ h.2.1 c PJ) (ar _ _ _ m$ h.2.1 d PJ) (ar _ _ _ m$ h.2.1 f PJ) (((W.same S).same h.2.2).same$ je N)]
end
def Op:am z19z z19z (ae Oo):=bP
def Mx(F:xD K "_law_op" Oo f t)(C:{1} T u z0z aZ "_law_take"):⇑2 f t z19z oO:=by
 erw[F.ok Op λv A O s H V Q E x h=>?_]
 let(p,a,b,y,k,rfl,B,z,D,q):=h;erw[#[_,%[Z|_fldanakurananananb C.e x.m _a0agbpa1a2b],?_]];erw[#[tP,λl n=>#[12,p,4,Z,B.upd_new n,PM,PM,λd G I J L j=>?_]]];let(s,c,M):=Dj I J;let g:aI p H G:=((aI.refl).upd_new n).trans (aI.of_eq j);erw[#[l,11122,aJ.of (by rw[j l$ B.ne n];rwa[jc]),c,1212,tP,λr N=>?_]];let S:=je (o:=HO.tup [.str "op",.str s,.ref a,.ref b]) N;rwa[q r _ (Fg jc M ((z.mono$ g.tm B).mono$ aa.tm S) ((D.mono$ g.tm B).mono$ aa.tm S) (Ti _)$ Ti _) (L.upd_new N)$ g.trans$ aI.of_same S]
def cy:am ["_law_box_here","_law_f","_law_g","_law_w","_law_x","_law_i","_law_y","_law_spot_here","_law_body_here","_law_deeper","_law_test","_law_early","_law_last"] z38z (ae pQ):=bP
def yr(F:xD K "_law_inner" pQ f fd)(I:{1} fT b8 z0z aZ "_law_take")(cO:{2} fO b9 z19z oO "_law_op"):⇑3 f fd z38z (dZ 2):=by
 erw[F.ok cy λc0 A o1 s H vs Q E l h=>?_]
 let(p,T,f0,g,Y,rfl,B,hw,h2,q):=h;erw[#[_,%[cy|_c (@Dk _ _ _ _ _ _ _ _ 4 5 6 Z cy.nd Z Z Z (ψ Z) (ψ Z) (ψ Z) %[cy|_dadanaku3gpbadanaku3gpbadanaku3gpbb] Ch Ch Ch Pz Pz) _ce7dananakura4a5b I.e l.m _a0agbpadana I.e l.m _a0agbbbce8dadanaku3gpa7bbcJmD I.e l.m _a0agbce7danana5adanaoδg I.e l.m _a0agbbbfe8oV8dadana7a cO.e l.m _a0a4a6bbbtcJmD I.e l.m _a0agbce9danaku3gpa2adadanana5adanagbba6bbfe8oV8dadana5ada9badbbbtcev 10 _danak JS _n I.e l.m _a0agbpa6adana I.e l.m _a0agbbbcev 11 _dana cO.e l.m _a0a4a6bbcev 12 _dana cO.e l.m _a0a6a5bbce8oV8dadanav 10 _adav 11 _badbbav 12 _bflda1adaku3gpaku3gpba8b],?_]];let W0:Wd H H p T Y:=#[B,aI.refl,hw];erw[ah λF1 f1=>DP W0 (J8$ kh Z PM PL) (J8$ kh Z PM PL) (J8$ kh Z PM PL) λvx vi vy J xx X U W1 k1=>f1 _ _ ?_];erw[ah λF2 f2=>jS W1 (zq (n:=1) (zE zd) (Z4 Z (jM Z ar xx)$ jM Z ar X) (ky (kr Z PM PM) PM) PM PM) λv2 H2 x2 W2 k2=>f2 _ _ ?_];erw[ah λF3 f3=>jS W2 (KN$ Jo (Cf:=[(g,2)]) (kh Z PM PL) (jM Z ar x2) PM) λv3 H3 x3 W3 k3=>f3 _ _ ?_];erw[ah λF4 f4=>eI (λL u=>∃(o:ym V) (b:V),L=[δ$ xm p,δ$ vr f0,δ$ vr g,δ$ xm T,δ$ vx,δ$ vi,δ$ vy,o,δ b,θ,θ,θ,θ]/\PB [(g,2)] Y 1 2 u b/\Wd H u p T Y/\aj H3 u) (λE4 _ f5=>Jp W3 Z PM PM (λH6 W6 k6=>?_) (λH6 W6 k6=>?_)) λσ0 H5 h0=>?_]
 .let C:aj J H6:=((k2.t.trans k3.t).trans k6.t);erw[ah λF7 f7=>jS W6 (zq (n:=1) (zE zd) (jM Z ar$ ar _ _ _ C X) (ky (Je (kr Z PM PM) PM) PM) PM PM) λv7 H7 x7 W7 k7=>f7 _ _ ?_];let D:aj H3 H7:=(k6.t.trans k7.t);let G:aj J H7:=(C.trans k7.t);erw[jS W7 (Jf (jM Z dG$ dG _ _ _ D x3) (KN$ J9 (Cf:=[(g,2)]) (jM Z ar x7) (KM Z (jM Z ar$ ar _ _ _ G xx)$ jM Z ar$ ar _ _ _ G U) PM PM) PM) λv8 H8 x8 W8 k8=>f5 _ _ ?_];let m0:aj H3 H8:=(D.trans k8.t);exact#[112,(PB.lift x8),W8,m0]
 .rwa[f5 _ _ #[112,(PB.more (PB.lift$ dG _ _ _ k6.t x3) PM),W6,k6.t]]
 let(o5,b5,rfl,x5,W5,k5):=h0;erw[f4 _ _ ?_];erw[ah λF9 f9=>eI (λL u=>∃(o:ym V) (b:V),L=[δ$ xm p,δ$ vr f0,δ$ vr g,δ$ xm T,δ$ vx,δ$ vi,δ$ vy,o5,δ b,o,θ,θ,θ]/\PB [(g,2)] Y 1 3 u b/\Wd H u p T Y/\aj H5 u) (λE9 _ f6=>Jp W5 Z PM PM (λH0 W k=>?_) (λH0 W k=>?_)) λσ1 H4 h1=>?_]
 .let M:aj J H0:=(((k2.t.trans k3.t).trans k5).trans k.t);erw[ah λF0 f8=>jS W (wX (Cf:=[(g,2)]) (kh Z PM PL) (Q3 Z) RN (zq (n:=1) (zE Yz) (jM Z ar$ ar _ _ _ M X) (ky (QK PM (PM:(1:Int) < 2)) PM) PM PM) (jM Z ar$ ar _ _ _ M U) PM PM) λv0 H9 x0 W4 k0=>f8 _ _ ?_];let c:aj H5 H9:=(k.t.trans k0.t);let N:aj J H9:=(M.trans k0.t);erw[jS W4 (Jf (jM Z dG$ dG _ _ _ c x5) (KN$ Et (jM Z ar$ ar _ _ _ N X) (KN$ jM Z fu x0) (Er (Cf:=[(g,2)]) (d:=0)) PM PM) PM) λv1 a2 x1 W9 k9=>f6 _ _ ?_];let O:aj H5 a2:=(c.trans k9.t);exact#[112,x1,W9,O]
 .rwa[f6 _ _ #[112,(PB.more (dG _ _ _ k.t x5) PM),W,k.t]]
 let(o2,b',rfl,x4,a3,k'):=h1;erw[f9 _ _ ?_];let i:aj J H4:=(((k2.t.trans k3.t).trans k5).trans k');erw[ah λF5 f'=>jS a3 (zq (n:=1) (Mc Z) (jM Z ar$ ar _ _ _ i U) (ky (kr Z PM PM) PM) PM PM) λv4 a0 x6 a4 k4=>f' _ _ ?_];let a:aj J a0:=(i.trans k4.t);erw[ah λF6 a5=>jS a4 (Ka (Cf:=[(g,2)]) (KM Z (jM Z ar$ ar _ _ _ a xx)$ jM Z ar$ ar _ _ _ a U) PM) λv5 a' x9 b0 R=>a5 _ _ ?_];let j:aj J a':=(a.trans R.t);erw[ah λF8 b1=>jS b0 (Ka (Cf:=[(g,2)]) (KM Z (jM Z ar$ ar _ _ _ j U)$ jM Z ar$ ar _ _ _ j X) PM) λv6 a1 x' b2 S=>b1 _ _ ?_];let y:aj H4 a1:=((k4.t.trans R.t).trans S.t);let z:aj a0 a1:=(R.t.trans S.t);erw[ah λc1 b3=>jS b2 (Jf (jM Z dG$ dG _ _ _ y x4) (Yd (Et (jM Z ar$ ar _ _ _ z x6) (KN$ jM Z fu$ fu _ _ _ S.t x9) (Er (Cf:=[(g,2)]) (d:=0)) PM PM)$ Ev.up (jM Z fu x') λ_ _=>dq.lift) PM) λv9 c2 b4 b7 c3=>b3 _ _ ?_];erw[KZ b7 (Q4 (Q3 Z) (Ew (kh Z PM PL)$ kh Z PM PL) (jM Z dG b4) PM PL) λv u x W'=>?_];let(r,rfl,x):=x;rwa[q r u x W'.B W'.K]
def bQ:am z42z z22z (ae lB):=bP
noncomputable def QY:ge:=#[.function,[(".0",.local),("_law_one",.local)],ν,ν,[]]
def ZV:(z6z:xL ρ).Nodup:=PH
def ZW:bh z42z (ae lB) QY z6z 1 []:=oi
def vj(F:xD K "_law_looped" lB f fd)(C:{1} fT d3 z0z aZ "_law_take")(cO:{2} fO d4 z19z oO "_law_op")(mi:mg "int"=θ)(m6:mg "tuple"=θ):⇑3 f fd z22z (dZ 1):=by
 erw[F.ok bQ λd5 A b1 s H vs Q E l h=>?_]
 symm;let(p,W,f0,g,Y,rfl,B,hw,h2,q):=h;erw[#[_,%[bQ|_cO (@za _ _ _ _ _ _ _ z6z 1 [] _ _ _ _ Z %[bQ|_SBσ3Uyg] ZW (λ_ _ _ _ _=>ju (i:=0) ZV Z$ ψ Z) (λ_ _ _ _ _=>@zw _) (λ_ _ _ _ _=>%[bQ|_dana0b]) Cv) (@XU _ _ _ _ 5 _ Z %[bQ|_qi4qi5qi6qi7qi8γ] Pz Pz) _ce9radanaku3gpadanana5adana C.e l.m _a0agbbbbbczCRαβX9adanaku3gpa2ada7akura5a6bE qT _j mi WY _a (Kt qB (C.e l.m %[bQ|_a0agb]) jf$ aG _) _bpbbbcJmD C.e l.m _a0agbcev 10 _danana5adanaoδg C.e l.m _a0agbbbfzCRαβX9adanav 10 _akura6a8a7b C.e l.m _a0agbpbbtczCRαβX9adanaku3gpa cO.e l.m _a0akura6a6a7b C.e l.m _a0agbpa8bbbcJmD C.e l.m _a0agbfOdaku9gpaku9gpbP (n:=2) _jq (Jc (pv 9) jf zQ) _q (Jc (pv 9) jf zQ) _γtczCRαβX9adanaku3gpadanana5adanagbbbbcev 11 _dadanaku3gpadana C.e l.m _a0agbbbadanaku3gpadana C.e l.m _a0agbbbbcJmD C.e l.m _a0agbcev 11 _oVv 11 _dadanaku3gpadanaoδg C.e l.m _a0agbbbbfev 11 _oVv 11 _dadanaku3gpadanana4adanagbbbbtcev 12 _danadanana5a4baEςj m6 _ξa9bbflda1adaku3gpbaoVv 11 _dav 12 _adanadanagba6badana6bbb],?_]];let W0:Wd H H p W Y:=#[B,aI.refl,hw];sleep 10;erw[ah λF1 f1=>rE W0 Z h2 λvn vi vs vx vy U xn xi xs xx xy W1=>f1 _ _ ?_];erw[ah λF2 f2=>MF W1 (Jo (Cf:=[(g,2)]) (kh Z PM PL) (zq (n:=1) (zE zd) (jM Z ar xi) (ky (kr Z PM PM) PM) PM PM) PM) λlb u2 H2 o2 x2 W2 k2=>f2 _ _ ?_];erw[ah λF3 f3=>JW W2 Z o2 (show 1<=100 by decide) (wX (Cf:=[(g,2)]) (kh Z PM PL) (Q3 Z) RN (jM Z ar$ ar _ _ _ k2.t xx) (L9 Z PM PM (jM Z ar$ ar _ _ _ k2.t xi)$ jM Z ar$ ar _ _ _ k2.t xs) PM PM) λu3 H3 x3 o3 W3 k3=>f3 _ _ ?_];erw[ah λF4 f4=>eI (λu c=>∃(o:ym V) (G:xL V),u=[δ$ xm p,δ$ vr f0,δ$ vr g,δ$ xm W,δ$ vn,δ$ vi,δ$ vs,δ$ vx,δ$ vy,δ$ xm lb,o,θ,θ]/\Ow H c p W lb (u2::u3::G)/\iX [(g,2)] c Y 0 G/\G.length<=1/\Wd H c p W Y/\aj H3 c) (λE4 _ f5=>Jp W3 Z PM PM (λH6 W6 k6=>?_) (λH6 W6 k6=>?_)) λσ2 H5 h3=>?_]
 .left;let o6:=o3.fw k6;let R:aj U H6:=((k2.t.trans k3).trans k6.t);erw[ah λF7 f7=>jS W6 (zq (n:=1) (zE zd) (jM Z ar$ ar _ _ _ R xi) (ky (Je (kr Z PM PM) PM) PM) PM PM) λv7 H7 x7 W7 k7=>f7 _ _ ?_];let o7:=o6.fw k7;let y:aj U H7:=(R.trans k7.t);erw[JW W7 Z o7 (show 2<=100 by decide) (J9 (Cf:=[(g,2)]) (jM Z ar x7) (Eu Z (jM Z ar$ ar _ _ _ y xs) (jM Z ar$ ar _ _ _ y xy)$ jM Z ar$ ar _ _ _ y xx) PM PM) λu8 H8 x8 o8 W8 k8=>f5 _ _ ?_];let m5:aj H3 H8:=((k6.t.trans k7.t).trans k8);exact#[_,[u8],Z,o8,zO x8,Rv 1,W8,m5]
 .left;let o6:=o3.fw k6;rwa[f5 _ _ #[_,[],Z,o6,KY,PM,W6,k6.t]]
 symm;let(w5,G,rfl,o5,zx,zl,W5,k5):=h3;erw[f4 _ _ ?_];left;let M:aj U H5:=((k2.t.trans k3).trans k5);erw[ah λF9 f9=>JW W5 Z o5 (show ο G+1+1<=100 by omega) (qV (Cf:=[(g,2)]) (kh Z PM PL) (KM Z (Eu Z (jM Z ar$ ar _ _ _ M xs) (jM Z ar$ ar _ _ _ M xs)$ jM Z ar$ ar _ _ _ M xx)$ jM Z ar$ ar _ _ _ M xy) PM) λu9 H9 x9 o9 W9 k9=>f9 _ _ ?_];let zy:iX [(g,2)] H9 Y 0 (G++[u9]):=JV (zx.mono k9) (zO x9);let zm:(G++[u9]).length<=2:=by rw[Ru];rwa[Ts zl]
 erw[ah λF0 I=>eI (λu c=>∃(X:xL V),u=[δ$ xm p,δ$ vr f0,δ$ vr g,δ$ xm W,δ$ vn,δ$ vi,δ$ vs,δ$ vx,δ$ vy,δ$ xm lb,w5,θ,θ]/\Ow H c p W lb X/\iX [(g,2)] c Y 0 X/\ο X<=4/\Wd H c p W Y/\aj H9 c) (λE1 _ S=>Jp W9 Z PM PM (λH0 W4 k=>?_) (λH0 W4 k=>?_)) λσ0 b2 h0=>?_]
 .left;let o1:=o9.fw k;erw[DY W4 Z o1 λH4 b3 b4 k0=>S _ _ ?_];let m0:aj H3 H4:=(((k5.trans k9).trans k.t).trans k0);let m1:aj H2 H4:=((((k3.trans k5).trans k9).trans k.t).trans k0);let z:aj H9 H4:=(k.t.trans k0);exact#[12,b3,jZ ((fu _ _ _ m0 x3))$ jZ ((fu _ _ _ m1 x2))$ zy.mono z,(show(G++[u9]).length+1+1<=4 by omega),b4,z]
 .left;let o1:=o9.fw k;let m2:aj H2 H0:=(((k3.trans k5).trans k9).trans k.t);let m3:aj H3 H0:=((k5.trans k9).trans k.t);rwa[S _ _ #[12,o1,jZ ((fu _ _ _ m2 x2))$ jZ ((fu _ _ _ m3 x3))$ zy.mono k.t,(show(G++[u9]).length+1+1<=4 by omega),W4,k.t]]
 symm;let(X,rfl,b5,ux,ul,b7,b8):=h0;erw[I _ _ ?_];left;let d:aj U b2:=((M.trans k9).trans b8);erw[ah λF5 f6=>JW b7 Z b5 PL (qV (Cf:=[(g,2)]) (kh Z PM PL) (zq (n:=1) (zE zd) (jM Z ar$ ar _ _ _ d xi) (ky (QK PM (PM:(1:Int) < 2)) PM) PM PM) PM) λu0 a1 x1 b9 b' k1=>f6 _ _ ?_];let b0:iX [(g,2)] a1 Y 0 (X++[u0]):=JV (ux.mono k1) (zO x1);let bl:(X++[u0]).length<=5:=by rw[Ru];rwa[Ts ul]
 erw[ah λF6 f8=>jS b' (Yd (qV (Cf:=[(g,2)]) (kh Z PM PL) (ky (kr Z PM PM) PM) PM)$ qV (Cf:=[(g,2)]) (kh Z PM PL) (ky (kr Z PM PM) PM) PM) λv0 a2 x0 c0 J=>f8 _ _ ?_];let o':=b9.fw J;erw[ah λF8 L=>eI (λu c=>∃(b:V),u=[δ$ xm p,δ$ vr f0,δ$ vr g,δ$ xm W,δ$ vn,δ$ vi,δ$ vs,δ$ vx,δ$ vy,δ$ xm lb,w5,δ b,θ]/\Ow H c p W lb (X++[u0])/\PB [(g,2)] Y 0 4 c b/\Wd H c p W Y/\aj a2 c) (λE2 _ T=>Jp c0 Z PM PM (λc1 a0 a=>?_) (λc1 a0 a=>?_)) λσ1 a3 h1=>?_]
 .left;let o4:=o'.fw a;erw[ah λd6 f'=>jS a0 (Jf (jM Z dG$ dG _ _ _ a.t x0) (KN$ Jo (Cf:=[(g,2)]) (kh Z PM PL) (ky (Je (kr Z PM PM) PM) PM) PM) PM) λv1 c2 x4 c3 k4=>f' _ _ ?_];let c4:=o4.fw k4;let m4:aj U c2:=((((d.trans k1).trans J.t).trans a.t).trans k4.t);erw[jS c3 (Jf (jM Z dG x4) (KN$ qV (Cf:=[(g,2)]) (kh Z PM PL) (zq (n:=1) (zE sY) (jM Z ar$ ar _ _ _ m4 xn) (ky (QK PM (PM:(2:Int) < 3)) PM) PM PM) PM) PM) λv2 c5 x5 c6 a4=>T _ _ ?_];let c9:=c4.fw a4;let N:aj a2 c5:=((a.t.trans k4.t).trans a4.t);exact#[12,c9,x5,c6,N]
 .left;let o4:=o'.fw a;rwa[T _ _ #[12,o4,(PB.more (dG _ _ _ a.t x0) PM),a0,a.t]]
 symm;let(d7,rfl,a5,x6,c',a'):=h1;erw[L _ _ ?_];left;let j:aj U a3:=(((d.trans k1).trans J.t).trans a');let O:aj a1 a3:=(J.t.trans a');erw[ah λd8 d0=>jS c' (xg (zq (n:=1) (zE qR) (jM Z ar$ ar _ _ _ j xi) (jM Z ar$ ar _ _ _ j xn) PM PM) (Ex (n:=5) Z a5 (b0.mono O) bl) PM PM) λv3 d1 x' d2 k'=>d0 _ _ ?_];let d':=a5.fw k';let D:aj U d1:=(j.trans k'.t);erw[KZ d2 (Q4 (Q3 Z) (Ye$ kh Z PM PL) (Jf (Ev.up (jM Z dG$ dG _ _ _ k'.t x6) λ_ _=>PB.lift) (Z5 (jM Z fu x') (Ev.up (J9 (Cf:=[(g,2)]) (ky (QK PM (PM:(30:Int) < 31)) PM) (jM Z ar$ ar _ _ _ D xs) PM PM) λ_ _=>dq.lift)$ Ev.up (Ka (Cf:=[(g,2)]) (jM Z ar$ ar _ _ _ D xs) PM) λ_ _=>dq.lift) PM) PM PL) λv c x W'=>?_];symm;let(r,rfl,x):=x;rwa[q r c x W'.B W'.K]
def N9(b:0<=d)(c:d < 2)(h:dq C H y 0 u)(a:dq C H y 0 v):iX C H y 0 (aQ [u,v] θ$ δ (1+d))/\(aQ [u,v] θ$ δ (1+d)).length<=2:=by
 rcases(PL:d=0∨d=1) with rfl |rfl
 .exact#[zO h,by show 1<=2;decide]
 .exact#[jZ h$ zO a,by show 2<=2;decide]
def P2(C:iZ)(y:xL ρ)(H:Hp)(w:V):Prop:=∃a u v,w= .ref a/\H a=δ (.tup [u,v])/\dq C H y 0 u/\dq C H y 0 v
def EH:mY (P2 C y):=λ_ _ _ m #[a,u,v,e,h,H,b]=>#[a,u,v,e,m _ _ h,H.mono m,b.mono m]
section
variable {Cf:iZ}{ys:xL ρ}{H0 Hb:Hp}{p wl:ζ}{σ:_L.St}
def FR(h:#[] T (λH v=>dq Cf H ys 0 v))(c:#[] d (λH v=>dq Cf H ys 0 v)):#[] (bV$ ap T$ ap d aS) (P2 Cf ys):=λH Q m W q=>
 h H _ m W λo e X f a=>c e _ (m.trans a) f λs u g i b=>#[cg,λr n=>kH (P:=P2 Cf ys) i (λV j x l k=>q V j x l ((a.trans b).trans k)) n λt z=>#[r,112,z,(X.mono b.t).mono t,g.mono t]]
def FN(e:σ[i]?=δ (δ v))(E:σ[0]?=δ (↑p))(h:P2 Cf ys Hb v):#[] (Nl HV (bn i) nW$ mj$ fb (Bv λi j=>xb (i+j)) (tC$ .int 1)$ wb 2) (PB Cf ys 0 2):=λH Q m W q=>
 #[v,e,kr E PM PM H _ m W λw y #[d,b,D,c] f k=>#[1,d,Z,b,12,by
  let(a,u,A,rfl,g,l,n):=EH _ _ _ (m.trans k).t h;let z:=N9 D c l n;exact#[a,12,g,λr o x s=>q _ o #[r,12,x,z.1.mono$ aa.tm s,z.2] (f.same s) (k.trans$ .same s)]]]
end
def a6:am z43z z22z (ae iA):=bP
noncomputable def QJ:ge:=#[.function,[(".0",.local),("_law_one",.local)],ν,ν,[]]
def Y8:(z6z:xL ρ).Nodup:=PH
def Y9:bh z43z (ae iA) QJ z6z 1 []:=oi
def ZX(F:xD K "_law_ticking" iA f fd)(C:{1} fT b4 z0z aZ "_law_take")(cO:{2} fO b5 z19z oO "_law_op")(mi:mg "int"=θ)(m1:mg "tuple"=θ):⇑3 f fd z22z (dZ 1):=by
 erw[F.ok a6 λc0 A o5 s H vs Q E c h=>?_]
 symm;let(p,W,f0,g,ys,rfl,B,hw,h1,q):=h;erw[#[_,%[a6|_cO (@za _ _ _ _ _ _ _ z6z 1 [] _ _ _ _ Z %[a6|_SBσ3Uyg] Y9 (λ_ _ _ _ _=>ju (i:=0) Y8 Z$ ψ Z) (λ_ _ _ _ _=>@zw _) (λ_ _ _ _ _=>%[a6|_dana0b]) Cv) (@XU _ _ _ _ 5 _ Z %[a6|_qi4qi5qi6qi7qi8γ] Pz Pz) _ce9danaoδg C.e c.m _a0agbbcev 10 _radanaku3gpa9badanaku3gpakura5adana C.e c.m _a0agbbb C.e c.m _a0agbpbbczCRαβXv 10 _adanaku3gpa2adakura7adanagbb C.e c.m _a0agbpakura5adanagbb C.e c.m _a0agbpbbbcJmD C.e c.m _a0agbfzCRαβXv 10 _adanadanana5adana C.e c.m _a0agbbba8bbtcev 11 _danagbcev 12 _radanaku3gpav 11 _badanav 11 _a cO.e c.m _a0a6a8bbbcJmD C.e c.m _a0agbfev 12 _radanaku3gpa cO.e c.m _a0a6a8bbbtcev 10 _oψoψv 10 _v 12 _radana9adanana5adanagbbbadanaku3gpadanana5a4bbbcev 13 _dadanaku3gpadanagbbadana9adana C.e c.m _a0agbbbbcev 14 _danadanaku3gpbaEςj m1 _ξav 10 _bbflda1adaku3gpbaoVBιv 13 _Uyoδg C.e c.m _a0agbdav 14 _adana6bbb],?_]];let W0:Wd H H p W ys:=#[B,aI.refl,hw];sleep 11;erw[ah λF1 f1=>rE W0 Z h1 λvn vi vs vx vy H1 xn xi xs xx xy W1=>f1 _ _ ?_];erw[ah λF2 f2=>jS W1 (ky (Je (kr Z PM PM) PM) PM) λv2 H2 x2 W2 k2=>f2 _ _ ?_];erw[ah λF3 f3=>MG W2 (Jo (Cf:=[(g,2)]) (kh Z PM PL) (jM Z ar x2) PM) (Jo (Cf:=[(g,2)]) (kh Z PM PL) (Z4 Z (jM Z ar$ ar _ _ _ k2.t xi)$ ky (kr Z PM PM) PM) PM) λlb u3 w3 H3 o3 x3 y3 W3 k3=>f3 _ _ ?_];let a:aj H1 H3:=(k2.t.trans k3.t);erw[ah λF4 f4=>JW W3 Z o3 (show 2<=100 by decide) (wX (Cf:=[(g,2)]) (kh Z PM PL) (Q3 Z) RN (Z4 Z (jM Z ar$ ar _ _ _ a xx)$ ky (QK PM (PM:(3:Int) < 4)) PM) (Z4 Z (jM Z ar$ ar _ _ _ a xi)$ ky (QK PM (PM:(2:Int) < 3)) PM) PM PM) λu4 H4 x4 o4 W4 k4=>f4 _ _ ?_];erw[ah λF5 f5=>eI (λN d=>∃(us:xL V),N=[δ$ xm p,δ$ vr f0,δ$ vr g,δ$ xm W,δ$ vn,δ$ vi,δ$ vs,δ$ vx,δ$ vy,δ$ v2,δ$ xm lb,θ,θ,θ,θ]/\Ow H d p W lb us/\iX [(g,2)] d ys 0 us/\ο us<=4/\Wd H d p W ys/\aj H4 d) (λE5 _ f6=>Jp W4 Z PM PM (λH7 W7 u=>?_) (λH7 W7 u=>?_)) λσ1 H6 h2=>?_]
 .left;let o7:=o4.fw u;let D:aj H1 H7:=((a.trans k4).trans u.t);erw[JW W7 Z o7 (show 3<=100 by decide) (J9 (Cf:=[(g,2)]) (zq (n:=1) (zE zd) (jM Z ar$ ar _ _ _ D xi) (ky (kr Z PM PM) PM) PM PM) (jM Z ar$ ar _ _ _ D xy) PM PM) λu8 H8 x8 o8 W8 k8=>f6 _ _ ?_];let G:aj H4 H8:=(u.t.trans k8);let I:aj H3 H8:=((k4.trans u.t).trans k8);exact#[12,o8,(jZ ((fu _ _ _ I x3))$ jZ ((fu _ _ _ I y3))$ jZ ((fu _ _ _ G x4))$ jZ (x8) KY),(show 4<=4 by decide),W8,G]
 .left;let o7:=o4.fw u;let J:aj H3 H7:=(k4.trans u.t);rwa[f6 _ _ #[12,o7,(jZ ((fu _ _ _ J x3))$ jZ ((fu _ _ _ J y3))$ jZ ((fu _ _ _ u.t x4)) KY),(show 3<=4 by decide),W7,u.t]]
 symm;let(us,rfl,o6,ux,ul,W6,k6):=h2;erw[f5 _ _ ?_];left;erw[ah λF9 f9=>jS W6 (ky (QK PM (PM:(30:Int) < 31)) PM) λv9 H9 x9 W9 k9=>f9 _ _ ?_];let o9:=o6.fw k9;let b:aj H1 H9:=(((a.trans k4).trans k6).trans k9.t);erw[ah λF0 f7=>MG W9 (Jo (Cf:=[(g,2)]) (kh Z PM PL) (jM Z ar x9) PM) (J9 (Cf:=[(g,2)]) (jM Z ar x9) (KM Z (jM Z ar$ ar _ _ _ b xs)$ jM Z ar$ ar _ _ _ b xy) PM PM) λlm u0 w0 H0 z0 x0 y0 W5 j=>f7 _ _ ?_];let o1:=o9.fw j;erw[ah λF6 y=>eI (λN d=>∃(m:ζ) (zs:xL V),N=[δ$ xm p,δ$ vr f0,δ$ vr g,δ$ xm W,δ$ vn,δ$ vi,δ$ vs,δ$ vx,δ$ vy,δ$ v2,δ$ xm lb,δ$ v9,↑m,θ,θ]/\Ow H d p W lb us/\Ow H d p W m zs/\iX [(g,2)] d ys 0 zs/\ο zs<=2/\Wd H d p W ys/\aj H0 d) (λE1 _ L=>Jp W5 Z PM PM (λH5 O k=>?_) (λH5 O k=>?_)) λσ0 R h0=>?_]
 .left;let S:=o1.fw k;let z1:=z0.fw k;let l:aj H1 H5:=((b.trans j.t).trans k.t);erw[MF O (qV (Cf:=[(g,2)]) (kh Z PM PL) (KM Z (jM Z ar$ ar _ _ _ l xs)$ jM Z ar$ ar _ _ _ l xy) PM) λlq u1 a0 z2 x1 a1 k1=>L _ _ ?_];let o':=S.fw k1;let z:aj H0 a0:=(k.t.trans k1.t);exact#[112,o',z2,zO x1,(show 1<=2 by decide),a1,z]
 .left;let S:=o1.fw k;let z1:=z0.fw k;rwa[L _ _ #[112,S,z1,(jZ ((fu _ _ _ k.t x0))$ jZ ((fu _ _ _ k.t y0)) KY),(show 2<=2 by decide),O,k.t]]
 symm;let(lm,zs,rfl,a2,z3,zx,zl,a3,T):=h0;erw[y _ _ ?_];left;let o:aj H2 R:=(((((k3.t.trans k4).trans k6).trans k9.t).trans j.t).trans T);let M:aj H1 R:=((b.trans j.t).trans T);let U:aj H6 R:=((k9.t.trans j.t).trans T);erw[ah λF7 f8=>Fy a3 Z Z a2 z3 PL (ux.mono U) zx (J9 (Cf:=[(g,2)]) (jM Z ar$ ar _ _ _ o x2) (zq (n:=1) (zE zd) (jM Z ar$ ar _ _ _ M xi) (ky (QK PM (PM:(1:Int) < 2)) PM) PM PM) PM PM) (qV (Cf:=[(g,2)]) (kh Z PM PL) (zq (n:=1) (zE qR) (jM Z ar$ ar _ _ _ M xi) (jM Z ar$ ar _ _ _ M xn) PM PM) PM) λlc cs a4 a5 cx cl a' k5=>f8 _ _ ?_];let cm:ο cs<=8:=PL
 let X:aj H2 a4:=(o.trans k5.t);erw[ah λF8 f'=>jS a' (FR (qV (Cf:=[(g,2)]) (kh Z PM PL) (ky (QK PM (PM:(1:Int) < 2)) PM) PM)$ J9 (Cf:=[(g,2)]) (jM Z ar$ ar _ _ _ X x2) (ky (kr Z PM PM) PM) PM PM) λv0 b7 x5 b0 Y=>f' _ _ ?_];let o2:=a5.fw Y;erw[ah λb8 b1=>jS b0 (xg (J8$ kh Z PM PL) (Ex (n:=8) Z o2 (cx.mono Y.t) cm) PM PM) λv1 b2 x6 b3 k0=>b1 _ _ ?_];let b9:=o2.fw k0;let m0:aj H1 b2:=(((M.trans k5.t).trans Y.t).trans k0.t);erw[KZ b3 (Q4 (Q3 Z) (Ye$ kh Z PM PL) (Jf (Ev.up (FN Z Z$ EH _ _ _ k0.t x5) λ_ _=>PB.lift) (Yd (jM Z fu x6)$ Ev.up (Ka (Cf:=[(g,2)]) (jM Z ar$ ar _ _ _ m0 xs) PM) λ_ _=>dq.lift) PM) PM PL) λv d x W'=>?_];symm;let(r,rfl,x):=x;rwa[q r d x W'.B W'.K]
def Oa{y:xL ρ}{lo:Nat}(h:ο y=14)(H:lo<=8):(bL y (δ (lo:Int))$ δ ((lo+6:Nat):Int)).length=6:=by unfold bL;rw[HT.sIx_nat,HT.sIx_nat,R0,Te,h,TU$ RM H PM,TU$ Nat.add_le_add_right H 6,Nat.add_sub_cancel_left];rwa[TU$ Nat.le_sub_of_add_le$ RM (Nat.add_le_add_left H 6) PM]
def Pj{k:Nat}(h:k < n):pK n (k:Int)=δ k:=by unfold pK;rw[RB PL,RB PL,SE]
def uf.more(h:uf C n H r f)(k:∀y∈C,y∈D):uf D n H r f:=by let(d,b,a,c):=h;rwa[#[d,b,#[a.1,kP k a.2],c]]
def Oc(r:uf [(l,N),(m,j),(o,k)] N H a l)(s:uf [(l,N),(m,j),(o,k)] j H b m)(t:uf [(l,N),(m,j),(o,k)] k H c o)(p:N<=100/\j<=100/\k<=100):∃D,di H D [.ref a,.ref b,.ref c]/\ο D=3/\((∀d∈D,n8 d/\d.b.Cs [(l,N),(m,j),(o,k)])/\D.map Df.f=[l,m,o])/\mE H D [N,j,k]:=by
 let(d,u,v,O,y,z,E):=r;let(e,A,B,Q,C,F,G):=s;let(f,I,J,R,g3,L,M):=t;erw[#[[d,e,f],#[112,u,112,A,112,I,Z],Z,#[λx q=>?_,by rw[<- E,<- G,<- M];rfl],Z,λi x n h g=>?_]]
 .simp only[TC,R6,U7]at q;rcases q with rfl |rfl |rfl
  .rwa[v]
  .rwa[B]
  .rwa[J]
 .match i,h,g with
  |0,h,g=>cases h;cases g;exact#[_,y,z,p.1]
  |1,h,g=>cases h;cases g;exact#[_,C,F,p.2.1]
  |2,h,g=>cases h;cases g;exact#[_,g3,L,p.2.2]
inductive nP(b:xL V)(H:Hp)(Q:VK)(a:XK):Prop
 |mk(p:ζ)(_:b=[.ref p])(_:ax H p)(_:∀(r:ζ) (ds:xL Df) (xs:xL V) (H':Hp),H' r=δ (.tup xs)->di H' ds xs->ο ds=3->∀ns,pi ds ns->mE H' ds ns->(∃r,ns=1::r)->ax H' p->aI p H H'->Q (.ref r) H')
def Lu(L:xL ρ)(_:Hp)(v:V):Prop:=∃x,v= .str x/\x∈L
section
variable {ys:xL ρ}{H0 Hb:Hp}{p wl:ζ}{σ:_L.St}
def Mb{K:Ψ}(e:σ[0]?=δ (↑p))(r:#[] t (ui a))(s:#[] T (ui b))(u:#[] x (ui c)):#[] (fb (lK K) (nV$ ap t$ ap T$ ap x aS)$ wb 3) (Lu [a,b,c]):=λH Q m W q=>
 r H _ m W λy z (E:y= .str a) A k=>s z _ (m.trans k) A λC D (F:C= .str b) G f=>u D _ ((m.trans k).trans f) G λI R (J:I= .str c) h j=>#[ie,λl n=>kr e PM PM _ _ ((((m.trans k).trans f).trans j).trans$ .new n) (h.same$ je n) λv L #[d,M,S,U] N o=>by
  obtain⟨g,i,O⟩:∃g,eW [vr a,.str b,.str c] d=δ (.str g)/\g∈[a,b,c]:=by
   rcases(PL:d=0∨d=1∨d=2) with rfl |rfl |rfl
   .exact#[a,Z,PJ]
   .exact#[b,Z,PJ]
   .exact#[c,Z,PJ]
  rw[<- E,<- F,<- J]at i;exact#[l,_,d,12,M,aJ.of$ o.b _ _ (h.B.ne n) jc,i,q _ L #[g,Z,O] N (((k.trans f).trans j).trans ((Fw.new n).trans o))]]
def wZ{K:Ψ}{lo:Nat}(e:σ[0]?=δ (↑p))(E:σ[1]?=δ (↑wl))(d:#[] t (ui f))(l:#[] T (Lu L))(h:ο ys=14)(o:lo<=8)(s:i=(lo:Int))(u:j=((lo+6:Nat):Int)):
  #[] (fj (dZ n) [] E0$ ap (bn 0)$ ap t$ ap T$ ap (Nl (yU K) (bn 1) (mj$ tC$ .int i)$ mj$ tC$ .int j) aS) (PD (L.map λy=>(y,2)) n f):=λH Q m W q=>
 #[_,e,d H _ m W λv x (z:v= .str f) A k=>l x _ (m.trans k) A λV M #[g,D,c] b F=>#[_,E,1212,wl,12,aJ.of b.w,λr N=>#[p,r,f,g,bL ys (δ i)$ δ j,by rw[z,D];rfl,b.B.upd_new N,by rw[jc,zS],by rw[s,u];exact Oa h o,λa G X I C=>
  q _ G #[a,Z,X.more λy J=>by rw[τ.mp J];rwa[dn.mpr #[g,c,Z]]] ((b.same$ je N).but I C) ((k.trans F).trans ((Fw.new N).trans$ .but (b.B.upd_new N) C))]]]
def zL{K:Ψ}{k:Nat}(e:σ[j]?=δ (↑wl))(a:i=(k:Int))(h:ys[k]?=δ y):#[] (fb (lK K) (bn j)$ tC$ .int i) (ui y):=λH Q m W q=>
 #[_,e,wl,11122,aJ.of W.w,(by rw[a];rwa[jE (by rw[RP,h];rfl)]),q _ H Z W .refl]
def Es{f1 f2 f3:ρ}{n1 n2 n3:Nat}(i:n1<=100/\n2<=100/\n3<=100)(j:#[] T (PD [(f1,n1),(f2,n2),(f3,n3)] n1 f1))(l:#[] s (PD [(f1,n1),(f2,n2),(f3,n3)] n2 f2))(u:#[] y (PD [(f1,n1),(f2,n2),(f3,n3)] n3 f3)):#[] (bV$ ap T$ ap s$ ap y aS) (λH v=>∃r D x,v= .ref r/\H r=δ (.tup x)/\di H D x/\ο D=3/\((∀d∈D,n8 d/\d.b.Cs [(f1,n1),(f2,n2),(f3,n3)])/\D.map Df.f=[f1,f2,f3])/\mE H D [n1,n2,n3]):=λH Q m W q=>
 j H _ m W λV z X A k=>l z _ (m.trans k) A λB C E F e=>u C _ ((m.trans k).trans e) F λG U I J h=>#[ie,λr n=>q _ _ (by
  let t:=aa.tm (je (o:=HO.tup [V,B,G]) n);let(a,L,M):=lg _ _ _ t (lg _ _ _ (e.trans h).t X);let(b,N,O):=lg _ _ _ t (lg _ _ _ h.t E);let(c,R,S):=lg _ _ _ t I;let(D,g):=Oc M O S i;exact#[r,D,12,by rw[jc,L,N,R],g]) (J.same$ je n) (((k.trans e).trans h).trans$ .new n)]
end
def hV:am ["_law_box_here","_law_w","_law_body_here","_law_deeper","_law_further","_law_first"] z1z (ae yZ):=bP
def CP(F:xD K "_law_busy" yZ f fd)(T:{1} fT f0 z0z aZ "_law_take")(cO:{2} fO f1 z19z oO "_law_op")(cA:{2} fA f7 z24z gJ "_law_names")(cL:{3} fL f8 z22z (dZ 1) "_law_looped")(cK:{3} fK f9 z22z (dZ 1) "_law_ticking")(cI:{3} fI f' z38z (dZ 2) "_law_inner"):⇑4 f fd z1z nP:=by
 erw[F.ok hV λc0 A U s H vs Q E i h=>?_]
 let(p,rfl,B,q):=h;erw[#[_,%[hV|_ce1 cA.e i.m _a0agbcJmD T.e i.m _a0agbfOku1gp (Jc (pv 1) jf zQ) _tce2dadanaku1gpadanaku1gpbbadana cO.e i.m _a0adanaku1gpbadanaku1gpbbbbce3daku1gpadaku1gpaku1gpba2bce4kuraku1gpaku1gpaku1gpb T.e i.m _a0agbpce5 cL.e i.m _a0aku1gpaku1gpaBσ1ygygbcJmD T.e i.m _a0agbfe5 cK.e i.m _a0aku1gpaku1gpaBσ1ygygbtflda5a cI.e i.m _a0aku1gpa4aBσ1ygygba3b],?_]];erw[ah λFa o=>#[12,p,(14),Z,B,PM,PM,λj ys Ha X u c d Ba ka=>o _ _ ?_]];let wp:j≠p:=qE Ba u;erw[ah λFa o=>eI (λn g=>∃Y:xL ρ,n=[δ$ xm p,δ$ xm j,θ,θ,θ,θ]/\g j=δ (.lst$ Y.map vr)/\(ο Y=14/\(Y.take 3).Nodup/\∀y∈Y.take 3,y.length<=20)/\ax g p/\aI p H g) (λE0 _ fm=>Jp (W:=#[Ba,ka,u]) Z PM PM (λHb l kb=>?_) (λHb l kb=>fm _ _ #[12,l.w,#[PL,d.2.sublist$ TW _ _,λy hy=>d.1 y (Sz hy)],l.B,l.K])) λσ1 H0 h3=>?_]
 .let(v1,h6,z):=KR (ys:=ys) (k:=1) PM PL;erw[#[12,j,11122,aJ.of l.w,z,12,j,_,8,8,22,l.w,Pj (k:=8) (by rw[Rs];omega),fm _ _ #[ys.set 8 v1,Z,?_,#[by rw[Vt];omega,by rw[List.take_set_of_le PM];exact#[d.2.sublist$ TW _ _,λy hy=>d.1 y (Sz hy)]],l.B.eq$ ji$ Sc wp,l.K.upd_own X]]];rw[jc,List.map_set]
 obtain⟨ys,rfl,h4,⟨c,C,D⟩,B1,k1⟩:=h3;obtain⟨y0,h0⟩:∃y,ys[0]?=δ y:=#[_,Rq (PL:0 < ο ys)];obtain⟨G,I⟩:∃y,ys[1]?=δ y:=#[_,Rq (PL:1 < ο ys)];obtain⟨y2,N⟩:∃y,ys[2]?=δ y:=#[_,Rq (PL:2 < ο ys)];let e3:ys.take 3=[y0,G,y2]:=by rw[Ui,Ui,Ui,h0,I,N];rfl
 rw[e3]at C D;erw[o _ _ ?_];let W1:Wd H H0 p j ys:=#[B1,k1,h4];generalize H0=H1 at W1;erw[ah λF2 f2=>jS W1 (Yd (Jo (Cf:=[]) (kh Z PM PL) (J8$ kh Z PM PL) PM)$ Ka (Cf:=[]) (KM Z (J8$ kh Z PM PL)$ J8$ kh Z PM PL) PM) λv2 H2 x2 W2 k2=>f2 _ _ ?_];erw[ah λF3 f3=>jS W2 (Q4 (Cf:=[]) (zL (k:=2) Z Z N) (Ew (kh Z PM PL)$ kh Z PM PL) (Ev.up (jM Z dG x2) λ_ _=>PB.lift) PM PL) λv3 H3 x3 W3 k3=>f3 _ _ ?_];erw[ah λF4 f4=>jS W3 (Mb Z (zL (k:=1) Z Z I) (zL (k:=2) Z Z N)$ zL (k:=2) Z Z N) λv4 H4 x4 W4 k4=>f4 _ _ ?_];erw[ah λF5 f5=>jS W4 (wZ (lo:=6) Z Z (zL (k:=0) Z Z h0) (Ev.up (R:=Lu [G]) (zL (k:=1) Z Z I) λ_ _ e=>#[_,e,RN]) c PM Z Z) λv5 H5 x5 W5 k5=>f5 _ _ ?_];erw[ah λF6 O=>eI (λn g=>∃(b:V),n=[δ$ xm p,δ$ xm j,δ$ v2,δ$ v3,δ$ v4,δ b]/\PD [(G,2)] 1 y0 g b/\Wd H g p j ys/\aj H5 g) (λE6 _ J=>Jp W5 Z PM PM (λH8 W8 S=>?_) (λH8 W8 S=>?_)) λσ2 H7 h5=>?_]
 .erw[jS W8 (wZ (lo:=6) Z Z (zL (k:=0) Z Z h0) (Ev.up (R:=Lu [G]) (zL (k:=1) Z Z I) λ_ _ e=>#[_,e,RN]) c PM Z Z) λv9 H9 x9 W9 k9=>J _ _ ?_];let M:aj H5 H9:=(S.t.trans k9.t);exact#[12,x9,W9,M]
 .rwa[J _ _ #[12,(lg _ _ _ S.t x5),W8,S.t]]
 let(b7,rfl,x7,W7,k7):=h5;erw[O _ _ ?_];let L:aj H3 H7:=((k4.t.trans k5.t).trans k7);erw[KZ W7 (Es (n1:=1) (n2:=2) (n3:=2) #[PM,PM,PM] (Ev.up (jM Z lg x7) (λ_ _ #[a,e,h]=>#[a,e,h.more PJ])) (Ev.up (wZ (lo:=7) Z Z (zL (k:=1) Z Z I) (jM (P:=Lu [G,y2,y2]) Z (λ_ _ _ _ h=>h) x4) c PM Z Z) (λ_ _ #[a,e,h]=>#[a,e,h.more PJ])) (Ev.up (jM Z lg$ lg _ _ _ L x3) (λ_ _ #[a,e,h]=>#[a,e,h.more PJ]))) λv g x W'=>?_];let(r,ds,xs,rfl,g0,g1,g2,g3,g4):=x;rwa[q r ds xs g g0 g1 g2 [1,2,2] #[by rw[g3.2];rwa[g3.1],by rw[g3.2];exact#[C,D]] g4 #[12] W'.B W'.K]
abbrev sN:cc:=bX 74
def IN(h:0<=d)(H:d < 4):∃m:Int,eW [xb 3,.int 3,.int 3,.int 8] d=δ (.int m)/\3<=m/\m<=8:=by
 rcases(PL:d=0∨d=1∨d=2∨d=3) with rfl |rfl |rfl |rfl
 .exact#[3,Z,PM,PM]
 .exact#[3,Z,PM,PM]
 .exact#[3,Z,PM,PM]
 .exact#[8,Z,PM,PM]
def FL(h:di H D v)(f:0<=k)(g:k < (v.length:Int)):∃d,eW v k=δ (.ref d.p)/\d∈D/\Ec H d (.ref d.p):=by
 let a:k.toNat < ο v:=PL
 let E:k=((k.toNat:Nat):Int):=PL
 let(d,c,b):=h.at k.toNat _ (Rq a);let e:v[k.toNat]= .ref d.p:=b.elim λ_ z=>z.1;erw[#[d,?_,RL c,by rw[<- e];rwa[b]]];rw[E];rwa[jE (by rw[<- e];rwa[Rq a])]
def mz(H:Hp)(D:xL Df)(v a:V):Prop:=∃(d:Df) (p:xL ρ) (t:ζ) (I:xL Int),d∈D/\v= .str d.f/\H d.pa=δ (.tup$ p.map vr)/\a= .ref t/\H t=δ (.tup$ I.map xb)/\ο I=ο p/\ο I<=100/\∀i∈I,0<=i/\i < 1000000000000000000
inductive nQ(b:xL V)(H:Hp)(Q:VK)(a:XK):Prop
 |mk(p:ζ)(_:b=[.ref p])(_:ax H p)(_:∀(t r:ζ) (v2 v3:V) (ds:xL Df) (xs:xL V) (H':Hp),H' t=δ (.tup [.ref r,v2,v3])->H' r=δ (.tup xs)->di H' ds xs->1<=ο ds->ο ds<=8->∀ns,pi ds ns->mE H' ds ns->mz H' ds v2 v3->ax H' p->aI p H H'->Q (.ref t) H')
def hX:am z44z z1z (ae sN):=bP
noncomputable def Za:ge:=#[.function,[(".0",.local),("_law_one",.local),("_law_number",.globalImplicit),("_law_box_here",.free)],ν,ν,[]]
def yc:(["_law_one","_law_box_here"]:xL ρ).Nodup:=PH
def wK:bh z44z (ae sN) Za ["_law_one","_law_box_here"] 1 [0]:=oi
def CQ(F:xD K "_law_case" sN f fd)(M:{1} fT f0 z0z aZ "_law_take")(cN:{2} fN f3 z1z i7 "_law_number")(cY:{4} fY f4 z1z nP "_law_busy")(cZ:{22} fZ f5 z37z tj "_law_any")(ml:mg "len"=θ)(m0:mg "tuple"=θ):⇑23 f fd z1z nQ:=by
 erw[F.ok hX λc0 A o1 s H vs Q E y h=>?_]
 let(p,rfl,B,q):=h;erw[#[_,%[hX|_cms Jn M.e y.m _a0agbgw _ _ce1 cY.e y.m _a0bflda1ahkG1gpada M.e y.m _a0agbbbtce2kuragagagagb M.e y.m _a0agbpce1 cZ.e y.m _a0aoδg M.e y.m _a0a2bagbcOkG1 M.e y.m _a0aAεjπζa1bbpP (n:=3) _jqi3qi4qi5γflda1a3aEςjYξa (@za _ _ _ _ _ _ _ ["_law_one","_law_box_here"] 1 [0] _ _ _ _ Z (qk$ pv 4) wK (λ_ _ _ _ _=>ju (i:=0) yc Z$ ψ Z) (λ_ _ _ _ _=>@zw _) (λ_ _ _ _ _=>cN.e y.m %[hX|_a1b]) Cv) _bb],?_]];let b0:=aL;erw[ah λF1 a=>pI λG1 g1=>#[12,p,3,Z,B,PM,PM,λd1 H1 a0 a1 B1 e1=>#[112212,g1 _ _ ?_]]];let k1:aI p H H1:=aI.of_eq e1;erw[cn (λc=>?_) (λc=>a _ _ ?_)]
 .erw[ah λF2 f2=>#[12,p,Z,B1,λr ds xs H2 N C hl ns D b O B2 k2=>f2 _ _ ?_]];let ln:=C.len;let(nr,rfl):=O;cases ds with
  |nil=>cases hl
  |cons d r0=>
  let(p0,R,S,_):=b.2 0 d 1 Z Z;let h0:=C;obtain⟨u0,rr,rfl,⟨bs,rfl,hp,_⟩,_⟩:=h0;let g:eW (xm d.p::rr) 0=δ (.ref d.p):=eQ;erw[#[12,jv N g #[d.p,11122,aC.of hp,eQ,12,p,6,Z,B2,PM,PM,λd3 H3 d0 d4 B3 e3=>?_]]];let c3:aI p H2 H3:=aI.of_eq e3;erw[#[i8,λu nu=>#[ie,λt U=>?_]]];let s4:aa H3 (af (af H3 u$ .tup [.int d3]) t$ .tup [.ref r,.str d.f,.ref u]):=(je nu).trans (je U);let T:=(c3.tm B2).trans (aa.tm s4);rwa[q t r _ _ _ _ _ jc (T _ _ N) (C.mono T) PL PL _ D (b.mono T) #[d,p0,u,[d3],RN,Z,T _ _ R,Z,aq jc U,by rw[S];rfl,(by show 1<=100;decide),λi hi=>by rw[τ.mp hi];omega] (B3.same s4) ((k1.trans k2).trans$ c3.trans$ aI.of_same s4)]
 erw[ah λF1 a=>#[tP,λl W=>#[12,p,4,Z,B1.upd_new W,PM,PM,λd2 H2 d6 d7 B2 e2=>?_]]];let k2:aI p H1 H2:=((aI.refl).upd_new W).trans (aI.of_eq e2);let(m,g,m3,m8):=IN d6 d7;erw[#[l,11122,aJ.of (by rw[e2 l$ B1.ne W];rwa[jc]),g,a _ _ ?_]];erw[ah λF1 a=>#[121212,p,m,Z,B2,PL,PL,λd3 H3 d0 d4 B3 e3=>#[1122,p,1+d3,(12),Z,B3,PL,PL,PM,PM,λr ds xs H4 G C hl ns D b B4 k4=>a _ _ ?_]]];let ln:=C.len;let K4:aI p H H4:=(k1.trans k2).trans ((aI.of_eq e3).trans k4);erw[ah λF1 a=>#[121212,r,12,.inr$ aC.of G,p,12,B4,PL,PL,λd5 H5 d8 d' B5 e5=>?_]];let c5:aI p H4 H5:=aI.of_eq e5;let o:=c5.tm B4;let(d,g,hd,bs,e,hp,_):=FL (C.mono o) d8 d';erw[#[r,11122,aC.of$ o _ _ G,g,d.p,12,aC.of hp,21121121122,a _ _ ?_]];let(pv,X,h4):=b.v d hd;let z:=o _ _ X;erw[#[121212,d.pa,Z,#[_,aC.of z],?_]];erw[qj (K:=K) (xs:=pv.map vr) (by rw[Rs];omega) (λi L J=>(∃I:xL Int,L=I.map xb/\ο I=i/\∀j∈I,0<=j/\j < 1000000000000000000)/\ax J p/\aI p H5 J) #[#[[],22,(λ_ h=>nomatch h)],B5,aI.refl] (λi L J k=>?_) (λi x L J hx k=>?_) (λL J k l W=>?_)]
 .exact#[aC.of$ k.2.2.tm B5 _ _ z,let #[I,e,l,_]:=k.1;by rw[e,Rs,l];rwa[Rv _]]
 .exact#[12,p,Z,k.2.1,λe H7 e0 e1 B7 e7=>#[let #[I,h1,l,h2]:=k.1;#[I++[e],by rw[h1,RU];rfl,by rw[Ru,l];rfl,qI h2 #[e0,e1]],B7,k.2.2.trans$ aI.of_eq e7]]
 .erw[#[l,12,.inl #[aJ.of jc,λl2 n0=>#[ie,λt U=>?_]]]];let s7:aa J (af (af (af J l$ .lst L) l2$ .tup L) t$ .tup [.ref r,.str d.f,.ref l2]):=((je W).trans$ je n0).trans (je U);let T:=o.trans ((k.2.2.tm B5).trans$ aa.tm s7);let(I,hz,Y,h3):=k.1;rw[Rs]at Y;rwa[q t r _ _ ds xs _ jc (T _ _ G) (C.mono T) PL PL ns D (b.mono T) #[d,pv,l2,I,hd,Z,T _ _ X,Z,by rw[<- hz];rwa[aq jc U],Y,PL,h3] (k.2.1.same s7) (K4.trans$ c5.trans$ k.2.2.trans$ aI.of_same s7)]
abbrev nE:cc:=bX 12
abbrev nL:cc:=bX 13
abbrev aW:=xL (bY×V)
def gW(x:Int):Prop:=0<=x/\x < 1000000000000000000
def GT(k:aW):Prop:=∀p∈k,∃i,p.2= .int i/\gW i
def GT.nil:GT []:=λ_ h=>absurd h R6
def GT.put(h:GT a)(k:bY)(H:gW i):GT (bu a k$ .int i):=by
 intro p hp;unfold bu at hp;split at hp
 .let(q,b,rfl):=dn.mp hp;by_cases e:q.1=k
  .rw[RB e];exact#[i,Z,H]
  .rw[RD e];rwa[h q b]
 .rcases γ.mp hp with hp |hp
  .rwa[h p hp]
  .rw[τ.mp hp];exact#[i,Z,H]
def GT.val(h:GT a)(e:cR a k=δ v):∃i,v= .int i/\gW i:=by unfold cR at e;let(p,H,rfl):=cJ.mp e;rwa[h p$ List.mem_of_find?_eq_some H]
def look(a:aW)(k:bY)(z:Int):Int:=match cR a k with
 |some (.int i)=>i
 |_=>z
def Qc(h:GT a)(k:bY)(z:Int):(cR a k).getD (.int z)= .int (look a k z):=by
 unfold look;cases e:cR a k with
 |none=>rfl
 |some v=>let(i,rfl,_):=h.val e;rfl
def uV(h:GT a)(e:cR a k=δ v)(z:Int):v= .int (look a k z):=by unfold look;let(i,rfl,_):=h.val e;rw[e]
def uU(e:cR a k=θ)(z:Int):look a k z=z:=by unfold look;rw[e]
def KB(h:GT a)(H:gW z):gW (look a k z):=by
 unfold look;cases e:cR a k with
 |none=>rwa[H]
 |some v=>let(i,rfl,b):=h.val e;rwa[b]
def KC:gW 0:=#[PM,PM]
noncomputable def jn(i:Nat)(x y:Int):Int:=match i with
 |0=>(x+y) % 1000000000000000000
 |1=>(x - y) % 1000000000000000000
 |2=>x*y % 1000000000000000000
 |3=>if y=0 then 0 else x / y
 |4=>if x < y then 1 else 0
 |_=>if x=y then 1 else 0
noncomputable def Tm.ev(k:aW):Tm->Int
 | .num n=>n
 | .var x=>look k (.inr x) 0
 | .op i a b=>jn i (a.ev k) (b.ev k)
def Mi(H:gW x)(c:gW y):gW (jn i x y):=by
 let a:(1000000000000000000:Int)≠0:=PM
 let b:(0:Int) < 1000000000000000000:=PM
 match i with
 |0 |1 |2=>exact#[SQ _ a,Sv _ b]
 |3=>
  show gW (if y=0 then 0 else x / y);by_cases h:y=0
  .rw[RB h];exact#[PM,PM]
  .rw[RD h];let e:=c.1;let d:0 < y:=by omega
   erw[#[Int.ediv_nonneg H.1 N09,Int.lt_of_le_of_lt ?_ H.2]];rwa[Int.ediv_le_self _ H.1]
 |4=>show gW (if x < y then 1 else 0);split<;>exact#[PM,PM]
 |n+5=>show gW (if x=y then 1 else 0);split<;>exact#[PM,PM]
theorem Jq(g:GT k):∀{t:Tm},t.Good y->gW (t.ev k)
 | .num _,h=>h
 | .var x,_=>KB g KC
 | .op _ _ _,h=>Mi (Jq g h.2.1) (Jq g h.2.2)
inductive lW(b:xL V)(H:Hp)(Q:VK)(a:XK):Prop
 |mk(i:Nat)(x y:Int)(_:b=[.str (Ot i),.int x,.int y])(_:i < 6)(_:gW x)(_:gW y)(_:Q (.int (jn i x y)) H)
def O0(K:Ψ)(H:Hp)(T:Tm)(a:ζ):Prop:=bK H T a∨(T= .num 0/\aC K H a [.str "num",.int 0])
inductive dC(K:Ψ)(n:Nat)(e:xL V)(H:Hp)(Q:VK)(b:XK):Prop
 |mk(a d:ζ)(T:Tm)(f:xL ρ)(c:aW)(_:e=[.ref a,.ref d])(_:O0 K H T a)(_:T.depth < n)(_:T.Good f)(_:H d=δ (.dK c))(_:GT c)(_:Q (.int (T.ev c)) H)
def Ar:am z26z z26z (ae nE):=bP
def vh(F:xD K "joined" nE f b)(m:mg "TOP"=δ (.int 1000000000000000000 t)):⇑1 f b z26z lW:=by
 erw[F.ok Ar (λe A o s H d Q E r h=>?_)]
 let(i,x,y,rfl,u,g,j,q):=h;erw[#[_,%[Z|_cmx0flo zu _oδ12ω (v:=.int 1000000000000000000) _j m (#[12]) _tcmx0flo zu _oκ12ω (v:=.int 1000000000000000000) _j m (#[12]) _tcmx0flo zu _o zD _12ω (v:=.int 1000000000000000000) _j m (#[12]) _tcmx0flWD2go K8 _12tcmx0flWs Q0 _12w _ _ggtflWs qB _12w _ _gg],?_]];let(k,l):=g;let(n,p):=j;rcases(PL:i=0∨i=1∨i=2∨i=3∨i=4∨i=5) with rfl |rfl |rfl |rfl |rfl |rfl
 .erw[#[12212,dB PH ?_]];exact#[121211221122,(by show(0:Int) < 1000000000000000000;decide),q]
 .erw[#[12212,a9 PH ?_]];erw[#[12212,dB PH ?_]];exact#[121211221122,(by show(0:Int) < 1000000000000000000;decide),q]
 .erw[#[12212,a9 PH ?_]];erw[#[12212,a9 PH ?_]];erw[#[12212,dB PH ?_]];exact#[12121122,.inl #[PL,PL],1122,(by show(0:Int) < 1000000000000000000;decide),q]
 .erw[#[12212,a9 PH ?_]];erw[#[12212,a9 PH ?_]];erw[#[12212,a9 PH ?_]];erw[#[12212,dB PH ?_]];let a:Q (.int (if y=0 then 0 else x / y)) H:=q;erw[#[12212,?_]];refine cn (λc=>?_) (λc=>?_)
  .let C:xb y=xb 0:=Sq c;injection C with C;rw[RB C]at a;rwa[a]
  .let C:y≠0:=λz=>c (by rw[z];rfl);rw[RD C]at a;exact#[12121122,#[PL,PL],a]
 .erw[#[12212,a9 PH ?_]];erw[#[12212,a9 PH ?_]];erw[#[12212,a9 PH ?_]];erw[#[12212,a9 PH ?_]];erw[#[12212,dB PH ?_]];let a:Q (.int (if x < y then 1 else 0)) H:=q;erw[#[1212112212,?_]];refine cn (λc=>?_) (λc=>?_)
  .rw[RB$ Sq c]at a;rwa[a]
  .rw[RD$ UQ$ iu.mpr c]at a;rwa[a]
 .erw[#[12212,a9 PH ?_]];erw[#[12212,a9 PH ?_]];erw[#[12212,a9 PH ?_]];erw[#[12212,a9 PH ?_]];erw[#[12212,a9 PH ?_]];let a:Q (.int (if x=y then 1 else 0)) H:=q;erw[#[1212212,?_]];refine cn (λc=>?_) (λc=>?_)
  .let C:xb x=xb y:=Sq c;injection C with C;rw[RB C]at a;rwa[a]
  .let C:x≠y:=λz=>c (by rw[z];rwa[RG Z]);rw[RD C]at a;rwa[a]
def DO:am z11z z11z (ae nL):=bP
def yz(F:xD K "worth" nL f p)(C:{n+1} f p z11z (dC K n) "worth")(v:{1} R B z26z lW "joined"):⇑(n+2) f p z11z (dC K$ n+1):=by
 erw[F.ok DO (λD A o s H V Q E j h=>?_)]
 let(a,d,T,y,c,rfl,t,I,g,l,G,q):=h;erw[#[_,%[Z|_cmxh0flh0tcmxh0fl (@K9 _ _ _ _ _ _ _ _ _ (zW j) (pv 1) (jx$ pv 0) jf #[Pz,Pz,Pz,Pz]) _tfl v.e j.m _ah0a C.e j _ah0a1ba C.e j _ah0a1bb],?_]];cases T with
 |num m=>
  let b:aC K H a [.str "num",.int m]:=t.elim (λh=>aC.of h) λz=>by cases z.1;rwa[z.2]
  erw[#[12,a,11122,b,2212,dB PH ?_]];exact#[12,a,11122,b,Z,q]
 |var x=>
  let b:H a=δ (.tup [.str "var",.str x]):=t.resolve_right λz=>by cases z.1
  erw[(jv b Z #[212,a9 PH ?_])];erw[(jv b Z #[212,dB PH ?_])];erw[#[12,d,Z,.inl #[c,.inl l],jv b Z #[_,ip.k (k:=Sum.inr x) l,?_]]];rw[Qc G];rwa[q]
 |op i r u=>
  let(J,L,b,M,N):=t.resolve_right λz=>by cases z.1
  let O:max r.depth u.depth+1 < n+1:=I;erw[(jv b Z #[212,a9 PH ?_])];erw[(jv b Z #[212,a9 PH ?_])];erw[(jv b Z ?_)];erw[(jv b Z #[12,J,d,r,y,c,Z,.inl M,PL,g.2.1,l,G,?_])];erw[(jv b Z #[12,L,d,u,y,c,Z,.inl N,PL,g.2.2,l,G,?_])];exact#[i,112,g.1,Jq G g.2.1,Jq G g.2.2,q]
def yh:⇑1 f e z11z (dC K 0):=by
 let n:∀v H Q E,¬dC K 0 v H Q E:=λv H Q E h=>by let(a,d,T,y,k,_,_,c,_):=h;rwa[absurd c$ UU _]
 exact#[λv H Q E h=>absurd h (n v H Q E),λA o s H b u v Q E _ _ _ _ h=>absurd h (n v H Q E)]
theorem Bk(F:xD K "worth" nL f a)(b:aE K a z11z [])(m:mg "worth"=↑f)(c:{1} e d z26z lW "joined"):
  ∀n:Nat,⇑(n+1) f a z11z (dC K n)
 |0=>yh
 |n+1=>yz F #[(Bk F b m c n),b,F.kp,m] c
def TV(H:Hp)(y:xL ρ)(t:ζ)(T:Tm):Prop:=bK H T t/\em y T
def TV.mono(k:aj H a)(h:TV H y t T):TV a y t T:=#[h.1.mono k,h.2]
inductive Gl where
 |give (t:ζ) (T:Tm) |nought |go (n:Nat)
structure WD where
 sets:xL (ρ×ζ×Tm)
 goal:Gl
noncomputable def Gl.gol(N:ζ):Gl->Nw
 | .give t _=>.give t
 | .nought=>.give N
 | .go n=>.go (n:Int)
def WD.wy(n:ζ)(w:WD):Wy:=#[w.sets.map λs=>(s.1,s.2.1),w.goal.gol n]
def Lk(H:Hp)(y:xL ρ)(m:Nat):Gl->Prop
 | .give t T=>TV H y t T
 | .nought=>True
 | .go n=>n < m
structure Bt(H:Hp)(ys:xL ρ)(m N:Nat)(w:WD):Prop where
 sets:∀s∈w.sets,TV H ys s.2.1 s.2.2
 len:ο w.sets<=N
 goal:Lk H ys m w.goal
def oh(H:Hp)(y:xL ρ)(n:ζ)(m N:Nat)(w:Wy):Prop:=∃d:WD,d.wy n=w/\Bt H y m N d
def OP(F:iZ)(H:Hp)(y:xL ρ):Dd->Prop
 | .st p=>∃(l:Lf) (v:xL V),H p=δ (.tup v)/\BC H l v/\l.Ok y/\l.isCut=μ/\l.Cs F
 | .ask t=>∃T,TV H y t T
def Dd.ways:Dd->Nat
 | .st _=>1
 | .ask _=>2
structure Bx(F:iZ)(H:Hp)(ys:xL ρ)(nA:ζ)(m N:Nat)(c:Ct):Prop where
 mem:∀x,c.M x->x∈ys
 deed:OP F H ys c.d
 ways:∀w∈c.ws,oh H ys nA m N w
 len:ο c.ws=c.d.ways
structure Bs(H:Hp)(ys:xL ρ)(nA:ζ)(m N:Nat)(pc:Pc):Prop where
 mem:∀x,pc.M x->x∈ys
 way:oh H ys nA m N pc.w
section
variable {F:iZ}{H H':Hp}{ys:xL ρ}{nA:ζ}{m N N':Nat}
def Lk.mono(k:aj H H')(h:Lk H ys m g):Lk H' ys m g:=by
 cases g with
 |give t T=>rwa[TV.mono k h]
 |nought=>trivial
 |go n=>rwa[h]
def Bt.mono(k:aj H H'){w:WD}(h:Bt H ys m N w):Bt H' ys m N w:=#[λs a=>(h.sets s a).mono k,h.len,h.goal.mono k]
def oh.up(a:N<=N'){w:Wy}(h:oh H ys nA m N w):oh H ys nA m N' w:=by let(d,e,v):=h;rwa[#[d,e,v.sets,RM v.len a,v.goal]]
def Bx.up(a:N<=N')(h:Bx F H ys nA m N c):Bx F H ys nA m N' c:=#[h.mem,h.deed,λw b=>(h.ways w b).up a,h.len]
def Bs.up(a:N<=N')(h:Bs H ys nA m N p):Bs H ys nA m N' p:=#[h.mem,h.way.up a]
def Zi{n:Nat}(a:k=(n:Int))(b:n < m):oh H ys nA m N #[[],.go k]:=#[#[[],.go n],by rw[a];rfl,(λ_ h=>absurd h R6),RE _,b]
theorem KO:∀(b:Bd) {X:xL V} {g:Pc} {fs:xL Ct} {N:Nat},eP H b X->b.Ok ys->b.Cs F->Bs H ys nA m N g->(∀c∈fs,Bx F H ys nA m N c)->ο fs+b.cuts<=m->
  Bs H ys nA m (N+b.size) (pB (m:Int) b g fs).1/\∀c∈(pB (m:Int) b g fs).2,Bx F H ys nA m (N+b.size) c
 | .nil,_,_,_,_,_,_,_,o,y,_=>#[o,y]
 | .lf p l r,X,g,fs,N,C,i,k,o,y,D=>by
  let(vs,zs,_,h1,I,h3):=C;let E:ο fs+(l.cut+r.cuts)<=m:=D;let(R,A):=KO r h3 i.2 k.2 o y PL;let hl:=kI (m:Int) r g fs;let S:N+r.size<=N+(r.size+1):=PL
  let j:=Lf.use_in i.1 R.mem;let J:l.isCut=μ->l.cut=1->Bs H ys nA m (N+(r.size+1)) #[l.use (pB (m:Int) r g fs).1.M,#[[],.go ((m:Int) - ((pB (m:Int) r g fs).2.length:Int) - 1)]]/\∀c∈(pB (m:Int) r g fs).2++[#[l.use (pB (m:Int) r g fs).1.M,.st p,[(pB (m:Int) r g fs).1.w]]],Bx F H ys nA m (N+(r.size+1)) c:=λG h0=>
   #[#[j,Zi (n:=m - (ο fs+r.cuts) - 1) (by rw[hl];rwa[N09]) N09],λc L=>by
    rcases γ.mp L with z |z
    .exact(A c z).up S
    .rw[τ.mp z];exact#[j,#[l,vs,h1,I,i.1,G,k.1],λw hw=>by rw[τ.mp hw];rwa[R.way.up S],Z]]
  show Bs H ys nA m (N+(r.size+1)) (pL (m:Int) p l$ pB (m:Int) r g fs).1/\∀c∈(pL (m:Int) p l$ pB (m:Int) r g fs).2,Bx F H ys nA m (N+(r.size+1)) c;cases l with
  |gv t T=>exact#[#[j,#[#[[],.give t T],Z,(λ_ h=>absurd h R6),RE _,I.2,i.1]],λc G=>(A c G).up S]
  |st x t T=>
   erw[#[#[j,?_],λc G=>(A c G).up S]];show oh H ys nA m _ (lQ x t (pB (m:Int) r g fs).1);unfold lQ;split
   .let(d,e,v):=R.way;erw[#[#[(x,t,T)::d.sets,d.goal],by rw[<- e];rfl,λs hs=>?_,Ts v.len,v.goal]];rcases Ξ.mp hs with rfl |hs
    .exact#[I.2,i.1.2]
    .rwa[v.sets s hs]
   .rwa[R.way.up S]
  |rd x t T |wr t u T U |cl x f q ts=>rwa[J Z Z]
 | .ite p t T a c r,X,g,fs,N,C,i,k,o,y,D=>by
  let(qa,qb,as,bs,zs,_,g1,O,g2,g3,Q,g5,W):=C;let E:ο fs+(1+a.cuts+c.cuts+r.cuts)<=m:=D;let(R,A):=KO r W i.2.2.2 k.2.2 o y PL;let B:=kI (m:Int) r g fs;let(c1,c2):=KO c g5 i.2.2.1 k.2.1 R A PL;let h4:=kI (m:Int) c (pB (m:Int) r g fs).1 (pB (m:Int) r g fs).2;let(Y,a2):=KO a Q i.2.1 k.1 (R.up$ Uk _ _) c2 PL;let S:N+r.size+c.size+a.size<=N+(a.size+c.size+r.size+1):=PL
  let j:∀x,(Bd.ite p t T a c .nil).use (pB (m:Int) r g fs).1.M x->x∈ys:=Bd.use_in #[i.1,i.2.1,i.2.2.1,trivial] R.mem;let hk:(m:Int) - ((pB (m:Int) r g fs).2.length:Int) - ((Bd.ite p t T a c .nil).cuts:Int)=((m - (ο fs+r.cuts) - (1+a.cuts+c.cuts):Nat):Int):=by show(m:Int) - _ - ((1+a.cuts+c.cuts+0:Nat):Int)=_;rw[B];rwa[N09]
  unfold pB;dsimp only;erw[#[#[j,Zi hk N09],λe he=>?_]];rcases γ.mp he with z |z
  .exact(a2 e z).up S
  .rw[τ.mp z];erw[#[j,#[T,O,i.1],λw hw=>?_,Z]];rcases Ξ.mp hw with rfl |hw
   .rwa[Y.way.up S]
   .rw[τ.mp hw];rwa[c1.way.up (by show _<=N+(a.size+c.size+r.size+1);omega)]
 | .loop p t T a r,X,g,fs,N,C,i,k,o,y,D=>by
  let(qa,as,zs,_,g1,O,g2,Q,W):=C;let E:ο fs+(1+a.cuts+r.cuts)<=m:=D;let(R,A):=KO r W i.2.2 k.2 o y PL;let B:=kI (m:Int) r g fs;let j:∀x,(Bd.loop p t T a .nil).use (pB (m:Int) r g fs).1.M x->x∈ys:=Bd.use_in #[i.1,i.2.1,trivial] R.mem;let hk:(m:Int) - ((pB (m:Int) r g fs).2.length:Int) - ((Bd.loop p t T a .nil).cuts:Int)=((m - (ο fs+r.cuts) - (1+a.cuts):Nat):Int):=by show(m:Int) - _ - ((1+a.cuts+0:Nat):Int)=_;rw[B];rwa[N09]
  let pl:Bs H ys nA m (N+r.size) #[(Bd.loop p t T a .nil).use (pB (m:Int) r g fs).1.M,#[[],.go ((m:Int) - ((pB (m:Int) r g fs).2.length:Int) - ((Bd.loop p t T a .nil).cuts:Int))]]:=#[j,Zi hk N09];let(Y,a2):=KO a Q i.2.1 k.1 pl A PL;let S:N+r.size+a.size<=N+(a.size+r.size+1):=PL
  unfold pB;dsimp only;erw[#[pl.up (by show _<=N+(a.size+r.size+1);omega),λe he=>?_]];rcases γ.mp he with z |z
  .exact(a2 e z).up S
  .rw[τ.mp z];erw[#[j,#[T,O,i.1],λw hw=>?_,Z]];rcases Ξ.mp hw with rfl |hw
   .rwa[Y.way.up S]
   .rw[τ.mp hw];rwa[R.way.up (by show _<=N+(a.size+r.size+1);omega)]
end
def cj(n:ζ)(d:Df):xL Ct:=(i5 n d).2.reverse
def rf(n:ζ)(d:Df):(cj n d).length=d.b.cuts:=by unfold cj;rw[List.length_reverse];exact(kI _ _ _ _).trans (UF _)
def EQ{nA:ζ}{d:Df}(f:eP H d.b B)(g:d.b.Ok y):Bs H y nA d.b.cuts d.b.size (i5 nA d).1/\∀c∈cj nA d,Bx d.b.calls H y nA d.b.cuts d.b.size c:=by let p:Bs H y nA d.b.cuts 0 (Ol nA):=#[λx i=>absurd i R6,#[[],.nought],Z,(λ_ h=>absurd h R6),Rv _,trivial];let(a,e):=KO (m:=d.b.cuts) d.b f g (zT d.b) p (fs:=[]) (λ_ h=>absurd h R6) (by show 0+_<=_;omega);rw[UF]at a e;exact#[a,λc j=>e c (List.mem_reverse.mp j)]
def Xu{M:ρ->Prop}{y:xL ρ}(h:∀x,M x->x∈y):(canon M).length<=ο y:=by
 by_cases e:∃s,Nm s M
 .let(s,H):=e;rw[<- H.canon];rwa[H.len h]
 .unfold canon;rw[dif_neg e];rwa[RE _]
noncomputable def cQ:xL (ρ×ζ×Tm)->aW->aW
 | [],k=>k
 |s::r,k=>cQ r (bu k (.inr s.1) (.int (s.2.2.ev k)))
def eY(N:ζ)(d:Df)(n:Nat):xL ρ:=match (cj N d)[n]? with
 |some c=>canon c.M
 |none=>[]
def pM(N:Nat->xL ρ)(k:aW):Gl->Tr
 | .give _ T=>aB [aM "give",au (T.ev k)]
 | .nought=>aB [aM "give",au 0]
 | .go n=>aB [aM "go",au (n:Int),aB ((N n).map λx=>au (look k (.inr x) 0))]
theorem qo{H:Hp}{ys:xL ρ}:∀{ss:xL (ρ×ζ×Tm)} {k:aW},(∀s∈ss,TV H ys s.2.1 s.2.2)->GT k->GT (cQ ss k)
 | [],_,_,g=>g
 |s::r,k,h,g=>qo (H:=H) (ys:=ys) (ss:=r) (λS a=>h S (RZ _ a)) (g.put _ (Jq g (h s RN).2.1))
def vG{S:xL (ρ×ζ×Tm)}:∀{i:Nat} {s:ρ×ζ×Tm} {k:aW},S[i]?=δ s->cQ (S.take$ i+1) k=bu (cQ (S.take i) k) (.inr s.1) (.int$ s.2.2.ev$ cQ (S.take i) k):=by
 induction S with
 |nil=>intro i s k h;simp at h
 |cons a r I=>
  intro i s k h;cases i with
  |zero=>cases h;rfl
  |succ i=>rwa[I (h:)]
def qg{kvs:aW}{k:bY}{v:V}:(bu kvs k v).length<=ο kvs+1:=by
 unfold bu;split
 .rw[Rs];rwa[Tb _]
 .rw[Ru];rwa[Rv _]
theorem YB:∀{ss:xL (ρ×ζ×Tm)} {k:aW},(cQ ss k).length<=ο k+ο ss
 | [],_=>Rv _
 |s::r,k=>by let h:=YB (ss:=r) (k:=bu k (.inr s.1) (.int$ s.2.2.ev k));let H:=qg (kvs:=k) (k:=.inr s.1) (v:=.int (s.2.2.ev k));show(cQ r _).length<=ο k+(ο r+1);omega
def aR(n:xL ρ)(i:xL Int):aW:=dW [] ((n.map Sum.inr).zip$ i.map xb)
theorem YC:∀{m:aW} {k:aW},GT k->GT m->GT (dW k m)
 | [],_,g,_=>g
 |p::r,k,g,h=>by
  let(i,e,H):=h p RN;let E:bu k p.1 p.2=bu k p.1 (.int i):=by rw[e]
  show GT (dW (bu k p.1 p.2) r);rw[E];rwa[YC (g.put _ H) λq a=>h q (RZ _ a)]
def Jg(h:∀i∈I,gW i):GT (aR n I):=by erw[YC GT.nil λp H=>?_];let(i,a,e):=dn.mp (Vs H).2;exact#[i,e.symm,h i a]
def tY{ns:xL ρ}{is:xL Int}:(aR ns is).length<=ο ns:=by let h:=qY ((ns.map Sum.inr).zip$ is.map xb) [];rw[V1,Rs]at h;show(dW [] _).length<=_;let H:(dW [] ((ns.map Sum.inr).zip$ is.map xb)).length<=0+min ns.length (is.map xb).length:=h;omega
abbrev pP:cc:=bX 23
abbrev nD:cc:=bX 24
abbrev iz:cc:=bX 28
abbrev nC:cc:=bX 29
abbrev lM:cc:=bX 30
abbrev nH:cc:=bX 31
structure og(H:Hp)(nA:ζ)(d:Df)(ys:xL ρ)(v:V):Prop where
 tr:aV H (gO nA d) v []
 bd:∃bs,eP H d.b bs
 ok:d.b.Ok ys
 y20:ys.length<=20
 sz:d.b.size<=3000
structure Li(H:Hp)(nA:ζ)(d:Df)(ys:xL ρ)(c:Ct)(ka na wa:ζ)(dv:V)(wvs:xL V):Prop where
 at':H ka=δ (.tup [.ref na,dv,.ref wa])
 nms:H na=δ (.tup ((canon c.M).map vr))
 deed:aV H (NE c.d) dv []
 wat:H wa=δ (.tup wvs)
 ways:aV H (aD$ c.ws.map lr) .non wvs
 v:Bx d.b.calls H ys nA d.b.cuts d.b.size c
theorem tO:∀{S:xL ρ} {v:xL V},aV H (aD$ S.map aM) .non v->v=S.map vr
 | [],v,h=>h
 |s::S,v,h=>by obtain⟨_,_,y,Y,rfl,⟨rfl,_⟩,a⟩:=h;rw[tO a];rfl
section
variable {H H':Hp}{nA:ζ}{d:Df}{ys:xL ρ}{v:V}
def og.mono(k:aj H H')(h:og H nA d ys v):og H' nA d ys v:=#[h.tr.mono k,let #[b,a]:=h.bd;#[b,a.mono k],h.ok,h.y20,h.sz]
inductive ogp(H:Hp)(nA:ζ)(d:Df)(v:V):Prop|mk(a c W C:_)(_:v= .ref a)(_:H a=δ (.tup [.str d.f,.ref d.pa,W,.ref c]))(_:aV H (lr (i5 nA d).1.w) W [])(_:H c=δ (.tup C))(_:aV H (aD ((cj nA d).map LM)) .non C)
def og.parts(h:og H nA d ys v):ogp H nA d v:=by obtain⟨_,a,x,rfl,i,_,_,n,Y,rfl,⟨rfl,_⟩,_,_,o,j,rfl,⟨rfl,_⟩,_,_,W,k,rfl,l,_,_,p,y,rfl,m,e⟩:=h.tr;let e:y=[]:=e;subst e;let(_,c,C,rfl,b,g):=m;exact#[a,c,W,C,Z,i,l,b,g]
def og.cut{C:xL V}(h:og H nA d ys v)(a:aV H (aD ((cj nA d).map LM)) .non C){n:Nat}{c:Ct}(g:(cj nA d)[n]?=δ c):∃k N i D W,C[n]?=↑k/\Li H nA d ys c k N i D W:=by
 let L:=zA a;rw[Rs]at L;let u:n < ο C:=by rw[L];exact(ξ.mp g).1
 let j:C[n]?=δ C[n]:=Rq u;let(T,b,t):=Jd a n _ j;rw[RP,g]at b;cases b;let(B,y):=h.bd;let z:=(EQ (nA:=nA) y h.ok).2 c (RL g);generalize C[n]=x at j t;let(_,k,E,rfl,l,_,_,F,G,rfl,m,_,_,D,I,rfl,o,_,_,J,A,rfl,p,e):=t;let e:A=[]:=e;subst e;let(_,N,M,rfl,f,q):=m;let(_,i,W,rfl,r,s):=p;rw[tO q]at f;exact#[k,N,i,D,W,j,l,f,o,r,s,z]
def og.way(h:og H nA d ys v):oh H ys nA d.b.cuts d.b.size (i5 nA d).1.w:=by let(B,a):=h.bd;rwa[(EQ (nA:=nA) a h.ok).1.way]
def yf(h:(cj nA d)[n]?=δ c):eY nA d n=canon c.M:=by unfold eY;rw[h]
end
structure N6(H:Hp)(nA:ζ)(w:WD)(wa sa ga:ζ)(ss:xL V)(wd:ρ)(u:V):Prop where
 at':H wa=δ (.tup [.ref sa,.ref ga])
 sat:H sa=δ (.tup ss)
 sets:∀(i:Nat) (x:V),ss[i]?=δ x->∃(s:ρ×ζ×Tm) (p:ζ),w.sets[i]?=δ s/\x= .ref p/\H p=δ (.tup [.str s.1,.ref s.2.1])
 len:ο ss=ο w.sets
 gat:H ga=δ (.tup [.str wd,u])
 goal:match w.goal with
  | .give t _=>wd="give"/\u= .ref t
  | .nought=>wd="give"/\u= .ref nA
  | .go n=>wd="go"/\u= .int (n:Int)
def D6{w:WD}(h:aV H (lr$ w.wy N) v []):∃(l S G:ζ) (A:xL V) (W:ρ) (u:V),v= .ref l/\N6 H N w l S G A W u:=by
 obtain⟨_,r,X,rfl,C,_,_,y0,D,rfl,⟨_,s,c,rfl,E,m⟩,_,_,Y,y,rfl,b,e⟩:=h;let e:y=[]:=e;subst e;let L:=zA m;let st:∀(i:Nat) (x:V),c[i]?=δ x->∃(s:ρ×ζ×Tm) (p:ζ),w.sets[i]?=δ s/\x= .ref p/\H p=δ (.tup [.str s.1,.ref s.2.1]):=λi x F=>by let(tr,o,I):=Jd m i x F;rw[RP]at o;let(q,J,rfl):=cJ.mp o;let a:(w.sets.map λs=>(s.1,s.2.1))[i]?=δ q:=J;rw[RP]at a;let(z,M,rfl):=cJ.mp a;obtain⟨_,p,X,rfl,O,_,_,Q,R,rfl,⟨rfl,_⟩,_,_,U,B,rfl,⟨rfl,_⟩,e⟩:=I;let e:B=[]:=e;subst e;exact#[z,p,M,Z,O]
 let ln:ο c=ο w.sets:=by rw[L,Rs];rwa[Rs ..]
 let f:∀g:Gl,w.goal=g->aV H (Cn$ g.gol N) Y []->∃(G:ζ) (W:ρ) (u:V),Y= .ref G/\H G=δ (.tup [.str W,u])/\match g with
  | .give t _=>W="give"/\u= .ref t
  | .nought=>W="give"/\u= .ref N
  | .go n=>W="go"/\u= .int (n:Int):=λg _ b=>by
  cases g with
  |give t T |nought |go n=>obtain⟨_,gl,X,rfl,d,_,_,Q,R,rfl,⟨rfl,_⟩,_,_,U,B,rfl,⟨rfl,_⟩,e⟩:=b;let e:B=[]:=e;subst e;exact#[gl,112,d,22]
 let(G,W,u,rfl,j,k):=f w.goal Z b;exact#[r,s,G,c,W,u,Z,C,E,st,ln,j,k]
inductive lR(b:ζ)(e:xL V)(H:Hp)(Q:VK)(a:XK):Prop
 |mk(v:V)(n:Nat)(d:Df)(f:xL ρ)(c:Ct)(_:e=[v,.int (n:Int)])(_:og H b d f v)(_:(cj b d)[n]?=δ c)(_:∀(ka na wa:ζ) (dv:V) (wvs:xL V),Li H b d f c ka na wa dv wvs->Q (.ref ka) H)
inductive lU(f:ζ)(g:xL V)(H:Hp)(Q:VK)(a:XK):Prop
 |mk(v:V)(n:Nat)(b:ζ)(d:Df)(h:xL ρ)(c:Ct)(e:xL Int)(_:g=[v,.int (n:Int),.ref b])(_:og H f d h v)(_:(cj f d)[n]?=δ c)(_:H b=δ (.tup (e.map xb)))(_:ο e=(canon c.M).length)(_:∀dd:ζ,H dd=θ->Q (.ref dd) (af H dd (.dK (aR (canon c.M) e))))
def rO:∀(s:xL ρ),(s.map (Sum.inr:ρ->bY)).map kV=s.map vr:=λs=>by rw[TX];rfl
def DM:am ["part","n"] ["part","n"] (ae pP):=bP
def yn{f:ζ}{g:bS}{N:ζ}(F:xD K "cut_at" pP f g):⇑1 f g ["part","n"] (lR N):=by
 erw[F.ok DM λl A o s H V Q E B h=>?_]
 let(v,n,d,y,c,rfl,i,m,q):=h;erw[#[_,%[Z|_flkGh01p],?_]];let(a,p,I,J,rfl,r,L,b,e):=i.parts;let(t,u,x,D,W,z,C):=i.cut e m;exact#[12,a,11122,aC.of r,jE (j:=3) Z,12,p,11122,aC.of b,jE z,q t u x D W C]
def Aq:am z9z z9z (ae nD):=bP
def vg(F:xD K "held_at" nD f g)(i:{1} J j ["part","n"] (lR N) "cut_at")(m:mg "dict"=θ)(a:mg "zip"=θ):⇑2 f g z9z (lU N):=by
 erw[F.ok Aq λp A o s H V Q E r h=>?_]
 let(v,n,b,d,y,c,I,rfl,t,u,x,z,q):=h;erw[#[_,%[Z|_fl (@si _ _ _ _ _ _ _ _ Z m Z a Z %[Z|_akG i.e r _a0a1bgpa2b] Pz Pz Pz Pz)],?_]];erw[#[1212,v,n,d,y,c,Z,t,u,λB D O R W C=>#[B,11122,aC.of C.at',eQ,12,D,b,(canon c.M).map Sum.inr,12,by rw[rO];rwa[aC.of C.nms],aC.of x,by rw[Rs,Rs,z],λl G=>q l G]]]
inductive Wh where
 |rd (a i:Int) |wr (a b:Int) |ask (b:Int) |cl (f:ρ) (is:xL Int) (i:Int)
def Fp(H:Hp)(u:V):Wh->Prop
 | .rd a i=>∃p,u= .ref p/\H p=δ (.tup [.str "read",.int a,.int i])
 | .wr a b=>∃p,u= .ref p/\H p=δ (.tup [.str "write",.int a,.int b])
 | .ask b=>∃p,u= .ref p/\H p=δ (.tup [.str "ask",.int b])
 | .cl f I i=>∃p c g e,u= .ref p/\H p=δ (.tup [.str "call",.ref c])/\H c=δ (.tup [.str f,.ref g,e,.int i])/\H g=δ (.tup (I.map xb))
def Fp.mono{H d:Hp}(k:aj H d){u:V}{w:Wh}(h:Fp H u w):Fp d u w:=by
 cases w with
 |rd a i |wr a b |ask b=>let(p,e,h):=h;exact#[p,e,k _ _ h]
 |cl f I i=>let(p,c,g,e,E,j,l,m):=h;exact#[p,c,g,e,E,k _ _ j,k _ _ l,k _ _ m]
inductive DD where
 |st (p:ζ) (l:Lf) |ask (t:ζ) (T:Tm)
noncomputable def DD.dd:DD->Dd
 | .st p _=>.st p
 | .ask t _=>.ask t
def we(H:Hp)(y:xL ρ):DD->Prop
 | .st p l=>∃v,H p=δ (.tup v)/\BC H l v/\l.Ok y/\l.isCut=μ
 | .ask t T=>TV H y t T
def we.mono(k:aj H a)(h:we H y d):we a y d:=by
 cases d with
 |st p l=>let(v,b,c,e):=h;exact#[v,k _ _ b,c.mono k,e]
 |ask t T=>rwa[TV.mono k h]
def DD.Cs(F:iZ):DD->Prop
 | .st _ l=>l.Cs F
 | .ask _ _=>True
def LU{F:iZ}(h:OP F H y d):∃e:DD,e.dd=d/\we H y e/\e.Cs F:=by
 cases d with
 |st p=>let(l,v,a,b,c,f,g):=h;exact#[.st p l,Z,#[v,a,b,c,f],g]
 |ask t=>let(T,h):=h;exact#[.ask t T,Z,h,trivial]
def Lj:DD->Wh->Prop
 | .st _ (.rd _ _ _),.rd _ i=>gW i
 | .st _ (.wr _ _ _ _),.wr _ _=>True
 | .st _ (.cl _ _ _ _),.cl _ _ i=>gW i
 | .ask _ _,.ask b=>b=0∨b=1
 |_,_=>False
def pG(d:DD)(w:Wh)(k:aW):aW:=match d,w with
 | .st _ (.rd x _ _),.rd _ i | .st _ (.cl x _ _ _),.cl _ _ i=>bu k (.inr x) (.int i)
 |_,_=>k
noncomputable def Wh.side:Wh->Nat
 | .ask b=>if b=0 then 1 else 0
 |_=>0
def xp(Q:VK)(H:Hp):Wh->Prop
 | .rd _ i | .cl _ _ i=>Q (.int i) H
 |_=>False
inductive gI(b:xL V)(H:Hp)(Q:VK)(a:XK):Prop
 |mk(u:V)(w:Wh)(_:b=[u])(_:Fp H u w)(_:xp Q H w)
inductive oJ(c:ζ)(e:xL V)(H:Hp)(Q:VK)(a:XK):Prop
 |mk(v f:V)(b:ζ)(d:Df)(g:xL ρ)(w:WD)(k:aW)(_:e=[v,f,.ref b])(_:og H c d g v)(_:aV H (lr (w.wy c)) f [])(_:Bt H g d.b.cuts d.b.size w)(_:H b=δ (.dK k))(_:GT k)(_:ο k<=200)(_:∀(u:V) (H':Hp),aV H' (pM (eY c d) (cQ w.sets k) w.goal) u []->aI b H H'->Q u H')
inductive EI(c:ζ)(a:_L.St)(j:xL (ρ×ζ×Tm))(k:aW)(H:Hp)(i:Nat)(l:_L.St)(b:Hp):Prop
 |mk(g h:ym V)(d:l=a++[g,h,θ,θ])(e:b c=δ (.dK (cQ (j.take i) k)))(f:aI c H b)
theorem KD{H:Hp}:∀{is:xL Int},aV H (aD$ is.map au) .non (is.map xb)
 | []=>rfl
 |i::is=>jm Z jX (KD (is:=is))
def mN:am ["what"] ["what"] (ae iz):=bP
def yq(F:xD K "found_in" iz f n):⇑1 f n ["what"] gI:=by
 erw[F.ok mN λC A o s H v Q E t h=>?_]
 let(u,W,rfl,d,q):=h;erw[#[_,%[Z|_flWxh0hkG0gpkG0 (yI Zd jf) _p],?_]];cases W with
 |rd a i=>let(p,rfl,l):=d;exact(jv l eQ #[212,a9 PH #[1212,p,11122,aC.of l,Z,q]])
 |cl f I i=>let(p,c,g,e,rfl,m,r,_):=d;exact(jv m eQ #[212,dB PH$ jv m gY #[c,11122,aC.of r,jE (j:=3) Z,q]])
 |wr a b |ask b=>rwa[q.elim]
def iE:am ["part","way","numbers","name","term","goal","held"] ["part","way","numbers"] (ae nC):=bP
noncomputable def ZY:ge:=#[.function,[(".0",.local),("name",.local),("numbers",.free)],ν,ν,[]]
def CB:(["name","numbers"]:xL ρ).Nodup:=PH
def BR:bh ["part","way","numbers","name","term","goal","held"] (ae nC) ZY ["name","numbers"] 1 [2]:=oi
def yo(F:xD K "end_of" nC f fd)(cC:{1} fC f2 ["part","n"] (lR U) "cut_at")(cW:{7} fW f3 z11z (dC K 6) "worth")(m0:mg "tuple"=θ)(no:px K U):⇑8 f fd ["part","way","numbers"] (oJ U):=by
 erw[F.ok iE λc0 A o1 s H vs Q E Y h=>?_]
 let(v,w1,D,d,ys,O,k,rfl,hp,hw,wv,hd,gk,hk,q):=h;erw[#[_,%[iE|_cHTjZh1P (n:=2) _jqi3qi4γf (Jt (zW Y) (pv 2) (pv 3) (cW.e Y.m %[iE|_a4a2b]) Z) _ce5h1cmxh5fldana cW.e Y.m _ah5a2bbtc (@qQ _ _ _ _ _ _ _ _ _ _ 6 ["name","numbers"] 1 [2] _ _ _ _ iE.nd Z (ψ Z) Z %[iE|_ZkG cC.e Y.m _a0ah5bgp] BR (λ_ _ _ _ _=>ju (i:=0) CB Z$ ψ Z) (λ_ _ _ _ _=>@zw _) (λ_ _ _ _ _=>@K9 _ _ _ _ _ _ _ _ _ (zW Y) (pv 1) (pv 0) jf #[Pz,Pz,Pz,Pz]) Pz Ch Cv) _fldanah5aEςjYξa6bb],?_]];let b0:=aL;let(wa,sa,ga,ss,wd,u,rfl,W):=D6 hw;let R:∀g,aI D H g->aj H g:=λg k b xs e=>k b _ (jO e hd BT) e;let h2:=hp.sz;let h3:=wv.len;erw[ah λF1 C=>eG λJ j=>(jv W.at' eQ #[sa,Z,#[_,aC.of W.sat],j _ _ ?_])];erw[Qa (K:=K) (xs:=ss) (EI D [δ v,↑wa,↑D] O.sets k H) #[112,hd,aI.refl] (λi σ g _ h=>?_) ?_ (λσ g h=>C _ _ ?_)]
 .let(_,_,_,_,I):=h;rwa[aC.of$ R _ I _ _ W.sat]
 .intro E _ i x σ H1 hx f0 Gq kq h;let(o3,o4,rfl,L,I):=h;let(s,p,hs,rfl,h0):=W.sets i x hx;let S:=R _ I;let tv:=(wv.sets s$ RL hs).mono S;let g1:GT (cQ (O.sets.take i) k):=qo (H:=H) (ys:=ys) (λs hs=>wv.sets s (Sz hs)) gk;let l1:=YB (ss:=O.sets.take i) (k:=k);rw[R0]at l1;erw[kq ?_];erw[#[p,12,aC.of$ S _ _ h0,21121122,?_]];erw[#[1212,s.2.1,D,s.2.2,ys,12,.inl tv.1,tv.2.2,tv.2.1,L,g1,1212,D,12,.inl #[_,.inr s.1,L,Z,PL,Z],f0 _ _ #[112,?_,λc o X e=>by rw[ji X];rwa[I c o X e]]]];rw[vG hs];rwa[jc]
 .let(o3,o4,rfl,L,I):=h;rw[W.len,Su]at L;let S:=R _ I;let g1:GT (cQ O.sets k):=qo (H:=H) (ys:=ys) wv.sets gk;let B:=wv.goal;let a:=W.goal;generalize cQ O.sets k=N at L g1 q;erw[ah λF1 C=>(jv (S _ _ W.at') gY$ C _ _ ?_)];let G:=S _ _ W.gat;erw[ah λF1 C=>ms λG1 k3 k0=>(jv G eQ #[212,?_])];let give:∀(t:ζ) (T:Tm),wd="give"->u= .ref t->O0 K g T t->em ys T->(∀(u':V) (H9:Hp),aV H9 (aB [aM "give",au$ T.ev N]) u' []->aI D H H9->Q u' H9)->G1 (decide$ vr wd=vr "give") g:=by intro t T e1 e2 x1 x2 x3;subst e1;subst e2;rw[RG Z];erw[k3 _$ jv G gY #[12,t,D,T,ys,N,Z,x1,x2.2,x2.1,L,g1,cg,λr nr=>?_]];exact x3 _ _ (jG jc$ jm Z jT$ jm Z jX jC) λc o X e=>je nr _ _ (I c o X e)
  cases hg:O.goal with
  |give t T=>rw[hg]at B a q;rwa[give t T a.1 a.2 (.inl$ B.1.mono S) B.2 q]
  |nought=>rw[hg]at a q;rwa[give U (.num 0) a.1 a.2 (.inr #[Z,no _]) #[#[PM,PM],PM] q]
  |go n=>
   rw[hg]at B a q;let(e1,e2):=a;subst e1;subst e2;let hn:n < (cj U d).length:=by rw[rf];rwa[B]
   obtain⟨c,hc⟩:∃c,(cj U d)[n]?=δ c:=#[_,Rq hn];let e0:decide (vr "go"=vr "give")=ν:=PH
   rw[e0];erw[k0 _$ C _ _ ?_];erw[ah λF1 C=>#[12,jv G gY #[v,n,d,ys,c,Z,hp.mono S,hc,λka na w2 dv w3 ca=>#[ka,11122,aC.of ca.at',eQ,na,Z,#[_,aC.of ca.nms],?_]]]];let cl:=RM (Xu ca.v.mem) hp.y20;let q:∀(u:V) (g:Hp),aV g (aB [aM "go",au (n:Int),aB ((eY U d n).map λx=>au (look N (.inr x) 0))]) u []->aI D H g->Q u g:=q;rw[yf hc]at q;erw[qj (K:=K) (xs:=(canon c.M).map vr) (by rw[Rs];omega) (λi zs Hx=>zs=((canon c.M).take i).map (λx=>xb (look N (.inr x) 0))/\Hx=g) #[22] (λi zs Hx h=>?_) (λi x zs Hx hx h=>?_) (λzs Hx h l nl=>C _ _ ?_)]
   .let(rfl,rfl):=h;exact#[aC.of ca.nms,by rw[Rs,R0];omega]
   .let(rfl,rfl):=h;rw[RP]at hx;let(y,hy,rfl):=cJ.mp hx;erw[#[12,D,Z,.inl #[N,.inl L],121,ip.k (k:=Sum.inr y) L,?_,Z]];rw[Qc g1,SX,hy,RU];rfl
   .let(rfl,rfl):=h;rw[Rs,Su];erw[(jv (je nl _ _ G) gY #[12,l,12,.inl #[aJ.of jc,λtl n0=>#[ie,λr nr=>?_]]])];erw[q _ _ (jG jc$ jm Z jT$ jm Z jX$ jm Z (jG (aq jc nr) ?_) jC) λc' o X e=>je nr _ _ (je n0 _ _$ je nl _ _$ I c' o X e)];let:=KD (H:=af (af (af Hx l$ .lst ((canon c.M).map (λx=>xb (look N (.inr x) 0)))) tl$ .tup ((canon c.M).map (λx=>xb (look N (.inr x) 0)))) r (.tup [.str "go",.int (n:Int),.ref tl])) (is:=(canon c.M).map λx=>look N (.inr x) 0);rw[TX,TX]at this;rwa[this]
structure mG(H:Hp)(nA:ζ)(d:Df)(ys:xL ρ)(v:V)(sa:ζ)(n:Nat)(hv:ζ)(uw:V)(c:Ct)(is:xL Int)(wh:Wh)(e:DD)(wd:WD):Prop where
 prt:og H nA d ys v
 at':H sa=δ (.tup [.int (n:Int),.ref hv,uw])
 cut:(cj nA d)[n]?=δ c
 hat:H hv=δ (.tup$ is.map xb)
 hl:ο is=(canon c.M).length
 hin:∀i∈is,gW i
 whv:Fp H uw wh
 ed:e.dd=c.d
 dv:we H ys e
 fit:Lj e wh
 way:c.ws[wh.side]?=δ (wd.wy nA)
 wdv:Bt H ys d.b.cuts d.b.size wd
def mG.mono(k:aj H a)(h:mG H N d y v s n b u c i f e g):mG a N d y v s n b u c i f e g:=
 #[h.prt.mono k,k _ _ h.at',h.cut,k _ _ h.hat,h.hl,h.hin,h.whv.mono k,h.ed,h.dv.mono k,h.fit,h.way,h.wdv.mono k]
def Oj(n:ζ)(d:Df)(c:Ct)(i:xL Int)(a:Wh)(e:DD)(W:WD):Tr:=pM (eY n d) (cQ W.sets$ pG e a$ aR (canon c.M) i) W.goal
inductive iG(e:ζ)(g:xL V)(H:Hp)(Q:VK)(a:XK):Prop
 |mk(v:V)(b:ζ)(d:Df)(h f:xL ρ)(c:xL Int)(w:WD)(_:g=[v,.ref b])(_:og H e d h v)(_:H d.pa=δ (.tup (f.map vr)))(_:ο f<=100)(_:H b=δ (.tup (c.map xb)))(_:ο c=ο f)(_:∀i∈c,gW i)(_:w.wy e=(i5 e d).1.w)(_:Bt H h d.b.cuts d.b.size w)(_:∀(u:V) (H':Hp),aV H' (pM (eY e d) (cQ w.sets (aR f c)) w.goal) u []->aa H H'->Q u H')
inductive pZ(g:ζ)(j:xL V)(H:Hp)(Q:VK)(a:XK):Prop
 |mk(v i:V)(h b:ζ)(n:Nat)(d:Df)(m:xL ρ)(c:Ct)(f:xL Int)(l:Wh)(e:DD)(k:WD)(_:j=[v,.ref h])(_:mG H g d m v h n b i c f l e k)(_:∀(u:V) (H':Hp),aV H' (Oj g d c f l e k) u []->aa H H'->Q u H')
def Zj(h:Lj e a)(g:GT k):GT (pG e a k):=by
 unfold pG;split
 .rwa[g.put _ h]
 .rwa[g.put _ h]
 .rwa[g]
def BK{e:DD}{wh:Wh}{k:aW}:(pG e wh k).length<=ο k+1:=by
 unfold pG;split
 .rwa[qg]
 .rwa[qg]
 .rwa[Tb _]
def vI:am ["part","args"] ["part","args"] (ae lM):=bP
def ZZ(F:xD K "first_of" lM f I)(J:{8} fE L ["part","way","numbers"] (oJ T) "end_of")(M:mg "dict"=θ)(b:mg "zip"=θ):⇑9 f I ["part","args"] (iG T):=by
 erw[F.ok vI λR A O s H vs Q E U h=>?_]
 let(v,x,d,y,p,is,z,rfl,C,g,V,i,n,r,t,W,q):=h;erw[#[_,%[Z|_fl J.e U.m _a0ah0a (@si _ _ _ _ _ _ _ _ Z M Z b Z %[Z|_ah0a1b] Pz Pz Pz Pz) _b],?_]];let(a,ca,X,cs,rfl,D,G,Y,h0):=C.parts;rw[<- t]at G;erw[#[1212,a,11122,aC.of D,jE (j:=2) Z,jv D gY #[12,d.pa,x,p.map Sum.inr,12,by rw[rO];rwa[aC.of g],aC.of i,by rw[Rs,Rs,n],λl N=>?_]]];let S:aa H (af H l$ .dK$ aR p is):=je N;let zl:=tY (ns:=p) (is:=is);exact#[.ref a,X,l,d,y,z,aR p is,Z,C.mono$ aa.tm S,G.mono$ aa.tm S,W.mono$ aa.tm S,jc,Jg r,PL,λu H' tu k=>q u H' tu λc o e=>k c o (jk e N) (S _ _ e)]
def gF:am ["part","step","cut","numbers","what","way"] ["part","step"] (ae nH):=bP
def vo{f:ζ}{fd:bS}{nA fC fD fF fE:ζ}{f0 f3 f4 f5:bS}(F:xD K "onward" nH f fd)(cC:{1} fC f0 ["part","n"] (lR nA) "cut_at")(cD:{2} fD f3 z9z (lU nA) "held_at")(cF:{1} fF f4 ["what"] gI "found_in")(cE:{8} fE f5 ["part","way","numbers"] (oJ nA) "end_of"):⇑9 f fd ["part","step"] (pZ nA):=by
 erw[F.ok gF λc0 A o2 s H vs Q E hr h=>?_]
 symm;let(v,L,Y,hv,n,d,ys,c,is,wh,e,wd,rfl,C,q):=h;erw[#[_,%[gF|_ce2 cC.e hr.m _a0ah1bce3 cD.e hr.m _a0ah1ah1bce4h1cms zJ _h4dananbjf (Jt (zW hr) (pv 3) %[gF|_hkG2gp] (cF.e hr.m %[gF|_a4b]) Z) _tce5Ws (Hs$ zW hr) _4danagbw _ _hkG2gphkG2gpfl cE.e hr.m _a0a5a3b],?_]];let b0:=aL;symm;let(a,ca,wv,cs,rfl,ha,hw,a0,a1):=C.prt.parts;let h0:=C.at';sleep 5;erw[ah λF1 J=>#[12,jv h0 eQ #[_,n,d,ys,c,Z,C.prt,C.cut,λka na wa dv w0 cu=>J _ _ ?_]]];left;erw[ah λF1 J=>#[12,jv h0 eQ$ jv h0 gY #[_,n,hv,d,ys,c,is,Z,C.prt,C.cut,C.hat,C.hl,λD n0=>J _ _ ?_]]];left;let s1:aa H (af H D$ .dK$ aR (canon c.M) is):=je n0;let d1:af H D (.dK$ aR (canon c.M) is) D=δ (.dK$ aR (canon c.M) is):=jc;generalize af H D (.dK$ aR (canon c.M) is)=H1 at s1 d1;let O:=C.mono (aa.tm s1);let g0:GT (aR (canon c.M) is):=Jg C.hin;let z0:=tY (ns:=canon c.M) (is:=is);let z1:=Xu cu.v.mem;let z2:=C.prt.y20;generalize h7:aR (canon c.M) is=k0 at d1 g0 z0;erw[ah λF1 J=>#[12,Y,11122,aC.of O.at',jE (j:=2) Z,J _ _ ?_]];left;let o1:Oj nA d c is wh e wd=pM (eY nA d) (cQ wd.sets$ pG e wh k0) wd.goal:=by unfold Oj;rw[h7]
 rw[o1]at q;let h1:=zA cu.ways;rw[Rs]at h1;let G:∃x,w0[wh.side]?=δ x/\aV H (lr$ wd.wy nA) x []:=by
  let hj:wh.side < ο w0:=by rw[h1];exact(ξ.mp C.way).1
  symm;let(tr,ht,tx):=Jd cu.ways wh.side _ (Rq hj);rw[RP,C.way]at ht;cases ht;exact#[_,Rq hj,tx]
 symm;let(wx,G,t0):=G;let h4:=cu.at';let h8:=cu.wat;erw[ah λF1 J=>?_];let r0:∀(H3:Hp),H3 D=δ (.dK$ pG e wh k0)->aI D H1 H3->F1 [↑a,↑Y,↑ka,↑D,δ L,θ] H3:=by
  intro H3 h3 k3;erw[J _ _ ?_];left;let s3:aa H H3:=λc o x=>k3 c o (jk x n0) (s1 _ _ x);let l3:=BK (e:=e) (wh:=wh) (k:=k0);erw[ah λF2 f2=>?_];let f6:∀H4,aa H3 H4->F2 [↑a,↑Y,↑ka,↑D,δ L,δ wx] H4:=λH4 s4=>f2 _ _ (by
   let S:=s3.trans s4;exact#[121212,.ref a,wx,D,d,ys,wd,12,C.prt.mono$ aa.tm S,t0.mono$ aa.tm S,C.wdv.mono$ aa.tm S,s4 _ _ h3,Zj C.fit g0,PL,λu R tu k=>q u R tu λc o x=>k c o (jk x n0) (S _ _ x)])
  left;let wk:=C.whv.mono (aa.tm s3);let ff:∀(H4:Hp) (j:Nat),aa H3 H4->w0[j]?=δ wx->fb (db K) (fb (db K) (bn 2)$ tC$ .int 2) (tC$ .int (j:Int)) [↑a,↑Y,↑ka,↑D,δ L,θ] H4 λx H5=>F2 ([↑a,↑Y,↑ka,↑D,δ L,θ].set 5 (δ x)) H5:=λH4 j s4 hj=>
   #[12,ka,11122,aC.of ((s3.trans s4) _ _ h4),jE (j:=2) Z,wa,11122,aC.of ((s3.trans s4) _ _ h8),jE hj,f6 H4 s4]
  symm;cases wh with
  |rd a' i |wr a' b=>let(p,rfl,B):=wk;exact#[12,cg,λt N=>#[p,t,1122,aC.of$ je N _ _ B,aC.of jc,.inl #[2212,a9 (by unfold wV;rwa[VC _])$ ff _ 0 (je N) G]]]
  |ask b=>
   let(p,rfl,B):=wk;let hb:b=0∨b=1:=by
    let:=C.fit;symm;cases e with
    |st p l=>cases l<;>rwa[this.elim]
    |ask t T=>rwa[this]
   rcases hb with rfl |rfl
   .exact#[12,cg,λt N=>#[p,t,1122,aC.of$ je N _ _ B,aC.of jc,.inl #[2212,dB PH$ ff _ 1 (je N) G]]]
   .exact#[12,cg,λt N=>#[p,t,1122,aC.of$ je N _ _ B,aC.of jc,.inl #[2212,a9 PH$ ff _ 0 (je N) G]]]
  |cl f' i0 i=>let(p,c',g,e',rfl,B,h',_):=wk;exact#[12,cg,λt N=>#[p,t,1122,aC.of$ je N _ _ B,aC.of jc,.inr #[_,c',1112,aC.of$ je N _ _ h',212,a9 Z$ ff _ 0 (je N) G]]]
 let wk:=O.whv;let dk:=O.dv;let fk:=O.fit;let h5:=s1 _ _ h4;let d0:=cu.deed;rw[<- C.ed]at d0;let skip:∀(p:ζ) (W:ρ) (r:xL V),L= .ref p->H1 p=δ (.tup (.str W::r))->rM (.str W) [.str "read",.str "call"]=ν->pG e wh k0=k0->lh (mX$ fb (MQ K ν) (fb (db K) (bn 4)$ tC$ .int 0)$ bV$ ap (tC$ .str "read")$ ap (tC$ .str "call") aS) (y6 (bn 3) (fb (db K) (fb (db K) (bn 2)$ tC$ .int 1)$ tC$ .int 1)$ fj gI [] E0$ ap (bn 4) aS) AY { nx:=F1,rt:=Q } [↑a,↑Y,↑ka,↑D,δ L,θ] H1:=by intro p W r I B e2 e3;subst I;erw[ms λG1 k1 k2=>(jv B eQ #[cg,λt N=>#[t,12,.inr$ aC.of jc,2212,?_]])];show G1 (rM (.str W) [.str "read",.str "call"]) _;rw[e2];rwa[k2 _$ r0 _ (by rw[e3];rwa[aq d1 N]) λc o _ x=>je N _ _ x]
 let p0:∀(p p':ζ) (W:ρ) (r:xL V) (i:Int) (x:ρ) (y:V) (r':xL V),L= .ref p->H1 p=δ (.tup (.str W::r))->rM (.str W) [.str "read",.str "call"]=μ->dv= .ref p'->H1 p'=δ (.tup (y:: .str x::r'))->(∀R:Hp,aa H1 R->Fp R L wh)->(∀(Q':VK) (R:Hp),Q' (.int i) R->xp Q' R wh)->pG e wh k0=bu k0 (.inr x) (.int i)->lh (mX$ fb (MQ K ν) (fb (db K) (bn 4)$ tC$ .int 0)$ bV$ ap (tC$ .str "read")$ ap (tC$ .str "call") aS) (y6 (bn 3) (fb (db K) (fb (db K) (bn 2)$ tC$ .int 1)$ tC$ .int 1)$ fj gI [] E0$ ap (bn 4) aS) AY { nx:=F1,rt:=Q } [↑a,↑Y,↑ka,↑D,δ L,θ] H1:=by intro p p' W r i x y r' I B e2 e4 X e5 e6 e3;subst I;subst e4;erw[ms λG1 k1 k2=>(jv B eQ #[cg,λt N=>#[t,12,.inr$ aC.of jc,2212,?_]])];show G1 (rM (.str W) [.str "read",.str "call"]) _;rw[e2];erw[k1 _ #[12,.ref p,wh,Z,e5 _$ je N,e6 _ _ ?_]];exact#[12,jv (je N _ _ h5) gY #[p',11122,aC.of$ je N _ _ X,gY,D,12,.inl #[k0,.inr x,aq d1 N,Z,PL,Z],r0 _ (by rw[e3];rwa[jc]) λc o nc z=>by rw[ji nc];rwa[je N _ _ z]]]
 symm;cases e with
 |ask t T=>
  cases wh with
  |ask b=>let(p,I,B):=wk;rwa[skip p _ _ I B PH Z]
  |_=>rwa[fk.elim]
 |st p' l=>
  let(vs,X,h6,_):=dk;let ed:dv= .ref p':=d0.1;cases l with
  |rd x t T=>
   cases wh with
   |rd b i=>let(p,I,B):=wk;let(rfl,_):=h6;rwa[p0 p p' _ _ i x _ _ I B PH ed X (λR s'=>#[p,I,s' _ _ B]) (λ_ _ h=>h) Z]
   |_=>rwa[fk.elim]
  |wr t u T U=>
   cases wh with
   |wr b i=>let(p,I,B):=wk;rwa[skip p _ _ I B PH Z]
   |_=>rwa[fk.elim]
  |cl x f' q' ts=>
   cases wh with
   |cl f2 i1 i=>let(p,c2,g2,e2,I,B,h2,h3):=wk;let(rfl,_):=h6;rwa[p0 p p' _ _ i x _ _ I B PH ed X (λR s'=>#[p,c2,g2,e2,I,s' _ _ B,s' _ _ h2,s' _ _ h3]) (λ_ _ h=>h) Z]
   |_=>rwa[fk.elim]
  |st x t T |gv t T=>cases wh<;>rwa[fk.elim]
abbrev lD:cc:=bX 25
abbrev ny:cc:=bX 26
def uA(k:aW):DD->Tr
 | .st _ (.rd _ _ T)=>aB [aM "read",au (T.ev k)]
 | .st _ (.wr _ _ T U)=>aB [aM "write",au (T.ev k),au (U.ev k)]
 | .st _ (.cl _ f _ t)=>aB [aM "call",aM f,aB (t.map λc=>au (c.2.ev k))]
 | .ask _ T=>aB [aM "ask",au (if T.ev k=0 then 0 else 1)]
 |_=>.nil
inductive fh(g:ζ)(h:xL V)(H:Hp)(Q:VK)(a:XK):Prop
 |mk(v:V)(n:Nat)(b:ζ)(d:Df)(j:xL ρ)(c:Ct)(f:xL Int)(e:DD)(_:h=[v,.int (n:Int),.ref b])(_:og H g d j v)(_:(cj g d)[n]?=δ c)(_:H b=δ (.tup (f.map xb)))(_:ο f=(canon c.M).length)(_:∀i∈f,gW i)(_:e.dd=c.d)(_:we H j e)(_:∀(u:V) (H':Hp),aV H' (uA (aR (canon c.M) f) e) u []->aa H H'->Q u H')
inductive iJ(f:xL V)(H:Hp)(Q:VK)(b:XK):Prop
 |mk(a d:ζ)(e:xL (ζ×Tm))(g:xL ρ)(k:aW)(_:f=[.ref a,.ref d])(_:H a=δ (.tup (e.map λc=>xm c.1)))(_:ο e<=6)(_:∀c∈e,bK H c.2 c.1/\em g c.2)(_:H d=δ (.dK k))(_:GT k)(_:∀(r:ζ) (H':Hp),H' r=δ (.tup (e.map λc=>xb (c.2.ev k)))->aa H H'->Q (.ref r) H')
def AA:am ["terms","numbers"] ["terms","numbers"] (ae lD):=bP
noncomputable def Z0:ge:=#[.function,[(".0",.local),("term",.local),("worth",.globalImplicit),("numbers",.free)],ν,ν,[]]
def CF:(["term","numbers"]:xL ρ).Nodup:=PH
def BV:bh ["terms","numbers"] (ae lD) Z0 ["term","numbers"] 1 [1]:=oi
def vq(F:xD K "worths" lD f v)(C:{7} U B z11z (dC K 6) "worth")(M:mg "tuple"=θ):⇑8 f v ["terms","numbers"] iJ:=by
 erw[F.ok AA λG A o s H R Q E I h=>?_]
 let(a,D,t,g,k,rfl,p,W,b,J,L,q):=h;erw[#[_,%[Z|_flEςj M _ξa (@za _ _ _ _ _ _ _ ["term","numbers"] 1 [1] _ _ _ _ Z (qk$ pv 0) BV (λ_ _ _ _ _=>ju (i:=0) CF Z$ ψ Z) (λ_ _ _ _ _=>@zw _) (λ_ _ _ _ _=>C.e I.m %[Z|_a0a1b]) Cv) _b],?_]];let N:=aL;erw[#[12,a,Z,#[_,aC.of p],?_]];erw[qj (K:=K) (xs:=t.map λc=>xm c.1) (by rw[Rs];omega) (λi z d=>z=(t.take i).map (λc=>xb (c.2.ev k))/\d=H) #[22] (λi z d h=>?_) (λi x z d r h=>?_) (λz d h l O=>?_)]
 .let(rfl,rfl):=h;exact#[aC.of p,by rw[Rs,R0];omega]
 .let(rfl,rfl):=h;rw[RP]at r;let(y,u,rfl):=cJ.mp r;let Y:=RL u;erw[#[1212,y.1,D,y.2,g,k,Z,.inl (b y Y).1,(b y Y).2.2,(b y Y).2.1,J,L,?_,Z]];rw[SX,u,RU];rfl
 .let(rfl,rfl):=h;rw[Rs,Su];exact#[l,12,.inl #[aJ.of jc,λT n=>q T _ jc ((je O).trans$ je n)]]
def iD:am ["part","n","held","numbers","deed","word"] z9z (ae ny):=bP
def u7(F:xD K "deed_at" ny f fd)(cH:{2} fH f0 z9z (lU nA) "held_at")(cC:{1} fC f2 ["part","n"] (lR nA) "cut_at")(cW:{7} fW f3 z11z (dC K 6) "worth")(cS:{8} fS f4 ["terms","numbers"] iJ "worths"):⇑9 f fd z9z (fh nA):=by
 erw[F.ok iD λc0 A o1 s H vs Q E L h=>?_]
 let(v,n,hv,d,Y,c,is,e,rfl,hp,hc,hh,hl,h0,h1,h2,q):=h;erw[#[_,%[iD|_ce3 cH.e L.m _a0a1a2bce4kG cC.e L.m _a0a1bgpce5h4cmx5flda5aWs qB cW.e L.m _ah4a3bgw _ _ggbtcmx5flda5ah4a cS.e L.m _ah4a3bbtcmx5flda5a cW.e L.m _ah4a3bbtfloVda5b cS.e L.m _aBι4ygUa3b],?_]];let b0:=aL;let(a,ca,p0,cs,rfl,ha,_,h7,h8):=hp.parts;erw[ah λi b=>#[121212,.ref a,n,hv,d,Y,c,is,Z,hp,hc,hh,hl,λC n0=>b _ _ ?_]];let S:aa H (af H C$ .dK$ aR (canon c.M) is):=je n0;let O:af H C (.dK$ aR (canon c.M) is) C=δ (.dK$ aR (canon c.M) is):=jc;show cw _ _ _ _ (af H C$ .dK$ aR (canon c.M) is);generalize af H C (.dK$ aR (canon c.M) is)=H1 at S O;let V:GT (aR (canon c.M) is):=Jg h0;generalize aR (canon c.M) is=k at O V q;let dk:=h2.mono (aa.tm S);erw[ah λi b=>#[1212,.ref a,n,d,Y,c,Z,hp.mono$ aa.tm S,hc,λka na wa dv w0 cu=>#[ka,11122,aC.of cu.at',gY,b _ _ ?_]]];let D:=cu.deed;rw[<- h1]at D;cases e with
 |ask t T=>
  obtain⟨_,p,xs,rfl,g,_,_,y0,z0,rfl,⟨rfl,_⟩,_,_,y1,z1,rfl,⟨rfl,_⟩,e⟩:=D;let e:z1=[]:=e;subst e;erw[ah λi b=>(jv g eQ$ b _ _ ?_)];erw[ah λi b=>#[12212,dB PH #[12,jv g gY #[12,t,C,T,Y,k,Z,.inl dk.1,dk.2.2,dk.2.1,O,V,212,?_]]]];by_cases z:T.ev k=0
  .erw[dB (by rw[z];decide+kernel) #[cg,λr G=>q _ _ (jG jc$ jm Z jT$ jm Z #[?_,Z] jC) (S.trans$ je G)]];rw[RB z]
  .erw[a9 (by rw[RC];intro e;injection e with e;rwa[z e]) #[cg,λr G=>q _ _ (jG jc$ jm Z jT$ jm Z #[?_,Z] jC) (S.trans$ je G)]];rw[RD z]
 |st p l=>
  let ed:dv= .ref p:=D.1;subst ed;let(vs,g,I,B,h3):=dk;cases l with
  |rd x t T=>let(rfl,ht):=I;erw[ah λi b=>(jv g eQ$ b _ _ ?_)];erw[ah λi b=>#[12212,a9 PH$ b _ _ ?_]];erw[ah λi b=>#[12212,a9 PH$ b _ _ ?_]];erw[ah λi b=>#[12212,dB PH #[1212,p,11122,aC.of g,jE (j:=2) Z,12,t,C,T,Y,k,Z,.inl ht,B.2.2,B.2.1,O,V,cg,λr G=>?_]]];rwa[q _ _ (jG jc$ jm Z jT$ jm Z jX jC)$ S.trans$ je G]
  |wr t u T U=>
   let(rfl,ht,hu):=I;erw[ah λi b=>(jv g eQ$ b _ _ ?_)];erw[ah λi b=>#[12212,a9 PH$ b _ _ ?_]];erw[ah λi b=>#[12212,a9 PH$ b _ _ ?_]];erw[ah λi b=>#[12212,a9 PH$ b _ _ ?_]];erw[#[12,i8,λr1 N=>#[12,1,Z,p,12,je N _ _ g,λr2 H2 J R=>#[12,r2,C,[(t,T),(u,U)],Y,k,Z,J,(by show 2<=6;decide),?_,R _ _$ je N _ _ O,V,λr3 H3 h4 s3=>#[r1,r3,1122,s3 _ _$ R _ _ jc,h4,ie,λr4 H4 h5 s4=>?_]]]]]
   .intro y W;let X:=(je (o:=.tup [.str "write"]) N).trans R;simp only[TC,R6,U7]at W;rcases W with rfl |rfl
    .exact#[ht.same X,B.1]
    .exact#[hu.same X,B.2]
   .rwa[q _ _ (jG h5$ jm Z jT$ jm Z jX$ jm Z jX jC)$ S.trans ((je N).trans$ R.trans$ s3.trans s4)]
  |cl x f' qa ts=>let(rfl,hq,h6):=I;erw[ah λi b=>(jv g eQ$ b _ _ ?_)];erw[ah λi b=>#[12212,a9 PH$ b _ _ ?_]];let l6:ο ts<=6:=B.2.1;erw[ah λi b=>#[12212,dB PH #[1212,p,11122,aC.of g,jE (j:=2) Z,12,p,11122,aC.of g,jE (j:=3) Z,12,qa,C,ts,Y,k,Z,hq,l6,λy W=>#[h6 y W,B.2.2 y W],O,V,λr2 H2 J R=>#[ie,λr G=>?_]]]];erw[q _ _ (jG jc$ jm Z jT$ jm Z jT$ jm Z (jG (aq J G) ?_) jC)$ S.trans$ R.trans$ je G];let:=KD (H:=af H2 r (.tup [.str "call",.str f',.ref r2])) (is:=ts.map λc=>c.2.ev k);rw[TX,TX]at this;rwa[this]
  |st x t T |gv t T=>cases h3
abbrev nF:cc:=bX 17
abbrev pN:cc:=bX 18
abbrev nB:cc:=bX 19
abbrev Ai:cc:=bZ (bX 20) 0
abbrev pS:cc:=bZ (bX 20) 1
abbrev Aj:cc:=bZ (bX 20) 2
abbrev nJ:cc:=bX 22
def I9(H:Hp)(x:V)(g:ρ):Prop:=∃p r,x= .ref p/\H p=δ (.tup (.str g::r))
inductive l7(c:xL V)(H:Hp)(Q:VK)(b:XK):Prop
 |mk(a:ζ)(f:ρ)(d:xL V)(i:Nat)(v:V)(_:c=[.ref a,.str f])(_:H a=δ (.tup d))(_:d[i]?=δ v)(_:I9 H v f)(_:∀j x,j < i->d[j]?=δ x->∃g,I9 H x g/\g≠f)(_:Q v H)
inductive lF(e:xL V)(H:Hp)(Q:VK)(b:XK):Prop
 |mk(a g:ζ)(f:ρ)(h k:xL V)(i:Nat)(v:V)(p c:ζ)(r d:xL V)(_:e=[.ref a,.str f,.ref g])(_:H a=δ (.tup h))(_:h[i]?=δ v)(_:v= .ref p)(_:H p=δ (.tup (.str f:: .ref c::r)))(_:H c=δ (.tup d))(_:H g=δ (.tup k))(_:ο k=ο d)(_:∀j x,j < i->h[j]?=δ x->∃g,I9 H x g/\g≠f)(_:Q v H)
noncomputable def dP(e:xL (ρ×V))(c l p:ζ)(m:Int)(t:Nat):xL (ρ×V):=tf (("cells":ρ),xm c) (tf (("most":ρ),xb m)$ tf (("left":ρ),xm l)$ tf (("turns":ρ),xb (t:Int))$ tf (("parts":ρ),xm p) e)
structure Tl(ex:xL (ρ×V)):Prop where
 l:ο ex<=10
 t:ex.lookup ("take_turn":ρ)=θ
 n:ex.lookup ("number_in":ρ)=θ
 c:ex.lookup ("chain_of":ρ)=θ
 w:ex.lookup ("what_of":ρ)=θ
def Tl.nil:Tl []:=#[RE _,2222]
structure Rn(H:Hp)(C r dx:ζ)(ex:xL (ρ×V))(cA lA pA:ζ)(m:Int)(t:Nat)(L Cs:aW):Prop where
 ins:H r=δ (.ins C dx$ dP ex cA lA pA m t)
 lf:H lA=δ (.dK L)
 ce:H cA=δ (.dK Cs)
 iL:GT L
 iC:GT Cs
 cl:cA≠lA
 tl:Tl ex
 hm:m<=1000
structure RK(K:Ψ)(C:ζ):Prop where
 cl:ue K C
 n1:ba K C "cells"
 n2:ba K C "most"
 n3:ba K C "left"
 n4:ba K C "turns"
 n5:ba K C "parts"
inductive gK(C:ζ)(i:xL V)(H:Hp)(Q:VK)(a:XK):Prop
 |mk(r e:ζ)(f:xL (ρ×V))(d g h:ζ)(m c:Int)(t:Nat)(L b:aW)(_:i=[.ref r,.int c])(_:Rn H C r e f d g h m t L b)(_:Q (.int (look L (.inl c) (look b (.inl c) 0))) H)
inductive me(C:ζ)(e:xL V)(H:Hp)(Q:VK)(a:XK):Prop
 |mk(r c:ζ)(d:xL (ρ×V))(b:ζ)(m:Int)(_:e=[.ref r,.ref b,.int m])(_:H r=δ (.ins C c []))(_:∀lA,H lA=θ->Q .non (af (af H lA (.dK [])) r (.ins C c [("cells",.ref b),("most",.int m),("left",.ref lA),("turns",.int 0)])))
structure XM(K:Ψ)(mg:ρ->ym η)(x:ρ)(L:ζ):Prop where
 ex:excIn K L uj "ValueError.__new__"=μ
 kp:hG K (.ref L)=μ
 xc:wq K L
 ty:typeIn K (.ref L)=δ (.type "type")
 m:mg x=↑L
def NX(o:HO):Prop:=∀a,o≠ .ext a
def Kp(H h:Hp):Prop:=∀b o,NX o->H b=δ o->h b=δ o
def Kp.of_same(s:aa H h):Kp H h:=λb o _ e=>s _ _ e
def Kp.trans(a:Kp H h)(b:Kp h d):Kp H d:=λc o n e=>b c o n (a c o n e)
def mM(E:XK):XK:=λC d H=>∀x T t c,C= .ref c->H x=δ (i9 c d T x)->H T=δ (iM T)->H t=θ->E (.ref c) d (af (af H t$ iM t) x$ i9 c d t x)
def ki{P:ω}{w:bF}{K:Ψ}{mg:ρ->ym η}{base:de}:eL (dN P w) (gZ (dN P w) P w K mg base N q s f g A o a H E) (mM E):=
 Dc λx C d T t i b c e h=>h x T t C Z b c e
def Jw{H h:Hp}(e:h b=δ o)(n:NX o)(a:h x=δ (i9 C d T x))(c:h t=θ):af (af h t$ iM t) x (i9 C d t x) b=δ o:=by
 let N:b≠x:=λz=>by rw[z,a]at e;injection e with e;rwa[n _ e.symm]
 rw[ji N,ji$ jk e c];rwa[e]
def Fl(E:XK)(L:ζ)(R:Hp->Prop):Prop:=∀(_:Unit) H,R H->E (.ref L) θ H
inductive gG(C L:ζ)(f:xL V)(H:Hp)(Q:VK)(E:XK):Prop
 |mk(r b:ζ)(c:xL (ρ×V))(a d e:ζ)(m:Int)(t:Nat)(_:f=[.ref r])(_:H r=δ (.ins C b (dP c a d e m t)))(_:Tl c)(_:(t:Int) < m->Q .non (af H r (.ins C b (dP c a d e m (t+1)))))(_:m<=(t:Int)->Fl E L (Kp H))
inductive dY(D:ζ)(a:xL V)(H:Hp)(Q:VK)(E:XK):Prop
 |mk(d:Int)(_:a=[.int d])(_:d < 15->Q (.int (d+1)) H)(_:15<=d->Fl E D (Kp H))
def YD{H:Hp}(a:H x=θ)(N:af H x (Ed L θ x) T=θ):aa H (af (af (af H x$ Ed L θ x) T$ iM T) x$ i9 L d T x):=by intro b o e;let n:b≠x:=jk e a;rw[ji n,ji (λz=>by rw[<- z,ji n,e]at N;cases N),ji n];rwa[e]
def oE:am ["ones","f","one"] ["ones","f"] (ae nF):=bP
def vk(F:xD K "named" nF f D):⇑1 f D ["ones","f"] l7:=by
 erw[F.ok oE λG A o s H W Q E X h=>?_]
 let(a,f,xs,i,v,rfl,t,u,L,d,q):=h;erw[#[_,%[oE|_cHTjZ0i2fms qB _h21w _ _fl2t (@yN _ _)],?_]];let M:i < ο xs:=(ξ.mp u).1;erw[ah λY f1=>eG λJ j=>#[12,a,Z,#[_,aC.of t],j _ _ ?_]];erw[Qa (K:=K) (xs:=xs) (λk c e=>(∃O,c=[↑a,δ$ .str f,O])/\e=H/\k<=i) #[#[12],Z,RE _] (λk c e _ h=>by rw[h.2.1];rwa[aC.of t]) ?_ (λc e h=>?_)]
 .intro l R k x c H2 m N I b h;obtain⟨⟨O,rfl⟩,rfl,y⟩:=h;erw[b ?_];by_cases S:k=i
  .subst S;rw[u]at m;cases m;let(p,r,rfl,n):=id L;show lh _ _ _ l _ _;erw[ms λT B C=>(jv n eQ #[12212,?_])];rw[RG (Z:vr f=vr f)];erw[B _ ?_];show ig _ l _ _;unfold ig;rw[R];exact#[12,q]
  .obtain⟨g,⟨p,r,rfl,n⟩,U⟩:=d k x PL m;show lh _ _ _ l _ _;erw[ms λT B C=>(jv n eQ #[12212,?_])];rw[RC (λz=>U (by injection z))];rwa[C _$ N _ _ #[#[12],Z,PL]]
 .let(_,_,y):=h;rwa[absurd y PL]
def Ax:am ["parts","f"] ["parts","f"] (ae nJ):=bP
def vp(F:xD K "part_of" nJ f c)(C:{1} r d ["ones","f"] l7 "named"):⇑2 f c ["parts","f"] l7:=by
 erw[F.ok Ax λg A o s H V Q E j h=>?_]
 let(a,f,x,i,v,rfl,l,n,p,b,q):=h;erw[#[_,%[Z|_fl C.e j.m _a0a1b],?_]];exact#[1212,a,f,x,i,v,Z,l,n,p,b,q]
def sT:am ["ones","f","args","one"] ["ones","f","args"] (ae pN):=bP
def yj(F:xD K "begun" pN f j)(C:{1} N l ["ones","f"] l7 "named")(M:mg "len"=θ):⇑2 f j ["ones","f","args"] lF:=by
 erw[F.ok sT λn A o s H V Q E t h=>?_]
 let(a,g,f,x,y,i,v,p,c,r,u,rfl,z,B,rfl,d,D,G,I,J,q):=h;erw[#[_,%[sT|_ce3 C.e t.m _a0a1bcms QZ _Aεj M _ζa2bAεj M _ζah3bw _ (@yN _ _) _tfl3],?_]];erw[ah λL b=>#[1212,a,f,x,i,.ref p,Z,z,B,#[p,12,d],J,b _ _ ?_]];erw[ah λL b=>#[12,g,12,.inr$ aC.of G,jv d gY #[c,12,.inr$ aC.of D,212,a9 (by rw[I];simp)$ b _ _ #[12,q]]]]
def Ap:am ["deep"] ["deep"] (ae nB):=bP
def vb(F:xD K "deeper" nB f a)(M:mg "DEEPEST"=δ (.int 15 t))(X:XM K mg "TooDeep" D):ai P w K mg base (dN P w) 1 f a ["deep"] (dY D):=by
 erw[F.ok1 Ap λC A o s H V Q E g h=>?_]
 let(d,rfl,q,e):=h;erw[#[_,%[Z|_cms yA _0ω (v:=.int 15) _j M (#[t,Z]) _w _ _f (@Yp _ _ _ _ _ Z Xl$ @Xi _ _ _ _ _ X.ex X.kp Z X.m PM) _tfloδ0g],?_]];erw[ah λi b=>#[12112212,?_]];by_cases c:(15:Int)<=d
 .erw[dB (RG c) λx n=>?_];exact#[x,D,θ,Z,jc,X.xc,X.ty,λT N=>e c () _ (Kp.of_same$ YD n N)]
 .rwa[a9 (RC c)$ b _ _ #[121122,q PL]]
def Ix:am z27z z27z (ae Ai):=bP
def rZ(F:aT K "__init__" "Turns.__init__" Ai f v)(c:RK K C):⇑1 f v z27z (me C):=by
 erw[F.ok Ix λx A o s H V Q E G h=>?_]
 let(r,D,y,z,m,rfl,g,q):=h;erw[#[_,%[Z|_c (@qD _ _ _ _ _ _ _ _ (pv 0) (pv 1) Z) _c (@qD _ _ _ _ _ _ _ _ (pv 0) (pv 2) Z) _c (@qD _ _ _ _ _ _ _ _ (pv 0) Yo Z) _f (@qD _ _ _ _ _ _ _ _ (pv 0) jf Z)],?_]];erw[ah λj a=>#[1212,r,C,D,12,g,c.cl,c.n1,PM,a _ _ ?_]];erw[ah λj a=>#[1212,r,C,D,12,jc,c.cl,c.n2,(by show 1 < 1000;decide),a _ _ ?_]];erw[ah λj a=>λl n=>#[12,r,C,D,12,aq jc n,c.cl,c.n3,(by show 2 < 1000;decide),a _ _ ?_]];erw[#[12,r,C,D,12,jc,c.cl,c.n4,(by show 3 < 1000;decide),?_]];let N:l≠r:=λe=>by rw[e,jc]at n;cases n
 let B:H l=θ:=by rw[ji N,ji N]at n;rwa[n]
 let e:∀p t u O:HO,af (af (af (af (af H r p) r t) l$ .dK []) r u) r O=af (af H l$ .dK []) r O:=λp t u O=>by
  funext b;by_cases d:b=r
  .rw[d,jc,jc]
  .rw[ji d,ji d,ji d];by_cases i:b=l
   .rw[i,jc,jc]
   .rw[ji i,ji d,ji d,ji i]
 rw[e];rwa[q l B]
def DN:am ["self"] ["self"] (ae pS):=bP
def YE(F:aT K "take_turn" "Turns.take_turn" pS f i)(b:RK K C)(X:XM K mg "TooLong" L):ai P w K mg base (dN P w) 1 f i ["self"] (gG C L):=by
 erw[F.ok1 DN λj A o s H V Q E B h=>?_]
 let(r,d,g,n,p,u,m,t,rfl,a,v,q,e):=h;erw[#[_,%[Z|_cms yA _M0jM0jw _ _f (@Yp _ _ _ _ _ Z Xl$ @Xi _ _ _ _ _ X.ex X.kp Z X.m PM) _tf (@vE _ _ _ _ _ _ _ _ _ _ (pv 0) jf Gc)],?_]];erw[ah λD y=>#[12,r,C,d,112,a,b.cl,b.n4,212,r,C,d,112,a,b.cl,b.n2,2112212,?_]];by_cases c:m<=(t:Int)
 .erw[dB (RG c) λx N=>?_];exact#[x,L,θ,Z,jc,X.xc,X.ty,λT z=>e c () _ (Kp.of_same$ YD N z)]
 .rwa[a9 (RC c)$ y _ _ #[12,r,C,d,112,a,b.cl,b.n4,21122,d,_,a,(by let:=v.l;show ο g+1+1+1+1+1 < 1000;omega),q PL]]
def Iy:am ["self","cell"] ["self","cell"] (ae Aj):=bP
def sd(F:aT K "number_in" "Turns.number_in" Aj f p)(b:RK K C):⇑1 f p ["self","cell"] (gK C):=by
 erw[F.ok Iy λu A o s H V Q E g h=>?_]
 let(r,d,x,i,l,y,m,c,t,L,j,rfl,a,q):=h;erw[#[_,%[Z|_flW (Xw$ @HM _ _ _ _ _ (zW g) (pv 1) %[Z|_M0j]) (Dg (zW g) %[Z|_M0j] (pv 1) ∅) (@K9 _ _ _ _ _ _ _ _ _ (zW g) %[Z|_M0j] (pv 1) jf #[Pz,Pz,Pz,Pz])],?_]];erw[#[1212,r,C,d,112,a.ins,b.cl,b.n3,Z,l,12,ip.k (k:=.inl c) a.lf,12,?_]];cases e:cR L (.inl c) with
 |some v=>erw[dB Z #[12,r,C,d,112,a.ins,b.cl,b.n3,212,l,v,Z,by rw[<- e];rwa[ip.k (k:=.inl c) a.lf],?_]];rw[uV a.iL e$ look j (.inl c) 0];rwa[q]
 |none=>erw[a9 Z #[12,r,C,d,112,a.ins,b.cl,b.n1,Z,i,Z,.inl #[_,.inl a.ce],121,ip.k (k:=.inl c) a.ce,?_]];rw[Qc a.iC];rw[uU e]at q;rwa[q]
abbrev yY:cc:=bZ (bX 37) 0
abbrev Ds:cc:=bZ (bX 37) 1
abbrev Du:cc:=bZ (bX 37) 2
abbrev Ip:cc:=bX 38
inductive Sk where
 |nil |st (n:Int) (hs:xL Int) (w r:Sk) |ask (b:Int) |rd (c i:Int) |wr (c i:Int) |cl (f:ρ) (is:xL Int) (s:Sk) (a:Int)
noncomputable def Sk.dep:Sk->Nat
 | .st _ _ w r=>max w.dep r.dep
 | .cl _ _ s _=>s.dep+1
 |_=>0
noncomputable def Sk.size:Sk->Nat
 | .st _ _ w r=>w.size+r.size+1
 | .cl _ _ s _=>s.size
 |_=>0
def Sk.ok:Bool->Sk->Prop
 |true,.nil=>True
 |true,.st _ _ w r=>w.ok ν/\r.ok μ
 |false,.cl _ _ s _=>s.ok μ
 |false,.ask _ |false,.rd _ _ |false,.wr _ _=>True
 |_,_=>False
inductive eMs(H:Hp)(n:Int)(d:xL Int)(W R:V->xL V->Prop)(x:xL V):Prop|mk(p h u y:_)(_:x= .ref p::y)(_:H p=δ (.tup [.int n,.ref h,u]))(_:H h=δ (.tup (d.map xb)))(_:W u [])(_:R .non y)
inductive eMc(H:Hp)(f:ρ)(I:xL Int)(a:Int)(W:V->xL V->Prop)(u:V):Prop|mk(p c g e S:_)(_:u= .ref p)(_:H p=δ (.tup [.str "call",.ref c]))(_:H c=δ (.tup [.str f,.ref g,.ref e,.int a]))(_:H g=δ (.tup (I.map xb)))(_:H e=δ (.tup S))(_:W .non S)
def eM(H:Hp):Sk->V->xL V->Prop
 | .nil,_,x=>x=[]
 | .st n d w r,_,x=>eMs H n d (eM H w) (eM H r) x
 | .ask b,u,_=>∃p,u= .ref p/\H p=δ (.tup [.str "ask",.int b])
 | .rd c i,u,_=>∃p,u= .ref p/\H p=δ (.tup [.str "read",.int c,.int i])
 | .wr c i,u,_=>∃p,u= .ref p/\H p=δ (.tup [.str "write",.int c,.int i])
 | .cl f I s a,u,_=>eMc H f I a (eM H s) u
theorem eM.mono(k:aj H i):∀{s:Sk} {u:V} {x:xL V},eM H s u x->eM i s u x
 | .nil,_,_,h=>h
 | .st _ _ _ _,_,_,z=>by let(p,h,u,y,e,a,b,d,f):=z;rwa[#[p,h,u,y,e,k _ _ a,k _ _ b,eM.mono k d,eM.mono k f]]
 | .ask _,_,_,z | .rd _ _,_,_,z | .wr _ _,_,_,z=>by let(p,e,h):=z;rwa[#[p,e,k _ _ h]]
 | .cl _ _ _ _,_,_,z=>by let(p,c,g,e,S,E,a,b,d,f,j):=z;rwa[#[p,c,g,e,S,E,k _ _ a,k _ _ b,k _ _ d,k _ _ f,eM.mono k j]]
noncomputable def Sk.put(n:Int)(h:xL Int)(W:Sk):Sk->Sk
 | .st a b c r=>.st a b c (Sk.put n h W r)
 |_=>.st n h W .nil
theorem yQ{H:Hp}{n:Int}{a:xL Int}{w:Sk}{p h:ζ}{u:V}(b:H p=δ (.tup [.int n,.ref h,u]))(c:H h=δ (.tup$ a.map xb))(d:eM H w u []):∀{s:Sk} {x:xL V},s.ok μ->eM H s .non x->eM H (Sk.put n a w s) .non (x++[.ref p])
 | .nil,_,_,e=>by let e:_=[]:=e;rw[e];exact#[p,h,u,[],Z,b,c,d,Z]
 | .st _ _ _ r,_,o,z=>by let(f,g,U,y,e,i,j,k,l):=z;rw[e];exact#[f,g,U,y++[.ref p],Z,i,j,k,yQ b c d o.2 l]
theorem XX{w:Sk}(h:w.ok ν):∀{s:Sk},s.ok μ->(Sk.put n H w s).ok μ
 | .nil,_=>#[h,trivial]
 | .st _ _ _ _,o=>#[o.1,XX h o.2]
theorem Qd{n:Int}{hs:xL Int}{w:Sk}:∀{s:Sk},s.ok μ->(Sk.put n hs w s).size=s.size+(w.size+1)
 | .nil,_=>by show w.size+0+1=0+(w.size+1);omega
 | .st _ _ c r,o=>by let:=Qd (n:=n) (hs:=hs) (w:=w) (s:=r) o.2;show c.size+(Sk.put n hs w r).size+1=c.size+r.size+1+(w.size+1);omega
theorem XY{n:Int}{hs:xL Int}{w:Sk}{j:Nat}(H:w.dep<=j):∀{s:Sk},s.ok μ->s.dep<=j->(Sk.put n hs w s).dep<=j
 | .nil,_,_=>by show max w.dep 0<=j;omega
 | .st _ _ c r,o,h=>by let h:max c.dep r.dep<=j:=h;let:=XY (n:=n) (hs:=hs) H (s:=r) o.2 PL;show max c.dep (Sk.put n hs w r).dep<=j;omega
theorem Jh:∀{s:Sk} {x:xL V},s.ok μ->eM H s .non x->ο x<=s.size
 | .nil,_,_,e=>by let e:_=[]:=e;rw[e];rwa[Rv 0]
 | .st _ _ w r,_,o,z=>by let(_,_,_,y,e,_,_,_,h):=z;let:=Jh o.2 h;rw[e];show ο y+1<=w.size+r.size+1;omega
inductive io(H:Hp)(f:ρ)(i:xL Int)(s:Sk)(a:Int)(u:V):Prop|mk(c g e S:_)(_:u= .ref c)(_:H c=δ (.tup [.str f,.ref g,.ref e,.int a]))(_:H g=δ (.tup$ i.map xb))(_:H e=δ (.tup S))(_:eM H s .non S)
noncomputable def Sk.wh:Sk->Wh
 | .ask b=>.ask b
 | .rd c i=>.rd c i
 | .wr c i=>.wr c i
 | .cl f I _ a=>.cl f I a
 |_=>.ask 0
def Nu{s:Sk}(o:s.ok ν)(h:eM H s u []):Fp H u s.wh:=by
 cases s with
 |nil |st=>rwa[o.elim]
 |ask b |rd c i |wr c i=>rwa[h]
 |cl f I s a=>let(p,c,g,e,S,E,d,j,k,_):=h;exact#[p,c,g,.ref e,E,d,j,k]
inductive Gd where
 |give (a:Int) |go (n:Nat) (hs:xL Int)
def gq(N:Nat->xL ρ)(k:aW):Gl->Gd
 | .give _ T=>.give (T.ev k)
 | .nought=>.give 0
 | .go n=>.go n ((N n).map λx=>look k (.inr x) 0)
def NH:Gd->Tr
 | .give a=>aB [aM "give",au a]
 | .go n h=>aB [aM "go",au (n:Int),aB (h.map au)]
def Zk(N:Nat->xL ρ)(k:aW)(g:Gl):pM N k g=NH (gq N k g):=by
 cases g with
 |give t T |nought=>rfl
 |go n=>show _=aB [_,_,aB (((N n).map λx=>look k (.inr x) 0).map au)];rw[TX];rfl
structure Fi where
 nm:xL ρ
 e:DD
 ws:xL WD
structure dD where
 f:ρ
 ps:xL ρ
 way:WD
 cs:xL Fi
structure Lh(H:Hp)(ys:xL ρ)(nA:ζ)(d:Df)(c:Ct)(cd:Fi):Prop where
 nm:cd.nm=canon c.M
 ed:cd.e.dd=c.d
 dv:we H ys cd.e
 cs:cd.e.Cs d.b.calls
 len:ο cd.ws=ο c.ws
 ws:∀(j:Nat) (w:Wy) (wd:WD),c.ws[j]?=δ w->cd.ws[j]?=δ wd->wd.wy nA=w/\Bt H ys d.b.cuts d.b.size wd
structure BD(H:Hp)(nA:ζ)(d:Df)(ys:xL ρ)(pd:dD):Prop where
 f:pd.f=d.f
 ps:H d.pa=δ (.tup$ pd.ps.map vr)
 wy:pd.way.wy nA=(i5 nA d).1.w
 wv:Bt H ys d.b.cuts d.b.size pd.way
 len:ο pd.cs=(cj nA d).length
 cs:∀(n:Nat) (c:Ct) (cd:Fi),(cj nA d)[n]?=δ c->pd.cs[n]?=δ cd->Lh H ys nA d c cd
def Lh.mono(k:aj H f)(h:Lh H y n d c C):Lh f y n d c C:=#[h.nm,h.ed,h.dv.mono k,h.cs,h.len,λj w W a b=>let #[e,v]:=h.ws j w W a b;#[e,v.mono k]]
def BD.mono(k:aj H e)(h:BD H N d y p):BD e N d y p:=#[h.f,k _ _ h.ps,h.wy,h.wv.mono k,h.len,λn c C a b=>(h.cs n c C a b).mono k]
theorem BL{c d:Type}{R:c->d->Prop}:∀(l:xL c),(∀a∈l,∃b,R a b)->∃m:xL d,ο m=ο l/\∀(i:Nat) (a:c) (b:d),l[i]?=δ a->m[i]?=δ b->R a b
 | [],_=>#[[],Z,λi a b h=>by simp at h]
 |a::l,h=>by
  let(b,g):=h a RN;let(m,e,j):=BL l λx k=>h x (RZ _ k);erw[#[b::m,by rw[Sa,Sa,e],λi x y H f=>?_]];cases i with
  |zero=>cases H;cases f;rwa[g]
  |succ i=>rwa[j i x y (H:) (f:)]
noncomputable def on(p:dD)(n:Nat):xL ρ:=match p.cs[n]? with
 |some c=>c.nm
 |none=>[]
def BD.nms(h:BD H N d y p):eY N d=on p:=by
 funext n;unfold eY on;by_cases a:n < ο p.cs
 .let b:n < (cj N d).length:=by rw[<- h.len];exact a
  rw[Rq a,Rq b];exact(h.cs n _ _ (Rq b)$ Rq a).nm.symm
 .rw[Sw$ Vj a,Sw (by rw[<- h.len];rwa[Vj a])]
inductive OW where
 |ok (w:Sk) (L:aW) (t:Nat) |long |deep
inductive OC where
 |ok (s:Sk) (a:Int) (L:aW) (t:Nat) |long |deep
noncomputable def OC.cons(n:Int)(h:xL Int)(w:Sk):OC->OC
 | .ok s a L t=>.ok (.st n h w s) a L t
 | .long=>.long
 | .deep=>.deep
noncomputable def Sk.app:Sk->Sk->Sk
 | .st n h w r,s=>.st n h w (r.app s)
 |_,s=>s
def OC.pre(S:Sk):OC->OC
 | .ok s a L t=>.ok (S.app s) a L t
 | .long=>.long
 | .deep=>.deep
theorem Qe:∀{s:Sk},s.ok μ->s.app .nil=s
 | .nil,_=>rfl
 | .st n h w r,o=>by show Sk.st n h w (r.app .nil)=_;rw[Qe o.2]
theorem sH{w:Sk}:∀{s:Sk},s.ok μ->(Sk.put n h w s).app q=s.app (.st n h w q)
 | .nil,_=>rfl
 | .st a b c r,o=>by show Sk.st a b c ((Sk.put n h w r).app q)=Sk.st a b c (r.app (.st n h w q));rw[sH o.2]
def YF{w s:Sk}(o:OC)(h:s.ok μ):(o.cons n H w).pre s=o.pre (Sk.put n H w s):=by
 cases o with
 |ok q a L t=>show OC.ok (s.app (.st n H w q)) a L t= .ok ((Sk.put n H w s).app q) a L t;rw[sH h]
 |long |deep=>rfl
abbrev lH:=ρ->xL Int->aW->Nat->OC
noncomputable def OC.cl(f:ρ)(i:xL Int):OC->OW
 | .ok s a L t=>.ok (.cl f i s a) L t
 | .long=>.long
 | .deep=>.deep
def gH(M:Nat)(call:lH)(C:aW)(k L:aW)(t:Nat)(e:DD):OW:=if t < M then match e with
 | .ask _ T=>.ok (.ask (if T.ev k=0 then 0 else 1)) L (t+1)
 | .st _ (.rd _ _ T)=>.ok (.rd (T.ev k) (look L (.inl (T.ev k)) (look C (.inl (T.ev k)) 0))) L (t+1)
 | .st _ (.wr _ _ T U)=>.ok (.wr (T.ev k) (U.ev k)) (bu L (.inl (T.ev k)) (.int (U.ev k))) (t+1)
 | .st _ (.cl _ f _ a)=>(call f (a.map λc=>c.2.ev k) L (t+1)).cl f (a.map λc=>c.2.ev k)
 |_=>.long
 else .long
def KE{call:lH}(h:¬t < M):gH M call C k L t e= .long:=by unfold gH;rw[RD h]
def XA{call:lH}(h:t < M):gH M call C k L t (.ask p T)= .ok (.ask (if T.ev k=0 then 0 else 1)) L (t+1):=by unfold gH;rw[RB h]
def Z6{call:lH}(h:t < M):gH M call C k L t (.st p$ .rd x a T)= .ok (.rd (T.ev k)$ look L (.inl$ T.ev k)$ look C (.inl$ T.ev k) 0) L (t+1):=by unfold gH;rw[RB h]
def Z7{call:lH}(h:t < M):gH M call C k L t (.st p$ .wr a b T U)= .ok (.wr (T.ev k)$ U.ev k) (bu L (.inl$ T.ev k)$ .int$ U.ev k) (t+1):=by unfold gH;rw[RB h]
def qC{call:lH}(h:t < M):gH M call C k L t (.st p$ .cl x f q T)=(call f (T.map λc=>c.2.ev k) L$ t+1).cl f (T.map λc=>c.2.ev k):=by unfold gH;rw[RB h]
def oq(p:dD)(c:Fi)(h:xL Int)(w:Wh):Gd:=match c.ws[w.side]? with
 |some W=>gq (on p) (cQ W.sets (pG c.e w (aR c.nm h))) W.goal
 |none=>.give 0
noncomputable def gj(M:Nat)(call:lH)(C:aW)(p:dD):Nat->Gd->aW->Nat->OC
 |0,_,_,_=>.long
 |_+1,.give a,L,t=>.ok .nil a L t
 |m+1,.go n h,L,t=>match p.cs[n]? with
  |none=>.long
  |some c=>match gH M call C (aR c.nm h) L t c.e with
   | .ok w l T=>(gj M call C p m (oq p c h w.wh) l T).cons (n:Int) h w
   | .long=>.long
   | .deep=>.deep
noncomputable def ff:xL dD->ρ->ym dD
 | [],_=>θ
 |p::r,f=>if p.f=f then δ p else ff r f
theorem sq:∀{b:xL dD} {i:Nat} {a:dD},b[i]?=δ a->(∀(j:Nat) (p:dD),j < i->b[j]?=δ p->p.f≠a.f)->ff b a.f=δ a
 | [],i,a,h,_=>by simp at h
 |p::r,0,a,h,_=>by cases h;show(if p.f=p.f then δ p else _)=_;rw[RB Z]
 |p::r,i+1,a,h,k=>by show(if p.f=a.f then δ p else ff r a.f)=_;rw[RD$ k 0 p (Nat.succ_pos _) Z];rwa[sq (i:=i) (h:) λj q H c=>k (j+1) q (Nat.succ_lt_succ H) (c:)]
noncomputable def a7(M:Nat)(p:xL dD)(C:aW):Nat->lH
 |0=>λ_ _ _ _=>.deep
 |j+1=>λf i L t=>match ff p f with
  |none=>.long
  |some a=>gj M (a7 M p C j) C a (M+2) (gq (on a) (cQ a.way.sets (aR a.ps i)) a.way.goal) L t
structure Ps(H:Hp)(nA pA:ζ)(ds:xL Df)(ns:xL Nat)(xs:xL V)(pds:xL dD):Prop where
 at':H pA=δ (.tup xs)
 tr:aV H (aD$ ds.map$ gO nA) .non xs
 dv:∃zs,di H ds zs
 ok:pi ds ns
 pa:mE H ds ns
 dl:ο pds=ο ds
 pr:∀(i:Nat) (d:Df) (pd:dD),ds[i]?=δ d->pds[i]?=δ pd->∃ys,(d.b.Ok ys/\ys.length<=20)/\BD H nA d ys pd
def Ps.mono(h:Ps H n c D N x p)(k:aj H e):Ps e n c D N x p:=#[k _ _ h.at',h.tr.mono k,let #[f,z]:=h.dv;#[f,z.mono k],h.ok,h.pa.mono k,h.dl,λi d g a b=>let #[Y,y,r]:=h.pr i d g a b;#[Y,y,r.mono k]]
def sg(h:aV H (gO n d) v []):I9 H v d.f:=by obtain⟨_,a,x,rfl,b,_,_,Y,y,rfl,⟨rfl,_⟩,_⟩:=h;exact#[a,12,b]
theorem wS:∀{D:xL Df} {z:xL V},di H D z->∀{i:Nat} {d:Df},D[i]?=δ d->∃B,eP H d.b B
 |_::_,_,q,0,d,a=>by obtain⟨u,r,e,⟨B,_,_,_,h⟩,c⟩:=q;cases a;exact#[B,h]
 |_::_,_,#[u,r,e,_,c],i+1,d,a=>wS c (a:)
section
variable {H:Hp}{nA pA:ζ}{ds:xL Df}{ns:xL Nat}{xs:xL V}{pds:xL dD}
def Ps.part(h:Ps H nA pA ds ns xs pds){i:Nat}{d:Df}{v:V}(b:ds[i]?=δ d)(q:xs[i]?=δ v):∃y c,og H nA d y v/\pds[i]?=δ c/\BD H nA d y c/\ff pds d.f=δ c:=by
 let(T,n,t):=Jd h.tr i v q;rw[RP,b]at n;cases n;let(z,r):=h.dv;let(_,_,s):=(h.ok.1 d$ RL b).1;let u:i < ο ds:=(ξ.mp b).1;let g:pds[i]?=δ (pds[i]'(by rw[h.dl];rwa[u])):=Rq _;obtain⟨y,⟨O,Y⟩,k⟩:=h.pr i d _ b g;erw[#[y,_,#[t,wS r b,O,Y,s],g,k,?_]];rw[<- k.f];erw[sq g λj p A l e=>?_];let a:j < ο ds:=PL
 let(_,_,m):=h.pr j _ p (Rq a) l;rw[m.f,k.f]at e;let x:(ds.map Df.f)[j]?=δ (ds[j]).f:=by rw[RP,Rq a];rfl
 let o:(ds.map Df.f)[i]?=δ d.f:=by rw[RP,b];rfl
 rw[<- e]at o;let:=(UC (by rw[Rs];rwa[a]) h.ok.2.1).mp (x.trans o.symm);omega
def Ps.cs(h:Ps H nA pA ds ns xs pds){i:Nat}{d:Df}(a:ds[i]?=δ d):∀f∈d.b.calls,f∈(ds.map Df.f).zip ns:=zU (h.ok.1 d$ RL a).2
def Ps.at(h:Ps H nA pA ds ns xs pds){i:Nat}{d:Df}(b:ds[i]?=δ d):∃v,xs[i]?=δ v/\aV H (gO nA d) v []/\I9 H v d.f/\∀j x,j < i->xs[j]?=δ x->∃g,I9 H x g/\g≠d.f:=by
 let L:=zA h.tr;rw[Rs]at L;let r:i < ο ds:=(ξ.mp b).1;let t:∀(j:Nat) (x:V),xs[j]?=δ x->∃c,ds[j]?=δ c/\aV H (gO nA c) x []:=λj x k=>by let(s,m,t):=Jd h.tr j x k;rw[RP]at m;let(c,a,rfl):=cJ.mp m;exact#[c,a,t]
 let n:xs[i]?=δ (xs[i]'PL):=Rq PL;let(c,a,T):=t _ _ n;rw[b]at a;cases a;erw[#[_,n,T,sg T,λj x u k=>?_]];let(c,a,q):=t j x k;erw[#[c.f,sg q,λe=>?_]];let o:(ds.map Df.f)[j]?=δ c.f:=by rw[RP,a];rfl
 let p:(ds.map Df.f)[i]?=δ d.f:=by rw[RP,b];rfl
 rw[<- e]at p;let l:j < (ds.map Df.f).length:=(ξ.mp o).1;let:=(UC l h.ok.2.1).mp (o.trans p.symm);omega
def Ps.find(h:Ps H nA pA ds ns xs pds)(a:(f,n)∈(ds.map Df.f).zip ns):∃(i:Nat) (d:Df),ds[i]?=δ d/\ns[i]?=δ n/\d.f=f:=by
 let(i,b,e):=iv.mp a;let E:((ds.map Df.f).zip ns)[i]?=δ (f,n):=by rw[<- e];rwa[Rq b]
 rw[Wo]at E;rw[RP]at E;let(d,c,g):=cJ.mp E.1;exact#[i,d,c,E.2,g]
end
def Rn.tm(h:Rn H C r d E c l p m t L f)(k:bg r l H a):aj H a:=λb x e=>k b _ (jO e h.ins BT) (jO e h.lf BT) e
def Rn.same(h:Rn H C r d e c l p m t L a)(s:aa H b):Rn b C r d e c l p m t L a:=#[s _ _ h.ins,s _ _ h.lf,s _ _ h.ce,h.iL,h.iC,h.cl,h.tl,h.hm]
def Rn.rl(h:Rn H C r d e c l p m t L a):r≠l/\r≠c:=#[jO h.ins h.lf BT,jO h.ins h.ce BT]
def I0(r l:ζ)(H h:Hp):Prop:=∀b o,b≠r->b≠l->NX o->H b=δ o->h b=δ o
def Fl.next(h:Fl E L (I0 r l H)):Fl (mM E) L (I0 r l H):=λd i k x T t c e a j f=>by cases e;rwa[h d _ λb o N g n e=>Jw (H:=H) (k b o N g n e) n a f]
def Fl.nextK(h:Fl E L (Kp H)):Fl (mM E) L (Kp H):=λd g k x T t c e a i f=>by cases e;rwa[h d _ λb o n e=>Jw (H:=H) (k b o n e) n a f]
def Fl.mono{R S:Hp->Prop}(h:Fl E L R)(k:∀H,S H->R H):Fl E L S:=λd H s=>h d H (k H s)
inductive iU(C:ζ)(e:xL V)(H:Hp)(Q:VK)(a:XK):Prop
 |mk(r c d b:ζ)(m:Int)(_:e=[.ref r,.ref d,.ref b,.int m])(_:H r=δ (.ins C c []))(_:∀lA,H lA=θ->Q .non (af (af H lA (.dK [])) r (.ins C c (dP [] b lA d m 0))))
def iP(A B:Prop)(E:XK)(T t:ζ)(R:Hp->Prop):Prop:=(A->Fl E T R)/\(B->Fl E t R)
def iP.mono{R S:Hp->Prop}(h:iP A B E T t R)(k:∀H,S H->R H):iP A B E T t S:=#[λa=>(h.1 a).mono k,λb=>(h.2 b).mono k]
def iP.next(h:iP A B E T t (I0 r l H)):iP A B (mM E) T t (I0 r l H):=#[λa=>(h.1 a).next,λb=>(h.2 b).next]
def iP.imp{R:Hp->Prop}(h:iP A B E T t R)(a:c->A)(b:d->B):iP c d E T t R:=#[λx=>h.1 (a x),λx=>h.2 (b x)]
inductive fg(C g f q:ζ)(j:Nat)(x:xL V)(H:Hp)(Q:VK)(E:XK):Prop
 |mk(M:Nat)(r m:ζ)(n:xL (ρ×V))(k p w h:ζ)(b t i:Nat)(L e:aW)(v:V)(d:Df)(l:xL Df)(s:xL Nat)(y:xL V)(c:xL dD)(o:xL Int)(_:x=[.ref r,v,.ref h,.int (b:Int)])(_:b+j=16)(_:1<=j)(_:Rn H C r m n k p w M t L e)(_:ο L<=t)(_:t<=M)(_:Ps H q w l s y c)(_:l[i]?=δ d)(_:s[i]?=δ o.length)(_:y[i]?=δ v)(_:H h=δ (.tup (o.map xb)))(_:∀z∈o,gW z)(_:∀(u:V) (sk:Sk) (a:Int) (L':aW) (H':Hp),a7 M c e j d.f o L t= .ok sk a L' (t+sk.size)->io H' d.f o sk a u->sk.ok μ->sk.dep+1<=j->gW a->Rn H' C r m n k p w M (t+sk.size) L' e->ο L'<=t+sk.size->t+sk.size<=M->bg r p H H'->Q u H')(_:iP (a7 M c e j d.f o L t= .long) (a7 M c e j d.f o L t= .deep) E g f (I0 r p H))
inductive iV(C f d n:ζ)(j:Nat)(q:xL V)(H:Hp)(Q:VK)(E:XK):Prop
 |mk(M:Nat)(r i:ζ)(l:xL (ρ×V))(g m p:ζ)(a t:Nat)(L c k:aW)(u:V)(e:DD)(x:xL ρ)(h:xL Df)(o:xL Nat)(s:xL V)(b:xL dD)(_:q=[.ref r,u,.int (a:Int)])(_:a+j=15)(_:Rn H C r i l g m p M t L c)(_:ο L<=t)(_:t<=M)(_:Ps H n p h o s b)(_:aV H (uA k e) u [])(_:we H x e)(_:GT k)(_:e.Cs ((h.map Df.f).zip o))(_:∀(w:Sk) (v:V) (L':aW) (H':Hp),gH M (a7 M b c j) c k L t e= .ok w L' (t+1+w.size)->eM H' w v []->w.ok ν->Lj e w.wh->w.dep<=j->Rn H' C r i l g m p M (t+1+w.size) L' c->ο L'<=t+1+w.size->t+1+w.size<=M->bg r m H H'->Q v H')(_:iP (gH M (a7 M b c j) c k L t e= .long) (gH M (a7 M b c j) c k L t e= .deep) E f d (I0 r m H))
def Iw:am z7z z7z (ae yY):=bP
def rY(F:aT K "__init__" "BookRun.__init__" yY f t)(j:RK K C)(GT:⇑1 u c z27z (me C))(B:aE K c z27z [])(M:mg "Turns"=↑T)(v:wc K T "__init__" u):⇑2 f t z7z (iU C):=by
 erw[F.ok Iw λx A o s H V Q E y h=>?_]
 let(r,d,z,k,m,rfl,g,q):=h;erw[#[_,%[Z|_cz (@sh _ _ _ _ _ _ _ _ _ _ _ _ _ _ _ _ _ _ _ _ Z M v GT y.m B .nil b6 %[Z|_a0a2a3b] PM Pz Pz Pz) _f (@qD _ _ _ _ _ _ _ _ (pv 0) (pv 1) Z)],?_]];erw[ah λD n=>#[121212,r,d,[],k,m,Z,g,λL N=>n _ _ ?_]];erw[#[1212,r,C,d,12,jc,j.cl,j.n5,(by show 4 < 1000;decide),?_]];let e:∀(i:Hp) (p O:HO),af (af i r p) r O=af i r O:=λi p O=>by
  funext b;by_cases a:b=r
  .rw[a,jc,jc]
  .rw[ji a,ji a,ji a]
 rw[e];rwa[q L N]
def KF(h:aV H (aB t) u []):∃a x,u= .ref a/\H a=δ (.tup x)/\aV H (aD t) .non x:=by let(_,a,x,e,b,c):=h;rwa[#[a,x,e,b,c]]
def qp(h:aV H (aD (t::T)) .non x):∃y Y,x=y::Y/\aV H t y []/\aV H (aD T) .non Y:=by let(_,_,y,Y,e,a,b):=h;rwa[#[y,Y,e,a,b]]
def tN(h:aV H (aM x) y []):y= .str x:=h.1
def KG(h:aV H (au n) y []):y= .int n:=h.1
theorem Qg:∀{I:xL Int} {v:xL V},aV H (aD$ I.map au) .non v->v=I.map xb
 | [],v,h=>h
 |i::I,v,h=>by let(y,Y,rfl,a,b):=qp h;rw[KG a,Qg b];rfl
def XZ{H:Hp}{w:ρ}{t:xL Tr}{u:V}(h:aV H (aB (aM w::t)) u []):∃a x,u= .ref a/\H a=δ (.tup (.str w::x))/\aV H (aD t) .non x:=by let(a,x,rfl,b,h):=KF h;let(y,Y,rfl,c,d):=qp h;rw[tN c]at b;exact#[a,Y,Z,b,d]
def XB{H:Hp}{w:ρ}{i:Int}{u:V}(h:aV H (aB [aM w,au i]) u []):∃a,u= .ref a/\H a=δ (.tup [.str w,.int i]):=by let(a,x,rfl,b,h):=XZ h;let(y,Y,rfl,c,d):=qp h;let e:Y=[]:=d;rw[KG c,e]at b;exact#[a,Z,b]
def Bh{H:Hp}{w:ρ}{i:Int}{t:Tr}{u:V}(h:aV H (aB [aM w,au i,t]) u []):∃a y,u= .ref a/\H a=δ (.tup [.str w,.int i,y])/\aV H t y []:=by let(a,x,rfl,b,h):=XZ h;let(y,Y,rfl,c,d):=qp h;let(z,f,rfl,g,j):=qp d;let e:f=[]:=j;rw[KG c,e]at b;exact#[a,z,Z,b,g]
def MV:am z12z z12z (ae Du):=bP
def yk(F:aT K "what_of" "BookRun.what_of" Du f fd)(ck:RK K C)(GT:ai P w K mg base (dN P w) 1 fT f0 ["self"] (gG C TL))(bT:aE K f0 ["self"] [])(m0:bo K C "take_turn" fT)(GI:⇑1 fI f2 ["self","cell"] (gK C))(bI:aE K f2 ["self","cell"] [])(m1:bo K C "number_in" fI)(GD:ai P w K mg base (dN P w) 1 fD f3 ["deep"] (dY TD))(bD:aE K f3 ["deep"] [])(kD:hG K (.ref fD)=μ)(mD:mg "deeper"=↑fD)(cP:{2} fP f6 ["parts","f"] l7 "part_of")(GC:ai P w K mg base (dN P w) (2*j+12) fC f4 z15z (fg C TL TD nA j))(bC:aE K f4 z15z [])(m2:bo K C "chain_of" fC):ai P w K mg base (dN P w) (2*j+13) f fd z12z (iV C TL TD nA j):=by
 erw[F.ok1 MV λc5 A o2 s H vs Q E hr h=>?_]
 symm;let(M,r,I,Y,cA,N,W,O,t,L,Cs,k,u,e,ys,ds,ns,xs,p1,rfl,h4,D,h5,ht,hP,J,h0,hk,h1,q,t0):=h;erw[#[_,%[Z|_cz (Yk (pv 0) ck.cl m0 GT hr.m bT .nil ki) _cmxh1fldanah1aL0 ck.cl m1 GI hr.m bI .nil _ρah1bbtcmxh1fldanaL0 ck.cl m2 GC hr.m bC .nil _χa cP.e hr.m _aM0jah1bah1a (kN GD hr.m Z mD kD bD .nil ki %[Z|_a2b]) _bbtcmxh1f (Jt (zW hr) %[Z|_M0j] (jx$ pv 1) (jx$ pv 1) Z) _tfl1],?_]];let b0:=aL;let hM:=D.hm;sleep 4;erw[ah λF1 B=>#[12,r,I,12,D.ins,D.tl.t,r,I,Y,cA,N,W,M,t,Z,D.ins,D.tl,λlt=>B _ _ ?_,λge=>((t0.1$ KE PL).mono λH' kk=>λb o _ _ nx e=>kk b o nx e).nextK]];left;let t1:aj H (af H r$ .ins C I$ dP Y cA N W M$ t+1):=λb xs e=>by rw[ji$ jO e D.ins BT];rwa[e]
 let R:Rn (af H r$ .ins C I$ dP Y cA N W M$ t+1) C r I Y cA N W M (t+1) L Cs:=#[jc,by rw[ji D.rl.1.symm];rwa[D.lf],by rw[ji D.rl.2.symm];rwa[D.ce],D.iL,D.iC,D.cl,D.tl,D.hm];let k1:bg r N H (af H r$ .ins C I$ dP Y cA N W M$ t+1):=λb o n1 n2 e=>by rw[ji n1];rwa[e]
 generalize af H r (.ins C I$ dP Y cA N W M$ t+1)=H1 at t1 R k1;let J:=J.mono t1;let lt':t+1<=M:=PL
 let f5:∀(w:Sk) (xs:xL V) (X:Hp) (v:ζ),X v=θ->eM (af X v$ .tup xs) w (.ref v) []->w.ok ν->gH M (a7 M p1 Cs j) Cs k L t e= .ok w L (t+1)->Lj e w.wh->w.size=0->w.dep<=j->H1=X->Q (.ref v) (af X v$ .tup xs):=λw xs X v nv hw ok eq ft sz dp e2=>by subst e2;rwa[q w _ L _ (by rw[sz];rwa[eq]) hw ok ft dp (by rw[sz];rwa[R.same$ je nv]) PL PL$ k1.trans$ bg.of_same$ je nv]
 symm;cases e with
 |ask ta T=>
  let(p,rfl,G):=XB J;erw[ah λF1 B=>(jv G Z #[212,a9 PH$ B _ _ ?_])];left;erw[ah λF1 B=>(jv G Z #[212,a9 PH$ B _ _ ?_])];left;erw[ah λF1 B=>(jv G Z #[212,a9 PH$ B _ _ ?_])];left;erw[#[12,q (.ask (if T.ev k=0 then 0 else 1)) _ L _ (XA PL) #[p,Z,G] trivial ?_ (RE _) R (by show ο L<=t+1+0;omega) lt' k1]];show(if T.ev k=0 then (0:Int) else 1)=0∨(if T.ev k=0 then (0:Int) else 1)=1;split
  .rwa[.inl Z]
  .rwa[.inr Z]
 |st p0 l=>
  let(vs,_,h6,o1,c0):=h0;cases l with
  |gv ta T |st x ta T=>cases c0
  |rd x ta T=>let(p,rfl,G):=XB J;sleep 3;erw[ah λF1 B=>(jv G Z #[212,dB PH$ jv G Z #[12,r,I,12,R.ins,R.tl.n,jv G Z #[r,I,Y,cA,N,W,M,11112,R,ie,λv nv=>?_]]])];rwa[f5 (.rd (T.ev k)$ look L (.inl$ T.ev k)$ look Cs (.inl$ T.ev k) 0) _ _ v nv #[v,Z,jc] trivial (Z6 PL) (KB R.iL$ KB R.iC KC) Z (RE _) Z]
  |wr ta ub T U=>
   let(p,y,rfl,G,hy):=Bh J;rw[KG hy]at G;sleep 3;erw[ah λF1 B=>(jv G Z #[212,a9 PH$ B _ _ ?_])];left;erw[ah λF1 B=>(jv G Z #[212,a9 PH$ B _ _ ?_])];left;erw[ah λF1 B=>(jv G Z #[212,dB PH$ jv G Z #[12,r,C,I,112,R.ins,ck.cl,ck.n3,Z,jv G Z #[N,12,ph.k (k:=.inl (T.ev k)) R.lf PL,B _ _ ?_]]])];left;let pl:=qg (kvs:=L) (k:=.inl (T.ev k)) (v:=.int (U.ev k));let t3:aj H1 (af H1 N$ .dK$ bu L (.inl$ T.ev k)$ .int$ U.ev k):=λb xs e=>by rw[ji$ jO e R.lf BT];rwa[e]
   erw[#[12,q (.wr (T.ev k)$ U.ev k) _ (bu L (.inl$ T.ev k)$ .int$ U.ev k) _ (Z7 PL) #[p,Z,t3 _ _ G] trivial trivial (RE _) #[by rw[ji D.rl.1];rwa[R.ins],jc,by rw[ji D.cl];rwa[R.ce],R.iL.put _$ Jq hk o1.2.1,R.iC,R.cl,R.tl,R.hm] (by show _<=t+1+0;omega) lt' λb o n1 n2 e=>?_]];rw[ji n2];rwa[k1 b o n1 n2 e]
  |cl x f q' ts=>
   let(p,y3,rfl,G,hy):=XZ J;let(y1,y4,rfl,e1,hy):=qp hy;let(y2,y0,rfl,e2,hy):=qp hy;let e3:y0=[]:=hy;subst e3;rw[tN e1]at G;let(ag,a0,rfl,ha,S):=KF e2;let S:aV H1 (aD ((ts.map λc=>c.2.ev k).map au)) .non a0:=by rw[TX];rwa[S]
   rw[Qg S]at ha;let(i,d,hd,hn,rfl):=hP.find h1;let P1:=hP.mono t1;let(v,hv,_,h2,h3):=P1.at hd;sleep 3;erw[ah λF1 B=>(jv G Z #[212,a9 PH$ B _ _ ?_])];left;erw[ah λF1 B=>(jv G Z #[212,dB PH ?_])];left;erw[#[12,r,I,12,R.ins,R.tl.c,12,r,C,I,112,R.ins,ck.cl,ck.n5,Z,jv G Z #[W,d.f,xs,i,v,Z,P1.at',hv,h2,h3,jv G Z #[12,(O:Int),Z,λdl=>?_,λdg=>((t0.2 (by let z:j=0:=PL;rw[qC PL,z];rfl)).mono λX kk=>λb o n1 n2 nx e=>kk b o nx (k1 b o n1 n2 e)).nextK]]]];erw[#[M,r,I,Y,cA,N,W,ag,O+1,t+1,i,L,Cs,v,d,ds,ns,xs,p1,ts.map λc=>c.2.ev k,Z,PL,PL,R,PL,lt',P1,hd,by rw[Rs];rwa[hn],hv,ha,λz hz=>?_,λu sk a L' X eq hc ok dp ia R2 l2 t2 k2=>?_,iP.next ((t0.imp (λz=>by rw[qC PL,z];rfl) (λz=>by rw[qC PL,z];rfl)).mono λX kk=>λb o n1 n2 nx e=>kk b o n1 n2 nx (k1 b o n1 n2 e))]]
   .symm;let(c,hc,rfl):=dn.mp hz;rwa[Jq hk (o1.2.2 c hc).1]
   .symm;let(c,g,ee,ss,rfl,c1,c2,c3,c4):=hc;erw[#[cg,λv2 nv=>?_]];let s2:aa X (af X v2$ .tup [.str "call",.ref c]):=je nv;erw[q (.cl d.f (ts.map λc=>c.2.ev k) sk a) _ L' _ (by rw[qC PL,eq];rfl) #[v2,c,g,ee,ss,Z,jc,s2 _ _ c1,s2 _ _ c2,s2 _ _ c3,c4.mono$ aa.tm s2] ok ia (by show sk.dep+1<=j;rwa[N09]) (R2.same s2) l2 t2 ((k1.trans k2).trans$ bg.of_same s2)]
def Fu:eW (s++[x]) (-1)=δ x:=by
 let l:(s++[x]).length=ο s+1:=by rw[Ru];rfl
 unfold eW pK;rw[l,RD PL,RB PL];let e:(-1+((ο s+1:Nat):Int)).toNat=ο s:=PL
 show(s++[x])[(-1+((ο s+1:Nat):Int)).toNat]?=_;rw[e];simp
inductive Ll(H:Hp)(nA:ζ)(d:Df)(u:V):Gd->Prop
 |give (p:ζ) (a:Int) (e:u= .ref p) (h:H p=δ (.tup [.str "give",.int a])) (i:gW a):Ll H nA d u (.give a)
 |go (p hv:ζ) (n:Nat) (c:Ct) (is:xL Int) (e:u= .ref p) (h:H p=δ (.tup [.str "go",.int (n:Int),.ref hv])) (h2:H hv=δ (.tup (is.map xb))) (hc:(cj nA d)[n]?=δ c) (hl:ο is=(canon c.M).length) (hi:∀i∈is,gW i):Ll H nA d u (.go n is)
def XC{H:Hp}{nA:ζ}{d:Df}(h:aV f (pM (eY nA d) k g) u [])(j:GT k)(l:Lk H Y d.b.cuts g):Ll f nA d u (gq (eY nA d) k g):=by
 cases g with
 |give t T=>let(p,e,h):=XB h;rwa[.give p _ e h (Jq j l.2.1)]
 |nought=>let(p,e,h):=XB h;rwa[.give p 0 e h KC]
 |go n=>
  let(p,y,e,h,q):=Bh h;let(a,X,rfl,m,c):=KF q;let r:n < (cj nA d).length:=by rw[rf];rwa[l]
  let o:(cj nA d)[n]?=δ (cj nA d)[n]:=Rq r;let c:aV f (aD (((eY nA d n).map λx=>look k (.inr x) 0).map au)) .non X:=by rw[TX];rwa[c]
  rw[Qg c]at m;erw[.go p a n _ _ e h m o (by rw[Rs,yf o]) λi s=>?_];let(x,_,rfl):=dn.mp s;rwa[KB j KC]
inductive CI(M:Nat)(a:lH)(N:dD)(h:OC)(C r o:ζ)(E:xL (ρ×V))(n G K l P I:ζ)(b t j:Nat)(i:aW)(v:V)(d:Df)(H:Hp)(F:Nat)(R:_L.St)(k:Hp):Prop
 |mk(J:ym V)(u:V)(g:Gd)(m:Nat)(O:Sk)(Q:xL V)(L:aW)(p:R=[↑r,δ v,↑l,δ (.int (b:Int)),↑P,δ u,J])(q:k P=δ (.lst Q))(s:eM k O .non Q)(w:O.ok μ)(x:O.dep+1<=j)(y:Ll k I d u g)(z:Rn k C r o E n G K M (t+O.size) L i)(A:ο L<=t+O.size)(B:t+O.size<=M)(D:bg r G H k)(c:F+t+O.size=M+1)(e:(gj M a i N m g L (t+O.size)).pre O=h)(f:M+2<=m+(t+O.size))
def oy:am ["self","part","args","deep","steps","goal","what"] z15z (ae Ds):=bP
def GN(F:aT K "chain_of" "BookRun.chain_of" Ds f fd)(ck:RK K C)(cF:{9} fF f2 ["part","args"] (iG nA) "first_of")(cD:{9} fD f3 z9z (fh nA) "deed_at")(cO:{9} fO f4 ["part","step"] (pZ nA) "onward")(GW:ai P w K mg base (dN P w) (2*j+13) fW f0 z12z (iV C TL TD nA j))(bW:aE K f0 z12z [])(m0:bo K C "what_of" fW)(m1:mg "tuple"=θ):ai P w K mg base (dN P w) (2*j+14) f fd z15z (fg C TL TD nA$ j+1):=by
 erw[F.ok1 oy λc3 A o2 s H vs Q E hr h=>?_]
 symm;let(M,r,dx,ex,cA,lA,pA,ag,U,t,i,L,y,v,d,ds,ns,xs,x,is,rfl,b3,_,hR,a0,ht,hP,hd,hn,hv,ha,h3,q,t4):=h;erw[#[_,%[oy|_ce4rbce5 cF.e hr.m _a1a2bc (K7 PassesOwn.leaving %[oy|_xh5] %[oy|_ce6L0 ck.cl _Y GW hr.m bW .nil _χa cD.e hr.m _a1ah5ah5ba3bczC PySem.F.plainAttrs_list PySem.F.slot_list_append PySem.F.type_list_append _X4adah5ah5a6bbfe5 cO.e hr.m _a1aku4 (yI Zd jf) _pb]) _fldah1a2aEςj m1 boot_tuple _a4bah5b],?_]];let b4:=aL;let hM:=hR.hm;symm;let(ys,g,h1,b5,pr,a1):=hP.part hd hv;let(ps,h4,a2,a3):=hP.pa.2 i d _ hd hn;let e3:ps=g.ps:=by let z:=h4.symm.trans pr.ps;injection z with z;injection z with z;exact(List.map_inj_right λa b e=>by injection e).mp z
 subst e3;let e0:a7 M x y (j+1) d.f is L t=gj M (a7 M x y j) y g (M+2) (gq (on g) (cQ g.way.sets$ aR g.ps is) g.way.goal) L t:=by show(match ff x d.f with |none=>OC.long |some g=>gj M (a7 M x y j) y g (M+2) (gq (on g) (cQ g.way.sets$ aR g.ps is) g.way.goal) L t)=_;rw[a1]
 right;generalize a7 M x y (j+1) d.f is L t=X at q t4 e0;sleep 3;erw[ah λF1 J=>#[gU,λS Y=>J _ _ ?_]];left;let s1:aa H (af H S$ .lst []):=je Y;let l1:af H S (.lst []) S=δ (.lst []):=jc;generalize af H S (.lst [])=H1 at s1 l1 ⊢;let e4:=pr.wy;let h2:=pr.wv;erw[ah λF1 J=>#[1212,v,ag,d,ys,g.ps,is,g.way,Z,h1.mono$ aa.tm s1,s1 _ _ h4,PL,s1 _ _ ha,a2.symm,h3,e4,h2.mono$ aa.tm s1,λu H2 hu s2=>J _ _ ?_]];left;let S2:=s1.trans s2;let gz:GT (aR g.ps is):=Jg h3;let g0:=XC (H:=H) hu (qo h2.sets gz) h2.goal;rw[pr.nms]at g0;let s0:S≠r:=Ne.symm (jk hR.ins Y);let s3:S≠lA:=Ne.symm (jk hR.lf Y);let s9:cA≠S:=jk hR.ce Y;erw[ah λF1 J=>?_];erw[p7 (CI M (a7 M x y j) g X C r dx ex cA lA pA ag S nA U t (j+1) y v d H) (M+1 - t) #[θ,u,_,M+2,.nil,[],L,Z,s2 _ _ l1,Z,trivial,by show 0+1<=j+1;rwa[N09],g0,hR.same S2,a0,ht,bg.of_same S2,by show M+1 - t+t+0=M+1;omega,by rw[e0];show OC.pre .nil (gj M (a7 M x y j) y g (M+2) _ L t)=_;cases gj M (a7 M x y j) y g (M+2) (gq (on g) (cQ g.way.sets$ aR g.ps is) g.way.goal) L t<;>rfl,by show M+2<=M+2+(t+0);omega] ?_];intro kk σ H3 E' rt fE F kT cF.k Gq kq hW;symm;let(o6,u,gd,m,N,R,L1,rfl,w1,w2,w3,w4,w5,w6,w7,w8,w9,b8,W,b9):=hW;obtain⟨m,rfl⟩:∃m',m=m'+1:=#[m - 1,PL];let t0:=hR.tm w9;let P3:=hP.mono t0;cases w5 with
 |give p a e h5 ia=>subst e;erw[kq$ jv h5 Z #[212,?_]];rw[show decide (vr (Str.ofString "give")=vr (Str.ofString "go"))=ν by decide+kernel];erw[cF.k _$ J _ _ ?_];symm;let(pa,ca,wv,cs,e,h7,_):=(h1.mono t0).parts;subst e;erw[(jv h7 Z #[1212,S,R,Z,.inl #[aJ.of w1,λl2 n0=>?_]])];let s4:aa H3 (af H3 l2$ .tup R):=je n0;erw[(jv (s4 _ _ h5) Z #[tP,λv2 nv=>?_])];let s5:=s4.trans (je (o:=.tup [.str d.f,.ref ag,.ref l2,.int a]) nv);let S5:bg r lA H (af (af H3 l2$ .tup R) v2$ .tup [.str d.f,.ref ag,.ref l2,.int a]):=w9.trans (bg.of_same s5);let W:OC.ok (N.app .nil) a L1 (t+N.size)=X:=W;rw[Qe w3]at W;rwa[q _ N a L1 _ W.symm #[v2,ag,l2,R,Z,jc,hR.tm S5 _ _ ha,aq jc nv,w2.mono$ aa.tm s5] w3 w4 ia (w6.same s5) w7 w8 S5]
 |go p D n c hs e h5 h6 hc hl hi=>
  subst e;erw[kq$ jv h5 Z #[212,?_]];rw[show decide (vr (Str.ofString "go")=vr (Str.ofString "go"))=μ by decide+kernel];erw[kT _ ?_];clear kT cF.k J;let P0:=h1.mono t0;symm;let(pa,ca,wv,cs,e9,h7,_,_,a4):=P0.parts;let(ka,na,wa,dv,b',_,c1):=P0.cut a4 hc;let a5:n < ο g.cs:=by rw[pr.len];exact(ξ.mp hc).1
  obtain⟨cd,h8⟩:∃cd,g.cs[n]?=δ cd:=#[_,kw a5];let cr:=(pr.cs n c cd hc h8).mono t0;let(c2,e,c0):=cd;let(e1,ed,d0,e5,l0,a'):=cr;let e1:c2=canon c.M:=e1;subst e1;let W:OC.pre N (match g.cs[n]? with
   |none=>OC.long
   |some c=>match gH M (a7 M x y j) y (aR c.nm hs) L1 (t+N.size) c.e with
    | .ok w L1 t1=>(gj M (a7 M x y j) y g m (oq g c hs w.wh) L1 t1).cons (n:Int) hs w
    | .long=>.long
    | .deep=>.deep)=X:=W
  rw[h8]at W;let W:OC.pre N (match gH M (a7 M x y j) y (aR (canon c.M) hs) L1 (t+N.size) e with
    | .ok w L1 t1=>(gj M (a7 M x y j) y g m (oq g #[canon c.M,e,c0] hs w.wh) L1 t1).cons (n:Int) hs w
    | .long=>.long
    | .deep=>.deep)=X:=W
  let gk:GT (aR (canon c.M) hs):=Jg hi;sleep 2;erw[ah λF1 J=>#[12,r,dx,12,w6.ins,w6.tl.w,12,jv h5 Z$ jv h5 Z #[v,n,D,d,ys,c,hs,e,Z,P0,hc,h6,hl,hi,ed,d0,λud H4 b0 s4=>?_]]];let t8:=t0.trans (aa.tm s4);erw[#[12,M,r,dx,ex,cA,lA,pA,U,t+N.size,L1,y,aR (canon c.M) hs,ud,e,ys,ds,ns,xs,x,Z,PL,w6.same s4,w7,w8,hP.mono t8,b0,d0.mono$ aa.tm s4,gk,?_,λw uw L' H5 e7 hw o1 ft d1 R5 l5 t5 k5=>J _ _ ?_,?_]]
  .symm;cases e with
   |ask=>right;trivial
   |st p0 l=>cases l<;>first |trivial |exact hP.cs hd _ e5
  .left;let K5:bg r lA H3 H5:=(bg.of_same s4).trans k5;let t6:aj H3 H5:=w6.tm K5;let g5:=t6 _ _ h5;let w0:H5 S=δ (.lst R):=K5 _ _ s0 s3 w1;let l3:=Jh w3 w2;erw[ah λF1 J=>#[12,.inl #[21,aJ.of w0],jv g5 Z$ jv g5 Z #[12,ie,λO n3=>?_]]];let s6:aa H5 (af H5 O$ .tup [.int (n:Int),.ref D,uw]):=je n3;let e6:af H5 O (.tup [.int (n:Int),.ref D,uw]) O=δ (.tup [.int (n:Int),.ref D,uw]):=jc;erw[#[S,1122,s6 _ _ w0,PL,J _ _ ?_]];left;generalize af H5 O (.tup [.int (n:Int),.ref D,uw])=H6 at s6 e6;let b7:aI S H6 (af H6 S$ .lst$ R++[.ref O]):=λb o nb e=>by rw[ji nb];exact e
   let t3:aj H6 (af H6 S$ .lst$ R++[.ref O]):=λb xs e=>b7 _ _ (jO e (s6 _ _ w0) BT) e;let w':af H6 S (.lst$ R++[.ref O]) S=δ (.lst$ R++[.ref O]):=jc;generalize af H6 S (.lst$ R++[.ref O])=H7 at b7 t3 w';let t2:aj H5 H7:=λb xs e=>t3 _ _ (s6 _ _ e);let B:aj H3 H7:=t6.trans t2;let G:w.wh.side < ο c.ws:=by
    rw[c1.v.len,<- ed];symm;cases e with
    |ask ta T=>show _ < 2;unfold Wh.side;split<;>(try split)<;>omega
    |st p0 l=>show _ < 1;symm;cases w<;>first |exact Nat.one_pos |exact o1.elim | (cases l<;>rwa[ft.elim])
   symm;obtain⟨I,h0⟩:∃I,c0[w.wh.side]?=δ I:=#[_,kw (by rw[l0];rwa[G])];let(e2,h'):=a' _ _ I (kw G) h0;let sv:mG H7 nA d ys v O n D uw c hs w.wh e I:=#[P0.mono B,t3 _ _ e6,hc,B _ _ h6,hl,hi,(Nu o1 hw).mono t2,ed,d0.mono B,ft,by rw[e2];rwa[kw G],h'.mono B];let b1:eW (R++[xm O]) (-1)=↑O:=Fu;erw[#[121212,S,11122,aJ.of w',b1,v,uw,O,D,n,d,ys,c,hs,w.wh,e,I,Z,sv,λu2 H8 b2 s8=>?_]];let t7:=aa.tm s8;let t9:=B.trans t7;let g1:=XC (H:=H7) b2 (qo sv.wdv.sets$ Zj ft gk) sv.wdv.goal;let e8:oq g #[canon c.M,e,c0] hs w.wh=gq (on g) (cQ I.sets$ pG e w.wh$ aR (canon c.M) hs) I.goal:=by show(match c0[w.wh.side]? with |some wd=>gq (on g) (cQ wd.sets$ pG e w.wh$ aR (canon c.M) hs) wd.goal |none=>Gd.give 0)=_;rw[h0]
   rw[pr.nms,<- e8]at g1;rw[e7]at W;let W:OC.pre N ((gj M (a7 M x y j) y g m (oq g #[canon c.M,e,c0] hs w.wh) L'$ t+N.size+1+w.size).cons (n:Int) hs w)=X:=W;rw[YF _ w3]at W;let s7:=Qd (n:=(n:Int)) (hs:=hs) (w:=w) w3;let R7:Rn H7 C r dx ex cA lA pA M (t+N.size+1+w.size) L' y:=#[b7 _ _ (Ne.symm s0)$ s6 _ _ R5.ins,b7 _ _ (Ne.symm s3)$ s6 _ _ R5.lf,b7 _ _ s9$ s6 _ _ R5.ce,R5.iL,R5.iC,R5.cl,R5.tl,R5.hm];let ez:t+N.size+1+w.size=t+(Sk.put (n:Int) hs w N).size:=by rw[s7];omega
   rw[ez]at R7 l5 t5 W;erw[fE (kk - (w.size+1)) _ _ PL #[_,u2,_,m,Sk.put (n:Int) hs w N,R++[.ref O],L',Z,s8 _ _ w',(yQ (t3 _ _ e6) (B _ _ h6) (hw.mono t2) w3$ w2.mono B).mono t7,XX o1 w3,?_,g1,R7.same s8,l5,t5,?_,by rw[s7];omega,W,PL]]
   .let:=XY (n:=(n:Int)) (hs:=hs) (w:=w) (j:=j) d1 w3 PL;omega
   .intro b o n1 n2 e;rwa[s8 _ _$ b7 _ _ (jk e Y)$ s6 _ _$ K5 _ _ n1 n2$ w9 _ _ n1 n2 e]
  .rwa[iP.next ((t4.imp (λz=>by rw[z]at W;rwa[W.symm]) (λz=>by rw[z]at W;rwa[W.symm])).mono λH5 kk=>λb o n1 n2 nx e=>kk b o n1 n2 nx (s4 _ _$ w9 _ _ n1 n2 e))]
inductive tM(f e l:ζ)(o:xL V)(H:Hp)(Q:VK)(E:XK):Prop
 |mk(M:Nat)(n g h:ζ)(i:Nat)(c:aW)(d:Df)(j:xL Df)(m:xL Nat)(p:xL V)(b:xL dD)(k:xL Int)(_:o=[.ref n,.str d.f,.ref g,.ref h,.int (M:Int)])(_:M<=1000)(_:Ps H l n j m p b)(_:j[i]?=δ d)(_:m[i]?=δ k.length)(_:H g=δ (.tup (k.map xb)))(_:∀z∈k,gW z)(_:H h=δ (.dK c))(_:GT c)(_:∀(u:V) (sk:Sk) (a:Int) (L':aW) (H':Hp),a7 M b c 16 d.f k [] 0= .ok sk a L' sk.size->io H' d.f k sk a u->sk.ok μ->sk.dep<=15->sk.size<=M->aa H H'->Q u H')(_:iP (a7 M b c 16 d.f k [] 0= .long) (a7 M b c 16 d.f k [] 0= .deep) E f e (Kp H))
def Db(h:aV H (gO n d) v []):∃p r,v= .ref p/\H p=δ (.tup (.str d.f:: .ref d.pa::r)):=by obtain⟨_,a,x,rfl,b,_,_,c,y,rfl,⟨rfl,_⟩,_,_,e,Y,rfl,⟨rfl,_⟩,_⟩:=h;exact#[a,12,b]
def Gz:ai P w K mg base (dN P w) k f c z15z (fg C T b N 0):=by
 let n:∀{V H Q E},¬fg C T b N 0 V H Q E:=by rintro V H Q E ⟨M,r,e,g,j,l,m,q,D,t,i,L,u,v,d,x,y,X,p,I,_,_,z,_⟩;omega
 exact#[λV H Q E h=>(n h).elim,λA o s H a U V Q E B F G J h=>(n h).elim]
theorem Fv(d:RK K C)(F:aT K "chain_of" "BookRun.chain_of" Ds k f)(B:aE K f z15z [])(m:bo K C "chain_of" k)(l:aT K "what_of" "BookRun.what_of" Du D e)(o:aE K e z12z [])(M:bo K C "what_of" D)(p:{9} Q E ["part","args"] (iG n) "first_of")(q:{9} U H z9z (fh n) "deed_at")(r:{9} Y I ["part","step"] (pZ n) "onward")(GT:ai P w K mg base (dN P w) 1 J g ["self"] (gG C T))(s:aE K g ["self"] [])(a:bo K C "take_turn" J)(G:⇑1 L h ["self","cell"] (gK C))(t:aE K h ["self","cell"] [])(b:bo K C "number_in" L)(u:ai P w K mg base (dN P w) 1 v i ["deep"] (dY N))(x:aE K i ["deep"] [])(y:hG K (.ref v)=μ)(z:mg "deeper"=↑v)(A:{2} fP O ["parts","f"] l7 "part_of")(c:mg "tuple"=θ):∀j,ai P w K mg base (dN P w) (2*j+12) k f z15z (fg C T N n j)
 |0=>Gz
 |j+1=>GN F d p q r (yk l d GT s a G t b u x y z A (Fv d F B m l o M p q r GT s a G t b u x y z A c j) B m) o M c
def EV:am ["parts","f","args","cells","most","part"] z30z (ae Ip):=bP
def Hk(F:xD K "run" Ip f fd)(ck:RK K C)(mk:Mk K C fI)(GI:⇑2 fI y z7z (iU C))(bI:aE K y z7z [])(mC:mg "BookRun"=↑C)(cB:{2} fB f0 ["ones","f","args"] lF "begun")(GA:ai P w K mg base (dN P w) 44 fA B z15z (fg C TL TD nA 16))(bA:aE K B z15z [])(G:bo K C "chain_of" fA):ai P w K mg base (dN P w) 45 f fd z30z (tM TL TD nA):=by
 erw[F.ok1 EV λc0 A O s H vs Q E I h=>?_]
 let(M,g,J,j,i,L,d,ds,ns,X,k,is,rfl,hM,x,R,hn,ha,T,t,U,q,V):=h;erw[#[_,%[EV|_ce5 cB.e I.m _a0a1a2bflL (XN mk GI I.m Z mC bI .nil b6 %[EV|_a0a3a4b]) ck.cl G GA I.m bA .nil _χa5a2agb],?_]];let(v,hv,tv,h0,W):=x.at R;let(p,pr,rfl,hp):=Db tv;let(ps,Y,h1,_):=x.pa.2 i d _ R hn;erw[ah λF1 f1=>#[121212,g,J,d.f,X,_,i,.ref p,p,d.pa,pr,12,x.at',hv,Z,hp,Y,ha,by rw[Rs,Rs];omega,W,f1 _ _ ?_]];erw[#[121212,λr D N nd ne=>?_]];let s0:aa H (af (af H D$ .own r) r$ .ins C D []):=λc o e=>by rw[ji$ jk e N,ji$ jk e nd];rwa[e]
 erw[#[r,D,g,j,M,Z,jc,λl nl=>#[Z,?_]]];let n0:l≠r:=λe=>by rw[e,jc]at nl;cases nl
 let n:H l=θ:=by
  cases z:H l with
  |none=>rfl
  |some o=>have:=s0 _ _ z;rw[nl]at this;cases this
 let S:aa H (af (af (af (af H D$ .own r) r$ .ins C D []) l$ .dK []) r$ .ins C D$ dP [] j l g M 0):=λc o e=>by rw[ji$ jk e N,ji$ jk e n];rwa[s0 _ _ e]
 let R1:Rn (af (af (af (af H D$ .own r) r$ .ins C D []) l$ .dK []) r$ .ins C D$ dP [] j l g M 0) C r D [] j l g M 0 [] L:=#[jc,by rw[ji n0];rwa[jc],S _ _ t,GT.nil,U,jk t n,Tl.nil,PL];generalize af (af (af (af H D$ .own r) r$ .ins C D []) l$ .dK []) r (.ins C D$ dP [] j l g M 0)=H1 at S R1;let t0:=aa.tm S;erw[#[r,D,12,R1.ins,21212,M,r,D,[],j,l,g,J,0,0,i,[],L,.ref p,d,ds,ns,X,k,is,22,PM,R1,Rv _,RE _,x.mono t0,R,hn,hv,S _ _ ha,T,λu sk a L' H2 eq hc ok dp ia R2 l2 t2 k2=>?_,iP.next$ V.mono λH' kk=>λb o nx e=>kk b o (jk e N) (jk e n) nx (S _ _ e)]];rwa[q u sk a L' H2 (by rw[UF]at eq;rwa[eq]) hc ok PL PL λc o e=>k2 c o (jk e N) (jk e n) (S _ _ e)]
noncomputable def oF:Sk->Tr
 | .nil=>.nil
 | .st n h w r=>.cons (aB [au n,aB (h.map au),oF w]) (oF r)
 | .ask b=>aB [aM "ask",au b]
 | .rd c i=>aB [aM "read",au c,au i]
 | .wr c i=>aB [aM "write",au c,au i]
 | .cl f I s a=>aB [aM "call",aB [aM f,aB (I.map au),.tp (oF s),au a]]
def Z8:∀{b:Bool} {s:Sk},s.ok b->(oF s).isL=b
 |true,.nil,_ |true,.st _ _ _ _,_ |false,.cl _ _ _ _,_ |false,.ask _,_ |false,.rd _ _,_ |false,.wr _ _,_=>rfl
def zi{H:Hp}{a:xL Int}(e:H h=δ (.tup$ a.map xb)):aV H (aB$ a.map au) (.ref h) []:=jG e KD
theorem Kb{b:Bool}{s:Sk}{u:V}{X:xL V}(o:s.ok b)(q:eM H s u X)(z:b=ν->X=[])(y:b=μ->u= .non):aV H (oF s) u X:=by
 induction s generalizing b u X with
 |nil=>cases b with
  |true=>rwa[q]
  |false=>rwa[o.elim]
 |st n t w r f g=>cases b with
  |true=>let(p,h,v,Y,e,d,j,k,l):=q;rw[e,y Z];rwa[#[Z,Z8 o.2,112,jG d$ jm Z jX$ jm Z (zi j)$ jm (Z8 o.1) (f o.1 k (λ_=>Z) (λx=>nomatch x)) jC,g o.2 l (λx=>nomatch x) (λ_=>Z)]]
  |false=>rwa[o.elim]
 |ask a=>cases b with
  |true=>rwa[o.elim]
  |false=>let(p,e,h):=q;rw[e,z Z];rwa[jG h (jm Z jT (jm Z jX jC))]
 |rd c i |wr c i=>cases b with
  |true=>rwa[o.elim]
  |false=>let(p,e,h):=q;rw[e,z Z];rwa[jG h (jm Z jT (jm Z jX (jm Z jX jC)))]
 |cl f I s a n=>cases b with
  |true=>rwa[o.elim]
  |false=>let(p,c,g,e,S,E,d,j,k,l,m):=q;rw[E,z Z];rwa[jG d$ jm Z jT$ jm Z (jG j$ jm Z jT$ jm Z (zi k)$ jm Z #[Z8 o,e,S,Z,l,n (b:=μ) o m (λx=>nomatch x) (λ_=>Z)] (jm Z jX jC)) jC]
theorem zo:∀i:xL Int,(aD$ i.map au).dep=0
 | []=>rfl
 |_::i=>by show max 0 (aD (i.map au)).dep=0;rw[zo i];rfl
theorem XD:∀{b:Bool} {s:Sk},s.ok b->(oF s).dep<=4*s.dep+(if b=μ then 2 else 1)
 |true,.nil,_=>RE _
 |true,.st n H w r,o=>by let h:=XD (b:=ν) (s:=w) o.1;let c:=XD (b:=μ) (s:=r) o.2;let d:=zo H;let h:(oF w).dep<=4*w.dep+1:=h;let c:(oF r).dep<=4*r.dep+2:=c;show max (max 0 (max ((aD$ H.map au).dep+1)$ max (oF w).dep 0)+1) (oF r).dep<=4*max w.dep r.dep+2;omega
 |false,.ask _,_ |false,.rd _ _,_ |false,.wr _ _,_=>Rv 1
 |false,.cl f i s a,o=>by let h:=XD (b:=μ) (s:=s) o;let d:=zo i;let h:(oF s).dep<=4*s.dep+2:=h;show max 0 (max (max 0 (max ((aD$ i.map au).dep+1)$ max ((oF s).dep+1)$ max 0 0)+1) 0)+1<=4*(s.dep+1)+1;omega
def LJ(f:ρ)(i:xL Int)(s:Sk)(a:Int):Tr:=aD [aM f,aB$ i.map au,.tp$ oF s,au a]
def El(h:io H f i s a u)(o:s.ok μ):aV H (.tp$ LJ f i s a) u []:=by let(c,g,e,S,rfl,d,j,k,l):=h;rwa[jG d$ jm Z jT$ jm Z (zi j)$ jm Z #[Z8 o,e,S,Z,k,Kb (b:=μ) o l (λx=>nomatch x) (λ_=>Z)] (jm Z jX jC)]
def Fz{s:Sk}(o:s.ok μ)(d:s.dep<=15):(LJ f i s a).dep < 100:=by let h:=XD (b:=μ) (s:=s) o;let H:=zo i;let h:(oF s).dep<=4*s.dep+2:=h;show max 0 (max ((aD$ i.map au).dep+1)$ max ((oF s).dep+1)$ max 0 0) < 100;omega
def HN{p:xL ρ}{v:V}(h:og H N d y v)(g:H d.pa=δ (.tup$ p.map vr)):∃q,BD H N d y q:=by
 let(W,E,i):=h.way;let(a,J,L,O,rfl,Q,m,r,j):=h.parts;let(C,s,t):=BL (R:=λc u=>Lh H y N d c u) (cj N d) λc k=>by let(n,x,z):=iv.mp k;let(S,T,U,X,A,_,o):=h.cut j (n:=n) (c:=c) (by rw[<- z];rwa[Rq x]);let(e,B,D,F):=LU o.v.deed;let(G,I,l):=BL (R:=λ(w:Wy) (W:WD)=>W.wy N=w/\Bt H y d.b.cuts d.b.size W) c.ws λw m=>o.v.ways w m;exact#[#[canon c.M,e,G],Z,B,D,F,I,l]
 exact#[#[d.f,p,W,C],Z,g,E,i,s,t]
def ML{H:Hp}{D:xL Df}(a:H l=δ (.tup x))(T:aV H (aD$ D.map$ gO n) .non x)(g:∃z,di H D z)(o:pi D N)(j:mE H D N):∃p,Ps H n l D N x p:=by
 let L:=zA T;rw[Rs]at L;let(p,m,q):=BL (R:=λd c=>∃y,(d.b.Ok y/\y.length<=20)/\BD H n d y c) D λd e=>by
  let(i,r,E):=iv.mp e;let h:D[i]?=δ d:=by rw[<- E];rwa[Rq r]
  let s:x[i]?=δ (x[i]'PL):=Rq _;let(t,k,u):=Jd T i _ s;rw[RP,h]at k;cases k;let(z,A):=g;obtain⟨⟨y,Y,o⟩,_,S⟩:=(o.1 d e).1;let(C,f,_):=j.v d e;let(c,B):=HN (v:=x[i]'PL) #[u,wS A h,o,Y,S] f;exact#[c,y,#[o,Y],B]
 exact#[p,a,T,g,o,j,m,q]
def YG{call:lH}(h:gj M call C p m (.give b) L t= .ok r a l T):r= .nil/\a=b/\l=L:=by
 cases m with
 |zero=>cases h
 |succ m=>cases h;exact#[222]
def xF{call:lH}(h:gj M call C p m (.go n H) L t= .ok d a g i):∃c w l T r j,p.cs[n]?=δ c/\gH M call C (aR c.nm H) L t c.e= .ok w l T/\d= .st (n:Int) H w r/\gj M call C p j (oq p c H w.wh) l T= .ok r a g i:=by
 cases m with
 |zero=>cases h
 |succ m=>
  unfold gj at h;cases e:p.cs[n]? with
  |none=>rw[e]at h;cases h
  |some c=>
   rw[e]at h;dsimp only at h;cases E:gH M call C (aR c.nm H) L t c.e with
   |long |deep=>rw[E]at h;cases h
   |ok w l T=>
    rw[E]at h;dsimp only at h;cases f:gj M call C p m (oq p c H w.wh) l T with
    |long |deep=>rw[f]at h;cases h
    |ok r b _L k=>rw[f]at h;cases h;exact#[c,w,l,T,r,m,Z,E,Z,f]
def En{call:lH}{w:Sk}(h:gH M call C k L t e= .ok w l T):t < M:=by
 by_cases z:t < M
 .rwa[z]
 .rw[KE z]at h;cases h
def Go:V->Bool
 | .int _ | .str _=>μ
 |_=>ν
def _root_._L.Tr.In:Tr->Prop
 | .lf v=>Go v=μ
 | .tp l=>l.In
 | .nil=>True
 | .cons h t=>h.In/\t.In
def _root_._L.Tr.items:Tr->xL Tr
 | .cons h t=>h::t.items
 |_=>[]
theorem XE{H:Hp}:∀{t u:Tr} {x:V} {xs:xL V},aV H t x xs->aV H u x xs->t.isL=u.isL->t.In->u.In->t=u
 | .lf v,.lf w,_,_,h,k,_,_,_=>by rw[<- h.1,<- k.1]
 | .lf v,.tp m,_,_,h,k,_,i,_ | .tp l,.lf v,_,_,k,h,_,_,i=>by let(_,a,_,e,_):=k;let E:=h.1;rw[e]at E;rw[<- E]at i;cases i
 | .tp l,.tp m,_,_,h,k,_,i,j=>by let(o,a,xs,e,p,q):=h;let(r,b,Y,c,d,f):=k;rw[e]at c;cases c;rw[p]at d;cases d;rw[XE q f (o.trans r.symm) i j]
 | .nil,.nil,_,_,_,_,_,_,_=>rfl
 | .nil,.cons _ _,_,_,h,k,_,_,_ | .cons _ _,.nil,_,_,k,h,_,_,_=>by let(_,_,_,_,e,_):=k;let h:_=[]:=h;rw[e]at h;cases h
 | .cons h t,.cons G T,_,_,k,s,_,i,j=>by let(A,B,y,Y,e,d,f):=k;let(C,D,I,F,c,g,n):=s;rw[e]at c;cases c;rw[XE d g (A.trans C.symm) i.1 j.1,XE f n (B.trans D.symm) i.2 j.2]
 | .lf _,.nil,_,_,_,_,z,_,_ | .lf _,.cons _ _,_,_,_,_,z,_,_ | .tp _,.nil,_,_,_,_,z,_,_ | .tp _,.cons _ _,_,_,_,_,z,_,_ | .nil,.lf _,_,_,_,_,z,_,_ | .nil,.tp _,_,_,_,_,z,_,_ | .cons _ _,.lf _,_,_,_,_,z,_,_ | .cons _ _,.tp _,_,_,_,_,z,_,_=>nomatch z
theorem qJ:∀{l:Tr} {X:xL V},l.isL=μ->l.In->aV H l .non X->ο X=ο l.items/\∀(j:Nat) (x:V),X[j]?=δ x->∃t,l.items[j]?=δ t/\t.isL=ν/\t.In/\t.dep<=l.dep/\aV H t x []
 | .nil,X,_,_,h=>by let h:X=[]:=h;rw[h];exact#[Z,λj x z=>by simp at z]
 | .cons a t,X,_,i,h=>by
  let(A,c,y,Y,e,k,d):=h;subst e;let(L,f):=qJ c i.2 d;erw[#[SM (·+1) L,λj x b=>?_]];cases j with
  |zero=>cases b;exact#[a,Z,A,i.1,UV _ _,k]
  |succ j=>let(u,g,m,n,o,p):=f j x (b:);exact#[u,by simpa [_L.Tr.items] using g,m,n,RM o$ UN _ _,p]
 | .lf _,_,z,_,_ | .tp _,_,z,_,_=>nomatch z
theorem YH:∀{l m:Tr} {x y:xL V},l.isL=μ->m.isL=μ->aV H l .non x->aV H m .non y->(l=m↔l.items=m.items)
 | .nil,.nil,_,_,_,_,_,_=>#[λ_=>Z,λ_=>Z]
 | .nil,.cons _ _,_,_,_,_,_,_ | .cons _ _,.nil,_,_,_,_,_,_=>#[λz=>(nomatch z),λz=>(nomatch z)]
 | .cons a t,.cons b u,_,_,_,_,h,k=>by let(_,A,_,_,_,_,d):=h;let(_,B,_,_,_,_,c):=k;let i:=YH A B d c;erw[#[λz=>by cases z;rfl,λz=>?_]];let z:a::t.items=b::u.items:=z;injection z with e f;rw[e,i.mpr f]
 | .lf _,_,_,_,z,_,_,_ | .tp _,_,_,_,z,_,_,_ | .nil,.lf _,_,_,_,z,_,_ | .nil,.tp _,_,_,_,z,_,_ | .cons _ _,.lf _,_,_,_,z,_,_ | .cons _ _,.tp _,_,_,_,z,_,_=>nomatch z
open Classical in
def ik(t u:Tr):Bool:=decide (t=u)
open Classical in
def zF(h:t=u):ik t u=μ:=by unfold ik;rwa[RG h]
open Classical in
def zr(h:t≠u):ik t u=ν:=by unfold ik;rwa[RC h]
def mx(l m:Tr)(j:Nat):Bool:=match l.items[j]?,m.items[j]? with
 |some t,δ u=>ik t u
 |_,_=>μ
def YI{l m:Tr}(a:l.isL=μ)(b:m.isL=μ)(h:aV H l .non x)(k:aV H m .non y)(d:n=ο l.items)(E:N=ο m.items):((dr$ min n N).all (mx l m)&&n==N)=ik l m:=by
 by_cases e:l=m
 .subst e;rw[zF Z,d,E,VH,Bool.and_true,Vd];intro j _;unfold mx;cases l.items[j]? with
  |none=>rfl
  |some t=>rwa[zF Z]
 .rw[zr e];let f:l.items≠m.items:=λz=>e ((YH a b h k).mpr z);by_cases g:n=N
  .let z:(dr$ min n N).all (mx l m)=ν:=by rw[iu];intro z;rw[Vd]at z;erw[f$ VV PL λj i o=>?_];let:=z j (tz.mpr PL);unfold mx at this;rw[Rq i,Rq o]at this;exact Classical.byContradiction λc=>by let C:=zr c;dsimp only at this;rw[C]at this;cases this
   rw[z];rfl
  .rw[show(n==N)=ν from beq_eq_false_iff_ne.mpr g,VC]
section
open PySem.SeqAt
variable {X:Cx}
def Mn{w:V}(H:Go v=μ)(h:Go w=μ)(R:aK v a)(r:aK w b):EqAt A s a b (ik (.lf v)$ .lf w):=by
 cases v with
 |int i=>
  let(T,rfl):=R;cases w with
  |int j=>
   let(t,rfl):=r;let z:=EqAt.int_int (A:=A) (s:=s) i T j t;by_cases e:i=j
   .subst e;rw[VH]at z;rw[zF Z];rwa[z]
   .rw[beq_eq_false_iff_ne.mpr e]at z;rw[zr (λc=>e (by injection c with c;injection c))];rwa[z]
  |str y=>let(t,rfl):=r;rw[zr (λc=>by injection c with c;cases c)];rwa[EqAt.int_str _ _ _ _]
  |_=>cases h
 |str i=>
  let(T,rfl):=R;cases w with
  |str j=>
   let(t,rfl):=r;let z:=EqAt.str_str (A:=A) (s:=s) i T j t;by_cases e:i=j
   .subst e;rw[VH]at z;rw[zF Z];rwa[z]
   .rw[beq_eq_false_iff_ne.mpr e]at z;rw[zr (λc=>e (by injection c with c;injection c))];rwa[z]
  |int y=>let(t,rfl):=r;rw[zr (λc=>by injection c with c;cases c)];rwa[EqAt.str_int _ _ _ _]
  |_=>cases h
 |_=>cases H
def MU(I:ay X p σ H s)(n:Nat)(G:∀(t:Tr) {A:bU},t.dep<=n->A.units+n < cLine->t.In->t.isL=ν->∀{u:Tr} {x y:V},u.In->u.isL=ν->aV H t x []->aV H u y []->∀a b,aK x a->aK y b->EqAt A s a b (ik t u)){l m:Tr}(hn:l.dep<=n)(hu:A.units+n+1 < cLine)(J:l.In)(L:m.In)(d:l.isL=μ)(f:m.isL=μ)(M:H g=δ (.tup i))(N:H B=δ (.tup o))(T:aV H l .non i)(q:aV H m .non o):RcAt A s (.ref g) (.ref B) (ik (.tp l)$ .tp m):=by
 let(v,r,O,_):=I.tuple (aC.of (K:=X.K) M);let(C,R,Q,_):=I.tuple (aC.of (K:=X.K) N);let(S,U):=qJ d J T;let(W,Y):=qJ f L q;let z:=RcAt.tuples (A:=A) (e:=mx l m) (show s.heap.IsTuple g v.toArray from O) (show s.heap.IsTuple B C.toArray from Q) PL (λj h1 h2=>?_)
 .rw[YI d f T q (by rw[Rx,<- r.length,S]) (by rw[Rx,<- R.length,W])]at z;let E:ik (.tp l) (.tp m)=ik l m:=by
   by_cases c:l=m
   .rw[zF c,zF (by rw[c])]
   .rw[zr c,zr (λk=>c (by injection k))]
  rw[E];rwa[z]
 .let la:=r.length;let lb:=R.length;let D:j < ο i:=by simp at h1;omega
  let h:j < ο o:=by simp at h2;omega
  let(u1,q1,r1):=r.get (Rq D);let(u2,q2,r2):=R.get (Rq h);let e1:v.toArray[j]=u1:=by let(_,e):=ξ.mp q1;simpa using e
  let E:C.toArray[j]=u2:=by let(_,e):=ξ.mp q2;simpa using e
  rw[e1,E];let(F,g1,g2,g3,g4,g5):=U j _ (Rq D);let(u',k1,k2,k3,k4,k5):=Y j _ (Rq h);let et:mx l m j=ik F u':=by unfold mx;rw[g1,k1]
  rw[et];rwa[G F (A:=A.in1) PL (by show A.units+1+n < cLine;omega) g3 g2 k3 k2 g5 k5 _ _ r1 r2]
def XF(I:ay X z Y H s):∀(n:Nat) (t:Tr) {A:bU},t.dep<=n->A.units+n < cLine->t.In->t.isL=ν->∀{u:Tr} {x y:V},u.In->u.isL=ν->aV H t x []->aV H u y []->∀a b,aK x a->aK y b->EqAt A s a b (ik t u):=by
 intro n;induction n with
 |zero=>
  intro t A k J i L u x y d g j h a b R r;cases t with
  |tp l=>rwa[absurd k (by show ¬l.dep+1<=0;omega)]
  |nil |cons _ _=>cases L
  |lf v=>
   let(rfl,_):=j;cases u with
   |nil |cons _ _=>cases g
   |lf w=>let(rfl,_):=h;rwa[Mn i d R r]
   |tp m=>
    let(_,B,M,rfl,o,_):=h;cases r;let(W,N,C,_):=I.tuple (aC.of (K:=X.K) o);rw[zr (λc=>by cases c)];cases x<;>first |cases i |skip
    .let(T,rfl):=R;rwa[EqAt.int_tuple _ _ C N09]
    .let(T,rfl):=R;rwa[EqAt.str_tuple _ _ C PL]
 |succ n D=>
  intro t A k J i L u x y d g j h a b R r;cases t with
  |nil |cons _ _=>cases L
  |lf v=>rwa[D (.lf v) (RE _) PL i L d g j h a b R r]
  |tp l=>
   let(E,p,O,rfl,q,F):=j;cases R;let(ia,Q,G,_):=I.tuple (aC.of (K:=X.K) q);cases u with
   |nil |cons _ _=>cases g
   |lf w=>
    let(rfl,_):=h;rw[zr (λc=>by cases c)];cases y<;>first |cases d |skip
    .let(T,rfl):=r;rwa[EqAt.tuple_int _ _ G PL]
    .let(T,rfl):=r;rwa[EqAt.tuple_str _ _ G PL]
   |tp m=>
    let f:=id h;let(S,B,M,rfl,o,U):=h;cases r;by_cases e:p=B
    .subst e;rw[zF$ XE (H:=H) (t:=.tp l) (u:=.tp m) (x:=.ref p) (xs:=[]) #[E,p,O,Z,q,F] f Z i d];rwa[EqAt.same _]
    .rwa[EqAt.of_refs e$ MU I n D (by let:l.dep+1<=n+1:=k;omega) N09 i d E S q o F U]
inductive MO(d:Nat)(x y:V)(H:Hp)(Q:VK):Prop
 |mk(l m:Tr)(_:l.dep < d)(_:l.In)(_:m.In)(_:aV H (.tp l) x [])(_:aV H (.tp m) y [])(_:Q (.bl (ik (.tp l) (.tp m))) H)
def XG{d:Nat}(c:X.A.units+d+1 < cLine):gf X (compareOp .Eq) (MO d):=by intro p s n H x y v u Q I r R h;obtain⟨l,m,o,i,e,⟨f,a,z,rfl,g,t⟩,⟨j,b,B,rfl,k,T⟩,q⟩:=h;cases r;cases R;rwa[MU I d (XF I d) PL c i e f j g k t T X.prog X.w _ _ #[.bl _,H,I,Z,q]]
end
abbrev Ii:cc:=bX 27
abbrev Ij:cc:=bX 32
def eO{w:V}:eW (v::u::w::y) 2=δ w:=jE (j:=2) Z
def LC{w:V}:eW (v::u::w::z::y) 3=δ z:=jE (j:=3) Z
def Cc{X:xL V}{i:Nat}{x:V}(h:X[i]?=δ x):X.drop i=x::X.drop (i+1):=by let(H,e):=ξ.mp h;rw[<- e,T5]
def zH(h:io H f i s a u)(k:aj H b):io b f i s a u:=by let(c,g,e,S,E,d,j,l,m):=h;exact#[c,g,e,S,E,k _ _ d,k _ _ j,k _ _ l,m.mono k]
def du:Sk->Tr
 | .rd c _=>aB [aM "read",au c]
 | .cl f I _ _=>aB [aM "call",aM f,aB (I.map au)]
 | .wr c i=>aB [aM "write",au c,au i]
 | .ask b=>aB [aM "ask",au b]
 |_=>.nil
def K0{call:lH}{w:Sk}(h:gH M call C k L t e= .ok w i j):du w=uA k e:=by
 let b:=En h;cases e with
 |ask d T=>rw[XA b]at h;cases h;rfl
 |st p l=>
  cases l with
  |gv d T |st x d T=>unfold gH at h;rw[RB b]at h;cases h
  |rd x d T=>rw[Z6 b]at h;cases h;rfl
  |wr d u T U=>rw[Z7 b]at h;cases h;rfl
  |cl x f q g=>
   rw[qC b]at h;cases e:call f (g.map λc=>c.2.ev k) L (t+1) with
   |long |deep=>rw[e]at h;cases h
   |ok s a _L m=>rw[e]at h;cases h;show aB [_,_,aB ((g.map λc=>c.2.ev k).map au)]=_;rw[TX];rfl
inductive mQ(b:xL V)(H:Hp)(Q:VK)(a:XK):Prop
 |mk(u:V)(w:Sk)(_:b=[u])(_:eM H w u [])(_:w.ok ν)(_:∀(v:V) (H':Hp),aV H' (du w) v []->aa H H'->Q v H')
inductive oK(j:xL V)(H:Hp)(Q:VK)(b:XK):Prop
 |mk(f:ρ)(d:xL Int)(s:Sk)(a:Int)(c g e:ζ)(i:xL V)(k:Nat)(_:j=[.ref c,.int (k:Int)])(_:H c=δ (.tup [.str f,.ref g,.ref e,.int a]))(_:H e=δ (.tup i))(_:(∃(p h:ζ) (n:Int) (hs:xL Int) (u:V),i[k]?=↑p/\H p=δ (.tup [.int n,.ref h,u])/\H h=δ (.tup (hs.map xb))/\∀(v:V) (H':Hp),aV H' (aB [aM "go",au n,aB (hs.map au)]) v []->aa H H'->Q v H')∨(k=ο i/\∀(v:V) (H':Hp),aV H' (aB [aM "give",au a]) v []->aa H H'->Q v H'))
def MX:am ["what"] ["what"] (ae Ii):=bP
def GY(F:xD K "deed_in" Ii f B):⇑1 f B ["what"] mQ:=by
 erw[F.ok MX λC A o s H V Q E l h=>?_]
 let(u,w,rfl,m,t,q):=h;erw[#[_,%[Z|_cmxh0flBι0Uygtcmxh0floVdanbBιh0Uygtfl0],?_]];cases w with
 |nil |st=>rwa[t.elim]
 |ask b=>let(p,rfl,d):=m;erw[ah λk i=>(jv d Z #[212,a9 PH$ i _ _ ?_])];erw[ah λk i=>(jv d Z #[212,a9 PH$ i _ _ ?_])];exact#[12,q _ _ (jG d$ jm Z jT$ jm Z jX jC)$ aa.refl _]
 |wr b D=>let(p,rfl,d):=m;erw[ah λk i=>(jv d Z #[212,a9 PH$ i _ _ ?_])];erw[ah λk i=>(jv d Z #[212,a9 PH$ i _ _ ?_])];exact#[12,q _ _ (jG d$ jm Z jT$ jm Z jX$ jm Z jX jC)$ aa.refl _]
 |rd b D=>let(p,rfl,d):=m;erw[ah λk i=>(jv d Z #[212,dB PH #[1212,p,12,d,λr y l S=>q _ _ ?_ S]])];let l:y r=δ (.tup [.str "read",.int b]):=l;rwa[jG l$ jm Z jT$ jm Z jX jC]
 |cl f R s a=>let(p,c,g,e,T,rfl,d,G,I,U,W):=m;erw[ah λk i=>(jv d Z #[212,a9 PH$ i _ _ ?_])];erw[ah λk i=>(jv d Z #[212,dB PH #[i8,λJ n=>(jv (aq d n) gY #[12,c,12,aq G n,λL y v S=>#[J,L,1122,S _ _ jc,v,ie,λM N j z=>q _ _ ?_ (((je n).trans S).trans z)]])]])];let j:N M=δ (.tup [.str "call",.str f,.ref g]):=j;rwa[jG j$ jm Z jT$ jm Z jT$ jm Z (zi$ z _ _$ S _ _$ aq I n) jC]
def MY:am ["chain","number"] ["chain","number"] (ae Ij):=bP
def GZ(F:xD K "goal_at" Ij f x)(M:mg "len"=θ):⇑1 f x ["chain","number"] oK:=by
 erw[F.ok MY λC A o s H V Q E U h=>?_]
 let(f,I,s,a,c,g,e,y,k,rfl,d,l,q):=h;erw[#[_,%[Z|_cms qB _1Aεj M _ζah0bw _ _fldanah0btfloVdanbBιkGh01pUyg],?_]];let B:=aL;erw[ah λX m=>#[12,jv d eO #[e,12,.inr$ aC.of l,212,?_]]];rcases q with ⟨p,h,n,Y,u,r,D,G,q⟩ | ⟨J,q⟩
 .let L:=(ξ.mp r).1;refine a9 (RC λz=>?_)$ m _ _ ?_
  .injection z with z;omega
  erw[#[i8,λt N=>(jv (aq d N) eO #[12,e,11122,aC.of$ aq l N,jE r,12,p,12,aq D N,λO H1 i S=>#[t,O,1122,S _ _ jc,i,ie,λR T b v=>q _ _ ?_ (((je N).trans S).trans v)]])]];let b:T R=δ (.tup [.str "go",.int n,.ref h]):=b;rwa[jG b$ jm Z jT$ jm Z jX$ jm Z (zi$ v _ _$ S _ _$ aq G N) jC]
 .subst J;erw[dB (RG Z)$ jv d LC #[cg,λt N=>q _ _ (jG jc$ jm Z jT$ jm Z jX jC) (je N)]]
abbrev DJ:cc:=bX 7
abbrev DK:cc:=bX 8
abbrev DC:cc:=bX 9
abbrev aN:=xL Int
abbrev aO:=Int×xL Int×Sk
abbrev RA(a:Type):=Hp->V->a->Prop
def bq{a:Type}(R:RA a)(H:Hp):xL a->xL V->Prop
 | [],v=>v=[]
 |w::W,v=>∃x r,v=x::r/\R H x w/\bq R H W r
def Nz{a:Type}(R:RA a):Prop:=∀(H h:Hp) (x:V) (w:a),aj H h->R H x w->R h x w
section
variable {α:Type}{R:RA α}
theorem bq.mono(a:Nz R)(k:aj H b):∀{W:xL α} {v:xL V},bq R H W v->bq R b W v
 | [],_,h=>h
 |_::_,_,z=>by let(x,r,e,c,d):=z;rwa[#[x,r,e,a _ _ _ _ k c,bq.mono a k d]]
theorem bq.app(a:bq R H b y):∀{W:xL α} {v:xL V},bq R H W v->bq R H (W++b) (v++y)
 | [],_,h=>by let e:_=[]:=h;rw[e];rwa[a]
 |_::_,_,z=>by let(x,r,e,c,d):=z;rwa[#[x,r++y,by rw[e];rfl,c,bq.app a d]]
theorem bq.len:∀{W:xL α} {v:xL V},bq R H W v->ο v=ο W
 | [],_,h=>by let e:_=[]:=h;rw[e];rfl
 |_::_,_,z=>by let(x,r,e,b,a):=z;rw[e];rwa[SM (·+1) (bq.len a)]
theorem bq.at:∀{W:xL α} {v:xL V},bq R H W v->∀{i:Nat} {x:V},v[i]?=δ x->∃w,W[i]?=δ w/\R H x w
 | [],_,h,i,x,a=>by let e:_=[]:=h;rw[e]at a;simp at a
 |w::_,_,q,0,x,a=>by let(y,r,e,b,c):=q;rw[e]at a;cases a;exact#[w,Z,b]
 |w::W,_,q,i+1,x,a=>by let(y,r,e,b,c):=q;rw[e]at a;rwa[bq.at c (i:=i) (a:)]
def bq.one{w:α}(h:R H x w):bq R H [w] [x]:=#[x,[],Z,h,Z]
theorem bq.map{a:Type}{S:RA a}{g:α->a}{f:V->V}(h:∀x w,R H x w->S H (f x) (g w)):∀{W:xL α} {v:xL V},bq R H W v->bq S H (W.map g) (v.map f)
 | [],_,e=>by let e:_=[]:=e;rw[e];rfl
 |_::_,_,z=>by let(x,r,e,b,c):=z;rwa[#[f x,r.map f,by rw[e];rfl,h _ _ b,bq.map h c]]
end
def eU:RA aN:=λH x p=>∃a,x= .ref a/\H a=δ (.tup$ p.map xb)
def bJ:Nz eU:=λ_ _ _ _ k #[a,e,h]=>#[a,e,k _ _ h]
def Lw:RA (aN×Sk):=λH x w=>∃q p u,x= .ref q/\H q=δ (.tup [.ref p,u])/\H p=δ (.tup$ w.1.map xb)/\eM H w.2 u []
def rV:Nz Lw:=λ_ _ _ _ k #[q,p,u,e,h,H,a]=>#[q,p,u,e,k _ _ h,k _ _ H,a.mono k]
noncomputable def Sk.steps:Sk->xL aO
 | .st n h w r=>(n,h,w)::r.steps
 |_=>[]
noncomputable def Sk.ws:Sk->aN->Nat->xL (aN×Sk)
 | .st _ _ w r,p,k=>((p++[(k:Int)],w)::w.ws (p++[(k:Int)]) 0)++r.ws p (k+1)
 | .cl _ _ s _,p,_=>s.ws p 0
 |_,_,_=>[]
noncomputable def my:xL aO->aN->Nat->xL (aN×Sk)
 | [],_,_=>[]
 |s::r,p,k=>((p++[(k:Int)],s.2.2)::s.2.2.ws (p++[(k:Int)]) 0)++my r p (k+1)
theorem JX:∀{s:Sk},s.ok μ->∀p k,s.ws p k=my s.steps p k
 | .nil,_,_,_=>rfl
 | .st _ _ w r,o,p,k=>by show _++r.ws p (k+1)=_++my r.steps p (k+1);rw[JX o.2]
theorem Jx:∀(a b:xL aO) (p:aN) (k:Nat),my (a++b) p k=my a p k++my b p (k+ο a)
 | [],_,_,_=>rfl
 |s::a,b,p,k=>by show _++my (a++b) p (k+1)=(_++my a p (k+1))++my b p (k+(ο a+1));rw[Jx a b,Sn,show k+1+ο a=k+(ο a+1) by omega]
theorem zj:∀{b:Bool} {s:Sk},s.ok b->∀(p:aN) (k:Nat),(s.ws p k).length=s.size
 |true,.nil,_,_,_=>rfl
 |true,.st _ _ w r,o,p,k=>by let h:=zj (b:=ν) (s:=w) o.1 (p++[(k:Int)]) 0;let H:=zj (b:=μ) (s:=r) o.2 p (k+1);show(((p++[(k:Int)],w)::w.ws (p++[(k:Int)]) 0)++r.ws p (k+1)).length=w.size+r.size+1;rw[Ru,Sa,h,H];omega
 |false,.cl _ _ s _,o,p,_=>zj (b:=μ) (s:=s) o p 0
 |false,.ask _,_,_,_ |false,.rd _ _,_,_,_ |false,.wr _ _,_,_,_=>rfl
def Bm(a:xL aO)(i:Nat)(p:aN)(k:Nat):(my (a.take i) p k).length<=(my a p k).length:=by let:=SM ti (Jx (a.take i) (a.drop i) p k);rw[Vw,Ru]at this;omega
inductive z9r(H:Hp)(s:Sk)(i:Nat)(x:V):Prop|mk(n b w p h u:_)(_:s.steps[i]?=δ (n,b,w))(_:w.ok ν)(_:w.dep<=s.dep)(_:w.size+1<=s.size)(_:x= .ref p)(_:H p=δ (.tup [.int n,.ref h,u]))(_:H h=δ (.tup$ b.map xb))(_:eM H w u [])
theorem z9:∀{s:Sk} {S:xL V},s.ok μ->eM H s .non S->∀{i:Nat} {x:V},S[i]?=δ x->z9r H s i x
 | .nil,_,_,e,i,x,a=>by let e:_=[]:=e;rw[e]at a;simp at a
 | .st n b w r,_,o,q,0,x,a=>by let(p,h,u,y,e,d,f,g,j):=q;rw[e]at a;cases a;exact#[n,b,w,p,h,u,Z,o.1,UV _ _,by show w.size+1<=w.size+r.size+1;omega,Z,d,f,g]
 | .st n b w r,_,o,q,i+1,x,a=>by let(p,h,u,y,e,d,f,g,j):=q;rw[e]at a;let(N,c,W,k,l,U,t,T,m,z,v,A,B,C):=z9 o.2 j (i:=i) (x:=x) (a:);exact#[N,c,W,k,l,U,t,T,RM m$ UN _ _,by show W.size+1<=w.size+r.size+1;omega,v,A,B,C]
theorem zn:∀{s:Sk} {S:xL V},s.ok μ->eM H s .non S->ο S=ο s.steps
 | .nil,_,_,e=>by let e:_=[]:=e;rw[e];rfl
 | .st n b w r,_,o,z=>by let(p,h,u,y,e,c,d,f,a):=z;rw[e];rwa[SM (·+1) (zn o.2 a)]
def uk(p:aN)(k:Nat):p.map xb++[xb (k:Int)]=(p++[(k:Int)]).map xb:=by rw[RU];rfl
inductive oV(n:Nat)(d:xL V)(H:Hp)(Q:VK)(a:XK):Prop
 |mk(b:ζ)(c:aN)(w:Sk)(u:V)(_:d=[.ref b,u])(_:H b=δ (.tup (c.map xb)))(_:ο c+n<=100)(_:eM H w u [])(_:w.ok ν)(_:w.dep < n)(_:w.size<=1000)(_:∀(r:ζ) (xs:xL V) (H':Hp),H r=θ->H' r=δ (.lst xs)->bq Lw H' ((c,w)::w.ws c 0) xs->aa H H'->Q (.ref r) H')
inductive mh(n:Nat)(g:xL V)(H:Hp)(Q:VK)(b:XK):Prop
 |mk(d:ζ)(e:aN)(f:ρ)(c:xL Int)(s:Sk)(a:Int)(u:V)(_:g=[.ref d,u])(_:H d=δ (.tup (e.map xb)))(_:ο e+n+1<=100)(_:io H f c s a u)(_:s.ok μ)(_:s.dep < n)(_:s.size<=1000)(_:∀(r:ζ) (xs:xL V) (H':Hp),H r=θ->H' r=δ (.lst xs)->bq Lw H' (s.ws e 0) xs->aa H H'->Q (.ref r) H')
inductive O1(h k:ζ)(j:aN)(u:V)(s:Sk)(H:Hp)(i:Nat)(m:_L.St)(a:Hp):Prop
 |mk(f g:ym V)(l:xL V)(b:m=[↑h,δ u,↑k,f,g])(c:a k=δ (.lst l))(d:bq Lw a (my (s.steps.take i) j 0) l)(e:aa H a)
def c8(p:aN)(w:Sk):xL aN:=p::(w.ws p 0).map (·.1)
def Qh{w:Sk}(o:w.ok ν)(p:aN):(c8 p w).length=w.size+1:=by unfold c8;rw[Sa,Rs,zj o]
inductive oU(n:Nat)(d:xL V)(H:Hp)(Q:VK)(a:XK):Prop
 |mk(b:ζ)(c:aN)(w:Sk)(u:V)(_:d=[.ref b,u])(_:H b=δ (.tup (c.map xb)))(_:ο c+n<=100)(_:eM H w u [])(_:w.ok ν)(_:w.dep < n)(_:w.size<=1000)(_:∀(r:ζ) (xs:xL V) (H':Hp),H r=θ->H' r=δ (.lst xs)->bq eU H' (c8 c w) xs->aa H H'->Q (.ref r) H')
noncomputable def uG(H:Hp):V->V
 | .ref q=>match H q with
  |some (.tup (x::_))=>x
  |_=>.non
 |_=>.non
def JE(l:xL V):(dr l.length).map (λi=>(l[i]?).getD .non)=l:=by erw[VV PJ λi H h=>?_];simp [Rq h]
def Ez{H:Hp}(h:H q=δ (.tup [.ref p,u])):uG H (.ref q)= .ref p:=by show(match H q with |some (.tup (x::_))=>x |_=>V.non)=_;rw[h]
def EX:am ["path","what","within"] z10z (ae DJ):=bP
def yy{n:Nat}(F:xD K "whats_at" DJ f fd)(cI:{2*n+2} fI f0 ["path","chain"] (mh n) "whats_in"):⇑(2*n+3) f fd z10z (oV$ n+1):=by
 erw[F.ok EX λc0 A O s H vs Q E hr h=>?_]
 let(j,v,w,u,rfl,U,h0,D,k,W,hz,q):=h;erw[#[_,%[EX|_ce2Wxh1 cI.e hr.m _a0ah1brbfloψrada0a1bb2],?_]];let b0:=aL;let fl:=zj k v 0;erw[ah λF1 G=>?_];suffices X:∀(l:ζ) (x:xL V) (d:Hp),d l=δ (.lst x)->bq Lw d (w.ws v 0) x->aa H d->F1 [↑j,δ u,↑l] d by
  cases w with
  |nil |st=>rwa[k.elim]
  |ask b |rd c i |wr c i=>let(p,rfl,y):=D;exact(jv y Z #[212,a9 PH #[gU,λl Y=>X l [] _ jc Z (je Y)]])
  |cl f is s a=>let(p,c,g,e,ss,rfl,y,h2,h3,h4,h5):=D;let W:s.dep+1 < n+1:=W;exact(jv y Z #[212,dB PH #[12,jv y Z #[j,v,f,is,s,a,.ref c,Z,U,N09,#[c,g,e,ss,Z,h2,h3,h4,h5],k,PL,hz,λl x d Y I B S=>X l x d I B S]]])
 intro l x d I B S;erw[G _ _ ?_];let lx:=B.len;erw[#[1212,cg,λt J=>#[i8,λL N=>#[12,L,l,1122,jc,aq (aq I J) N,by show 1+ο x<=_;omega,λr M=>?_]]]];let C:aa d (af (af (af d t$ .tup [.ref j,u]) L$ .lst [.ref t]) r$ .lst ([.ref t]++x)):=((je J).trans$ je N).trans (je M);let ht:af (af (af d t$ .tup [.ref j,u]) L$ .lst [.ref t]) r (.lst ([.ref t]++x)) t=δ (.tup [.ref j,u]):=aq (aq jc N) M;let R:H r=θ:=by
  cases z:H r with
  |none=>rfl
  |some o=>have:=((je (o:=.lst [.ref t]) N) _ _ ((je (o:=.tup [.ref j,u]) J) _ _ (S _ _ z)));rw[M]at this;cases this
 rwa[q r _ _ R jc #[.ref t,x,Z,#[t,j,u,Z,ht,C _ _$ S _ _ U,D.mono$ aa.tm$ S.trans C],B.mono rV$ aa.tm C] (S.trans C)]
def sX:am ["path","chain","told","number","step"] ["path","chain"] (ae DK):=bP
def Ho(F:xD K "whats_in" DK f fd)(cA:{2*n+1} fA f2 z10z (oV n) "whats_at")(U:mg "enumerate"=θ):⇑(2*n+2) f fd ["path","chain"] (mh n):=by
 erw[F.ok sX λc0 A V s H vs Q E Y h=>?_]
 let(pa,k,f,is,s,a,u,rfl,hp,h6,hc,d,hd,hz,q):=h;erw[#[_,%[sX|_ce2rbcHTj (Qb Z U %[sX|_ah1b]) _P (n:=2) _jqi3qi4γfzCR Tp To qh _2a cA.e Y.m _aoV0da3bah4bbfl2],?_]];let b0:=aL;let(c,g,e,ss,rfl,h1,h2,h3,h4):=hc;let fl:=zj d k 0;rw[JX d]at fl;let lt:=zn d h4;erw[ah λF1 v=>#[gU,λT N=>v _ _ ?_]];let s1:aa H (af H T$ .lst []):=je N;erw[ah λF1 v=>eG λJ j=>(jv (s1 _ _ h1) Z #[e,Z,#[_,aC.of$ s1 _ _ h3],j _ _ ?_])];erw[Jm (K:=K) (xs:=ss) (O1 pa T k (.ref c) s H) #[θ,θ,[],Z,jc,Z,s1] (λi σ Hx _ h=>?_) ?_ (λσ Hx h=>v _ _ ?_)]
 .let(_,_,_,_,_,_,y):=h;rwa[aC.of$ y _ _ h3]
 .intro E hE i x B σ O hx np f0 Gq l h;let(o3,o4,xs,rfl,R,W,y):=h;let C:aa O (af O B$ .tup [.int i,x]):=je np;let e8:af O B (.tup [.int i,x]) B=δ (.tup [.int i,x]):=jc;erw[l ?_];generalize af O B (.tup [.int i,x])=H8 at C e8 ⊢;let S8:=y.trans C;let(n1,D,w,p,hh,u,ht,o1,d0,s2,rfl,h0,h7,hw):=z9 d (h4.mono$ aa.tm S8) hx;erw[#[B,12,aC.of e8,21121122,?_]];erw[#[12,.inl #[21,aJ.of$ C _ _ R],1212,i8,λt nt=>#[pa,t,1122,aq (S8 _ _ hp) nt,jc,by rw[Rs];show _+1<=_;omega,λr9 H9 e9 s9=>?_]]];let S9:=(je (o:=.tup [.int i]) nt).trans s9;rw[uk]at e9;erw[(jv (S9 _ _ h0) Z #[r9,_,w,u,Z,e9,by rw[Ru];show _+1+_<=_;omega,hw.mono$ aa.tm S9,o1,PL,PL,λr X G nr Y I s0=>?_])];let S:=S9.trans s0;let L:=S _ _ (C _ _ R);let lx:=W.len;let l0:=I.len;let bl:=Bm s.steps (i+1) k 0;let h5:i < ο s.steps:=(ξ.mp ht).1;let et:s.steps.take (i+1)=s.steps.take i++[(n1,D,w)]:=by rw[SX,ht];rfl
  let eb:my [(n1,D,w)] k (0+(s.steps.take i).length)=(k++[(i:Int)],w)::w.ws (k++[(i:Int)]) 0:=by rw[R0,TU$ T3 h5,UF];show(_::_)++[]=_;rw[Sb]
  rw[fl,et,Jx,eb]at bl;rw[Ru]at bl;let M:aj G (af G T$ .lst$ xs++X):=λb ys e=>by rw[ji$ jO e L BT];rwa[e]
  erw[#[T,r,1122,L,Y,PL,f0 _ _ #[11,xs++X,Z,jc,?_,λb o e=>?_]]]
  .rw[et,Jx,eb];exact(I.mono rV M).app ((W.mono rV$ aa.tm$ C.trans S).mono rV M)
  .rw[ji$ jk e N];rwa[S _ _$ S8 _ _ e]
 .let(o3,o4,xs,rfl,R,W,y):=h;rw[lt,Su,<- JX d]at W;exact#[12,q T xs Hx N R W y]
def GH:⇑k f c ["path","chain"] (mh 0):=by
 let n:∀v H Q E,¬mh 0 v H Q E:=λv H Q E h=>by let(p,d,f,i,s,a,u,_,_,_,_,_,z,_):=h;omega
 exact#[λv H Q E h=>absurd h (n v H Q E),λA o s H b U v Q E _ _ _ _ h=>absurd h (n v H Q E)]
theorem Nv(F:xD K "whats_at" DJ g a)(B:aE K a z10z [])(M:mg "whats_at"=↑g)(b:xD K "whats_in" DK c f)(d:aE K f ["path","chain"] [])(e:mg "whats_in"=↑c)(m:mg "enumerate"=θ):∀n,⇑(2*n+2) c f ["path","chain"] (mh n)
 |0=>GH
 |n+1=>by let h:=Nv F B M b d e m n;let H:=yy F #[h,d,b.kp,e];rwa[Ho b #[H,B,F.kp,M] m]
def M1:am z10z z10z (ae DC):=bP
noncomputable def vO:ge:=#[.function,[(".0",.local),("one",.local),("done",.local)],ν,ν,[]]
def ye:(["one","done"]:xL ρ).Nodup:=PH
def FH:bh z10z (ae DC) vO ["one","done"] 2 []:=oi
def Hi{n:Nat}(F:xD K "paths_at" DC f I)(J:{2*n+3} fA L z10z (oV$ n+1) "whats_at"):⇑(2*n+4) f I z10z (oU$ n+1):=by
 erw[F.ok M1 λM A O s H vs Q E R h=>?_]
 let(y,p,w,u,rfl,T,j,V,b,W,Y,q):=h;erw[#[_,%[Z|_fl (@za _ _ _ _ _ _ _ ["one","done"] 2 [] _ _ _ _ Z %[Z|_S J.e R.m _a0a1b] FH (λ_ _ _ _ _=>sj (K:=K) (n:=2) Z Z (jy (ju (i:=0) ye Z$ ψ Z)$ jy (ju (i:=1) ye Z$ ψ Z) jY) Z Z) (λ_ _ _ _ _=>@zw _) (λ_ _ _ _ _=>pv 0) Cv)],?_]];let b0:=aL;let fl:=zj b p 0;erw[#[1212,y,p,w,u,Z,T,j,V,b,W,Y,λr X a nr c k C=>?_]];let lx:=k.len;rw[Sa,fl]at lx;let lm:(X.map$ uG a).length=ο X:=Rs _;erw[#[r,Z,#[_,aJ.of c],Y6 (λi=>((X.map$ uG a)[i]?).getD .non) PL (aJ.of c) (λi x D=>?_) λl N=>q l (X.map$ uG a) _ ?_ ?_ ?_ (C.trans$ je N)]]
 .obtain⟨⟨p',w'⟩,_,t,v,U,rfl,g,G,g3⟩:=k.at D;erw[#[t,.ref v,U,Z,aC.of g,λQ d=>#[12,?_]]];rw[RP,D]at d;let d:Q (uG a$ .ref t) a:=d;rw[Ez g]at d;rwa[d]
 .cases z:H l with
  |none=>rfl
  |some o=>rw[C _ _ z]at N;cases N
 .rw[jc,<- lm,JE]
 .let e:c8 p w=((p,w)::w.ws p 0).map (·.1):=rfl;rw[e];exact(bq.map (S:=eU) (f:=uG a) (λx w #[t,v,U,e0,g,G,g3]=>by subst e0;rw[Ez g];exact#[v,Z,G]) k).mono bJ (aa.tm$ je N)
abbrev Ac:cc:=bX 34
abbrev Ab:cc:=bX 35
def oj(h:cf k A):A.units+10+1 < cLine:=by let:=h.un;omega
theorem qK:∀{I J:xL Int},aD (I.map au)=aD (J.map au)->I=J
 | [],[],_=>rfl
 | [],_::_,e |_::_,[],e=>by cases e
 |i::I,j::J,e=>by let e:Tr.cons (au i) (aD$ I.map au)= .cons (au j) (aD$ J.map au):=e;injection e with E a;injection E with E;injection E with E;rw[E,qK a]
theorem zB:∀i:xL Int,(aD$ i.map au).In
 | []=>trivial
 |_::i=>#[Z,zB i]
def XH(n:Int)(h:xL Int):(aD [au n,aB$ h.map au]).In:=#[Z,zB h,trivial]
def rh(n:Int)(H:xL Int):(aD [au n,aB$ H.map au]).dep < 10:=by let h:=zo H;show max 0 (max ((aD$ H.map au).dep+1) 0) < 10;omega
noncomputable def uF(P:aO->Bool):Nat->xL aO->ym Nat
 |_,[]=>θ
 |k,s::r=>if P s=μ then δ k else uF P (k+1) r
def mq(P:aO->Bool)(os:xL aO)(m:Nat):ym Nat:=uF P m (os.drop m)
def Zl{P:aO->Bool}{os:xL aO}(h:os[m]?=δ s):mq P os m=if P s=μ then δ m else mq P os (m+1):=by let(H,e):=ξ.mp h;unfold mq;rw[<- T5 (h:=H),e];rfl
def rG{P:aO->Bool}{os:xL aO}(h:ο os<=m):mq P os m=θ:=by unfold mq;rw[WP h];rfl
theorem rH{P:aO->Bool}:∀{os:xL aO} {k j:Nat},uF P k os=δ j->∃i s,j=k+i/\os[i]?=δ s/\P s=μ
 | [],_,_,h=>nomatch h
 |s::r,k,j,h=>by
  let h:(if P s=μ then δ k else uF P (k+1) r)=δ j:=h;by_cases H:P s=μ
  .rw[RB H]at h;cases h;exact#[0,s,22,H]
  .rw[RD H]at h;let(i,S,e,a,b):=rH h;exact#[i+1,S,PL,by simpa using a,b]
def Jy{P:aO->Bool}{os:xL aO}(h:mq P os m=δ j):m<=j/\∃s,os[j]?=δ s/\P s=μ:=by let(i,s,e,H,a):=rH h;rw[VJ]at H;exact#[PL,s,by rw[e];rwa[H],a]
noncomputable def lI:ym Nat->V
 |some j=>.int (j:Int)
 |none=>.non
noncomputable def aY(n:Int)(h:xL Int)(s:aO):Bool:=decide (s.1=n/\s.2.1=h)
noncomputable def dm(f:ρ)(i:xL Int)(s:aO):Bool:=match s.2.2 with
 | .cl g j _ _=>decide (g=f/\j=i)
 |_=>ν
def gr(os:xL aO)(m:Nat):Sk->ym Nat
 | .cl f i _ _=>mq (dm f i) os m
 |_=>θ
def fQ(os:xL aO)(m:Nat)(n:Int)(h:xL Int)(w:Sk):ym Nat:=match mq (aY n h) os m with
 |some j=>δ j
 |none=>gr os m w
def B0{H h:xL Int}(e:aB [au n,aB$ H.map au]=aB [au N,aB$ h.map au]):n=N/\H=h:=by let e:Tr.tp (.cons (au n)$ .cons (aB$ H.map au) .nil)= .tp (.cons (au N)$ .cons (aB$ h.map au) .nil):=e;injection e with e;injection e with a A;injection A with b _;injection a with a;injection a with a;let b:Tr.tp (aD$ H.map au)= .tp (aD$ h.map au):=b;injection b with b;exact#[a,qK b]
def xW{a H:xL Int}{w:Sk}:ik (aB [au N,aB$ H.map au]) (aB [au n,aB$ a.map au])=aY n a (N,H,w):=by
 by_cases h:N=n/\H=a
 .rw[h.1,h.2,zF Z];exact(RG #[22]).symm
 .rw[zr λe=>h (B0 e)];exact(RC h).symm
def JG{i j:xL Int}(e:aB [aM "call",aM g,aB$ j.map au]=aB [aM "call",aM f,aB$ i.map au]):g=f/\j=i:=by let e:Tr.tp (.cons (aM "call")$ .cons (aM g)$ .cons (aB$ j.map au) .nil)= .tp (.cons (aM "call")$ .cons (aM f)$ .cons (aB$ i.map au) .nil):=e;injection e with e;injection e with _ e;injection e with a A;injection A with b _;injection a with a;injection a with a;let b:Tr.tp (aD$ j.map au)= .tp (aD$ i.map au):=b;injection b with b;exact#[a,qK b]
def qr(e:aB (aM a::x)=aB (aM b::y)):a=b:=by let e:Tr.tp (.cons (aM a)$ aD x)= .tp (.cons (aM b)$ aD y):=e;injection e with e;injection e with e _;injection e with e;injection e
def Gm{n':Int}{hs':xL Int}{w:Sk}(o:w.ok ν):ik (du w) (du$ .cl f i s a)=dm f i (n',hs',w):=by
 cases w with
 |nil |st _ _ _ _=>rwa[o.elim]
 |ask b |rd b c |wr b c=>show ik (aB _) (aB _)=_;rw[zr λe=>absurd (qr e) PM];rfl
 |cl g j S A=>
  by_cases h:g=f/\j=i
  .rw[h.1,h.2];show ik (aB _) (aB _)=_;rw[zF Z];exact(RG #[22]).symm
  .show ik (aB _) (aB _)=_;rw[zr λe=>h (JG e)];exact(RC h).symm
def rA{w:Sk}(o:w.ok ν):∃l,du w= .tp l/\l.dep < 10/\l.In/\∃v t,l= .cons (aM v) t/\(v="call"↔∃f i s a,w= .cl f i s a):=by
 cases w with
 |nil |st _ _ _ _=>rwa[o.elim]
 |ask b |rd b B=>exact#[12,by show max 0 (max 0 0) < 10;decide,#[22,trivial],112,λe=>absurd e PM,λ#[1111,e]=>nomatch e]
 |wr b B=>exact#[12,by show max 0 (max 0 (max 0 0)) < 10;decide,#[222,trivial],112,λe=>absurd e PM,λ#[1111,e]=>nomatch e]
 |cl f i s a=>exact#[12,by show max 0 (max 0 (max ((aD (i.map au)).dep+1) 0)) < 10;rw[zo];decide,#[22,zB i,trivial],112,λ_=>#[11112],λ_=>Z]
inductive lY(f:xL V)(H:Hp)(Q:VK)(a:XK):Prop
 |mk(e:ζ)(d:xL V)(s:Sk)(m:Nat)(n:Int)(c:xL Int)(b:V)(_:f=[.ref e,.int (m:Int),b])(_:H e=δ (.tup d))(_:eM H s .non d)(_:s.ok μ)(_:s.size<=1000)(_:m<=1000)(_:aV H (aB [au n,aB (c.map au)]) b [])(_:∀H',aa H H'->Q (lI (mq (aY n c) s.steps m)) H')
inductive lX(d:xL V)(H:Hp)(Q:VK)(a:XK):Prop
 |mk(e:ζ)(c:xL V)(s w:Sk)(m:Nat)(b:V)(_:d=[.ref e,.int (m:Int),b])(_:H e=δ (.tup c))(_:eM H s .non c)(_:s.ok μ)(_:s.size<=1000)(_:m<=1000)(_:aV H (du w) b [])(_:w.ok ν)(_:∀H',aa H H'->Q (lI (gr s.steps m w)) H')
def Au:am ["steps","mark","cut","at"] ["steps","mark","cut"] (ae Ac):=bP
def CU(F:xD K "like_from" Ac f T)(R:mg "len"=θ)(U:mg "range"=θ):⇑1 f T ["steps","mark","cut"] lY:=by
 erw[F.ok Au λV A O s H vs Q E W h=>?_]
 let(e,v,s,m,n,c,C,rfl,G,g,k,Y,hm,hc,q):=h;erw[#[_,%[Au|_cHTj (qS Z U %[Au|_a1aAεj R _ζa0bb]) _i3fms (XG (d:=10)$ oj W) _BιkG03pUyg2w _ _fl3tfl (@zM _ _ _)],?_]];let b0:=aL;let l0:=zn k g;let l1:=Jh k g;erw[ah λF1 f1=>eG λJ j=>#[1212,e,12,.inr$ aC.of G,112,#[PL,PL,PL,PL],j _ _ ?_]];erw[kn (λi x I=>(∃y,x=[↑e,δ$ .int (m:Int),δ C,y])/\aa H I/\mq (aY n c) s.steps m=mq (aY n c) s.steps (m+i)) #[#[12],aa.refl _,Z] ?_ (λx I h=>f1 _ _ ?_)]
 .intro L rt i x H2 hi fE X l h;obtain⟨⟨y,rfl⟩,S,b⟩:=h;erw[l ?_];let e0:(m:Int)+(i:Int)=((m+i:Nat):Int):=by omega
  rw[e0];let o:m+i < ο v:=PL
  let(N,a,w,p,h,u,ht,o1,_,_,ex,hp,hh,_):=z9 k (g.mono$ aa.tm S) (Rq o);let B:v[m+i]?=↑p:=by rw[Rq o,ex]
  show lh _ _ _ L _ _;erw[ms λG1 kT kF=>#[1212,e,11122,aC.of$ S _ _ G,jE B,12,p,12,hp,λq2 H1 D r=>#[1211,rh N a,XH N a,XH n c,jG D$ jm Z jX$ jm Z (zi$ r _ _ hh) jC,hc.mono$ aa.tm$ S.trans r,12,?_]]];rw[show ik (.tp$ aD [au N,aB$ a.map au]) (.tp$ aD [au n,aB$ c.map au])=aY n c (N,a,w) from xW];let t:=Zl (P:=aY n c) ht;cases M:aY n c (N,a,w) with
  |true=>erw[kT _ ?_];show ig _ L _ _;unfold ig;rw[rt];rw[RB M]at t;let z:=q _ (S.trans r);rw[b,t]at z;exact#[12,z]
  |false=>rw[RD (by rw[M];intro z;cases z)]at t;rwa[kF _$ fE _ _ #[#[12],S.trans r,by rw[b,t];rfl]]
 .obtain⟨⟨y,rfl⟩,S,b⟩:=h;let z:=q _ S;rw[b,rG PL]at z;rwa[z]
def At:am ["steps","mark","deed","at"] ["steps","mark","deed"] (ae Ab):=bP
def CT(F:xD K "lender_from" Ab f fd)(cI:{1} fI f0 ["what"] mQ "deed_in")(ml:mg "len"=θ)(mr:mg "range"=θ):⇑2 f fd ["steps","mark","deed"] lX:=by
 erw[F.ok At λc0 A O s H vs Q E hr h=>?_]
 let(e,D,s,w,m,dv,rfl,he,c,g,h0,hm,G,L,q):=h;erw[#[_,%[At|_cms QZ _h2nw _ _fl (@zM _ _ _) _tcHTj (qS Z mr %[At|_a1aAεjπζa0bb]) _i3fms (XG (d:=10)$ oj hr) cI.e hr.m _ahkG03pb2w _ _fl3tfl (@zM _ _ _)],?_]];let b0:=aL;let l0:=zn g c;let l1:=Jh g c;let(l,el,dl,il,v0,ts,ev,r):=rA L;rw[el]at G;let(_,da,ds,rfl,M,t):=id G;rw[ev]at t;obtain⟨_,_,y0,y1,rfl,⟨rfl,_⟩,_⟩:=t;erw[ah λF1 y=>(jv M eQ #[212,?_])];by_cases B:v0="call"
 .let(f,I,s1,a1,rfl):=r.mp B;subst B;erw[a9 PH$ y _ _ ?_];erw[ah λF1 y=>eG λJ j=>#[1212,e,12,.inr$ aC.of he,112,#[PL,PL,PL,PL],j _ _ ?_]];refine kn (λi N R=>(∃T,N=[↑e,δ$ .int (m:Int),↑da,T])/\aa H R/\mq (dm f I) s.steps m=mq (dm f I) s.steps (m+i)) #[#[12],aa.refl _,Z] ?_ (λN R h=>y _ _ ?_)
  .intro E2 rt i N H2 hi fE Gq n h;obtain⟨⟨T,rfl⟩,S,b⟩:=h;erw[n ?_];let e0:(m:Int)+(i:Int)=((m+i:Nat):Int):=by omega
   rw[e0];let v:m+i < ο D:=by rwa[N09]
   let(n',hs',w,p,h,u,ht,o,_,_,ex,hp,hh,hw):=z9 g (c.mono$ aa.tm S) (Rq v);let U:D[m+i]?=↑p:=by rw[Rq v,ex]
   let(l',x,W,X,_):=rA o;show lh _ _ _ E2 _ _;erw[ms λG1 kT kF=>#[1212,e,11122,aC.of$ S _ _ he,jE U,p,11122,aC.of hp,eO,u,w,Z,hw,o,λv1 H1 Y k=>#[12,l',l,W,X,il,x▸Y,G.mono$ aa.tm$ S.trans k,12,?_]]];rw[<- x,<- el,Gm (n':=n') (hs':=hs') o];let C:=Zl (P:=dm f I) ht;cases hb:dm f I (n',hs',w) with
   |true=>erw[kT _ ?_];show ig _ E2 _ _;unfold ig;rw[rt];rw[RB hb]at C;let z:Q (lI$ mq (dm f I) s.steps m) H1:=q _ (S.trans k);rw[b,C]at z;exact#[12,z]
   |false=>rw[RD (by rw[hb];intro z;cases z)]at C;rwa[kF _$ fE _ _ #[#[12],S.trans k,by rw[b,C];rfl]]
  .obtain⟨⟨T,rfl⟩,S,b⟩:=h;let z:Q (lI$ mq (dm f I) s.steps m) R:=q _ S;rw[b,rG N09]at z;rwa[z]
 .refine dB ?_ ?_
  .show(!decide (vr v0=vr "call"))=μ;rw[RC λz=>B (by injection z)];rfl
  let z:=q _ (aa.refl _);let en:gr s.steps m w=θ:=by
   cases w with
   |cl f I s a=>rwa[absurd (r.mpr #[f,I,s,a,Z]) B]
   |_=>rfl
  rw[en]at z;rwa[z]
abbrev yX:cc:=bZ (bX 41) 0
abbrev Dp:cc:=bZ (bX 41) 1
abbrev Dq:cc:=bZ (bX 41) 2
noncomputable def dQ(a:ζ):xL (ρ×V):=[("anew",.ref a)]
def BO(a:ζ):Tl (dQ a):=#[Nat.le_of_ble_eq_true Z,2222]
inductive nO(C:ζ)(e:xL V)(H:Hp)(Q:VK)(a:XK):Prop
 |mk(r c d b:ζ)(m:Int)(_:e=[.ref r,.ref d,.ref b,.int m])(_:H r=δ (.ins C c []))(_:∀lA aA,H lA=θ->H aA=θ->lA≠aA->Q .non (af (af (af H lA (.dK [])) aA (.lst [])) r (.ins C c (dP (dQ aA) b lA d m 0))))
def Ir:am z7z z7z (ae yX):=bP
def CO{R:ζ}(F:aT K "__init__" "AgainRun.__init__" yX f y)(B:RK K C)(D:ba K C "anew")(G:⇑2 I k z7z (iU C))(J:aE K k z7z [])(M:mg "BookRun"=↑R)(L:wc K R "__init__" I):⇑3 f y z7z (nO C):=by
 erw[F.ok Ir λO A o s H V Q E S h=>?_]
 let(r,d,p,c,m,rfl,g,q):=h;erw[#[_,%[Z|_cz (@sh _ _ _ _ _ _ _ _ _ _ _ _ _ _ _ _ _ _ _ _ Z M L G S.m J .nil b6 %[Z|_a0a1a2a3b] PM Pz Pz Pz) _f (@qD _ _ _ _ _ _ _ _ (pv 0) (jI jb) Z)],?_]];erw[ah λW x=>#[12121212,r,d,p,c,m,Z,g,λl N=>x _ _ ?_]];let T:l≠r:=(jk g N).symm;erw[#[gU,λa n=>#[12,r,C,d,12,aq jc n,B.cl,D,(by show 5 < 1000;decide),?_]]];let t:a≠r:=λz=>by rw[z,jc]at n;cases n
 rw[ji t]at n;let i:l≠a:=λz=>by rw[<- z,jc]at n;cases n
 rw[ji i.symm]at n;let e:af (af (af (af H l$ .dK []) r$ .ins C d$ dP [] c l p m 0) a$ .lst []) r (.ins C d$ dP (dQ a) c l p m 0)=af (af (af H l$ .dK []) a$ .lst []) r (.ins C d$ dP (dQ a) c l p m 0):=by
  funext b;by_cases j:b=r
  .rw[j,jc,jc]
  .rw[ji j,ji j];by_cases u:b=a
   .rw[u,jc,jc]
   .rw[ji u,ji j,ji u]
 rwa[e▸q l a N n i]
abbrev BF:=aN×aN
structure Ly where
 k:xL BF
 t:xL BF
 f:xL aN
 d:xL aN
noncomputable def Ly.app(a b:Ly):Ly:=#[a.k++b.k,a.t++b.t,a.f++b.f,a.d++b.d]
def Ly.nil:Ly:=#[[],[],[],[]]
noncomputable def Ly.tot(a:Ly):Nat:=ο a.k+ο a.t+ο a.f+ο a.d
def Ly.app_assoc(a b c:Ly):(a.app b).app c=a.app (b.app c):=by unfold Ly.app;simp [Sn]
def Ly.app_nil(a:Ly):a.app .nil=a:=by unfold Ly.app Ly.nil;simp
def Ly.nil_app(a:Ly):Ly.nil.app a=a:=rfl
def Ly.tot_app(a b:Ly):(a.app b).tot=a.tot+b.tot:=by unfold Ly.app Ly.tot;simp only[Ru];omega
noncomputable def Sk.fnd:Sk->Int
 | .ask b=>b
 | .rd _ i | .wr _ i=>i
 | .cl _ _ _ a=>a
 |_=>0
def um:Sk->xL aO
 | .cl _ _ s _=>s.steps
 |_=>[]
def Od(p:aN)(os:xL aO)(m j:Nat):xL aN:=(my ((os.drop m).take$ j - m) p m).map (·.1)
def one(p:aN)(o:aO)(a:aN)(n:Int)(h:xL Int)(w:Sk):Ly:=
 if aY n h o=μ then (if o.2.2.fnd=w.fnd then #[[(p,a)],[],[],[]] else #[[],[(p,a)],[],[]]) else #[[],[],[a],[p]]
noncomputable def iN:Sk->aN->xL aO->Nat->aN->Nat->Ly
 | .st n h w r,p,os,m,a,k=>match fQ os m n h w with
  |none=>(#[[],[],c8 (a++[(k:Int)]) w,[]]:Ly).app (iN r p os m a (k+1))
  |some j=>match os[j]? with
   |none=>.nil
   |some o=>((#[[],[],[],Od p os m j]:Ly).app ((one (p++[(j:Int)]) o (a++[(k:Int)]) n h w).app (iN w (p++[(j:Int)]) (um o.2.2) 0 (a++[(k:Int)]) 0))).app (iN r p os (j+1) a (k+1))
 | .cl _ _ s _,p,os,m,a,k=>iN s p os m a k
 | .nil,p,os,m,_,_=>#[[],[],[],Od p os m os.length]
 |_,_,_,_,_,_=>.nil
def Qi{w:Sk}{os:xL aO}(h:fQ os m n H w=θ):iN (.st n H w r) a os m p k=(#[[],[],c8 (p++[(k:Int)]) w,[]]:Ly).app (iN r a os m p$ k+1):=by show(match fQ os m n H w with |none=>_ |some j=>_)=_;rw[h]
def Qj{w:Sk}{os:xL aO}(h:fQ os m n H w=δ j)(b:os[j]?=δ o):iN (.st n H w r) p os m a k=((#[[],[],[],Od p os m j]:Ly).app ((one (p++[(j:Int)]) o (a++[(k:Int)]) n H w).app$ iN w (p++[(j:Int)]) (um o.2.2) 0 (a++[(k:Int)]) 0)).app (iN r p os (j+1) a$ k+1):=by show(match fQ os m n H w with |none=>_ |some j=>match os[j]? with |none=>Ly.nil |some o=>_)=_;rw[h];dsimp only;rw[b]
abbrev DF:=ρ->Int->xL Int->Tr
def Dt(D:DF):ρ->Sk->Prop
 |f,.st n h w r=>du w=D f n h/\Dt D f w/\Dt D f r
 |_,.cl g _ s _=>Dt D g s
 |_,_=>True
theorem Z9:∀{s:Sk},Dt D f s->∀{j:Nat} {o:aO},s.steps[j]?=δ o->du o.2.2=D f o.1 o.2.1/\Dt D f o.2.2
 | .st n H w r,h,0,o,e=>by cases e;exact#[h.1,h.2.1]
 | .st n H w r,h,j+1,o,e=>Z9 h.2.2 (j:=j) (by let e:((n,H,w)::r.steps)[j+1]?=δ o:=e;simpa using e)
 | .nil,_,j,o,e | .ask _,_,j,o,e | .rd _ _,_,j,o,e | .wr _ _,_,j,o,e | .cl _ _ _ _,_,j,o,e=>by let e:([]:xL aO)[j]?=δ o:=e;simp at e
def zI{os:xL aO}{w:Sk}(h:fQ os m n d w=δ j):m<=j/\∃o,os[j]?=δ o/\(aY n d o=μ∨∃f I s a,w= .cl f I s a/\dm f I o=μ):=by
 unfold fQ at h;cases e:mq (aY n d) os m with
 |some i=>rw[e]at h;cases h;let(H,s,b,c):=Jy e;exact#[H,s,b,.inl c]
 |none=>
  rw[e]at h;let h:gr os m w=δ j:=h;cases w with
  |cl f I s a=>let(H,S,b,c):=Jy (show mq (dm f I) os m=δ j from h);exact#[H,S,b,.inr #[f,I,s,a,Z,c]]
  |_=>cases h
def xV(h:aY n H o=μ):o.1=n/\o.2.1=H:=Sq h
def rQ(h:dm f i o=μ):∃s a,o.2.2= .cl f i s a:=by
 unfold dm at h;split at h
 .rename_i g j s a e
  let(rfl,rfl):=Sq h;exact#[s,a,e]
 .cases h
def K2{w:Sk}(o:w.ok ν)(e:du w=du (.cl f i s a)):∃S A,w= .cl f i S A:=by
 cases w with
 |nil |st _ _ _ _=>rwa[o.elim]
 |ask b |rd b c |wr b c=>rwa[absurd (qr e) PM]
 |cl g j S A=>let(rfl,rfl):=JG e;exact#[S,A,Z]
def IM{os s:Sk}{w:Sk}(r:os.ok μ)(k:Dt D f os)(h:fQ os.steps m n l w=δ j)(b:os.steps[j]?=δ o)(O:o.2.2.ok ν)(p:du w=D f n l):∀g i s a,w= .cl g i s a->∃S A,o.2.2= .cl g i S A:=by
 intro g i s a e;let(_,t,H,c):=zI h;rw[b]at H;cases H;rcases c with c | ⟨F,I,S,A,E,c⟩
 .let(C,q):=xV c;let(d,_):=Z9 k b;rw[C,q,<- p,e]at d;rwa[K2 O d]
 .rw[e]at E;cases E;rwa[rQ c]
def pE:RA BF:=λH x p=>∃q a b,x= .ref q/\H q=δ (.tup [.ref a,.ref b])/\H a=δ (.tup$ p.1.map xb)/\H b=δ (.tup$ p.2.map xb)
def gN:Nz pE:=λ_ _ _ _ k #[q,a,b,e,h,H,c]=>#[q,a,b,e,k _ _ h,k _ _ H,k _ _ c]
structure L4(H:Hp)(ob:HO)(r kA tA fA dA:ζ)(y:Ly):Prop where
 ins:H r=δ ob
 kv:∃xs,H kA=δ (.lst xs)/\bq pE H y.k xs
 tv:∃xs,H tA=δ (.lst xs)/\bq pE H y.t xs
 fv:∃xs,H fA=δ (.lst xs)/\bq eU H y.f xs
 dv:∃xs,H dA=δ (.lst xs)/\bq eU H y.d xs
 ne:kA≠tA/\kA≠fA/\kA≠dA/\tA≠fA/\tA≠dA/\fA≠dA
 nl:∀xs,ob≠ .lst xs
abbrev Lt(H:Hp)(z k t f d:ζ)(y:Ly):Prop:=L4 H (.tup [.ref k,.ref t,.ref f,.ref d]) z k t f d y
def dh(a b c d:ζ)(H h:Hp):Prop:=∀x o,x≠a->x≠b->x≠c->x≠d->H x=δ o->h x=δ o
def dh.of_same(s:aa H h):dh a b c d H h:=λ_ _ _ _ _ _ e=>s _ _ e
def dh.trans(h:dh a b c d H i)(k:dh a b c d i j):dh a b c d H j:=λx o n N f g e=>k x o n N f g (h x o n N f g e)
section
variable {H H':Hp}{ob:HO}{r kA tA fA dA:ζ}{y:Ly}
def L4.tm(h:L4 H ob r kA tA fA dA y)(k:dh kA tA fA dA H H'):aj H H':=λb x e=>by let(_,a,_):=h.kv;let(_,c,_):=h.tv;let(_,d,_):=h.fv;let(_,f,_):=h.dv;rwa[k b _ (jO e a BT) (jO e c BT) (jO e d BT) (jO e f BT) e]
def L4.same(h:L4 H ob r kA tA fA dA y)(s:aa H H'):L4 H' ob r kA tA fA dA y:=by let(x,a,g):=h.kv;let(X,b,G):=h.tv;let(c,d,g3):=h.fv;let(e,f,i):=h.dv;exact#[s _ _ h.ins,#[x,s _ _ a,g.mono gN$ aa.tm s],#[X,s _ _ b,G.mono gN$ aa.tm s],#[c,s _ _ d,g3.mono bJ$ aa.tm s],#[e,s _ _ f,i.mono bJ$ aa.tm s],h.ne,h.nl]
def JY{o:HO}(h:H a=δ (.lst x)):aj H (af H a o):=λb Y e=>by rw[ji$ jO e h BT];rwa[e]
def L4.setK(h:L4 H ob r kA tA fA dA y)(a:H kA=δ (.lst x))(g:bq pE H p Y):L4 (af H kA$ .lst$ x++Y) ob r kA tA fA dA (y.app #[p,[],[],[]])/\dh kA tA fA dA H (af H kA$ .lst$ x++Y):=by
 let T:=JY (o:=.lst (x++Y)) a;let(v,c,G):=h.kv;let(X,i,j):=h.tv;let(k,l,g3):=h.fv;let(m,n,q):=h.dv;let(N,s,u,z,B,C):=h.ne;rw[c]at a;cases a;erw[#[#[?_,#[_,jc,(bq.app g G).mono gN T],#[X,?_,?_],#[k,?_,?_],#[m,?_,?_],h.ne,h.nl],λb o A D E F e=>by rw[ji A];rwa[e]]]
 .rw[ji$ jO h.ins c$ h.nl _];rwa[h.ins]
 .rw[ji$ Sc N];rwa[i]
 .show bq pE _ (y.t++[]) _;rw[Sb];rwa[j.mono gN T]
 .rw[ji$ Sc s];rwa[l]
 .show bq eU _ (y.f++[]) _;rw[Sb];rwa[g3.mono bJ T]
 .rw[ji$ Sc u];rwa[n]
 .show bq eU _ (y.d++[]) _;rw[Sb];rwa[q.mono bJ T]
def L4.setT(h:L4 H ob r kA tA fA dA y)(a:H tA=δ (.lst x))(g:bq pE H p Y):L4 (af H tA$ .lst$ x++Y) ob r kA tA fA dA (y.app #[[],p,[],[]])/\dh kA tA fA dA H (af H tA$ .lst$ x++Y):=by
 let t:=JY (o:=.lst (x++Y)) a;let(X,i,G):=h.kv;let(z,c,j):=h.tv;let(l,m,g3):=h.fv;let(n,q,s):=h.dv;let(N,B,C,u,v,D):=h.ne;rw[c]at a;cases a;erw[#[#[?_,#[X,?_,?_],#[_,jc,(bq.app g j).mono gN t],#[l,?_,?_],#[n,?_,?_],h.ne,h.nl],λb o E A F I e=>by rw[ji A];rwa[e]]]
 .rw[ji$ jO h.ins c$ h.nl _];rwa[h.ins]
 .rw[ji N];rwa[i]
 .show bq pE _ (y.k++[]) _;rw[Sb];rwa[G.mono gN t]
 .rw[ji$ Sc u];rwa[m]
 .show bq eU _ (y.f++[]) _;rw[Sb];rwa[g3.mono bJ t]
 .rw[ji$ Sc v];rwa[q]
 .show bq eU _ (y.d++[]) _;rw[Sb];rwa[s.mono bJ t]
def L4.setF(h:L4 H ob r kA tA fA dA y)(a:H fA=δ (.lst x))(f:bq eU H p Y):L4 (af H fA$ .lst$ x++Y) ob r kA tA fA dA (y.app #[[],[],p,[]])/\dh kA tA fA dA H (af H fA$ .lst$ x++Y):=by
 let T:=JY (o:=.lst (x++Y)) a;let(X,g,G):=h.kv;let(i,j,l):=h.tv;let(v,c,g3):=h.fv;let(m,n,q):=h.dv;let(z,N,B,s,C,u):=h.ne;rw[c]at a;cases a;erw[#[#[?_,#[X,?_,?_],#[i,?_,?_],#[_,jc,(bq.app f g3).mono bJ T],#[m,?_,?_],h.ne,h.nl],λb o D E A F e=>by rw[ji A];rwa[e]]]
 .rw[ji$ jO h.ins c$ h.nl _];rwa[h.ins]
 .rw[ji N];rwa[g]
 .show bq pE _ (y.k++[]) _;rw[Sb];rwa[G.mono gN T]
 .rw[ji s];rwa[j]
 .show bq pE _ (y.t++[]) _;rw[Sb];rwa[l.mono gN T]
 .rw[ji$ Sc u];rwa[n]
 .show bq eU _ (y.d++[]) _;rw[Sb];rwa[q.mono bJ T]
def L4.setD(h:L4 H ob r kA tA fA dA y)(a:H dA=δ (.lst x))(d:bq eU H p Y):L4 (af H dA$ .lst$ x++Y) ob r kA tA fA dA (y.app #[[],[],[],p])/\dh kA tA fA dA H (af H dA$ .lst$ x++Y):=by
 let T:=JY (o:=.lst (x++Y)) a;let(X,g,G):=h.kv;let(i,j,l):=h.tv;let(m,n,g3):=h.fv;let(v,c,q):=h.dv;let(z,B,N,C,s,u):=h.ne;rw[c]at a;cases a;erw[#[#[?_,#[X,?_,?_],#[i,?_,?_],#[m,?_,?_],#[_,jc,(bq.app d q).mono bJ T],h.ne,h.nl],λb o D E F A e=>by rw[ji A];rwa[e]]]
 .rw[ji$ jO h.ins c$ h.nl _];rwa[h.ins]
 .rw[ji N];rwa[g]
 .show bq pE _ (y.k++[]) _;rw[Sb];rwa[G.mono gN T]
 .rw[ji s];rwa[j]
 .show bq pE _ (y.t++[]) _;rw[Sb];rwa[l.mono gN T]
 .rw[ji u];rwa[n]
 .show bq eU _ (y.f++[]) _;rw[Sb];rwa[g3.mono bJ T]
end
def Eg(a:aN)(m:Nat)(p:aN):Prop:=∃(j:Nat) (q:aN),m<=j/\p=a++(j:Int)::q
def Iz(p:aN)(m:Nat):Eg p m (p++[(m:Int)]):=#[m,[],Rv _,Z]
def Eg.le{a:aN}{m M:Nat}{p:aN}(h:Eg a m p)(l:M<=m):Eg a M p:=by let(j,q,H,b):=h;rwa[#[j,q,RM l H,b]]
def Eg.up{a:aN}{m j i:Nat}{p:aN}(h:Eg (a++[(j:Int)]) i p)(l:m<=j):∃q,p=a++(j:Int)::q/\q≠[]:=by let(k,q,_,e):=h;exact#[(k:Int)::q,by rw[e,Sn];rfl,λz=>by cases z]
theorem Q5:∀(s:Sk) (p:aN) (k:Nat),∀q∈(s.ws p k).map (·.1),Eg p 0 q
 | .st _ _ w r,p,k,q,h=>by
  let h:q∈(((p++[(k:Int)],w)::w.ws (p++[(k:Int)]) 0)++r.ws p (k+1)).map (·.1):=h;rw[RU,SR]at h;rcases γ.mp h with h |h
  .rcases Ξ.mp h with rfl |h
   .exact(Iz p k).le (RE _)
   .let(Q,e,_):=(Q5 w _ 0 q h).up (m:=0) (RE _);exact#[k,Q,RE _,e]
  .rwa[Q5 r p (k+1) q h]
 | .cl _ _ s _,p,_,q,h=>Q5 s p 0 q h
 | .nil,_,_,_,h | .ask _,_,_,_,h | .rd _ _,_,_,_,h | .wr _ _,_,_,_,h=>nomatch h
def su{w:Sk}{p:aN}{k:Nat}{q:aN}(h:q∈c8 (p++[(k:Int)]) w):∃Q,q=p++(k:Int)::Q:=by
 rcases Ξ.mp h with rfl |h
 .exact#[[],Z]
 .let(Q,e,_):=(Q5 w _ 0 q h).up (m:=0) (RE _);exact#[Q,e]
def YJ(s:aO)(r:xL aO)(p:aN)(k:Nat):(my (s::r) p k).map (·.1)=c8 (p++[(k:Int)]) s.2.2++(my r p$ k+1).map (·.1):=by show((_::_)++_).map _=_;rw[RU];rfl
theorem Bn:∀(os:xL aO) (p:aN) (k:Nat),∀q∈(my os p k).map (·.1),∃(i:Nat) (Q:aN),k<=i/\i < k+ο os/\q=p++(i:Int)::Q
 | [],_,_,_,h=>nomatch h
 |s::r,p,k,q,h=>by
  rw[YJ]at h;rcases γ.mp h with h |h
  .let(Q,e):=su h;exact#[k,Q,Rv _,by show k < k+(ο r+1);omega,e]
  .let(i,Q,H,a,e):=Bn r p (k+1) q h;exact#[i,Q,PL,by show i < k+(ο r+1);omega,e]
theorem X0:∀(p x y:aN),gM (p++x) (p++y)=gM x y
 | [],_,_=>rfl
 |a::p,x,y=>by show(if a=a then gM (p++x) (p++y) else _)=_;rw[RB Z,X0 p]
def Cu{p q Q:aN}{i j:Nat}(h:i < j):gM (p++(i:Int)::q) (p++(j:Int)::Q)=μ:=by rw[X0];show(if (i:Int)=(j:Int) then _ else decide ((i:Int) < (j:Int)))=μ;rw[RD PL];rwa[RG PL]
def Cw{p q:aN}{i:Nat}:gM p (p++(i:Int)::q)=μ:=by let:=X0 p [] ((i:Int)::q);rw[Sb]at this;rwa[this]
abbrev Fm(l:xL aN):Prop:=l.Pairwise λa b=>gM a b=μ
def vZ:∀(s:Sk) (p:aN) (k:Nat),s.ok μ->∀q∈(s.ws p k).map (·.1),Eg p k q
 |s,p,k,o,q,h=>by rw[JX o]at h;let(i,Q,H,_,e):=Bn _ _ _ q h;exact#[i,Q,H,e]
def IF{a b:xL aN}(H:Fm a)(c:Fm b)(h:∀x∈a,∀y∈b,gM x y=μ):Fm (a++b):=List.pairwise_append.mpr #[H,c,h]
theorem tX:∀{b:Bool} {s:Sk},s.ok b->∀(p:aN) (k:Nat),Fm ((s.ws p k).map (·.1))
 |true,.nil,_,_,_=>ks
 |true,.st _ _ w r,o,p,k=>by
  show Fm ((((p++[(k:Int)],w)::w.ws (p++[(k:Int)]) 0)++r.ws p (k+1)).map (·.1));rw[RU];erw[IF ?_ (tX o.2 p$ k+1) λx H y h=>?_]
  .rw[SR];erw[ri.mpr #[λy h=>?_,tX o.1 _ 0]];let(i,q,_,e):=Q5 w _ 0 y h;rw[e];rwa[Cw]
  .let(q,e):=su (w:=w) (show x∈c8 (p++[(k:Int)]) w from H);let(i,Q,a,E):=vZ r p (k+1) o.2 y h;rw[e,E];rwa[Cu a]
 |false,.cl _ _ s _,o,p,_=>tX (b:=μ) (s:=s) o p 0
 |false,.ask _,_,_,_ |false,.rd _ _,_,_,_ |false,.wr _ _,_,_,_=>ks
noncomputable def gg:Sk->xL aO->Nat->aN->Nat->xL aN
 | .st n h w r,os,m,p,k=>match fQ os m n h w with
  |none=>c8 (p++[(k:Int)]) w++gg r os m p (k+1)
  |some j=>match os[j]? with
   |none=>[]
   |some o=>(if aY n h o=μ/\o.2.2.fnd=w.fnd then [] else [p++[(k:Int)]])++(gg w (um o.2.2) 0 (p++[(k:Int)]) 0++gg r os (j+1) p (k+1))
 | .cl _ _ s _,os,m,p,k=>gg s os m p k
 |_,_,_,_,_=>[]
def BM(os:xL aO)(m:Nat)(n:Int)(h:xL Int)(w:Sk)(p:aN)(k:Nat):xL aN:=match fQ os m n h w with
 |none=>c8 (p++[(k:Int)]) w
 |some j=>match os[j]? with
  |none=>[]
  |some o=>(if aY n h o=μ/\o.2.2.fnd=w.fnd then [] else [p++[(k:Int)]])++gg w (um o.2.2) 0 (p++[(k:Int)]) 0
noncomputable def Lb(m:Nat):ym Nat->Nat
 |none=>m
 |some j=>j+1
def Yg{n:Int}{H:xL Int}{w r:Sk}{os:xL aO}{m:Nat}{p:aN}{k:Nat}:gg (.st n H w r) os m p k=BM os m n H w p k++gg r os (Lb m$ fQ os m n H w) p (k+1):=by
 show(match fQ os m n H w with |none=>_ |some j=>_)=_;unfold BM;cases h:fQ os m n H w with
 |none=>rfl
 |some j=>let(_,o,a,_):=zI h;dsimp only;rw[a];dsimp only;rw[Sn];rfl
noncomputable def Gp:Sk->xL aO->Nat->Nat
 | .st n h w r,os,m=>Gp r os (Lb m (fQ os m n h w))
 |_,_,m=>m
theorem wu{n:Int}{hs:xL Int}{w:Sk}{os:xL aO}{pn:aN}:∀{s:Sk} {m k:Nat},s.ok μ->gg (Sk.put n hs w s) os m pn k=gg s os m pn k++BM os (Gp s os m) n hs w pn (k+ο s.steps)/\Gp (Sk.put n hs w s) os m=Lb (Gp s os m) (fQ os (Gp s os m) n hs w)
 | .nil,m,k,_=>by show gg (.st n hs w .nil) os m pn k=[]++_/\_;rw[Yg];exact#[Sb _,Z]
 | .st N H W r,m,k,h=>by
  let i:=wu (n:=n) (hs:=hs) (w:=w) (os:=os) (pn:=pn) (s:=r) (m:=Lb m (fQ os m N H W)) (k:=k+1) h.2;let e:Sk.put n hs w (.st N H W r)= .st N H W (Sk.put n hs w r):=rfl;erw[#[?_,?_]]
  .rw[e,Yg,Yg,i.1,Sn];show _=_++(_++BM os (Gp r os$ Lb m$ fQ os m N H W) n hs w pn (k+((N,H,W)::r.steps).length));rw[Sa,show k+1+ο r.steps=k+(ο r.steps+1) by omega]
  .rw[e];rwa[i.2]
 | .ask _,_,_,h | .rd _ _,_,_,h | .wr _ _,_,_,h | .cl _ _ _ _,_,_,h=>h.elim
noncomputable def Ly.an(y:Ly):xL aN:=y.t.map (·.2)++y.f
def XI(a b:Ly):(a.app b).an.Perm (a.an++b.an):=by show((a.t++b.t).map (·.2)++(a.f++b.f)).Perm ((a.t.map (·.2)++a.f)++(b.t.map (·.2)++b.f));rw[RU,Sn,Sn];erw[Vc _ ?_];rw[<- Sn,<- Sn];rwa[List.Perm.append_right _ Vx]
theorem JZ:∀(s:Sk) (a:aN) (os:xL aO) (m:Nat) (p:aN) (k:Nat),(iN s a os m p k).an.Perm (gg s os m p k)
 | .st n H w r,a,os,m,p,k=>by
  rw[Yg];unfold BM;cases h:fQ os m n H w with
  |none=>rw[Qi h];exact(XI _ _).trans (Vc _$ JZ r a os m p$ k+1)
  |some j=>
   let(_,o,b,_):=zI h;rw[Qj h b];dsimp only;rw[b];dsimp only;erw[(XI _ _).trans (X' ?_$ JZ r a os (j+1) p$ k+1)];erw[(XI _ _).trans ?_];show((one _ o _ n H w).app _).an.Perm _;erw[(XI _ _).trans (X' ?_$ JZ w _ _ _ _ _)];unfold one;by_cases c:aY n H o=μ
   .rw[RB c];by_cases f:o.2.2.fnd=w.fnd
    .rw[RB f,RB #[c,f]];rwa[Tq _]
    .rw[RD f,RD (λz=>f z.2)];rwa[Tq _]
   .rw[RD c,RD (λz=>c z.1)];rwa[Tq _]
 | .cl _ _ s _,a,os,m,p,k=>JZ s a os m p k
 | .nil,_,_,_,_,_ | .ask _,_,_,_,_,_ | .rd _ _,_,_,_,_,_ | .wr _ _,_,_,_,_,_=>Tq _
theorem qF:∀{b:Bool} {s:Sk},s.ok b->∀(os:xL aO) (m:Nat) (p:aN) (k:Nat),(b=ν->k=0)->(gg s os m p k).Sublist ((s.ws p k).map (·.1))
 |true,.nil,_,_,_,_,_,_=>Ul _
 |true,.st n H w r,o,os,m,p,k,_=>by
  rw[Yg];show List.Sublist _ ((((p++[(k:Int)],w)::w.ws (p++[(k:Int)]) 0)++r.ws p (k+1)).map (·.1));rw[RU];erw[List.Sublist.append ?_$ qF o.2 os _ p (k+1) (λz=>by cases z)];unfold BM;cases h:fQ os m n H w with
  |none=>rwa[Ul _]
  |some j=>
   let(_,O,a,_):=zI h;dsimp only;rw[a];dsimp only;let i:=qF o.1 (um O.2.2) 0 (p++[(k:Int)]) 0 (λ_=>Z);rw[SR];split
   .rwa[i.cons _]
   .rwa[i.cons_cons _]
 |false,.cl _ _ s _,o,os,m,p,k,z=>by cases z Z;rwa[qF (b:=μ) (s:=s) o os m p 0 (λz=>by cases z)]
 |false,.ask _,_,_,_,_,_,_ |false,.rd _ _,_,_,_,_,_,_ |false,.wr _ _,_,_,_,_,_,_=>Ul _
def ww{s:Sk}(o:s.ok μ)(os:xL aO)(m:Nat)(p:aN)(k:Nat):Fm (gg s os m p k):=(tX o p k).sublist (qF o os m p k (λz=>by cases z))
def XJ{s:Sk}(o:s.ok μ)(os:xL aO)(m:Nat)(p:aN)(k:Nat):(gg s os m p k).length<=s.size:=by let:=(qF o os m p k (λz=>by cases z)).length_le;rw[Rs,zj o]at this;rwa[this]
def wt{s:Sk}(o:s.ok μ){os:xL aO}{m:Nat}{a:aN}{k:Nat}{p:aN}(h:p∈gg s os m a k):p≠[]:=by let(i,q,_,e):=Q5 s a k p ((qF o os m a k (λz=>by cases z)).subset h);rw[e];simp
def AN{l:xL aN}(h:Fm l):l.Nodup:=h.imp λ{a b} z e=>by subst e;let:=JF z;rw[z]at this;cases this
abbrev Iq:cc:=bX 40
def EB{M:Nat}{call:lH}{C L f:aW}{p:dD}{m t i:Nat}{g:Gd}{n:Int}{H:xL Int}{a:Int}{w r:Sk}(h:gj M call C p m g L t= .ok (.st n H w r) a f i):∃(N:Nat) (c:Fi) (l:aW) (T d:Nat),n=(N:Int)/\g= .go N H/\p.cs[N]?=δ c/\gH M call C (aR c.nm H) L t c.e= .ok w l T/\gj M call C p d (oq p c H w.wh) l T= .ok r a f i:=by
 cases g with
 |give b=>let(e,_):=YG h;cases e
 |go N j=>let(c,W,l,T,R,d,k,o,e,q):=xF h;injection e with E s u v;subst E;subst s;subst u;subst v;exact#[N,c,l,T,d,22,k,o,q]
def FY{M:Nat}{call:lH}{C L l:aW}{p:dD}{m t T:Nat}{g:Gd}{a:Int}(h:gj M call C p m g L t= .ok .nil a l T):g= .give a/\l=L:=by
 cases g with
 |give b=>let(_,e,E):=YG h;exact#[by rw[e],E]
 |go n H=>let(_,_,_,_,_,_,_,_,e,_):=xF h;cases e
def wj(p:xL dD)(f:ρ)(i:xL Int)(s:Sk)(a:Int):Prop:=∃(M:Nat) (C:aW) (j:Nat) (L:aW) (t:Nat) (l:aW) (T:Nat),a7 M p C j f i L t= .ok s a l T
noncomputable def La(a:Int):xL aO->Gd
 | []=>.give a
 |s::_=>.go s.1.toNat s.2.1
structure NW(pds:xL dD)(pd:dD)(a:Int)(s:aO)(r:xL aO):Prop where
 ex:∃(n:Nat) (cd:Fi),s.1=(n:Int)/\pd.cs[n]?=δ cd/\du s.2.2=uA (aR cd.nm s.2.1) cd.e/\La a r=oq pd cd s.2.1 s.2.2.wh
 cl:∀f is s' b,s.2.2= .cl f is s' b->wj pds f is s' b
def xE{M:Nat}{call:lH}{C L l:aW}{p:dD}{m t T:Nat}{g:Gd}{a:Int}{s:Sk}(o:s.ok μ)(h:gj M call C p m g L t= .ok s a l T):g=La a s.steps:=by
 cases s with
 |nil=>exact(FY h).1
 |st n H w r=>let(N,c,b,d,f,e,E,_):=EB h;rw[E,e];rfl
 |ask _ |rd _ _ |wr _ _ |cl _ _ _ _=>rwa[o.elim]
def uB{M:Nat}{d:xL dD}{call:lH}(o:∀f i L t s a m n,call f i L t= .ok s a m n->wj d f i s a){C k L r:aW}{t u:Nat}{e:DD}{w:Sk}(h:gH M call C k L t e= .ok w r u):∀f i s b,w= .cl f i s b->wj d f i s b:=by
 intro f i s b E;subst E;by_cases H:t < M
 .cases e with
  |ask p T=>rw[XA H]at h;cases h
  |st p l=>
   cases l with
   |rd x a T=>rw[Z6 H]at h;cases h
   |wr a b T U=>rw[Z7 H]at h;cases h
   |cl x g q v=>
    rw[qC H]at h;cases j:call g (v.map λc=>c.2.ev k) L (t+1) with
    |ok S A m n=>rw[j]at h;cases h;rwa[o _ _ _ _ _ _ _ _ j]
    |long |deep=>rw[j]at h;cases h
   |st x a T |gv a T=>unfold gH at h;rw[RB H]at h;cases h
 .rw[KE H]at h;cases h
theorem xG{M:Nat}{p:xL dD}{call:lH}(i:∀f I L t s a l T,call f I L t= .ok s a l T->wj p f I s a){C:aW}{j:dD}{a:Int}:∀{s:Sk} {L l:aW} {m t T:Nat} {g:Gd},s.ok μ->gj M call C j m g L t= .ok s a l T->∀{k:Nat} {st:aO},s.steps[k]?=δ st->NW p j a st (s.steps.drop$ k+1)
 | .nil,_,_,_,_,_,_,_,_,k,st,c=>by simp [Sk.steps]at c
 | .st n u w r,L,l,m,t,T,g,o,h,k,st,c=>by
  let(N,q,v,x,y,e,E,d,H,b):=EB h;cases k with
  |zero=>cases c;exact#[#[N,q,e,d,K0 H,(xE o.2 b).symm],uB i H]
  |succ k=>rwa[xG i o.2 b (by simpa [Sk.steps] using c)]
 | .ask _,_,_,_,_,_,_,o,_,_,_,_ | .rd _ _,_,_,_,_,_,_,o,_,_,_,_ | .wr _ _,_,_,_,_,_,_,o,_,_,_,_ | .cl _ _ _ _,_,_,_,_,_,_,o,_,_,_,_=>o.elim
def wj.steps{b:xL dD}{f:ρ}{i:xL Int}{s:Sk}{a:Int}{p:dD}(h:wj b f i s a)(H:ff b f=δ p)(o:s.ok μ):gq (on p) (cQ p.way.sets$ aR p.ps i) p.way.goal=La a s.steps/\∀{k:Nat} {st:aO},s.steps[k]?=δ st->NW b p a st (s.steps.drop$ k+1):=by
 let(M,C,j,L,t,l,T,h):=h;cases j with
 |zero=>cases h
 |succ j=>have h:(match ff b f with |none=>OC.long |some p=>gj M (a7 M b C j) C p (M+2) (gq (on p) (cQ p.way.sets$ aR p.ps i) p.way.goal) L t)= .ok s a l T:=h;rw[H]at h;exact#[xE o h,xG (λf i L t s a l T z=>#[M,C,j,L,t,l,T,z]) o h]
def eh(a b c:ζ)(H h:Hp):Prop:=∀x o,x≠a->x≠b->x≠c->H x=δ o->h x=δ o
def eh.of2{a b c:ζ}{H d:Hp}(h:bg a b H d):eh a b c H d:=λ_ _ n N _ e=>h _ _ n N e
def eh.of_same{a b c:ζ}{H d:Hp}(h:aa H d):eh a b c H d:=λ_ _ _ _ _ e=>h _ _ e
def eh.trans{a b c:ζ}{H d f:Hp}(h:eh a b c H d)(k:eh a b c d f):eh a b c H f:=λx o n N g e=>k x o n N g (h x o n N g e)
def I8(a b c:ζ)(H h:Hp):Prop:=∀x o,x≠a->x≠b->x≠c->NX o->H x=δ o->h x=δ o
def Fl.next3{E:XK}{L a b c:ζ}{H:Hp}(h:Fl E L (I8 a b c H)):Fl (mM E) L (I8 a b c H):=λd l k x T t c e f m g=>by cases e;rwa[h d _ λb o N i j n e=>Jw (H:=H) (k b o N i j n e) n f g]
def iP.next3{A B:Prop}{E:XK}{T t a b c:ζ}{H:Hp}(h:iP A B E T t (I8 a b c H)):iP A B (mM E) T t (I8 a b c H):=#[λa=>(h.1 a).next3,λb=>(h.2 b).next3]
structure An(H:Hp)(aA:ζ)(X:xL aN):Prop where
 ex:∃(as:xL V) (qs:xL aN),H aA=δ (.lst as)/\bq eU H qs as/\qs.Perm X
def An.pm{H:Hp}{a:ζ}{X Y:xL aN}(h:An H a X)(l:X.Perm Y):An H a Y:=by let(A,q,b,c,d):=h.ex;rwa[#[A,q,b,c,d.trans l]]
def An.keep{H b:Hp}{a:ζ}{X:xL aN}(h:An H a X)(k:aj H b)(e:∀o,H a=δ o->b a=δ o):An b a X:=by let(A,q,c,d,f):=h.ex;rwa[#[A,q,e _ c,d.mono bJ k,f]]
def An.same{H a:Hp}{A:ζ}{X:xL aN}(h:An H A X)(s:aa H a):An a A X:=h.keep (aa.tm s) λo e=>s _ _ e
def An.ne{H:Hp}{C r d:ζ}{e:xL (ρ×V)}{c l p a:ζ}{m:Int}{t:Nat}{X:xL aN}{L f:aW}(h:An H a X)(R:Rn H C r d e c l p m t L f):a≠r/\a≠l/\a≠c:=by let(A,_,b,_):=h.ex;rwa[#[jO b R.ins BT,jO b R.lf BT,jO b R.ce BT]]
def An.tm{H a:Hp}{C r d:ζ}{E:xL (ρ×V)}{c l p A:ζ}{m:Int}{t:Nat}{X:xL aN}{L f:aW}(h:An H A X)(R:Rn H C r d E c l p m t L f)(k:eh r l A H a):aj H a:=λb x e=>by let(i,_,g,_):=h.ex;rwa[k b _ (jO e R.ins BT) (jO e R.lf BT) (jO e g BT) e]
def An.add{H:Hp}{A:ζ}{a y:xL V}{q r X:xL aN}(h:H A=δ (.lst a))(c:bq eU H q a)(d:bq eU H r y)(p:(q++r).Perm X):An (af H A$ .lst$ a++y) A X:=by
 let t:aj H (af H A$ .lst$ a++y):=λb x e=>by rw[ji$ jO e h BT];rwa[e]
 exact#[a++y,q++r,jc,bq.app (d.mono bJ t)$ c.mono bJ t,p]
theorem xq{P:aO->Bool}{os:xL aO}:∀(d m:Nat),mq P os m=θ->∀{s:aO},os[m+d]?=δ s->P s=ν
 |d,m,h,s,e=>by
  let a:m < ο os:=by let:=(ξ.mp e).1;omega
  let H:=h;rw[Zl$ Rq a]at H;by_cases c:P os[m]=μ
  .rw[RB c]at H;cases H
  .rw[RD c]at H;cases d with
   |zero=>rw[Nat.add_zero,Rq a]at e;cases e;simpa using c
   |succ d=>rwa[xq d (m+1) H (by rw[show m+1+d=m+(d+1) by omega];rwa[e])]
inductive mW(g:xL V)(H:Hp)(Q:VK)(b:XK):Prop
 |mk(e:ζ)(d:xL V)(_:H e=δ (.tup d))(_:(g=[.ref e,.non]/\Q .non H)∨∃(p h:ζ) (k:Nat) (n:Int) (u:V) (w:Sk),g=[.ref e,.int (k:Int)]/\d[k]?=↑p/\H p=δ (.tup [.int n,.ref h,u])/\eM H w u []/\w.ok ν/\∀ov,(((∀f is s a,w≠ .cl f is s a)/\ov= .non)∨∃(f:ρ) (is:xL Int) (s:Sk) (a:Int) (c:ζ),w= .cl f is s a/\ov= .ref c/\io H f is s a (.ref c))->Q ov H)
inductive IC(C l i z:ζ)(j:Nat)(I:xL V)(H:Hp)(Q:VK)(E:XK):Prop
 |mk(M:Nat)(r u n o y D g:ζ)(F:aN)(b t:Nat)(X:xL aN)(m:Sk->xL aN)(L h k:aW)(B G:V)(e:DD)(K:xL ρ)(p:xL Df)(A:xL Nat)(J:xL V)(d:xL dD)(_:I=[.ref r,.ref g,B,G,.int (b:Int)])(_:b+j=15)(_:Rn H C r u (dQ n) o y D M t L h)(_:An H n X)(_:ο X<=t)(_:ο L<=t)(_:t<=M)(_:Ps H z D p A J d)(_:H g=δ (.tup (F.map xb)))(_:ο F+j<=60)(_:F≠[])(_:aV H (uA k e) G [])(_:we H K e)(_:GT k)(_:e.Cs ((p.map Df.f).zip A))(_:(B= .non/\m=λw=>(c8 F w).tail)∨∃(p0:ζ) (x f:ρ) (q:ζ) (ts:xL (ζ×Tm)) (s:Sk) (a:Int) (c:ζ),e= .st p0 (.cl x f q ts)/\B= .ref c/\io H f (ts.map λc=>c.2.ev k) s a (.ref c)/\s.ok μ/\s.size<=1000/\wj d f (ts.map λc=>c.2.ev k) s a/\m=λw=>gg w s.steps 0 F 0)(_:∀(w:Sk) (v:V) (L':aW) (H':Hp),gH M (a7 M d h j) h k L t e= .ok w L' (t+1+w.size)->eM H' w v []->w.ok ν->Lj e w.wh->w.dep<=j->Rn H' C r u (dQ n) o y D M (t+1+w.size) L' h->ο L'<=t+1+w.size->t+1+w.size<=M->An H' n (X++m w)->eh r y n H H'->Q v H')(_:iP (gH M (a7 M d h j) h k L t e= .long) (gH M (a7 M d h j) h k L t e= .deep) E l i (I8 r y n H))
inductive oG(C k h u:ζ)(j:Nat)(B:xL V)(H:Hp)(Q:VK)(E:XK):Prop
 |mk(M:Nat)(r p l n s x f c:ζ)(y:aN)(b t i:Nat)(X:xL aN)(L g:aW)(A:Sk)(m:Int)(d:Df)(o:xL Df)(w:xL Nat)(D:xL V)(e:xL dD)(q:xL Int)(_:B=[.ref r,.ref f,.ref c,.int (b:Int)])(_:b+j=16)(_:1<=j)(_:Rn H C r p (dQ l) n s x M t L g)(_:An H l X)(_:ο X<=t)(_:ο L<=t)(_:t<=M)(_:Ps H u x o w D e)(_:H f=δ (.tup (y.map xb)))(_:ο y+j<=60)(_:o[i]?=δ d)(_:w[i]?=δ q.length)(_:∀z∈q,gW z)(_:io H d.f q A m (.ref c))(_:A.ok μ)(_:A.size<=1000)(_:wj e d.f q A m)(_:∀(v:V) (sk:Sk) (a:Int) (L':aW) (H':Hp),a7 M e g j d.f q L t= .ok sk a L' (t+sk.size)->io H' d.f q sk a v->sk.ok μ->sk.dep+1<=j->gW a->Rn H' C r p (dQ l) n s x M (t+sk.size) L' g->ο L'<=t+sk.size->t+sk.size<=M->An H' l (X++gg sk A.steps 0 y 0)->eh r s l H H'->Q v H')(_:iP (a7 M e g j d.f q L t= .long) (a7 M e g j d.f q L t= .deep) E k h (I8 r s l H))
def io.mono'{H b:Hp}{f:ρ}{i:xL Int}{s:Sk}{a:Int}{u:V}(h:io H f i s a u)(k:aj H b):io b f i s a u:=by let(c,g,e,S,E,d,j,l,m):=h;rwa[#[c,g,e,S,E,k _ _ d,k _ _ j,k _ _ l,m.mono k]]
def wO(x:V)(X:xL V):aQ (x::X) (δ 1) θ=X:=by unfold aQ HT.sIx;simp
def yP{H:Hp}{p:aN}{w:Sk}{X:xL V}(b:p≠[])(h:bq eU H (c8 p w) X):∃y,aQ X (δ 1) θ=y/\ο y=(w.ws p 0).length/\bq eU H (c8 p w).tail y:=by let(x,r,rfl,_,a):=h;exact#[r,wO _ _,by rw[a.len,Rs],a]
def M3:am ["steps","at"] ["steps","at"] (ae Iq):=bP
def Hm{f:ζ}{t:bS}(F:xD K "chain_taken" Iq f t):⇑1 f t ["steps","at"] mW:=by
 erw[F.ok M3 (len:=by rintro _ _ _ _⟨e,S,_,⟨rfl,_⟩ | ⟨p,h,k,n,u,w,rfl,_⟩⟩<;>rfl) λC A o s H V Q E N h=>?_]
 let(e,S,j,h):=h;rcases h with ⟨rfl,q⟩ | ⟨p,h,k,n,u,w,rfl,l,m,v,r,q⟩
 .erw[#[_,%[Z|_cm (PW.pt$ J7 (Xw$ @yG _ _ _ _ _$ pv 1) %[Z|_μs QZ _hkGkG01pgpnw _]) _fl (@zM _ _ _) _tflhkGkG01pgp],?_]];try dsimp only[gZ,Cx.nox,Cx.wish]
  rwa[ah λx d=>#[1212,dB (by rw[RG Z]) q]]
 erw[#[_,%[Z|_cm (PW.pt$ J7 (Xw$ @yG _ _ _ _ _$ pv 1) %[Z|_μs QZ _hkGkG01pgpnw _]) _fl (@zM _ _ _) _tflhkGkG01pgp],?_]];let B:=aL;cases w with
 |nil |st _ _ _ _=>rwa[r.elim]
 |ask _ |rd _ _ |wr _ _=>let(i,rfl,G):=v;erw[ah λx d=>#[1212,a9 (by rw[RC BT]) #[1212,e,11122,aC.of j,jE l,p,11122,aC.of m,eO,i,11122,aC.of G,eQ,212,dB PH$ q _$ .inl #[λf I s a z=>(by cases z),Z]]]]
 |cl f I s a=>let(i,c,g,D,Y,rfl,G,J,g3,L,M):=v;erw[ah λx d=>#[1212,a9 (by rw[RC BT]) #[1212,e,11122,aC.of j,jE l,p,11122,aC.of m,eO,i,11122,aC.of G,eQ,212,a9 PH$ d _ _ ?_]]];exact#[1212,e,11122,aC.of j,jE l,p,11122,aC.of m,eO,i,11122,aC.of G,gY,q _$ .inr #[f,I,s,a,c,22,#[c,g,D,Y,Z,J,g3,L,M]]]
def ES:am ["self","path","old","deed","deep","what"] z28z (ae Dq):=bP
def Mu{f:ζ}{fd:bS}{j:Nat}{C TL TD nA fW fT fA fD fP:ζ}{f0 f2 f3 f4 f5:bS}(F:aT K "what_along" "AgainRun.what_along" Dq f fd)(ck:RK K C)(n6:ba K C "anew")(GW:ai P w K mg base (dN P w) (2*j+13) fW f0 z12z (iV C TL TD nA j))(bW:aE K f0 z12z [])(m0:bo K C "what_of" fW)(GT:ai P w K mg base (dN P w) 1 fT f2 ["self"] (gG C TL))(bT:aE K f2 ["self"] [])(m1:bo K C "take_turn" fT)(GA:ai P w K mg base (dN P w) (2*j+38) fA f3 z16z (oG C TL TD nA j))(bA:aE K f3 z16z [])(m2:bo K C "chain_along" fA)(GD:ai P w K mg base (dN P w) 1 fD f4 ["deep"] (dY TD))(bD:aE K f4 ["deep"] [])(kD:hG K (.ref fD)=μ)(mD:mg "deeper"=↑fD)(cP:{36} fP f5 z10z (oU 17) "paths_at"):ai P w K mg base (dN P w) (2*j+39) f fd z28z (IC C TL TD nA j):=by
 erw[F.ok1 ES λc0 A o1 s H vs Q E hr h=>?_]
 symm;let(M,r,D,l,G,y,I,R,ps,u,t,X,Yf,L,Cs,k,ov,ud,e,ys,ds,ns,xs,U,rfl,h3,n,hA,h4,h5,ht,hP,N,h6,h7,h8,h0,gk,h1,h',q,J):=h;erw[#[_,%[ES|_cms Ze _2 (@zM _ _ _) _w _ _ce5L0 ck.cl _Y GW hr.m bW .nil _χa3a4bczCR Tp To qh _M0jaBσ cP.e hr.m _a1a5bygUbfl5tcz (Yk (pv 0) ck.cl m1 GT hr.m bT .nil ki) _fldanaL0 ck.cl m2 GA hr.m bA .nil _χa1a2a (kN GD hr.m Z mD kD bD .nil ki %[ES|_a4b]) _bb],?_]];let b0:=aL;let hM:=n.hm;symm;let(nr,nl,nc):=hA.ne n;rcases h' with ⟨rfl,rfl⟩ | ⟨p0,x,f',q',ts,so,ao,c,rfl,rfl,a0,o2,s0,h2,rfl⟩
 .sleep 2;erw[ah λF1 B=>#[12212,dB (RG Z) ?_]];left;sleep 2;erw[ah λF1 B=>#[12,r,D,12,n.ins,n.tl.w,1212,M,r,D,dQ l,G,y,I,u,t,L,Cs,k,ud,e,ys,ds,ns,xs,U,Z,h3,n,h5,ht,hP,h8,h0,gk,h1,λw v _L V e1 hw W ft d0 R2 l2 t2 k2=>B _ _ ?_,(iP.next$ J.mono λV Y=>λb o O n2 _ nx e=>Y b o O n2 nx e)]];left;let t0:=n.tm k2;symm;let(as,qs,a1,a3,aP):=(hA.keep t0 λo e=>k2 _ _ nr nl e).ex;let a2:ο as<=t:=by rw[a3.len,aP.length_eq];exact h4
  erw[ah λF1 B=>#[12,r,C,D,112,R2.ins,ck.cl,n6,Z,.inl #[21,aJ.of a1],1212,R,ps,w,v,Z,t0 _ _ N,PL,hw,W,PL,PL,λrl x H3 n0 a5 a' s3=>#[12,rl,x,Z,aJ.of a5,λp np=>?_]]];symm;let(zs,ez,lz,hz):=yP h7 a';let e0:aQ x (δ 1) θ=zs:=ez;rw[zj W]at lz;let S:aa V (af H3 p$ .lst$ aQ x (δ 1) θ):=s3.trans (je np);let e4:af H3 p (.lst$ aQ x (δ 1) θ) p=δ (.lst zs):=by rw[<- e0];rwa[jc]
  let t1:aj H3 (af H3 p$ .lst$ aQ x (δ 1) θ):=aa.tm (je np);right;generalize af H3 p (.lst$ aQ x (δ 1) θ)=H4 at S e4 t1 ⊢;let a4:=S _ _ a1;erw[#[l,p,as,zs,22,a4,e4,PL,B _ _ ?_]];left;let A5:An (af H4 l$ .lst$ as++zs) l (X++(c8 ps w).tail):=An.add a4 (a3.mono bJ$ aa.tm S) (hz.mono bJ t1) (aP.append_right _);let b5:eh r y l H4 (af H4 l$ .lst$ as++zs):=λb o _ _ n3 e=>by rw[ji n3];rwa[e]
  let t3:aj H4 (af H4 l$ .lst$ as++zs):=λb xs e=>by rw[ji$ jO e a4 BT];rwa[e]
  let R5:Rn (af H4 l$ .lst$ as++zs) C r D (dQ l) G y I M (t+1+w.size) _L Cs:=#[by rw[ji nr.symm];rwa[S _ _ R2.ins],by rw[ji nl.symm];rwa[S _ _ R2.lf],by rw[ji nc.symm];rwa[S _ _ R2.ce],R2.iL,R2.iC,R2.cl,R2.tl,R2.hm];exact#[12,q w v _L _ e1 ((hw.mono$ aa.tm S).mono t3) W ft d0 R5 l2 t2 A5 (((eh.of2 k2).trans$ eh.of_same S).trans b5)]
 .let(i,d,hd,hn,rfl):=hP.find h1;let(_,_,_,o3,_):=h0;sleep 2;erw[ah λF1 B=>#[12212,a9 (RC (λz=>by cases z))$ B _ _ ?_]];left;erw[ah λF1 B=>#[12,r,D,12,n.ins,n.tl.t,r,D,dQ l,G,y,I,M,t,Z,n.ins,n.tl,λlt=>B _ _ ?_,λge=>((J.1$ KE PL).mono λH' Y=>λb o _ _ _ nx e=>Y b o nx e).nextK]];left;let T:aj H (af H r$ .ins C D$ dP (dQ l) G y I M$ t+1):=λb xs e=>by rw[ji$ jO e n.ins BT];exact e
  let R1:Rn (af H r$ .ins C D$ dP (dQ l) G y I M$ t+1) C r D (dQ l) G y I M (t+1) L Cs:=#[jc,by rw[ji n.rl.1.symm];rwa[n.lf],by rw[ji n.rl.2.symm];rwa[n.ce],n.iL,n.iC,n.cl,n.tl,n.hm];let k1:eh r y l H (af H r$ .ins C D$ dP (dQ l) G y I M$ t+1):=λb o O _ _ e=>by rw[ji O];rwa[e]
  let A1:An (af H r$ .ins C D$ dP (dQ l) G y I M$ t+1) l X:=hA.keep T λo e=>by rw[ji nr];rwa[e]
  generalize af H r (.ins C D$ dP (dQ l) G y I M$ t+1)=H1 at T R1 k1 A1;let lt':t+1<=M:=PL
  erw[#[12,r,D,12,R1.ins,2121212,(u:Int),Z,λdl=>?_,λdg=>((J.2 (by let z:j=0:=PL;rw[qC PL,z];rfl)).mono λV Y=>λb o O n2 n3 nx e=>Y b o nx (k1 b o O n2 n3 e)).nextK]];erw[#[M,r,D,l,G,y,I,R,c,ps,u+1,t+1,i,X,L,Cs,so,ao,d,ds,ns,xs,U,ts.map λc=>c.2.ev k,Z,PL,PL,R1,A1,PL,PL,lt',hP.mono T,T _ _ N,h6,hd,by rw[Rs];rwa[hn],λz hz=>?_,io.mono' a0 T,o2,s0,h2,λv sk a L' V eq hc ok dp ia R2 l2 t2 A2 k2=>?_,iP.next3 ((J.imp (λz=>by rw[qC PL,z];rfl) (λz=>by rw[qC PL,z];rfl)).mono λV Y=>λb o O n2 n3 nx e=>Y b o O n2 n3 nx (k1 b o O n2 n3 e))]]
  .symm;let(c,hc,rfl):=dn.mp hz;rwa[Jq gk (o3.2.2 c hc).1]
  .symm;let(c2,g,ee,ss,rfl,c1,c3,c4,c5):=hc;erw[#[cg,λv2 nv=>?_]];let s2:aa V (af V v2$ .tup [.str "call",.ref c2]):=je nv;rwa[q (.cl d.f (ts.map λc=>c.2.ev k) sk a) _ L' _ (by rw[qC PL,eq];rfl) #[v2,c2,g,ee,ss,Z,jc,s2 _ _ c1,s2 _ _ c3,s2 _ _ c4,c5.mono$ aa.tm s2] ok ia (by show sk.dep+1<=j;rwa[N09]) (R2.same s2) l2 t2 (A2.same s2) ((k1.trans k2).trans$ eh.of_same s2)]
inductive lT(b:xL V)(H:Hp)(Q:VK)(a:XK):Prop
 |mk(u:V)(w:Sk)(_:b=[u])(_:eM H w u [])(_:w.ok ν)(_:Q (.int w.fnd) H)
def Nt{w W:Sk}(o:w.ok ν)(O:W.ok ν)(h:du w=du W)(f:w.fnd=W.fnd):w.wh=W.wh:=by
 let n:∀{a b:ρ} {x y:xL Tr},a≠b->aB (aM a::x)=aB (aM b::y)->False:=λH e=>H (qr e);cases w with
 |nil |st _ _ _ _=>rwa[o.elim]
 |ask b=>
  cases W with
  |nil |st _ _ _ _=>rwa[O.elim]
  |ask B=>rwa[SM Wh.ask f]
  |rd _ _ |wr _ _ |cl _ _ _ _=>exact(n PM h).elim
 |rd c i=>
  cases W with
  |nil |st _ _ _ _=>rwa[O.elim]
  |ask B |wr _ _ |cl _ _ _ _=>exact(n PM h).elim
  |rd C I=>
   let f:i=I:=f;let e:c=C:=by injection h with h;injection h with _ h;injection h with h _;injection h with h;injection h
   show Wh.rd c i=Wh.rd C I;rw[e,f]
 |wr c i=>
  cases W with
  |nil |st _ _ _ _=>rwa[O.elim]
  |ask B |rd _ _ |cl _ _ _ _=>exact(n PM h).elim
  |wr C I=>
   let f:i=I:=f;let e:c=C:=by injection h with h;injection h with _ h;injection h with h _;injection h with h;injection h
   show Wh.wr c i=Wh.wr C I;rw[e,f]
 |cl g j s a=>
  cases W with
  |nil |st _ _ _ _=>rwa[O.elim]
  |ask B |rd _ _ |wr _ _=>exact(n PM h).elim
  |cl G d S A=>have f:a=A:=f;let(E,k):=JG h;show Wh.cl g j a=Wh.cl G d A;rw[E,k,f]
def LV{H:Hp}{y:xL ρ}{k:aW}{e:DD}(h:we H y e):∃w:Sk,w.ok ν/\du w=uA k e/\∀f i s a,w= .cl f i s a->∃g x q d,e= .st g (.cl x f q d)/\i=d.map λc=>c.2.ev k:=by
 cases e with
 |ask t T=>exact#[.ask (if T.ev k=0 then 0 else 1),trivial,Z,λf i s a z=>by cases z]
 |st p l=>
  let(v,_,_,_,C):=h;cases l with
  |rd x a T=>exact#[.rd (T.ev k) 0,trivial,Z,λf i s a z=>by cases z]
  |wr a b T U=>exact#[.wr (T.ev k) (U.ev k),trivial,Z,λf i s a z=>by cases z]
  |cl x f q d=>
   erw[#[.cl f (d.map λc=>c.2.ev k) .nil 0,trivial,?_,λF i s a z=>?_]]
   .show aB [aM "call",aM f,aB ((d.map λc=>c.2.ev k).map au)]=aB [aM "call",aM f,aB$ d.map λc=>au (c.2.ev k)];rw[TX];rfl
   .cases z;exact#[p,x,q,d,22]
  |st x a T |gv a T=>cases C
def Ca{H:Hp}{y:xL ρ}{k:aW}{e:DD}(h:we H y e){f:ρ}{i:xL Int}{s:Sk}{a:Int}(d:du (.cl f i s a)=uA k e):∃p x q t,e= .st p (.cl x f q t)/\i=t.map λc=>c.2.ev k:=by
 let(w,o,D,j):=LV (k:=k) h;rw[<- D]at d;cases w with
 |nil |st _ _ _ _=>rwa[o.elim]
 |ask b |rd b c |wr b c=>rwa[absurd (qr d) PM]
 |cl g J S A=>let(E,l):=JG d;subst E;subst l;rwa[j _ _ _ _ Z]
def xw{H:Hp}{c:xL V}{k:Nat}{S:Sk}{A:Int}{Q:VK}(d:eM H S .non c)(o:S.ok μ)(x:k<=ο c)(g:∀st,S.steps[k]?=δ st->∃n:Nat,st.1=(n:Int))(q:∀v a,aV a (NH$ La A$ S.steps.drop k) v []->aa H a->Q v a):(∃(p h:ζ) (n:Int) (d:xL Int) (u:V),c[k]?=↑p/\H p=δ (.tup [.int n,.ref h,u])/\H h=δ (.tup$ d.map xb)/\∀(v:V) (a:Hp),aV a (aB [aM "go",au n,aB$ d.map au]) v []->aa H a->Q v a)∨(k=ο c/\∀(v:V) (a:Hp),aV a (aB [aM "give",au A]) v []->aa H a->Q v a):=by
 let L:=zn o d;by_cases h:k < ο c
 .let(n,b,w,p,i,u,f,_,_,_,j,l,m,_):=z9 o d (Rq h);erw[.inl #[p,i,n,b,u,by rw[<- j];rwa[Rq h],l,m,λv a t s=>q v a ?_ s]];let e:S.steps.drop k=(n,b,w)::S.steps.drop (k+1):=by let(r,e):=ξ.mp f;rw[Wp r,e]
  let(N,E):=g _ f;let E:n=(N:Int):=E;rw[e];show aV a (aB [aM "go",au ((n.toNat:Nat):Int),aB$ b.map au]) v [];rw[E]at t ⊢;rwa[t]
 .erw[.inr #[PL,λv a t s=>q v a ?_ s]];rw[List.drop_eq_nil_iff.mpr PL];rwa[t]
def YK{os:xL aO}{m j:Nat}{w:Sk}(h:gr os m w=δ j):∃f i s a,w= .cl f i s a/\mq (dm f i) os m=δ j:=by
 cases w with
 |cl f i s a=>exact#[f,i,s,a,Z,h]
 |_=>cases h
def ND(os:xL aO)(p:aN)(t:ym Nat)(Y:Sk->xL aN):Prop:=match t with
 |none=>Y=λw=>(c8 p w).tail
 |some j=>∃o,os[j]?=δ o/\((∃f i s a,o.2.2= .cl f i s a/\Y=λw=>gg w s.steps 0 p 0)∨((∀f i s a,o.2.2≠ .cl f i s a)/\Y=λw=>(c8 p w).tail))
def A6{w:Sk}(o:w.ok ν)(p:aN):(c8 p w).tail.length=w.size:=by show((w.ws p 0).map (·.1)).length=_;rw[Rs,zj o]
def ND.len{os:xL aO}{p:aN}{t:ym Nat}{Y:Sk->xL aN}(h:ND os p t Y){w:Sk}(o:w.ok ν):(Y w).length<=w.size:=by
 let k:Y=(λw=>(c8 p w).tail)∨∃s:Sk,Y=λw=>gg w s.steps 0 p 0:=by
  cases t with
  |none=>rwa[.inl h]
  |some j=>
   obtain⟨o,_,⟨f,i,s,a,_,e⟩ | ⟨_,e⟩⟩:=h
   .rwa[.inr #[s,e]]
   .rwa[.inl e]
 rcases k with rfl | ⟨s,rfl⟩
 .rwa[U0$ A6 o p]
 .let:=(qF (b:=ν) o s.steps 0 p 0 (λ_=>Z)).length_le;rw[Rs,zj o]at this;rwa[this]
def BN{w:Sk}(o:w.ok ν)(n:∀f i s a,w≠ .cl f i s a)(os:xL aO)(p:aN):(c8 p w).tail=[]/\gg w os 0 p 0=[]:=by
 cases w with
 |nil |st _ _ _ _=>rwa[o.elim]
 |cl f i s a=>rwa[absurd Z (n f i s a)]
 |_=>exact#[22]
def Ft{os:xL aO}{m:Nat}{n:Int}{h:xL Int}{w:Sk}{pn:aN}{k:Nat}{t:ym Nat}{Y:Sk->xL aN}(c:fQ os m n h w=t)(H:ND os (pn++[(k:Int)]) t Y)(O:w.ok ν)(d:∀j o,t=δ j->os[j]?=δ o->(∀f i s a,o.2.2≠ .cl f i s a)->∀f i s a,w≠ .cl f i s a):
  ((∀j o,t=δ j->os[j]?=δ o->¬(aY n h o=μ/\o.2.2.fnd=w.fnd))->(Y w++[pn++[(k:Int)]]).Perm (BM os m n h w pn k))/\(∀j o,t=δ j->os[j]?=δ o->aY n h o=μ->o.2.2.fnd=w.fnd->(Y w).Perm (BM os m n h w pn k)):=by
 unfold BM;rw[c];cases t with
 |none=>have H:Y=λw=>(c8 (pn++[(k:Int)]) w).tail:=H;subst H;erw[#[λ_=>?_,λj o z=>by cases z]];show((w.ws (pn++[(k:Int)]) 0).map (·.1)++[pn++[(k:Int)]]).Perm ((pn++[(k:Int)])::(w.ws (pn++[(k:Int)]) 0).map (·.1));rwa[Vx]
 |some j=>
  let(o,b,l):=H;dsimp only;rw[b];dsimp only;let p:Y w=gg w (um o.2.2) 0 (pn++[(k:Int)]) 0:=by
   rcases l with ⟨f,i,s,a,e,rfl⟩ | ⟨N,rfl⟩
   .rw[e];rfl
   .let(g,E):=BN O (d j o Z b N) (um o.2.2) (pn++[(k:Int)]);rw[E];rwa[g]
  rw[p];erw[#[λq=>?_,λJ v g E r u=>?_]]
  .rw[RD$ q j o Z b];rwa[Vx]
  .cases g;rw[b]at E;cases E;rw[RB #[r,u]];rwa[Tq _]
def xT{os:xL aO}{m:Nat}{w W:Sk}(o:w.ok ν)(O:W.ok ν)(h:du w=du W):gr os m w=gr os m W:=by
 by_cases c:∃f i s a,W= .cl f i s a
 .let(f,i,s,a,rfl):=c;let(S,A,rfl):=K2 o h;rfl
 .let e:gr os m W=θ:=by
   cases W with
   |cl f i s a=>rwa[absurd #[f,i,s,a,Z] c]
   |_=>rfl
  let E:gr os m w=θ:=by
   cases w with
   |cl f i s a=>let(S,A,rfl):=K2 O h.symm;rwa[absurd #[11112] c]
   |_=>rfl
  rw[e,E]
def OZ(e:DD)(k:aW)(os:xL aO)(m:Nat):ym Nat->Prop
 |none=>True
 |some j=>m<=j/\∃o,os[j]?=δ o/\∀f i s a,o.2.2= .cl f i s a->∃p x q t,e= .st p (.cl x f q t)/\i=t.map λc=>c.2.ev k
def No{H:Hp}{e:ζ}{v J:xL V}{Q:VK}{E:XK}{S:Sk}{N:Int}{d:DD}{k:aW}{m:Nat}{T:ym Nat}{b:xL dD}{R:dD}(z:J=[.ref e,lI T])(U:H e=δ (.tup v))(g:eM H S .non v)(O:S.ok μ)(W:S.size<=1000)(A:∀{k:Nat} {st:aO},S.steps[k]?=δ st->NW b R N st (S.steps.drop$ k+1))(B:OZ d k S.steps m T)(C:aN)(q:∀(y:V) (Y:Sk->xL aN),((y= .non/\Y=λw=>(c8 C w).tail)∨∃(D:ζ) (x f:ρ) (q:ζ) (t:xL (ζ×Tm)) (s:Sk) (a:Int) (c:ζ),d= .st D (.cl x f q t)/\y= .ref c/\io H f (t.map λc=>c.2.ev k) s a (.ref c)/\s.ok μ/\s.size<=1000/\wj b f (t.map λc=>c.2.ev k) s a/\Y=λw=>gg w s.steps 0 C 0)->ND S.steps C T Y->Q y H):
  mW J H Q E:=by
 subst z;erw[#[e,v,U,?_]];cases T with
 |none=>rwa[.inl #[Z,q _ _ (.inl #[22]) Z]]
 |some j=>
  let(_,o,i,F):=B;let X:=zn O g;let L:j < ο v:=by rw[X];exact(ξ.mp i).1
  let(n,hs,w,p,h,u,M,l,_,r,ex,h2,h3,h4):=z9 O g (Rq L);rw[i]at M;cases M;erw[.inr #[p,h,j,n,u,w,Z,by rw[<- ex];rwa[Rq L],h2,h4,l,λy G=>?_]];rcases G with ⟨no,rfl⟩ | ⟨f,is,s,a,c,rfl,rfl,I⟩
  .rwa[q _ _ (.inl #[22]) #[_,i,.inr #[no,Z]]]
  .let(D,x,q',t,e1,e2):=F f is s a Z;subst e2;let r:s.size+1<=S.size:=r;rwa[q _ _ (.inr #[D,x,f,q',t,s,a,c,e1,Z,I,l,PL,(A i).cl _ _ _ _ Z,Z]) #[_,i,.inl #[f,_,s,a,22]]]
abbrev NJ:=Lb
inductive OK(M:Nat)(a:lH)(pd:dD)(u:OC)(T C r A y z R Z s c sl:ζ)(d:Df)(b t j:Nat)(X:xL aN)(Y:xL aO)(ps:aN)(w:aW)(v:V)(ss:xL V)(H:Hp)(Q:Nat)(σ:_L.St)(x:Hp):Prop
 |mk(U W o p q:ym V)(P:V)(g:Gd)(m S:Nat)(sk:Sk)(n:xL V)(L:aW)(B:σ=[↑r,↑s,↑c,δ (.int (b:Int)),δ v,↑sl,δ (.int (m:Int)),δ P,U,W,o,p,q])(D:x sl=δ (.lst n))(E:eM x sk .non n)(F:sk.ok μ)(G:sk.dep+1<=j)(I:m<=ο ss)(J:Ll x T d P g)(K:Rn x C r A (dQ y) z R Z M (t+sk.size) L w)(N:An x y (X++gg sk Y 0 ps 0))(O:ο L<=t+sk.size)(e:t+sk.size<=M)(f:eh r R y H x)(h:Q+t+sk.size=M+1)(i:(gj M a w pd S g L (t+sk.size)).pre sk=u)(k:M+2<=S+(t+sk.size))(l:m=Gp sk Y 0)
def ve{f:ζ}{k:bS}(F:xD K "found_in" iz f k):⇑1 f k ["what"] lT:=by
 erw[F.ok mN λC A o s H v Q E x h=>?_]
 let(u,w,rfl,m,d,q):=h;erw[#[_,%[Z|_flWxh0hkG0gpkG0 (yI Zd jf) _p],?_]];cases w with
 |nil |st _ _ _ _=>rwa[d.elim]
 |ask b |rd a i |wr a i=>let(p,rfl,n):=m;exact(jv n eQ #[212,a9 PH #[1212,p,11122,aC.of n,Z,q]])
 |cl f I s i=>let(p,c,g,e,S,rfl,r,t,_):=m;exact(jv r eQ #[212,dB PH$ jv r gY #[c,11122,aC.of t,jE (j:=3) Z,q]])
def g9:am ["self","path","old","deep","part","steps","mark","goal","here","like","deed","taken","step"] z16z (ae Dp):=bP
def Mt{f:ζ}{fd:bS}{j:Nat}{C TL TD nA fN fG fL fV fI fE fO fK fF fW:ζ}{j3 j4 j5 j' k0 k1 k2 k3 k4 f0:bS}(F:aT K "chain_along" "AgainRun.chain_along" Dp f fd)(ck:RK K C)(n6:ba K C "anew")(cN:{2} fN j3 ["parts","f"] l7 "part_of")(cG:{1} fG j4 ["chain","number"] oK "goal_at")(cL:{1} fL j5 ["steps","mark","cut"] lY "like_from")(cV:{2} fV j' ["steps","mark","deed"] lX "lender_from")(cI:{1} fI k0 ["what"] mQ "deed_in")(cE:{9} fE k1 z9z (fh nA) "deed_at")(cO:{9} fO k2 ["part","step"] (pZ nA) "onward")(cK:{1} fK k3 ["steps","at"] mW "chain_taken")(cF:{1} fF k4 ["what"] lT "found_in")(GW:ai P w K mg base (dN P w) (2*j+39) fW f0 z28z (IC C TL TD nA j))(bW:aE K f0 z28z [])(m0:bo K C "what_along" fW)(ml:mg "len"=θ)(m1:mg "tuple"=θ):ai P w K mg base (dN P w) (2*j+40) f fd z16z (oG C TL TD nA$ j+1):=by
 erw[F.ok1 g9 λr9 A k5 s H vs Q E hr h=>?_]
 symm;let(M,r,dx,aA,cA,lA,pA,p1,c,ps,d0,t,i,X,L,O,U,ao,d,ds,ns,xs,I,is,rfl,r',t8,hR,hA,t',k6,ht,hP,d5,u0,hd,hn,k7,k8,o1,s0,d6,q,t5):=h;erw[#[_,%[g9|_ce4 cN.e hr.m _aM0jah2bce5rbce6gce7 cG.e hr.m _a2a6bc (K7 WO %[g9|_xh7] %[g9|_ce8oV1daAεjπζa5bbce9 cL.e hr.m _ah2a6aBι7ygUbcms Ze _9 (@zM _ _ _) _w _ _cev 10 cE.e hr.m _a4ah7ah7bfev 11 cV.e hr.m _ah2a6av 10 _bcev 10 cI.e hr.m _ahkGkG2gp9pbfev 11 _9ce6Ws Ze _v 11 (@zM _ _ _) _w _ _6oδv 11 _gcev 12 _oVBι7ygUdaL0 ck.cl _Y GW hr.m bW .nil _χa8a cK.e hr.m _ah2av 11 _bav 10 _a3bbczCRαβX5av 12 _bfm (PW.pt %[g9|_τs C8 _9 (@zM _ _ _) _w _ _υs qB cF.e hr.m _ahv 12 _b cF.e hr.m _ahkGkG2gp9pbw _]) _fe7 cG.e hr.m _a2a6bczCRαβXM0ja8bfe7 cO.e hr.m _a4av 12 _b]) _fldah2ah2aEςj m1 _ξa5bah7b],?_]];let u1:=aL;let hM:=hR.hm;symm;let(c',gA,eA,ss,ec,hc,hg,he,b7):=k8;cases ec;let(v,hv,_,k',l6):=hP.at hd;let(ys,B,l8,u3,pr,d7):=hP.part hd hv;let(l',a5):=d6.steps d7 o1;let l3:=zn o1 b7;let u4:=Jh o1 b7;let b':∀(k:Nat) (st:aO),U.steps[k]?=δ st->∃n:Nat,st.1=(n:Int):=λ(k:Nat) (st:aO) h=>let #[#[n,_,e,_],_]:=a5 h;#[n,e]
 let c1:a7 M I O (j+1) d.f is L t=gj M (a7 M I O j) O B (M+2) (gq (on B) (cQ B.way.sets$ aR B.ps is) B.way.goal) L t:=by show(match ff I d.f with |none=>OC.long |some B=>gj M (a7 M I O j) O B (M+2) (gq (on B) (cQ B.way.sets$ aR B.ps is) B.way.goal) L t)=_;rw[d7]
 right;generalize a7 M I O (j+1) d.f is L t=t3 at q t5 c1;sleep 5;erw[ah λF1 y=>#[12,r,C,dx,112,hR.ins,ck.cl,ck.n5,Z,jv hc eQ #[pA,d.f,xs,i,v,Z,hP.at',hv,k',l6,y _ _ ?_]]];left;erw[ah λF1 y=>#[gU,λsl n0=>y _ _ ?_]];left;let s1:aa H (af H sl$ .lst []):=je n0;let l1:af H sl (.lst []) sl=δ (.lst []):=jc;generalize af H sl (.lst [])=H1 at s1 l1 ⊢;erw[ah λF1 y=>y _ _ ?_];left;erw[ah λF1 y=>#[1212,d.f,is,U,ao,c,gA,eA,ss,0,Z,s1 _ _ hc,s1 _ _ he,xw (b7.mono$ aa.tm s1) o1 (RE _) (b' 0) λgl H2 h3 s2=>y _ _ ?_]];left;let S2:=s1.trans s2;let gz:GT (aR B.ps is):=Jg k7;let h3:aV H2 (NH$ La ao U.steps) gl []:=h3;rw[<- l']at h3;let g1:=XC (H:=H) (nA:=nA) (d:=d) (by rw[Zk,pr.nms];rwa[h3]) (qo pr.wv.sets gz) pr.wv.goal;rw[pr.nms]at g1;let d8:sl≠r:=Sc (jk hR.ins n0);let d':sl≠lA:=Sc (jk hR.lf n0);let m2:cA≠sl:=jk hR.ce n0;let s9:aA≠sl:=by let(as,_,h1,_):=hA.ex;rwa[jk h1 n0]
 erw[ah λF1 y=>?_];erw[p7 (OK M (a7 M I O j) B t3 nA C r dx aA cA lA pA p1 c sl d d0 t (j+1) X U.steps ps O v ss H) (M+1 - t) #[θ,θ,θ,θ,θ,gl,_,0,M+2,.nil,[],L,Z,s2 _ _ l1,Z,trivial,by show 0+1<=j+1;rwa[N09],RE _,g1,hR.same S2,(by show An H2 aA (X++[]);rw[Sb];rwa[hA.same S2]),k6,ht,eh.of_same S2,by show M+1 - t+t+0=M+1;omega,by rw[c1];show OC.pre .nil (gj M (a7 M I O j) O B (M+2) _ L t)=_;cases gj M (a7 M I O j) O B (M+2) (gq (on B) (cQ B.way.sets$ aR B.ps is) B.way.goal) L t<;>rfl,by show M+2<=M+2+(t+0);omega,Z] ?_];intro kk σ H3 E' rt fE F kT cF.k Gq kq hW;symm;let(o8,o9,u8,u9,o7,gl,gd,m,mm,sk,N,L1,rfl,w1,w2,w3,w4,w5,w6,w7,w8,w9,f4,w',u',W,v1,m3):=hW;obtain⟨mm,rfl⟩:∃m',mm=m'+1:=#[mm - 1,PL];let t0:=hA.tm hR w';let r8:=Jh w3 w2;cases w6 with
 |give gp a e6 h5 ia=>subst e6;erw[kq$ jv h5 Z #[212,?_]];rw[show decide (vr (Str.ofString "give")=vr (Str.ofString "go"))=ν by decide+kernel];erw[cF.k _$ y _ _ ?_];erw[(jv (t0 _ _ hc) eQ$ jv (t0 _ _ hc) gY #[12,sl,N,Z,.inl #[aJ.of w1,λl2 m4=>?_]])];let s4:aa H3 (af H3 l2$ .tup N):=je m4;erw[(jv (s4 _ _ h5) gY #[tP,λv2 nv=>?_])];let s5:=s4.trans (je (o:=.tup [.str d.f,.ref gA,.ref l2,.int a]) nv);let W:OC.ok (sk.app .nil) a L1 (t+sk.size)=t3:=W;rw[Qe w3]at W;rwa[q _ sk a L1 _ W.symm #[v2,gA,l2,N,Z,jc,s5 _ _$ t0 _ _ hg,aq jc nv,w2.mono$ aa.tm s5] w3 w4 ia (w7.same s5) w9 f4 (w8.same s5) (w'.trans$ eh.of_same s5)]
 |go gp h8 n Y hs e6 h5 h6 b2 hl hi=>
  subst e6;erw[kq$ jv h5 Z #[212,?_]];rw[show decide (vr (Str.ofString "go")=vr (Str.ofString "go"))=μ by decide+kernel];erw[kT _ ?_];clear kT cF.k y;let P0:=l8.mono t0;symm;let(pa,ca,wv,cs,v3,v4,_,_,m5):=P0.parts;let(ka,na,wa,dv,v5,_,f5):=P0.cut m5 b2;let m6:n < ο B.cs:=by rw[pr.len];exact(ξ.mp b2).1
  obtain⟨cd,c4⟩:∃cd,B.cs[n]?=δ cd:=#[_,Rq m6];let cr:=(pr.cs n Y cd b2 c4).mono t0;let(m7,e,c0):=cd;let(c5,ed,d1,m8,m9,p2):=cr;let c5:m7=canon Y.M:=c5;subst c5;let W:OC.pre sk (match B.cs[n]? with
   |none=>OC.long
   |some c=>match gH M (a7 M I O j) O (aR c.nm hs) L1 (t+sk.size) c.e with
    | .ok w L1 t1=>(gj M (a7 M I O j) O B mm (oq B c hs w.wh) L1 t1).cons (n:Int) hs w
    | .long=>.long
    | .deep=>.deep)=t3:=W
  rw[c4]at W;let W:OC.pre sk (match gH M (a7 M I O j) O (aR (canon Y.M) hs) L1 (t+sk.size) e with
    | .ok w L1 t1=>(gj M (a7 M I O j) O B mm (oq B #[canon Y.M,e,c0] hs w.wh) L1 t1).cons (n:Int) hs w
    | .long=>.long
    | .deep=>.deep)=t3:=W
  let gk:GT (aR (canon Y.M) hs):=Jg hi;let f6:e.Cs ((ds.map Df.f).zip ns):=by
   symm;cases e with
   |ask=>right;trivial
   |st p0 l=>cases l<;>first |trivial |exact hP.cs hd _ m8
  let h':=t0 _ _ hc;let a0:=t0 _ _ he;let h0:=b7.mono t0;let ie:ο N<=M:=PL
  sleep 6;erw[ah λF1 y=>#[1212,sl,12,.inl$ aJ.of w1,i8,λq1 n7=>#[p1,q1,ps.map xb,122,aq (t0 _ _ d5) n7,jc,(by rw[Rs];show ο ps+1<=υ;omega),λq2 H4 e4 s4=>y _ _ ?_]]];left;let S4:aa H3 H4:=(je n7).trans s4;let e4:H4 q2=δ (.tup ((ps++[(N.length:Int)]).map xb)):=by rw[RU];rwa[e4]
  erw[ah λF1 y=>(jv (S4 _ _ h') eO #[121212,gp,12,S4 _ _ h5,λq3 H5 e5 s5=>?_])];let S5:=S4.trans s5;let e5:H5 q3=δ (.tup [.int (n:Int),.ref h8]):=e5;erw[#[eA,ss,U,m,(n:Int),hs,.ref q3,Z,S5 _ _ a0,h0.mono$ aa.tm S5,o1,s0,PL,jG e5$ jm Z jX$ jm Z (zi$ S5 _ _ h6) jC,λH6 s6=>y _ _ ?_]];let S6:=S5.trans s6;erw[ah λF1 y=>?_];let nx:∀(lk tk:ym Nat) (ud:V) (H7:Hp),aa H3 H7->H7 q2=δ (.tup ((ps++[(N.length:Int)]).map xb))->aV H7 (uA (aR (canon Y.M) hs) e) ud []->OZ e (aR (canon Y.M) hs) U.steps m tk->(∀J,lk=δ J->tk=δ J/\∃o,U.steps[J]?=δ o/\o.2.2.ok ν/\du o.2.2=uA (aR (canon Y.M) hs) e/\La ao (U.steps.drop$ J+1)=oq B #[canon Y.M,e,c0] hs o.2.2.wh/\aY (n:Int) hs o=μ)->(∀w:Sk,w.ok ν->du w=uA (aR (canon Y.M) hs) e->fQ U.steps m (n:Int) hs w=tk)->(∀J o,tk=δ J->U.steps[J]?=δ o->aY (n:Int) hs o=μ->lk=δ J)->F1 [↑r,↑p1,↑c,δ$ .int (d0:Int),δ v,↑sl,δ$ .int (m:Int),↑gp,↑q2,δ$ lI lk,δ ud,δ$ lI tk,o7] H7:=by
   intro lk tk ud H7 S7 p3 h4 f7 b3 p4 f8;erw[y _ _ ?_];left;let p5:NJ m tk<=ο ss:=by
    symm;cases tk with
    |none=>rwa[w5]
    |some J=>let(_,o,ho,_):=f7;let:=(ξ.mp ho).1;show J+1<=ο ss;omega
   erw[ah λF1 y=>?_];let n':F1 [↑r,↑p1,↑c,δ$ .int (d0:Int),δ v,↑sl,δ$ .int ((NJ m tk:Nat):Int),↑gp,↑q2,δ$ lI lk,δ ud,δ$ lI tk,o7] H7:=by
    erw[y _ _ ?_];left;erw[ah λF1 y=>#[1212,gp,12,S7 _ _ h5,λq4 H8 e8 s8=>?_]];let S8:=S7.trans s8;let e8:H8 q4=δ (.tup [.int (n:Int),.ref h8]):=e8;let R8:=w7.same S8;let A8:=w8.same S8;let t7:=t0.trans (aa.tm S8);let f9:=s8 _ _ p3;erw[#[12,r,dx,12,R8.ins,212,jv (S8 _ _ h') eO #[12,No Z (S8 _ _ a0) (h0.mono$ aa.tm S8) o1 s0 a5 f7 (ps++[(N.length:Int)]) λov Yf p6 hY=>?_]]];erw[#[1212,M,r,dx,aA,cA,lA,pA,q2,ps++[(N.length:Int)],d0,t+sk.size,X++gg sk U.steps 0 ps 0,Yf,L1,O,aR (canon Y.M) hs,ov,ud,e,ys,ds,ns,xs,I,Z,PL,R8,A8,(by rw[Ru];let:=XJ w3 U.steps 0 ps 0;omega),w9,f4,hP.mono t7,f9,by rw[Ru];show ο ps+1+j<=60;omega,PJ,h4.mono$ aa.tm s8,d1.mono$ aa.tm S8,gk,f6,p6,λw vv L' H9 e9 p9 o4 ft p' R9 l9 t9 A9 k9=>?_,iP.next3 ((t5.imp (λz=>by rw[z]at W;rwa[W.symm]) (λz=>by rw[z]at W;rwa[W.symm])).mono λH9 kk=>λb o n1 n2 n3 nx e=>kk b o n1 n2 n3 nx (S8 _ _$ w' _ _ n1 n2 n3 e))]];let t4:=A8.tm R8 k9;erw[#[i8,λq5 g2=>#[q4,q5,1122,aq (t4 _ _ e8) g2,jc,(by show 2+1<=υ;omega),λq6 S e7 q0=>y _ _ ?_]]];left;let S1:aa H9 S:=(je g2).trans q0;let K1:eh r lA aA H3 S:=((eh.of_same S8).trans k9).trans (eh.of_same S1);let t6:aj H3 S:=w8.tm w7 K1;let e7:S q6=δ (.tup [.int (n:Int),.ref h8,vv]):=e7;let l0:S sl=δ (.lst N):=K1 _ _ d8 d' s9.symm w1;let R3:=R9.same S1;let A3:=A9.same S1;let v0:=p9.mono (aa.tm S1);let g4:S q2=δ (.tup ((ps++[(N.length:Int)]).map xb)):=S1 _ _ (t4 _ _ f9);erw[ah λF1 y=>#[12,.inl #[21,aJ.of l0],12,sl,1122,l0,PL,y _ _ ?_]];left;let b1:aI sl S (af S sl$ .lst$ N++[.ref q6]):=λb o nb e=>by rw[ji nb];rwa[e]
    let D:aj S (af S sl$ .lst$ N++[.ref q6]):=λb xs e=>b1 _ _ (jO e l0 BT) e;let l4:af S sl (.lst$ N++[.ref q6]) sl=δ (.lst$ N++[.ref q6]):=jc;generalize af S sl (.lst$ N++[.ref q6])=H0 at b1 D l4;let g:=t6.trans D;let h7:w.wh.side < ο Y.ws:=by
     rw[f5.v.len,<- ed];symm;cases e with
     |ask ta T=>show _ < 2;unfold Wh.side;split<;>(try split)<;>omega
     |st p0 l=>show _ < 1;symm;cases w<;>first |exact Nat.one_pos |exact o4.elim | (cases l<;>rwa[ft.elim])
    symm;obtain⟨w0,c2⟩:∃w0,c0[w.wh.side]?=δ w0:=#[_,Rq (by rw[m9];rwa[h7])];let(g5,b4):=p2 _ _ w0 (Rq h7) c2;let c6:oq B #[canon Y.M,e,c0] hs w.wh=gq (on B) (cQ w0.sets$ pG e w.wh$ aR (canon Y.M) hs) w0.goal:=by show(match c0[w.wh.side]? with |some wd=>gq (on B) (cQ wd.sets$ pG e w.wh$ aR (canon Y.M) hs) wd.goal |none=>Gd.give 0)=_;rw[c2]
    rw[e9]at W;let W:OC.pre sk ((gj M (a7 M I O j) O B mm (oq B #[canon Y.M,e,c0] hs w.wh) L'$ t+sk.size+1+w.size).cons (n:Int) hs w)=t3:=W;rw[YF _ w3]at W;let g6:=Qd (n:=(n:Int)) (hs:=hs) (w:=w) w3;let ez:t+sk.size+1+w.size=t+(Sk.put (n:Int) hs w sk).size:=by rw[g6];omega
    let R1:Rn H0 C r dx (dQ aA) cA lA pA M (t+sk.size+1+w.size) L' O:=#[b1 _ _ d8.symm R3.ins,b1 _ _ d'.symm R3.lf,b1 _ _ m2 R3.ce,R3.iL,R3.iC,R3.cl,R3.tl,R3.hm];let A2:An H0 aA ((X++gg sk U.steps 0 ps 0)++Yf w):=A3.keep D λo e=>b1 _ _ s9 e;rw[ez]at R1 l9 t9 W;let e':=p4 w o4 (K0 e9);let l5:ο N=ο sk.steps:=zn w3 w2;let e3:=wu (n:=(n:Int)) (hs:=hs) (w:=w) (os:=U.steps) (pn:=ps) (m:=0) (k:=0) w3;rw[<- m3,UF,<- l5]at e3;let(q7,r0):=Ft (pn:=ps) (k:=N.length) e' hY o4 (λJ o e1 e2 no f is s a ew=>by
     subst ew;rw[e1]at e';let(_,o2,g7,h2):=zI e';rw[e2]at g7;cases g7;rcases h2 with h2 | ⟨f',i0,s',a',ew,h2⟩
     .let(_,o3,g8,r1,d3,_):=b3 J (f8 J o e1 e2 h2);rw[e2]at g8;cases g8;let(s',a',z):=K2 r1 (d3.trans (K0 e9).symm);rwa[no _ _ _ _ z]
     .let(s2,a2,z):=rQ h2;rwa[no _ _ _ _ z])
    let g':∀(g0:V) (H':Hp),aj H0 H'->(∀b o,b≠aA->H0 b=δ o->H' b=δ o)->An H' aA (X++gg (Sk.put (n:Int) hs w sk) U.steps 0 ps 0)->aV H' (NH$ oq B #[canon Y.M,e,c0] hs w.wh) g0 []->E'.nx [↑r,↑p1,↑c,δ$ .int (d0:Int),δ v,↑sl,δ$ .int ((NJ m tk:Nat):Int),δ g0,↑q2,δ$ lI lk,δ ud,δ$ lI tk,↑q6] H':=by
     intro g0 H' G b0 A1 h3;let i1:=XC (H:=H3) (nA:=nA) (d:=d) (by rw[Zk,pr.nms,<- c6];rwa[h3]) (qo b4.sets$ Zj ft gk) b4.goal;rw[pr.nms,<- c6]at i1;let n4:=A2.ne R1;erw[fE (kk - (w.size+1)) _ _ PL #[11111,g0,_,NJ m tk,mm,Sk.put (n:Int) hs w sk,N++[.ref q6],L',Z,b0 _ _ s9.symm l4,yQ (G _ _$ D _ _ e7) (G _ _$ g _ _ h6) ((v0.mono D).mono G) w3 ((w2.mono g).mono G),XX o4 w3,?_,p5,i1,#[b0 _ _ n4.1.symm R1.ins,b0 _ _ n4.2.1.symm R1.lf,b0 _ _ n4.2.2.symm R1.ce,R1.iL,R1.iC,R1.cl,R1.tl,R1.hm],A1,l9,t9,?_,by rw[g6];omega,W,PL,by rw[e3.2,e']]]
     .let:=XY (n:=(n:Int)) (hs:=hs) (w:=w) (j:=j) p' w3 PL;omega
     .intro b o n1 n2 n3 e;rwa[b0 _ _ n3$ b1 _ _ (jk e n0)$ K1 _ _ n1 n2 n3$ w' _ _ n1 n2 n3 e]
    erw[ms λG1 yT yF=>?_];let i2:(∀J o,tk=δ J->U.steps[J]?=δ o->¬(aY (n:Int) hs o=μ/\o.2.2.fnd=w.fnd))->G1 ν H0:=by
     intro r2;erw[yF _ ?_];symm;let(as,qs,a1,a3,aP):=A2.ex;let a2:ο as<=t+sk.size+w.size:=by rw[a3.len,aP.length_eq,Ru,Ru];let:=XJ w3 U.steps 0 ps 0;let:=hY.len o4;omega
     erw[ah λF1 y=>#[12,r,C,dx,112,R1.ins,ck.cl,n6,Z,.inl #[21,aJ.of a1],12,aA,as,122,a1,PL,y _ _ ?_]];left;let i3:=D _ _ g4;let A1:An (af H0 aA$ .lst$ as++[.ref q2]) aA (X++gg (Sk.put (n:Int) hs w sk) U.steps 0 ps 0):=An.add a1 a3 (bq.one (R:=eU) (w:=ps++[(N.length:Int)]) #[q2,Z,i3]) (by rw[e3.1];erw[(aP.append_right _).trans ?_];rw[Sn,Sn];exact((q7 r2).append_left _).append_left _);let G:aj H0 (af H0 aA$ .lst$ as++[.ref q2]):=λb xs e=>by rw[ji$ jO e a1 BT];rwa[e]
     let b0:∀b o,b≠aA->H0 b=δ o->af H0 aA (.lst$ as++[.ref q2]) b=δ o:=λb o nb e=>by rw[ji nb];rwa[e]
     generalize af H0 aA (.lst$ as++[.ref q2])=H' at A1 G b0;let t2:=g.trans G;let sv:mG H' nA d ys v q6 n h8 vv Y hs w.wh e w0:=#[P0.mono t2,G _ _$ D _ _ e7,b2,t2 _ _ h6,hl,hi,(Nu o4 v0).mono$ D.trans G,ed,d1.mono t2,ft,by rw[g5];rwa[Rq h7],b4.mono t2];erw[#[1212,v,vv,q6,h8,n,d,ys,Y,hs,w.wh,e,w0,Z,sv,λu2 i4 b8 c9=>g' u2 i4 (G.trans$ aa.tm c9) (λb o nb e=>c9 _ _ (b0 _ _ nb e)) (A1.same c9) ?_]];let b8:aV i4 (pM (eY nA d) (cQ w0.sets$ pG e w.wh$ aR (canon Y.M) hs) w0.goal) u2 []:=b8;rw[Zk,pr.nms,<- c6]at b8;rwa[b8]
    symm;cases lk with
    |none=>exact#[12212,a9 (by show(!decide (V.non=V.non))=ν;rw[RG Z];rfl) (i2 λJ o e1 e2 z=>by let:=f8 J o e1 e2 z.1;cases this)]
    |some J=>
     let(i',o,ho,o5,r3,j0,d2):=b3 J Z;subst i';let a4:J < ο ss:=by rw[l3];exact(ξ.mp ho).1
     let(n2,v6,wo,p,h,u,z1,_,_,_,ex,hp,hh,hw):=z9 o1 h0 (Rq a4);rw[ho]at z1;cases z1;let hk:ss[J]?=↑p:=by rw[<- ex];rwa[Rq a4]
     erw[#[12212,dB (by rw[RC BT];rfl)$ jv (D _ _ e7) eO #[vv,w,Z,v0.mono D,o4,jv (g _ _ h') eO #[12,eA,11122,aC.of$ g _ _ a0,jE hk,p,11122,aC.of$ g _ _ hp,eO,u,wo,Z,hw.mono g,o5,212,?_]]]];symm;by_cases hf:w.fnd=wo.fnd
     .right;rw[RG (show xb w.fnd=xb wo.fnd by rw[hf])];erw[yT _ ?_];let ew:w.wh=wo.wh:=Nt o4 o5 ((K0 e9).trans r3.symm) hf;erw[#[1212,d.f,is,U,ao,c,gA,eA,ss,J+1,Z,g _ _ h',g _ _ a0,xw (h0.mono g) o1 a4 (b'$ J+1) λg0 H' h3 d4=>g' g0 H' (aa.tm d4) (λb o _ e=>d4 _ _ e) ((A2.pm (by rw[e3.1,Sn];exact((r0 J _ Z ho d2 hf.symm).append_left _).append_left _)).same d4) ?_]];rw[ew,<- j0];rwa[h3]
     .right;rw[RC (show ¬xb w.fnd=xb wo.fnd from λz=>hf (by injection z))];exact i2 λj2 o2 e1 e2 z=>by cases e1;rw[ho]at e2;cases e2;rwa[hf z.2.symm]
   symm;cases tk with
   |none=>exact#[12212,dB (RG Z) #[12,n']]
   |some J=>exact#[12212,a9 (RC (λz=>by cases z)) #[121122,n']]
  let j1:=s6 _ _ (s5 _ _ e4);cases b9:mq (aY (n:Int) hs) U.steps m with
  |none=>
   erw[#[12212,dB (RG Z) ?_]];erw[ah λF2 f2=>#[12,jv (S6 _ _ h5) Z$ jv (S6 _ _ h5) Z #[v,n,h8,d,ys,Y,hs,e,Z,P0.mono$ aa.tm S6,b2,S6 _ _ h6,hl,hi,ed,d1.mono$ aa.tm S6,λud H7 h4 s7=>f2 _ _ ?_]]];left;let S7:=S6.trans s7;symm;let(wE,o',dE,hE):=LV (k:=aR (canon Y.M) hs) d1;refine#[12,c,11122,aC.of$ S7 _ _ h',eO,1212,eA,ss,U,wE,m,ud,Z,S7 _ _ a0,h0.mono$ aa.tm S7,o1,s0,PL,by rw[dE];exact h4,o',λH8 s8=>nx θ _ ud H8 (S7.trans s8) (s8 _ _$ s7 _ _ j1) (h4.mono$ aa.tm s8) ?_ (λJ z=>by cases z) (λw ow hw=>by unfold fQ;rw[b9];exact xT ow o'$ hw.trans dE.symm) (λJ o e1 e2 z=>by
    symm;let(f',i0,s',a',_,b5):=YK e1;let(hm,_):=Jy b5;let:=xq (J - m) m b9 (s:=o) (by rw[show m+(J - m)=J by omega];rwa[e2]);rw[z]at this;cases this)]
   cases r4:gr U.steps m wE with
   |none=>trivial
   |some J=>symm;let(f',i0,s',a',rfl,b5):=YK r4;let(hm,o,ho,r5):=Jy b5;let(p0,x,q',ts,e1,e2):=hE _ _ _ _ Z;let(s2,a2,eo):=rQ r5;erw[#[hm,o,ho,λf3 v7 s3 a3 z=>?_]];rw[eo]at z;symm;cases z;exact#[p0,x,q',ts,e1,e2]
  |some J=>
   erw[#[12212,a9 (RC (λz=>by cases z)) ?_]];symm;let(hm,o,ho,b3):=Jy b9;let(en,r6):=xV b3;obtain⟨⟨n2,v8,r7,c3,e0,e6⟩,_⟩:=a5 ho;let e2:n2=n:=by rw[en]at r7;omega
   subst e2;rw[c4]at c3;cases c3;rw[r6]at e0 e6;let a4:J < ο ss:=by rw[l3];exact(ξ.mp ho).1
   let(n3,v9,wo,p,h,u,z1,o6,_,_,ex,hp,hh,hw):=z9 o1 h0 (Rq a4);rw[ho]at z1;cases z1;let hk:ss[J]?=↑p:=by rw[<- ex];rwa[Rq a4]
   erw[ah λF2 f2=>(jv (S6 _ _ h') eO #[12,eA,11122,aC.of$ S6 _ _ a0,jE hk,p,11122,aC.of$ S6 _ _ hp,eO,u,wo,Z,hw.mono$ aa.tm S6,o6,λud H7 h4 s7=>f2 _ _ ?_])];left;let e0:du wo=uA (aR (canon Y.M) hs) e:=e0;rw[e0]at h4;erw[#[12,nx (δ J) (δ J) ud H7 (S6.trans s7) (s7 _ _ j1) h4 #[hm,_,ho,λf' i0 s' a' z=>?_] (λj2 z=>?_) (λw ow hw=>by unfold fQ;rw[b9]) (λj2 o2 e1 _ _=>e1)]]
   .let z:wo= .cl f' i0 s' a':=z;symm;subst z;rwa[Ca d1 e0]
   .symm;cases z;exact#[21,ho,o6,e0,e6,b3]
abbrev HZ:cc:=bX 42
inductive mP(g f n:ζ)(s:xL V)(H:Hp)(Q:VK)(E:XK):Prop
 |mk(M:Nat)(q j c:ζ)(i:Nat)(e:aW)(r:Sk)(h:Int)(d:Df)(k:xL Df)(o:xL Nat)(t:xL V)(b:xL dD)(m:xL Int)(_:s=[.ref q,.ref c,.ref j,.int (M:Int)])(_:M<=60)(_:Ps H n q k o t b)(_:k[i]?=δ d)(_:o[i]?=δ m.length)(_:∀z∈m,gW z)(_:H j=δ (.dK e))(_:GT e)(_:io H d.f m r h (.ref c))(_:r.ok μ)(_:r.size<=1000)(_:wj b d.f m r h)(_:∀(p l:ζ) (v:V) (ws:xL V) (sk:Sk) (a:Int) (L':aW) (H':Hp),a7 M b e 16 d.f m [] 0= .ok sk a L' sk.size->H' p=δ (.tup [v,.ref l])->H' l=δ (.lst ws)->bq eU H' (gg sk r.steps 0 [] 0) ws->io H' d.f m sk a v->sk.ok μ->sk.dep<=15->sk.size<=M->aa H H'->Q (.ref p) H')(_:iP (a7 M b e 16 d.f m [] 0= .long) (a7 M b e 16 d.f m [] 0= .deep) E g f (Kp H))
theorem rR{H:Hp}:∀{b:xL aN} {a:xL V},ο a=ο b->(∀(i:Nat) (v:V) (p:aN),a[i]?=δ v->b[i]?=δ p->eU H v p)->bq eU H b a
 | [],[],_,_=>rfl
 | [],_::_,e,_ |_::_,[],e,_=>by cases e
 |p::b,v::a,e,h=>#[v,a,Z,h 0 v p Z Z,rR (e:) λi x q c d=>h (i+1) x q (c:) (d:)]
def rF{H a:Hp}(s:aa H a){x:ζ}(h:a x=θ):H x=θ:=by
 cases z:H x with
 |none=>rfl
 |some o=>have:=s _ _ z;rw[h]at this;cases this
def Am:am ["parts","old","cells","most","running","chain"] ["parts","old","cells","most"] (ae HZ):=bP
def GJ{f:ζ}{fd:bS}{C TL TD nA fI fA:ζ}{t u:bS}(F:xD K "again" HZ f fd)(ck:RK K C)(n6:ba K C "anew")(mk:Mk K C fI)(GI:⇑3 fI t z7z (nO C))(bI:aE K t z7z [])(mC:mg "AgainRun"=↑C)(GA:ai P w K mg base (dN P w) 70 fA u z16z (oG C TL TD nA 16))(bA:aE K u z16z [])(m0:bo K C "chain_along" fA)(m1:mg "sorted"=θ):ai P w K mg base (dN P w) 71 f fd ["parts","old","cells","most"] (mP TL TD nA):=by
 erw[F.ok1 Am λc0 A o1 s H vs Q E hr h=>?_]
 let(M,j,k,c,i,Cs,S,ao,d,ds,ns,xs,z,is,rfl,hM,hP,hd,hn,h0,B,h3,h4,o2,s6,G,q,t0):=h;erw[#[_,%[Am|_ce4 (XN mk GI hr.m Z mC bI .nil b6 %[Am|_a0a2a3b]) _ce5L4 ck.cl _Y GA hr.m bA .nil _χadba1agbflda5aA qy _j m1 UY _aM4jbb],?_]];let b0:=aL;erw[ah λF1 I=>#[121212,λr D W nd ne=>?_]];let s0:aa H (af (af H D$ .own r) r$ .ins C D []):=λc o e=>by rw[ji$ jk e W,ji$ jk e nd];rwa[e]
 erw[#[r,D,j,k,M,Z,jc,λL g nl na n0=>#[Z,I _ _ ?_]]];let n1:L≠r:=λe=>by rw[e,jc]at nl;cases nl
 let n2:g≠r:=λe=>by rw[e,jc]at na;cases na
 let n:=rF s0 nl;let N:=rF s0 na;let J:aa H (af (af (af (af (af H D$ .own r) r$ .ins C D []) L$ .dK []) g$ .lst []) r$ .ins C D$ dP (dQ g) k L j M 0):=λc o e=>by rw[ji$ jk e W,ji$ jk e N,ji$ jk e n];rwa[s0 _ _ e]
 let R1:Rn (af (af (af (af (af H D$ .own r) r$ .ins C D []) L$ .dK []) g$ .lst []) r$ .ins C D$ dP (dQ g) k L j M 0) C r D (dQ g) k L j M 0 [] Cs:=#[jc,by rw[ji n1,ji n0];rwa[jc],J _ _ B,GT.nil,h3,jk B n,BO g,PL];let A1:An (af (af (af (af (af H D$ .own r) r$ .ins C D []) L$ .dK []) g$ .lst []) r$ .ins C D$ dP (dQ g) k L j M 0) g []:=#[[],[],by rw[ji n2];rwa[jc],Z,Tq _];generalize (af (af (af (af (af H D$ .own r) r$ .ins C D []) L$ .dK []) g$ .lst []) r$ .ins C D$ dP (dQ g) k L j M 0)=H1 at J R1 A1;erw[ah λF1 I=>#[12,r,D,12,R1.ins,Z,gU,λpa n3=>#[12,?_]]];let R:aa H1 (af H1 pa$ .tup []):=je n3;let T:=aa.tm (J.trans R);erw[#[M,r,D,g,k,L,j,pa,c,[],0,0,i,[],[],Cs,S,ao,d,ds,ns,xs,z,is,22,PM,R1.same R,A1.same R,Rv _,Rv _,RE _,hP.mono T,jc,PM,hd,hn,h0,io.mono' h4 T,o2,s6,G,λv X a L' U eq h5 O d0 ia R3 l3 t3 A3 k3=>I _ _ ?_,iP.next3$ t0.mono λH' kk=>λb o nx e=>kk b o (jk e W) (jk e n) (jk e N) nx (R _ _$ J _ _ e)]];rw[UF]at eq t3;let A3:An U g (gg X S.steps 0 [] 0):=A3;let s3:aa H U:=λb o e=>k3 _ _ (jk e W) (jk e n) (jk e N) (R _ _$ J _ _ e);let(as,qs,a1,a3,Y):=A3.ex;let sr:=ww O S.steps 0 [] 0;let ln:=XJ O S.steps 0 [] 0;let a2:=Y.length_eq;let a4:=a3.len;erw[#[1212,r,C,D,112,R3.ins,ck.cl,n6,Z,g,as,qs,Z,aJ.of a1,a4,PL,λi x p h1 h2=>?_,Y.nodup_iff.mpr$ AN sr,λl ws rs n4 g1 g2 g3 g4=>?_]]
 .let(p',V,y,e1,e2):=a3.at h1;rw[h2]at V;cases V;exact#[y,e1,e2,wt O$ Y.mem_iff.mp$ RL h2]
 let e0:rs=gg X S.steps 0 [] 0:=wz g2 sr (g1.trans Y);subst e0;let l0:bq eU U (gg X S.steps 0 [] 0) ws:=rR g3 λi x p h1 h2=>let #[y,e1,e2,_]:=g4 i x p h1 h2;#[y,e1,e2]
 let s4:aa U (af U l$ .lst ws):=je n4;erw[#[cg,λp np=>?_]];let s5:=je (o:=.tup [v,.ref l]) np;rwa[q p l v ws X a L' _ eq jc (s5 _ _ jc) (l0.mono bJ$ aa.tm$ s4.trans s5) (io.mono' h5$ aa.tm$ s4.trans s5) O PL t3 ((s3.trans s4).trans s5)]
noncomputable def uS:Sk->aN->xL aO->Nat->xL aN
 | .st n h w r,p,os,m=>match fQ os m n h w with
  |none=>uS r p os m
  |some j=>match os[j]? with
   |none=>[]
   |some o=>((if aY n h o=μ then [p++[(j:Int)]] else [])++uS w (p++[(j:Int)]) (um o.2.2) 0)++uS r p os (j+1)
 | .cl _ _ s _,p,os,m=>uS s p os m
 |_,_,_,_=>[]
def YL{w:Sk}{os:xL aO}(h:fQ os m n H w=θ):uS (.st n H w r) p os m=uS r p os m:=by show(match fQ os m n H w with |none=>_ |some j=>_)=_;rw[h]
def YM{w:Sk}{os:xL aO}(h:fQ os m n H w=δ j)(a:os[j]?=δ o):uS (.st n H w r) p os m=((if aY n H o=μ then [p++[(j:Int)]] else [])++uS w (p++[(j:Int)]) (um o.2.2) 0)++uS r p os (j+1):=by show(match fQ os m n H w with |none=>_ |some j=>match os[j]? with |none=>([]:xL aN) |some o=>_)=_;rw[h];dsimp only;rw[a]
def Jz:decide (vr a=vr b)=decide (a=b):=by
 by_cases h:a=b
 .rw[RG h,RG (by rw[h])]
 .rw[RC h,RC λz=>h (by injection z)]
def KH{w:Sk}(o:w.ok ν)(h:eM H w u []):∃p v r,u= .ref p/\H p=δ (.tup (.str v::r))/\(v="call"↔∃f i s a,w= .cl f i s a):=by
 cases w with
 |nil |st _ _ _ _=>rwa[o.elim]
 |ask b |rd b c |wr b c=>let(p,e,h):=h;exact#[p,11,e,h,λe=>absurd e PM,λ#[1111,e]=>nomatch e]
 |cl f i s a=>let(p,c,g,E,S,e,h,_):=h;exact#[p,11,e,h,λ_=>#[11112],λ_=>Z]
abbrev Il:cc:=bX 77
abbrev Dr:cc:=bX 78
abbrev vH:cc:=bX 79
abbrev Dy:cc:=bX 80
noncomputable def EG:Sk->V->V
 | .cl _ _ _ a,_=>.int a
 |_,u=>u
inductive oM(b:xL V)(H:Hp)(Q:VK)(a:XK):Prop
 |mk(p h:ζ)(n:Int)(u:V)(w:Sk)(_:b=[.ref p])(_:H p=δ (.tup [.int n,.ref h,u]))(_:eM H w u [])(_:w.ok ν)(_:Q (EG w u) H)
def FV{w W:Sk}(o:w.ok ν)(O:W.ok ν)(e:du w=du W):(w.fnd=W.fnd->(∃f I s a S A,w= .cl f I s a/\W= .cl f I S A/\a=A)∨(w=W/\∀f I s a,w≠ .cl f I s a))/\(w.fnd≠W.fnd->(∃f I s a S A,w= .cl f I s a/\W= .cl f I S A/\a≠A)∨∃c i d,w= .rd c i/\W= .rd c d/\i≠d):=by
 cases w with
 |nil |st _ _ _ _=>rwa[o.elim]
 |cl f I s a=>let(S,A,rfl):=K2 O e.symm;exact#[λh=>.inl #[f,I,s,a,S,A,22,h],λh=>.inl #[f,I,s,a,S,A,22,h]]
 |ask b=>
  cases W with
  |nil |st _ _ _ _=>rwa[O.elim]
  |ask B=>have e:Tr.tp (.cons (aM "ask")$ .cons (au b) .nil)= .tp (.cons (aM "ask")$ .cons (au B) .nil):=e;injection e with e;injection e with _ e;injection e with e _;injection e with e;injection e with e;subst e;exact#[λ_=>.inr #[Z,λ_ _ _ _ z=>nomatch z],λh=>absurd Z h]
  |rd _ _ |wr _ _ |cl _ _ _ _=>rwa[absurd (qr e) PM]
 |rd b i=>
  cases W with
  |nil |st _ _ _ _=>rwa[O.elim]
  |rd B d=>have e:Tr.tp (.cons (aM "read")$ .cons (au b) .nil)= .tp (.cons (aM "read")$ .cons (au B) .nil):=e;injection e with e;injection e with _ e;injection e with e _;injection e with e;injection e with e;subst e;exact#[λ(h:i=d)=>by subst h;rwa[.inr #[Z,λ_ _ _ _ z=>nomatch z]],λh=>.inr #[b,i,d,22,h]]
  |ask _ |wr _ _ |cl _ _ _ _=>rwa[absurd (qr e) PM]
 |wr b i=>
  cases W with
  |nil |st _ _ _ _=>rwa[O.elim]
  |wr B d=>have e:Tr.tp (.cons (aM "write")$ .cons (au b)$ .cons (au i) .nil)= .tp (.cons (aM "write")$ .cons (au B)$ .cons (au d) .nil):=e;injection e with e;injection e with _ e;injection e with E e;injection e with g _;injection E with E;injection E with E;injection g with g;injection g with g;subst E;subst g;exact#[λ_=>.inr #[Z,λ_ _ _ _ z=>nomatch z],λh=>absurd Z h]
  |ask _ |rd _ _ |cl _ _ _ _=>rwa[absurd (qr e) PM]
def AG{w:Sk}(o:w.ok ν)(h:∀f i s a,w≠ .cl f i s a):∃l,oF w= .tp l/\l.dep < 10/\l.In:=by
 cases w with
 |nil |st _ _ _ _=>rwa[o.elim]
 |cl f i s a=>rwa[absurd Z (h f i s a)]
 |ask b=>exact#[12,by show max 0 (max 0 0) < 10;decide,22,trivial]
 |rd b B |wr b B=>exact#[12,by show max 0 (max 0 (max 0 0)) < 10;decide,222,trivial]
def xU{w:Sk}(h:∀f i s a,w≠ .cl f i s a):EG w u=u:=by
 cases w with
 |cl f i s a=>rwa[absurd Z (h f i s a)]
 |_=>rfl
inductive YN(x y:V)(H:Hp)(Q:VK):Prop
 |mk(a b c:_)(_:x= .ref a)(_:y= .ref b)(_:H a=δ (.lst c))(_:H b=δ (.lst []))(_:Q (.bl c.isEmpty) H)
def Zm{X:Cx}(c:X.A.units < cLine):gf X (compareOp .Eq) YN:=by
 intro p s J H x y v u Q I i l h;let(a,b,m,rfl,rfl,n,o,q):=h;cases i;cases l;let(t,R,d,_):=I.list (aJ.of n);let(B,C,f,_):=I.list (aJ.of o);let E:B=[]:=C.nil_iff.mpr Z;subst E;cases g:m with
 |nil=>subst g;let D:t=[]:=R.nil_iff.mpr Z;subst D;erw[PySem.SeqAt.RcAt.lists (e:=λ_=>μ) d.isList f.isList Z c (λj F M=>absurd F PJ) X.prog X.w _ _ ?_];exact#[.bl μ,H,I,Z,q]
 |cons z r=>subst g;let L:=R.length;erw[PySem.SeqAt.RcAt.lists_lengths d.isList f.isList (by simp [<- L]) c X.prog X.w _ _ ?_];exact#[.bl ν,H,I,Z,q]
def JO{lo:Int}{n:Nat}{t:TT}{Q:xL V->Hp->Prop}(Pv:Nat->xL V->Hp->Prop)(j:Pv 0 [] H)(k:n<=υ)(c:∀i Y h,Pv i Y h->ο Y<=i)
  (l:∀i Y h,i < n->Pv i Y h->t (δ (.int$ lo+i)::d) h λb f=>if b=μ then T (δ (.int$ lo+i)::d) f λy o=>Pv (i+1) (Y++[y]) o else Pv (i+1) Y f) (q:∀Y h,Pv n Y h->Q Y h):
  fi (wf lo n) 1 d (bf 0) t T Q H:=by
 erw[#[λi m Y h=>m=n - i/\i<=n/\Pv i Y h,#[n,PJ,RE _,j],?_]];rintro i m Y h ⟨rfl,u,p⟩;by_cases a:i < n
 .erw[.inr #[a,Tc (c i Y h p)$ RQ a k,Pv$ i+1,λr f s=>#[n - (i+1),N09,Z,a,s],λx f z g y=>?_]];let(e,y):=y;subst e y;let(v,rfl):=uQ g;exact#[#[[δ _],22],l i Y _ a p]
 .let e:i=n:=by omega
  subst e;rwa[.inl #[Rv _,q Y h p]]
def Qy{K:Ψ}{a:ζ}{xs:xL V}{t:TT}{Q:xL V->Hp->Prop}(A:ο xs<=υ)(Pv:Nat->xL V->Hp->Prop)(n:Pv 0 [] H)
  (o:∀i Y h,Pv i Y h->aJ K h a xs/\ο Y<=i) (q:∀i x Y h,xs[i]?=δ x->Pv i Y h->t (δ x::c) h λb d=>if b=μ then T (δ x::c) d λy r=>Pv (i+1) (Y++[y]) r else Pv (i+1) Y d) (s:∀Y h,Pv xs.length Y h->Q Y h):
  fi (Br K a) 1 c (bf 0) t T Q H:=by
 erw[#[λi m Y h=>m=ο xs - i/\i<=ο xs/\Pv i Y h,#[xs.length,PJ,RE _,n],?_]];intro i m Y h g;let(rfl,B,p):=g;let(j,C):=o i Y h p;by_cases f:i < ο xs
 .erw[.inr #[#[xs,xs[i],j,Rq f],PL,Pv$ i+1,λu d z=>#[ο xs - (i+1),PL,Z,f,z],λv d D k y=>?_]];let(e,y):=y;subst e;let(w,rfl):=uQ k;exact#[#[[δ _],22],q i v Y d (y xs j) p]
 .let e:i=ο xs:=by omega
  subst e;rwa[.inl #[#[xs,j,Rv _],s Y h p]]
def kS{X:Cx}{K:Ψ}(h:X.K=K):Lo X (db K):=by subst h;rwa[jF]
noncomputable def iR(P:aO->Bool):Nat->xL aO->xL Nat
 |_,[]=>[]
 |k,s::r=>if P s=μ then k::iR P (k+1) r else iR P (k+1) r
def dy(P:aO->Bool)(os:xL aO)(m:Nat):xL Nat:=iR P m (os.drop m)
def K6{P:aO->Bool}{os:xL aO}(h:os[m]?=δ s):dy P os m=if P s=μ then m::dy P os (m+1) else dy P os (m+1):=by let(H,e):=ξ.mp h;unfold dy;rw[<- T5 (h:=H),e];rfl
def KI{P:aO->Bool}{os:xL aO}(h:ο os<=m):dy P os m=[]:=by unfold dy;rw[WP h];rfl
theorem Xv(P:aO->Bool):∀(k:Nat) (os:xL aO),(iR P k os).head?=uF P k os
 |_,[]=>rfl
 |k,s::r=>by
  show(if P s=μ then k::iR P (k+1) r else iR P (k+1) r).head?=if P s=μ then δ k else uF P (k+1) r;by_cases h:P s=μ
  .rw[RB h,RB h];rfl
  .rw[RD h,RD h,Xv P]
def YO(P:aO->Bool)(os:xL aO)(m:Nat):(dy P os m).head?=mq P os m:=Xv P m _
theorem YQ(P:aO->Bool):∀(k:Nat) (os:xL aO),(iR P k os).length<=ο os
 |_,[]=>Rv 0
 |k,s::r=>by
  let:=YQ P (k+1) r;show(if P s=μ then k::iR P (k+1) r else iR P (k+1) r).length<=ο r+1;by_cases h:P s=μ
  .rw[RB h];show _+1<=_;omega
  .rw[RD h];omega
def X1(P:aO->Bool)(os:xL aO)(m:Nat):(dy P os m).length<=ο os:=RM (YQ P m _) (by rw[Te];rwa[N09])
noncomputable def gm(s:aO):Bool:=match s.2.2 with
 | .cl _ _ _ _=>μ
 |_=>ν
noncomputable def Ei(P:aO->Bool)(os:xL aO)(j:Nat):Bool:=match os[j]? with
 |some s=>P s
 |none=>ν
theorem Qz{P Q:aO->Bool}(h:∀s,P s=μ->Q s=μ)(os:xL aO):∀(n m:Nat),n=ο os - m->(dy Q os m).filter (Ei P os)=dy P os m
 |0,m,e=>by rw[KI PL,KI PL];rfl
 |n+1,m,e=>by
  let c:m < ο os:=by rwa[N09]
  let a:=Rq c;rw[K6 a,K6 a];let i:=Qz h os n (m+1) PL;let E:Ei P os m=P os[m]:=by unfold Ei;rw[a]
  by_cases H:P os[m]=μ
  .rw[RB$ h _ H,RB H,WK (by rw[E];rwa[H]),i]
  .rw[RD H];by_cases b:Q os[m]=μ
   .rw[RB b,WL (by rw[E];rwa[H]),i]
   .rw[RD b,i]
def Mj(s:aO)(h:dm f i s=μ):gm s=μ:=by let(S,a,e):=rQ h;unfold gm;rw[e]
def nZ(s:Sk)(p:aN)(os:xL aO)(m:Nat)(a:aN)(k:Nat):Ly:=#[(iN s p os m a k).k,(iN s p os m a k).t,(iN s p os m a k).f,uS s p os m]
def C5(p:aN)(o:aO)(a:aN)(n:Int)(h:xL Int)(w:Sk):Ly:=
 if aY n h o=μ then (if o.2.2.fnd=w.fnd then #[[(p,a)],[],[],[p]] else #[[],[(p,a)],[],[p]]) else #[[],[],[a],[]]
def YR{w:Sk}{os:xL aO}(h:fQ os m n H w=θ):nZ (.st n H w r) a os m p k=(#[[],[],c8 (p++[(k:Int)]) w,[]]:Ly).app (nZ r a os m p$ k+1):=by unfold nZ;rw[Qi h,YL h];rfl
def wC{w r:Sk}{po:aN}{os:xL aO}{pn:aN}{k:Nat}(h:fQ os m n b w=δ j)(c:os[j]?=δ o):nZ (.st n b w r) po os m pn k=(C5 (po++[(j:Int)]) o (pn++[(k:Int)]) n b w).app ((nZ w (po++[(j:Int)]) (um o.2.2) 0 (pn++[(k:Int)]) 0).app$ nZ r po os (j+1) pn$ k+1):=by
 unfold nZ;rw[Qj h c,YM h c];unfold C5 one Ly.app;by_cases H:aY n b o=μ
 .rw[RB H,RB H,RB H];by_cases a:o.2.2.fnd=w.fnd
  .rw[RB a,RB a];simp
  .rw[RD a,RD a];simp
 .rw[RD H,RD H,RD H];simp
def wB{w:Sk}{os:xL aO}(o:w.ok ν)(h:∀f i s a,w≠ .cl f i s a):nZ w p os m b k= .nil:=by
 cases w with
 |nil |st _ _ _ _=>rwa[o.elim]
 |cl f i s a=>rwa[absurd Z (h f i s a)]
 |_=>rfl
inductive gR(n:Nat)(e:xL V)(H:Hp)(Q:VK)(b:XK):Prop
 |mk(d:ζ)(p:aN)(f:ρ)(c:xL Int)(s:Sk)(a:Int)(u:V)(_:e=[u,.ref d])(_:H d=δ (.tup (p.map xb)))(_:ο p+n<=100)(_:io H f c s a u)(_:s.ok μ)(_:s.dep < n)(_:s.size<=1000)(_:∀(r:ζ) (xs:xL V) (H':Hp),H r=θ->H' r=δ (.lst xs)->bq eU H' ((s.ws p 0).map (·.1)) xs->aa H H'->Q (.ref r) H')
inductive Ld(h j:ζ)(p:aN)(u:V)(s:Sk)(H:Hp)(i:Nat)(l:_L.St)(a:Hp):Prop
 |mk(f g:ym V)(k:xL V)(b:l=[δ u,↑h,↑j,f,g])(c:a j=δ (.lst k))(d:bq eU a ((my (s.steps.take i) p 0).map (·.1)) k)(e:aa H a)
inductive i6(n:Nat)(t:xL V)(H:Hp)(Q:VK)(a:XK):Prop
 |mk(D:DF)(z k s h g m c l b:ζ)(p o:aN)(f:ρ)(i j:xL Int)(q r:Sk)(d e:Int)(y:Ly)(_:t=[.ref c,.ref b,.ref m,.ref l,.ref z])(_:Lt H z k s h g y)(_:H m=δ (.tup (p.map xb)))(_:H l=δ (.tup (o.map xb)))(_:ο p+n<=49)(_:ο o+n<=49)(_:io H f i q d (.ref c))(_:q.ok μ)(_:q.dep<=15)(_:q.size<=1000)(_:io H f j r e (.ref b))(_:r.ok μ)(_:r.dep < n)(_:r.dep<=15)(_:r.size<=1000)(_:Dt D f q)(_:Dt D f r)(_:(y.app (nZ r p q.steps 0 o 0)).tot<=100000)(_:∀H',Lt H' z k s h g (y.app (nZ r p q.steps 0 o 0))->dh k s h g H H'->Q .non H')
inductive OL(D:DF)(z B P A n J c C b:ζ)(M L:aN)(f:ρ)(K:xL aO)(O:xL V)(N:Sk)(k:Ly)(H:Hp)(i:Nat)(Q:_L.St)(l:Hp):Prop
 |mk(E F G I d e g h j:ym V)(m:Nat)(a:Sk)(y:Ly)(o:Q=[↑c,↑b,↑J,↑C,↑z,δ (.int (m:Int)),E,F,G,I,d,e,g,h,j])(p:Lt l z B P A n y)(q:eM l a .non (O.drop i))(r:a.ok μ)(s:a.dep<=N.dep)(t:a.size<=N.size)(u:Dt D f a)(v:m<=ο K)(w:y.app (nZ a M K m L i)=k)(x:dh B P A n H l)
def dR(l:xL Nat):xL V:=l.map λ(j:Nat)=>xb (j:Int)
def M0:am ["_law_step"] ["_law_step"] (ae Il):=bP
def Hc(F:xD K "_law_found" Il f l):⇑1 f l ["_law_step"] oM:=by
 erw[F.ok M0 λC A o s H v Q E t h=>?_]
 let(p,h,n,u,w,rfl,b,i,d,q):=h;erw[#[_,%[Z|_cmxhkG0gpflhkGkG0gpgptflh0],?_]];cases w with
 |nil |st _ _ _ _=>rwa[d.elim]
 |ask _ |rd _ _ |wr _ _=>let(x,rfl,G):=i;erw[ah λm j=>(jv b eO #[x,11122,aC.of G,eQ,212,a9 PH$ j _ _ ?_])];exact(jv b eO q)
 |cl f I s a=>let(x,c,g,e,S,rfl,G,r,_):=i;rwa[ah λm j=>(jv b eO #[x,11122,aC.of G,eQ,212,dB PH$ jv b eO #[x,11122,aC.of G,gY,c,11122,aC.of r,LC,q]])]
def sS:am ["_law_chain","_law_at","_law_found_here","_law_k","_law_step"] z17z (ae Dr):=bP
def GK(F:xD K "_law_all_in" Dr f fd)(cS:{n+1} fS f0 z17z (gR n) "_law_all_in")(m0:mg "enumerate"=θ):⇑(n+2) f fd z17z (gR$ n+1):=by
 erw[F.ok sS λc0 A o1 s H vs Q E hr h=>?_]
 symm;let(M,p,f,is,s,a,u,rfl,hp,h',hc,d,hd,hz,q):=h;erw[#[_,%[sS|_ce2rbcHTj (Qb Z m0 %[sS|_ah0b]) _P (n:=2) _jqi3qi4γczCRαβX2aoV1da3bbfmxhkG4gpfzCR Tp To qh _2a cS.e hr.m _ahkG4gpaoV1da3bbbtfl2],?_]];let b1:=aL;symm;let(c,g,e,ss,rfl,h1,h2,h3,h4):=hc;let lt:=zn d h4;let fl:=zj d p 0;rw[JX d]at fl;sleep 2;erw[ah λF1 B=>#[gU,λT N=>B _ _ ?_]];left;let s1:aa H (af H T$ .lst []):=je N;erw[ah λF1 B=>eG λJ j=>(jv (s1 _ _ h1) eO #[e,Z,#[_,aC.of$ s1 _ _ h3],j _ _ ?_])];left;erw[Jm (K:=K) (xs:=ss) (Ld M T p (.ref c) s H) #[θ,θ,[],Z,jc,Z,s1] (λi σ Hx _ h=>?_) ?_ (λσ Hx h=>B _ _ ?_)]
 .symm;let(_,_,_,_,_,_,W):=h;rwa[aC.of$ W _ _ h3]
 .intro E hE i x X σ H7 hx np Y Gq U h;left;symm;let(o3,o4,xs,rfl,w1,w2,W):=h;let s8:aa H7 (af H7 X$ .tup [.int i,x]):=je np;let e8:af H7 X (.tup [.int i,x]) X=δ (.tup [.int i,x]):=jc;erw[U ?_];generalize af H7 X (.tup [.int i,x])=H8 at s8 e8 ⊢;let S8:=W.trans s8;symm;let(n1,h6,w,q,hh,u,ht,O,d0,s0,rfl,h0,a0,hw):=z9 d (h4.mono$ aa.tm S8) hx;erw[#[X,12,aC.of e8,21121122,?_]];let h7:i < ο s.steps:=(ξ.mp ht).1;let et:s.steps.take (i+1)=s.steps.take i++[(n1,h6,w)]:=by rw[SX,ht];rfl
  let eb:(my (s.steps.take$ i+1) p 0).map (·.1)=(my (s.steps.take i) p 0).map (·.1)++c8 (p++[(i:Int)]) w:=by rw[et,Jx,RU,R0,TU$ T3 h7,UF,YJ];show _++(_++[])=_;rw[Sb]
  let bl:=Bm s.steps (i+1) p 0;let b0:=SM ti eb;rw[Ru,Rs,Qh O]at b0;let lx:=w2.len;rw[fl]at bl;show cw _ _ E [↑c,↑M,↑T,δ$ .int i,↑q] H8;erw[ah λF1 B=>#[12,.inl #[21,aJ.of$ s8 _ _ w1],1212,i8,λt nt=>#[M,t,1122,aq (S8 _ _ hp) nt,jc,by rw[Rs];show _+1<=_;omega,λR C e9 s9=>?_]]];let S9:aa H8 C:=(je (o:=.tup [.int i]) nt).trans s9;let e9:C R=δ (.tup$ p.map xb++[.int (i:Int)]):=e9;rw[uk]at e9;let w9:=S9 _ _ (s8 _ _ w1);erw[#[T,xs,122,w9,PL,B _ _ ?_]];left;let G:aj C (af C T$ .lst$ xs++[.ref R]):=JY w9;let k:af C T (.lst$ xs++[.ref R]) T=δ (.lst$ xs++[.ref R]):=jc;let k0:∀b o,b≠T->C b=δ o->af C T (.lst$ xs++[.ref R]) b=δ o:=λb o nb e=>by rw[ji nb];rwa[e]
  generalize af C T (.lst$ xs++[.ref R])=v at G k k0;let r:aj H8 v:=(aa.tm S9).trans G;let I:aa H v:=λb o e=>k0 _ _ (jk e N) (S9 _ _$ S8 _ _ e);let x0:bq eU v ((my (s.steps.take i) p 0).map (·.1)++[p++[(i:Int)]]) (xs++[.ref R]):=bq.app (bq.one #[R,Z,G _ _ e9]) (((w2.mono bJ$ aa.tm s8).mono bJ r));symm;let(p3,v3,r3,eu,h8,h5):=KH O (hw.mono r);subst eu;erw[ms λG1 yT yF=>(jv (r _ _ h0) eO #[p3,11122,aC.of h8,eQ,212,?_])];rw[Jz];symm;by_cases hv:v3="call"
  .let(g',L,D,a',rfl):=h5.mp hv;right;rw[RG hv];symm;let(x1,c1,g1,e1,s2,e2,k1,k2,k3,k4,k5):=hw.mono r;cases e2;let d0:D.dep+1<=s.dep:=d0;let s0:D.size+1<=s.size:=s0;erw[yT _ #[12,.inl #[21,aJ.of k],jv (r _ _ h0) eO #[p3,11122,aC.of k1,gY,1212,i8,λt2 n0=>#[M,t2,1122,aq (I _ _ hp) n0,jc,by rw[Rs];show _+1<=_;omega,λr0 H0 y s3=>?_]]]];let S:aa v H0:=(je (o:=.tup [.int i]) n0).trans s3;let y:H0 r0=δ (.tup$ p.map xb++[.int (i:Int)]):=y;rw[uk]at y;erw[#[r0,_,g',L,D,a',.ref c1,Z,y,by rw[Ru];show _+1+_<=_;omega,#[c1,g1,e1,s2,Z,S _ _ k2,S _ _ k3,S _ _ k4,k5.mono$ aa.tm S],O,PL,PL,λl zs H1 nl hl hz s4=>?_]];let z:=S.trans s4;let lz:=hz.len;rw[Rs,zj (show D.ok μ from O)]at lz;let ez:(xs++[xm R]).length=ο xs+1:=by rw[Ru];rfl
   let s5:(Sk.cl g' L D a').size=D.size:=rfl;erw[#[T,l,1122,z _ _ k,hl,PL,Y _ _ #[1112,jc,?_,λb o e=>?_]]]
   .rw[eb];let t0:aj H1 (af H1 T$ .lst$ xs++[.ref R]++zs):=JY (z _ _ k);let e0:c8 (p++[(i:Int)]) (.cl g' L D a')=[p++[(i:Int)]]++(D.ws (p++[(i:Int)]) 0).map (·.1):=rfl;rw[e0,<- Sn];exact(bq.app hz$ x0.mono bJ$ aa.tm z).mono bJ t0
   .rw[ji$ jk e N];rwa[z _ _$ I _ _ e]
  .right;rw[RC hv];erw[yF _$ Y _ _ #[1112,k,?_,I]];rw[eb];let e0:c8 (p++[(i:Int)]) w=[p++[(i:Int)]]:=by
    symm;cases w with
    |nil |st _ _ _ _=>rwa[O.elim]
    |cl f is s a=>rwa[absurd (h5.mpr #[f,is,s,a,Z]) hv]
    |_=>right;rfl
   rw[e0];rwa[x0]
 .symm;let(o3,o4,xs,rfl,w1,w2,W):=h;rw[lt,Su,<- JX d]at w2;exact#[12,q T xs Hx N w1 w2 W]
def Gy:⇑k f c z17z (gR 0):=by
 let n:∀{v H Q E},¬gR 0 v H Q E:=by rintro v H Q E ⟨d,p,f,i,s,a,u,_,_,_,_,_,z,_⟩;omega
 exact#[λv H Q E h=>(n h).elim,λA o s H b U v Q E e g j l h=>(n h).elim]
theorem LA(F:xD K "_law_all_in" Dr f a)(b:aE K a z17z [])(M:mg "_law_all_in"=↑f)(m:mg "enumerate"=θ):∀n,⇑(n+1) f a z17z (gR n)
 |0=>Gy
 |n+1=>GK F #[(LA F b M m n),b,F.kp,M] m
section
open SeqAt
variable {X:Cx}
def Om(I:ay X p σ H s)(n:Nat)(G:∀(t:Tr) {A:bU},t.dep<=n->A.units+n < cLine->t.In->t.isL=ν->∀{u:Tr} {x y:V},u.In->u.isL=ν->aV H t x []->aV H u y []->∀a b,aK x a->aK y b->EqAt A s a b (ik t u)){l m:Tr}(hn:l.dep<=n)(hu:A.units+n+1 < cLine)(J:l.In)(L:m.In)(d:l.isL=μ)(f:m.isL=μ)(M:H g=δ (.tup i))(N:H B=δ (.tup o))(T:aV H l .non i)(q:aV H m .non o):RcNeAt A s (.ref g) (.ref B) (!ik (.tp l) (.tp m)):=by
 let(v,r,O,_):=I.tuple (aC.of (K:=X.K) M);let(C,R,Q,_):=I.tuple (aC.of (K:=X.K) N);let(S,U):=qJ d J T;let(W,Y):=qJ f L q;let z:=RcNeAt.tuples (A:=A) (e:=mx l m) (show s.heap.IsTuple g v.toArray from O) (show s.heap.IsTuple B C.toArray from Q) PL (λj h1 h2=>?_)
 .rw[YI d f T q (by rw[Rx,<- r.length,S]) (by rw[Rx,<- R.length,W])]at z;let E:ik (.tp l) (.tp m)=ik l m:=by
   by_cases c:l=m
   .rw[zF c,zF (by rw[c])]
   .rw[zr c,zr (λk=>c (by injection k))]
  rw[E];rwa[z]
 .let la:=r.length;let lb:=R.length;let D:j < ο i:=by simp at h1;omega
  let h:j < ο o:=by simp at h2;omega
  let(u1,q1,r1):=r.get (Rq D);let(u2,q2,r2):=R.get (Rq h);let e1:v.toArray[j]=u1:=by let(_,e):=ξ.mp q1;simpa using e
  let E:C.toArray[j]=u2:=by let(_,e):=ξ.mp q2;simpa using e
  rw[e1,E];let(F,g1,g2,g3,g4,g5):=U j _ (Rq D);let(u',k1,k2,k3,k4,k5):=Y j _ (Rq h);let et:mx l m j=ik F u':=by unfold mx;rw[g1,k1]
  rw[et];rwa[G F (A:=A.in1) PL (by show A.units+1+n < cLine;omega) g3 g2 k3 k2 g5 k5 _ _ r1 r2]
inductive HU(d:Nat)(x y:V)(H:Hp)(Q:VK):Prop
 |mk(l m:Tr)(_:l.dep < d)(_:l.In)(_:m.In)(_:aV H (.tp l) x [])(_:aV H (.tp m) y [])(_:Q (.bl (!ik (.tp l) (.tp m))) H)
def yB{d:Nat}(c:X.A.units+d+1 < cLine):gf X (compareOp .NotEq) (HU d):=by intro p s n H x y v u Q I r R h;obtain⟨l,m,o,i,e,⟨f,a,z,rfl,g,t⟩,⟨j,b,B,rfl,k,T⟩,q⟩:=h;cases r;cases R;rwa[Om I d (XF I d) PL c i e f j g k t T X.prog X.w _ _ #[.bl _,H,I,Z,q]]
end
def O7(r R:R2):R2:=λx y H Q=>r x y H Q∨R x y H Q
def Hu{X:Cx}(b:gf X o c)(d:gf X o e):gf X o (O7 c e):=λp s a H x y v u Q I r R h=>h.elim (b p s a H x y v u Q I r R) (d p s a H x y v u Q I r R)
def nh(os:xL aO)(m:Nat)(n:Int)(h:xL Int)(w:Sk):xL Nat:=if dy (aY n h) os m=[] then (match w with
 | .cl f i _ _=>dy (dm f i) os m
 |_=>[]) else []
def J3(os:xL aO)(m:Nat)(n:Int)(h:xL Int)(w:Sk):(dy (aY n h) os m++nh os m n h w).head?=fQ os m n h w:=by
 let H:=YO (aY n h) os m;unfold fQ nh;cases e:dy (aY n h) os m with
 |cons j r=>rw[e]at H;rw[<- H];rfl
 |nil=>
  rw[e]at H;rw[<- H,RB Z];show(match w with | .cl f i _ _=>dy (dm f i) os m |_=>[]).head?=gr os m w;cases w with
  |cl f i s a=>rwa[YO (dm f i) os m]
  |_=>rfl
def Nn(l:xL Nat):l.take 1=match l.head? with |some j=>[j] |none=>[]:=by cases l<;>rfl
def Cq(os:xL aO)(m:Nat)(n:Int)(h:xL Int)(w:Sk):(nh os m n h w).length<=ο os:=by
 unfold nh;split
 .split
  .rwa[X1 _ _ _]
  .rwa[RE _]
 .rwa[RE _]
def LP(l:xL Nat):aQ (dR l) θ (δ 1)=dR (l.take 1):=by
 unfold aQ dR;let e:HT.sIx (l.map λ(j:Nat)=>xb (j:Int)).length 0 θ=0:=rfl;rw[e,Wg,Uq,UZ];cases l with
 |nil=>simp
 |cons a r=>
  let E:HT.sIx ((a::r).map λ(j:Nat)=>xb (j:Int)).length ((a::r).map λ(j:Nat)=>xb (j:Int)).length (δ 1)=1:=by unfold HT.sIx;simp
  rw[E]
def YS(l:xL Nat):(dR l).isEmpty=l.isEmpty:=by cases l<;>rfl
def X2(a b:xL Nat):dR a++dR b=dR (a++b):=by unfold dR;rw[RU]
def KJ(l:xL Nat):(dR l).length=ο l:=Rs _
inductive Yhr(H:Hp)(s:Sk)(S:xL V)(j:Nat)(o:aO):Prop|mk(p h u:_)(_:S[j]?=↑p)(_:H p=δ (.tup [.int o.1,.ref h,u]))(_:H h=δ (.tup$ o.2.1.map xb))(_:eM H o.2.2 u [])(_:o.2.2.ok ν)(_:o.2.2.dep<=s.dep)(_:o.2.2.size+1<=s.size)
def Yh{H:Hp}{s:Sk}{S:xL V}{j:Nat}{o:aO}(O:s.ok μ)(h:eM H s .non S)(a:s.steps[j]?=δ o):Yhr H s S j o:=by let l:=zn O h;let k:=(ξ.mp a).1;obtain⟨x,b⟩:∃x,S[j]?=δ x:=#[_,Rq PL];let(n,m,w,p,c,u,t,T,d,e,rfl,f,g,i):=z9 O h b;rw[a]at t;cases t;exact#[p,c,u,b,f,g,i,T,d,e]
def FD{w:Sk}(o:w.ok ν)(h:eM H w u []):∃p v r,u= .ref p/\H p=δ (.tup (.str v::r))/\∀n c,decide (v="call")=gm (n,c,w):=by
 let(p,v,r,e,g,d):=KH o h;erw[#[p,v,r,e,g,λn c=>?_]];by_cases b:v="call"
 .let(f,i,s,a,rfl):=d.mp b;rw[RG b];rfl
 .rw[RC b];cases w with
  |cl f i s a=>rwa[absurd (d.mpr #[f,i,s,a,Z]) b]
  |_=>rfl
def Cp{j i:xL Int}:ik (aB [aM g,aB$ j.map au]) (aB [aM f,aB$ i.map au])=dm f i (n,H,.cl g j s a):=by
 by_cases h:g=f/\j=i
 .rw[h.1,h.2,zF Z];exact(RG #[22]).symm
 .rw[zr]
  .exact(RC h).symm
  intro e;let e:Tr.tp (.cons (aM g)$ .cons (aB$ j.map au) .nil)= .tp (.cons (aM f)$ .cons (aB$ i.map au) .nil):=e;injection e with e;injection e with A c;injection c with b _;injection A with A;injection A with A;let b:Tr.tp (aD$ j.map au)= .tp (aD$ i.map au):=b;injection b with b;rwa[h #[A,qK b]]
def EJ(f:ρ)(i:xL Int):(aD [aM f,aB$ i.map au]).In:=#[Z,zB i,trivial]
def Gx(f:ρ)(i:xL Int):(aD [aM f,aB$ i.map au]).dep < 10:=by let h:=zo i;show max 0 (max ((aD$ i.map au).dep+1) 0) < 10;omega
def xN{P:aO->Bool}{os:xL aO}(b:os[m+i]?=δ o)(h:a++dR (dy P os$ m+i)=dR (dy P os m)):(P o=μ->(a++[.int ((m:Int)+(i:Int))])++dR (dy P os$ m+(i+1))=dR (dy P os m))/\(P o=ν->a++dR (dy P os$ m+(i+1))=dR (dy P os m)):=by
 rw[K6 b]at h;let e:(m:Int)+(i:Int)=((m+i:Nat):Int):=PL
 erw[#[λH=>?_,λH=>?_]]
 .rw[RB H]at h;rw[<- h,e,Sn];rfl
 .rw[RD (by rw[H];intro z;cases z)]at h;rwa[h]
theorem rL{P:aO->Bool}{os:xL aO}(h:os[j]?=δ o)(H:P o=μ):∀(d m:Nat),j=m+d->j∈dy P os m
 |0,m,e=>by let e:j=m:=e;subst e;rw[K6 h,RB H];rwa[RN]
 |d+1,m,e=>by
  let b:=(ξ.mp h).1;let a:m < ο os:=PL
  rw[K6$ Rq a];let i:=rL h H d (m+1) PL;split
  .rwa[RZ _ i]
  .rwa[i]
theorem rK(P:aO->Bool):∀(k:Nat) (os:xL aO),∀j∈iR P k os,∃i s,j=k+i/\os[i]?=δ s/\P s=μ
 |_,[],_,h=>nomatch h
 |k,s::r,j,h=>by
  let h:j∈(if P s=μ then k::iR P (k+1) r else iR P (k+1) r):=h;let g:j∈iR P (k+1) r->∃i S,j=k+i/\(s::r)[i]?=δ S/\P S=μ:=λz=>by let(i,S,e,a,b):=rK P (k+1) r j z;exact#[i+1,S,PL,by simpa using a,b]
  by_cases H:P s=μ
  .rw[RB H]at h;rcases Ξ.mp h with rfl |h
   .exact#[0,s,22,H]
   .rwa[g h]
  .rw[RD H]at h;rwa[g h]
def Zn{P:aO->Bool}{os:xL aO}{m j:Nat}(h:j∈dy P os m):m<=j/\∃s,os[j]?=δ s/\P s=μ:=by let(i,s,e,H,a):=rK P m _ j h;rw[VJ]at H;exact#[PL,s,by rw[e];rwa[H],a]
def Bu(os:xL aO)(m:Nat)(n:Int)(h:xL Int)(w:Sk)(p a:aN)(k:Nat):Ly:=match dy (aY n h) os m with
 | []=>#[[],[],[a++[(k:Int)]],[]]
 |j::_=>match os[j]? with
  |some o=>if o.2.2.fnd=w.fnd then #[[(p++[(j:Int)],a++[(k:Int)])],[],[],[p++[(j:Int)]]] else #[[],[(p++[(j:Int)],a++[(k:Int)])],[],[p++[(j:Int)]]]
  |none=>.nil
def wF{os:xL aO}{w:Sk}{po pn:aN}{k:Nat}(h:fQ os m n H w=δ j)(b:os[j]?=δ o):Bu os m n H w po pn k=C5 (po++[(j:Int)]) o (pn++[(k:Int)]) n H w:=by
 let a:=J3 os m n H w;rw[h]at a;let(d,_):=zI h;unfold Bu C5;cases e:dy (aY n H) os m with
 |cons J r=>rw[e]at a;injection a with a;subst a;let(_,s,c,f):=Zn (P:=aY n H) (os:=os) (m:=m) (j:=J) (by rw[e];rwa[RN]);rw[b]at c;cases c;rw[RB f];dsimp only;rw[b]
 |nil=>rw[RD];intro g;let:=rL b g (j - m) m N09;rw[e]at this;cases this
def wD{os:xL aO}{w:Sk}(h:fQ os m n H w=θ):Bu os m n H w b p k=#[[],[],[p++[(k:Int)]],[]]:=by
 let a:=J3 os m n H w;rw[h]at a;unfold Bu;cases e:dy (aY n H) os m with
 |cons j r=>rw[e]at a;cases a
 |nil=>rfl
def BQ(os:xL aO)(m:Nat)(n:Int)(h:xL Int)(w:Sk)(p a:aN)(k:Nat):(Bu os m n h w p a k).tot<=2:=by
 unfold Bu;split
 .rwa[Tb 1]
 .split
  .split
   .rwa[Rv 2]
   .rwa[Rv 2]
  .rwa[RE 2]
def xk{W b:Sk}(o:W.ok ν)(O:b.ok ν)(E:du W=du b)(I:eM c W u [])(j:eM c b U [])(G:V->Hp->Prop)(h:G (.bl (!decide (W.fnd=b.fnd))) c):(O7 O6$ HU 10) (EG W u) (EG b U) c G:=by
 let(F,k):=FV o O E;by_cases H:W.fnd=b.fnd
 .rw[RG H]at h;rcases F H with ⟨f,i,S,A,s,a,rfl,rfl,e⟩ | ⟨rfl,n⟩
  .erw[.inl #[Z,?_]];rw[show decide (EG (.cl f i S A) u=EG (.cl f i s a) U)=μ from RG (by show xb A=xb a;rw[e])];rwa[h]
  .let(l,m,dl,g):=AG o n;rw[xU n,xU n];let T:=Kb o I (λ_=>Z) (λz=>nomatch z);let t:=Kb o j (λ_=>Z) (λz=>nomatch z);rw[m]at T t;erw[.inr #[l,l,dl,g,g,T,t,?_]];rw[zF Z];rwa[h]
 .rw[RC H]at h;rcases k H with ⟨f,i,S,A,s,a,rfl,rfl,e⟩ | ⟨C,p,d,rfl,rfl,e⟩
  .erw[.inl #[Z,?_]];rw[show decide (EG (.cl f i S A) u=EG (.cl f i s a) U)=ν from RC λz=>e (by injection z)];rwa[h]
  .let T:=Kb o I (λ_=>Z) (λz=>nomatch z);let t:=Kb O j (λ_=>Z) (λz=>nomatch z);erw[.inr #[aD [aM "read",au C,au p],aD [aM "read",au C,au d],by show max 0 (max 0$ max 0 0) < 10;decide,#[222,trivial],#[222,trivial],T,t,?_]];rw[zr]
   .rwa[h]
   intro z;injection z with z;injection z with _ z;injection z with _ z;injection z with z _;injection z with z;injection z with z;rwa[e z]
def L4.new(h:L4 H o r k t f d y)(n:H x=θ):x≠k/\x≠t/\x≠f/\x≠d:=by let(_,a,_):=h.kv;let(_,b,_):=h.tv;let(_,c,_):=h.fv;let(_,e,_):=h.dv;exact#[(jk a n).symm,(jk b n).symm,(jk c n).symm,(jk e n).symm]
def dh.kept(b:dh k t f d H a)(n:x≠k/\x≠t/\x≠f/\x≠d)(h:H x=δ o):a x=δ o:=b _ _ n.1 n.2.1 n.2.2.1 n.2.2.2 h
def zK(s:aa H h)(n:h x=θ):H x=θ:=by
 cases z:H x with
 |none=>rfl
 |some o=>rw[s _ _ z]at n;cases n
def OO(os:xL aO)(m i:Nat)(P:aO->Bool)(H:Hp)(z:xL V)(h:Hp):Prop:=aa H h/\ο z<=i/\z++dR (dy P os$ m+i)=dR (dy P os m)
def eZ:am z39z z20z (ae vH):=bP
noncomputable def vJ:ge:=#[.function,[(".0",.local),("_law_j",.local),("_law_old",.free),("_law_step",.free)],ν,ν,[]]
def yb:(z31z:xL ρ).Nodup:=PH
def wJ:bh z39z (ae vH) vJ z31z 1 [0,7]:=oi
noncomputable def vK:ge:=#[.function,[(".0",.local),("_law_j",.local),("_law_old",.free)],ν,ν,[]]
def Gs:(["_law_j","_law_old"]:xL ρ).Nodup:=PH
def FE:bh z39z (ae vH) vK ["_law_j","_law_old"] 1 [0]:=oi
def GP(F:xD K "_law_beside" vH f fd)(cF:{1} fF m1 ["_law_step"] oM "_law_found")(cW:{18} fW m2 z17z (gR 17) "_law_all_in")(cS:{n+20} fS m3 z20z (i6 n) "_law_beside")(m0:mg "enumerate"=θ)(ml:mg "len"=θ)(mr:mg "range"=θ)(mi:mg "int"=θ):⇑(n+21) f fd z20z (i6$ n+1):=by
 erw[F.ok eZ λm4 A o' s H vs Q E hr h=>?_]
 symm;let(D,z,kA,tA,fA,dA,oa,c,na,b,po,pn,f,is,js,S,s1,a0,a1,y,rfl,hL,b9,d3,m5,m6,d4,o1,m7,m8,d5,d6,m9,l',h6,D0,D1,b',q):=h;erw[#[_,%[eZ|_ce5gfHTj (Qb Z m0 %[eZ|_ah1b]) _P (n:=2) _jqi6qI (i:=7) eZ.nd _j (fR Z) _γce8oV3da6bc (@qQ _ _ _ _ _ _ _ _ _ _ 10 z31z 1 [0,7] _ _ _ _ eZ.nd Z (ψ Z) Z (qS Z mr %[eZ|_a5aAεjπζah0bb]) wJ (λ_ _ _ _ _=>ju (i:=0) yb Z$ ψ Z) (λ_ _ _ _ _=>@KP _ _ _ %[eZ|_s (XG (d:=10)$ oj hr) _BιK (r:=db K) _Q (K:=K) _jK (r:=db K) _Q (K:=K) _j1gp0pUygBι2Uygw _]) (λ_ _ _ _ _=>pv 0) Pz Ch Cv) _cev 11 _rbcm (PW.pt %[eZ|_τs (Zm$ Uf$ zW hr) _v 10 _rbw _ _υxhkG7gp]) _c (@qQ _ _ _ _ _ _ _ _ _ _ 12 ["_law_j","_law_old"] 1 [0] _ _ _ _ eZ.nd Z (ψ Z) Z (qS Z mr %[eZ|_a5aAεjπζah0bb]) FE (λ_ _ _ _ _=>ju (i:=0) Gs Z$ ψ Z) (λ_ _ _ _ _=>@KP _ _ _ %[eZ|_s qB _K (r:=db K) _Q (K:=K) _jK (r:=db K) _Q (K:=K) _jK (r:=db K) _Q (K:=K) _jK (r:=db K) _Q (K:=K) _j1gp0pgpgpnw _]) (λ_ _ _ _ _=>pv 0) Pz Ch Cv) _f (@qQ _ _ _ _ _ _ _ _ _ _ 11 z31z 1 [0,7] _ _ _ _ eZ.nd Z (ψ Z) Z (kY$ pv 12) wJ (λ_ _ _ _ _=>ju (i:=0) yb Z$ ψ Z) (λ_ _ _ _ _=>@KP _ _ _ %[eZ|_s (XG (d:=10)$ oj hr) _BιK (r:=db K) _Q (K:=K) _jK (r:=db K) _Q (K:=K) _jK (r:=db K) _Q (K:=K) _jK (r:=db K) _Q (K:=K) _j1gp0pgpgpUygBιK (r:=db K) _Q (K:=K) _jK (r:=db K) _Q (K:=K) _j2gpgpUygw _]) (λ_ _ _ _ _=>pv 0) Pz Ch Cv) _tcms (Zm$ Uf$ zW hr) _v 10 _rbw _ _fzCRαβXh4a8bcev 13 _daoV2dakuv 10 _gpba8bczCRαβXkG4E qT _j mi WY _a (Kt (Hu QZ$ yB (d:=10)$ oj hr) (cF.e hr.m %[eZ|_akGh0kuv 10 _gppb]) (cF.e hr.m %[eZ|_a7b])$ aG _) _bpav 13 _bfzCRαβXh4ahv 13 _bcev 14 _Bσoψv 10 _v 11 _UygcHTjSv 14 _i9ce5oδ9gfmxhkG7gpfz cS.e hr.m _akGhkGkG0gp9pgpahkG7gpaoV2da9ba8a4btfm (PW.pt %[eZ|_τs (Zm$ Uf$ zW hr) _v 14 _rbw _ _υxhkG7gp]) _fzCR Tp To qh _h4a cW.e hr.m _ahkG7gpa8bbt],?_]];let m':=aL;symm;let(_,g0,e0,s8,d7,h1,h2,h3,h4):=id d4;cases d7;let(_,g1,e1,s',d8,k1,k2,k3,k4):=id d5;cases d8;let p0:=zn o1 h4;let p1:=Jh o1 h4;erw[ah λF1 v=>v _ _ ?_];left;erw[eG λJ jj=>(jv k1 eO #[e1,Z,#[_,aC.of k3],jj _ _ ?_])];erw[Jm (K:=K) (xs:=s') (OL D z kA tA fA dA oa c na b po pn f S.steps s' s1 (y.app$ nZ s1 po S.steps 0 pn 0) H) #[θ,θ,θ,θ,θ,θ,θ,θ,θ,0,s1,y,Z,hL,k4,d6,Rv _,Rv _,D1,RE _,Z,λ_ _ _ _ _ _ e=>e] (λk σ Hx _ h=>?_) ?_ (λσ Hx h=>?_)]
 .symm;let(_,_,_,_,_,_,_,_,_,_,_,_,_,_,_,_,_,_,_,_,_,b7):=h;rwa[aC.of$ hL.tm b7 _ _ k3]
 .intro E rt k x pp σ H4 d' f5 fE Gq kq h;symm;let(o6,o7,o8,o9,o4,o5,O,C,o2,m,r2,y4,rfl,L4,w2,w3,w4,w5,w6,w7,w8,b4):=h;let s5:aa H4 (af H4 pp$ .tup [.int k,x]):=je f5;let e5:af H4 pp (.tup [.int k,x]) pp=δ (.tup [.int k,x]):=jc;erw[kq ?_];generalize af H4 pp (.tup [.int k,x])=H5 at s5 e5 ⊢;let b5:=b4.trans (dh.of_same s5);let t':=hL.tm b5;let L5:=L4.same s5;erw[#[pp,12,aC.of e5,21121122,?_]];rw[Cc d']at w2;let w2:=w2.mono (aa.tm s5);symm;cases r2 with
  |nil=>rwa[nomatch (show _::_=[] from w2)]
  |ask _ |rd _ _ |wr _ _ |cl _ _ _ _=>rwa[w3.elim]
  |st N p w r1=>
   let(p',h',u',y8,ex,i1,i2,i3,i4):=w2;injection ex with ex ey;subst ex;subst ey;let d0:w.dep<=s1.dep:=RM (UV _ _) w4;let d2:r1.dep<=s1.dep:=RM (UN _ _) w4;let w5:w.size+r1.size+1<=s1.size:=w5;show cw (dI _ _) (cw _ _) E [↑c,↑b,↑oa,↑na,↑z,δ$ .int (m:Int),δ$ .int k,↑p',o8,o9,o4,o5,O,C,o2] H5;sleep 7;erw[ah λF1 v=>#[1212,i8,λt nt=>#[na,t,1122,aq (t' _ _ d3) nt,jc,by rw[Rs];show _+1<=_;omega,λr9 H9 e9 s9=>v _ _ ?_]]];left;let S9:aa H5 H9:=(je (o:=.tup [.int k]) nt).trans s9;let e9:H9 r9=δ (.tup$ pn.map xb++[.int (k:Int)]):=e9;rw[uk]at e9;let t6:=hL.tm (b5.trans$ dh.of_same S9);erw[ah λF1 v=>#[12,jv (t6 _ _ h1) eO #[e0,12,.inr$ aC.of$ t6 _ _ h3,112,#[PL,PL,PL,PL],?_]]];erw[JO (lo:=(m:Int)) (n:=((s8.length:Int) - (m:Int)).toNat) (λi B Hx=>OO S.steps m i (aY N p) H9 B Hx) #[aa.refl _,Rv 0,Z] PL (λi B Hx h=>h.2.1) ?_ ?_]
   .intro i B Hx hi h;symm;let(W,lz,ez):=h;let h8:m+i < ο S.steps:=by omega
    let X:=Rq h8;right;generalize S.steps[m+i]=o at X;symm;let(q,hq,uq,q1,q2,q3,_,_,_,_):=Yh o1 (h4.mono$ t6.trans$ aa.tm W) X;let ei:(m:Int)+(i:Int)=((m+i:Nat):Int):=PL
    let(gy,gn):=xN X ez;erw[(jv (W _ _$ t6 _ _ h1) eO #[12,e0,11122,aC.of$ W _ _$ t6 _ _ h3,by rw[ei];rwa[jE q1],12,q,12,q2,λt1 Hy a2 sy=>#[1212,p',12,sy _ _$ W _ _$ S9 _ _ i1,λt2 Hz h6 sz=>#[11,rh o.1 o.2.1,XH o.1 o.2.1,XH N p,jG (sz _ _ a2)$ jm Z jX$ jm Z (zi$ sz _ _$ sy _ _ q3) jC,jG h6$ jm Z jX$ jm Z (zi$ sz _ _$ sy _ _$ W _ _$ S9 _ _ i2) jC,12,?_]]])];rw[show ik (.tp$ aD [au o.1,aB$ o.2.1.map au]) (.tp$ aD [au N,aB$ p.map au])=aY N p o from xW (w:=o.2.2)];let c0:=(W.trans sy).trans sz;cases hb:aY N p o with
    |true=>rwa[pJ #[12,c0,by rw[Ru];show _+1<=_;omega,gy hb]]
    |false=>rwa[om #[c0,PL,gn hb]]
   intro B HA h sl n5;symm;let(sA,_,ez):=h;rw[KI PL]at ez;let ez:B=dR (dy (aY N p) S.steps m):=by rw[<- ez];exact(Sb _).symm
   subst ez;erw[v _ _ ?_];left;let sB:aa HA (af HA sl$ .lst$ dR$ dy (aY N p) S.steps m):=je n5;let eB:af HA sl (.lst$ dR$ dy (aY N p) S.steps m) sl=δ (.lst$ dR$ dy (aY N p) S.steps m):=jc;generalize af HA sl (.lst$ dR$ dy (aY N p) S.steps m)=HB at sB eB ⊢;erw[ah λF1 v=>#[gU,λlA n6=>v _ _ ?_]];left;let sC:aa HB (af HB lA$ .lst []):=je n6;let eC:af HB lA (.lst []) lA=δ (.lst []):=jc;generalize af HB lA (.lst [])=HC at sC eC ⊢;let SC:aa H5 HC:=((S9.trans sA).trans sB).trans sC;let eB:=sC _ _ eB;let t9:=t'.trans (aa.tm SC);let e9:=sC _ _ (sB _ _$ sA _ _ e9);let n7:H5 lA=θ:=zK ((S9.trans sA).trans sB) n6;let f6:H5 sl=θ:=zK (S9.trans sA) n5;let p2:=X1 (aY N p) S.steps m;let p4:=Cq S.steps m N p w;erw[ah λF1 v=>?_];suffices g2:∀(l2:ζ) (O:ym V) (HD:Hp),H5 l2=θ->aa HC HD->HD l2=δ (.lst$ dR$ nh S.steps m N p w)->F1 [↑c,↑b,↑oa,↑na,↑z,δ$ .int (m:Int),δ$ .int k,↑p',↑r9,o9,↑sl,↑l2,O,C,o2] HD by
    left;erw[#[12,gU,λl0 n0=>#[sl,l0,122,aq eB n0,jc,12,?_]]];let sD:aa HC (af HC l0$ .lst []):=je n0;generalize af HC l0 (.lst [])=HD at sD ⊢;let SD:=SC.trans sD;rw[YS];cases e2:dy (aY N p) S.steps m with
    |cons j0 r0=>
     erw[a9 Z$ a9 Z$ g2 lA O HD n7 sD ?_];let z:nh S.steps m N p w=[]:=by unfold nh;rw[e2];rfl
     rw[z];rwa[sD _ _ eC]
    |nil=>
     erw[dB Z ?_];symm;let(p3,v3,r3,eu,h7,h0):=KH w3.1 (i3.mono$ aa.tm SD);subst eu;erw[(jv (SD _ _ i1) eO #[p3,11122,aC.of h7,eQ,212,?_])];rw[Jz];symm;by_cases hv:v3="call"
     .erw[dB (RG hv) ?_];symm;let(g,L,sw,aw,rfl):=h0.mp hv;let zl:nh S.steps m N p (.cl g L sw aw)=dy (dm g L) S.steps m:=by unfold nh;rw[RB e2]
      rw[zl]at g2;let(x1,c1,g4,e4,s3,e3,j1,j2,j3,j4,j5):=i3.mono (aa.tm SD);cases e3;let t0:=t9.trans (aa.tm sD);erw[ah λF2 f2=>#[12,jv (t0 _ _ h1) eO #[e0,12,.inr$ aC.of$ t0 _ _ h3,112,#[PL,PL,PL,PL],?_]]];erw[JO (lo:=(m:Int)) (n:=((s8.length:Int) - (m:Int)).toNat) (λi B Hx=>OO S.steps m i gm HD B Hx) #[aa.refl _,Rv 0,Z] PL (λi B Hx h=>h.2.1) ?_ ?_]
      .intro i B Hx hi h;symm;let(W,lz,ez):=h;let h8:m+i < ο S.steps:=by omega
       let X:=Rq h8;right;generalize S.steps[m+i]=o at X;symm;let(q,hq,uq,q1,q2,q3,q4,q5,_,_):=Yh o1 (h4.mono$ t0.trans$ aa.tm W) X;let ei:(m:Int)+(i:Int)=((m+i:Nat):Int):=PL
       let(gy,gn):=xN X ez;let(p5,v5,r5,eu,f7,f8):=FD q5 q4;subst eu;erw[(jv (W _ _$ t0 _ _ h1) eO #[12,e0,11122,aC.of$ W _ _$ t0 _ _ h3,by rw[ei];rwa[jE q1],q,11122,aC.of q2,eO,p5,11122,aC.of f7,eQ,212,?_])];rw[Jz,f8 o.1 o.2.1];cases hb:gm o with
       |true=>rwa[pJ #[12,W,by rw[Ru];show _+1<=_;omega,gy hb]]
       |false=>rwa[om #[W,PL,gn hb]]
      intro B HE h ca f9;symm;let(sE,_,ez):=h;rw[KI PL]at ez;let ez:B=dR (dy gm S.steps m):=by rw[<- ez];exact(Sb _).symm
      subst ez;erw[f2 _ _ ?_];left;let sF:aa HE (af HE ca$ .lst$ dR$ dy gm S.steps m):=je f9;let eF:af HE ca (.lst$ dR$ dy gm S.steps m) ca=δ (.lst$ dR$ dy gm S.steps m):=jc;generalize af HE ca (.lst$ dR$ dy gm S.steps m)=HF at sF eF ⊢;let SF:=(sD.trans sE).trans sF;let t3:=t9.trans (aa.tm SF);let S6:=SC.trans SF;let p6:=X1 gm S.steps m;erw[#[12,ca,Z,#[_,aJ.of eF],?_]];erw[Qy (K:=K) (a:=ca) (xs:=dR (dy gm S.steps m)) (by rw[KJ];omega) (λi B Hx=>aa HF Hx/\ο B<=i/\B=dR (((dy gm S.steps m).take i).filter$ Ei (dm g L) S.steps)) #[aa.refl _,Rv 0,Z] (λi B Hx h=>#[aJ.of$ h.1 _ _ eF,h.2.1]) ?_ ?_]
      .intro i x B Hx G h;symm;let(W,lz,ez):=h;unfold dR at G;rw[RP]at G;let(j,hj,rfl):=cJ.mp G;let(_,o,X,f'):=Zn (RL hj);let et:(dy gm S.steps m).take (i+1)=(dy gm S.steps m).take i++[j]:=by rw[SX,hj];rfl
       let(q,hq,uq,q1,q2,q3,q4,q5,_,_):=Yh o1 (h4.mono$ t3.trans$ aa.tm W) X;let(no,h5,wo):=o;let q4:eM Hx wo uq []:=q4;let ea:Ei (dm g L) S.steps j=dm g L (no,h5,wo):=by unfold Ei;rw[X]
       let f0:∀Hz,aa Hx Hz->dm g L (no,h5,wo)=μ->aa HF Hz/\(B++[xb (j:Int)]).length<=i+1/\B++[xb (j:Int)]=dR (((dy gm S.steps m).take$ i+1).filter$ Ei (dm g L) S.steps):=λHz sz hb=>by rw[et,U2,<- X2,<- ez];exact#[W.trans sz,by rw[Ru];show _+1<=_;omega,by rw[WK (by rw[ea];rwa[hb])];rfl]
       let f3:∀Hz,aa Hx Hz->dm g L (no,h5,wo)=ν->aa HF Hz/\ο B<=i+1/\B=dR (((dy gm S.steps m).take$ i+1).filter$ Ei (dm g L) S.steps):=λHz sz hb=>by rw[et,U2,<- X2,<- ez];exact#[W.trans sz,PL,by rw[WL (by rw[ea,hb];intro z;cases z)];exact(Sb _).symm]
       cases wo with
       |cl g5 l3 c2 a5=>
        let(x5,c5,g6,e',c3,rfl,y1,y2,y3,_):=q4;erw[(jv (W _ _$ t3 _ _ h1) eO #[12,e0,11122,aC.of$ W _ _$ t3 _ _ h3,jE q1,q,11122,aC.of q2,eO,x5,11122,aC.of y1,gY,12,c5,12,y2,λt1 Hy a2 sy=>?_])];let Sy:=(S6.trans W).trans sy;erw[(jv (Sy _ _ i1) eO #[p3,11122,aC.of$ sy _ _$ W _ _$ sF _ _$ sE _ _ j1,gY,12,c1,12,sy _ _$ W _ _$ sF _ _$ sE _ _ j2,λt2 Hz h6 sz=>#[11,Gx g5 l3,EJ g5 l3,EJ g L,jG (sz _ _ a2)$ jm Z jT$ jm Z (zi$ sz _ _$ sy _ _ y3) jC,jG h6$ jm Z jT$ jm Z (zi$ sz _ _$ sy _ _$ W _ _$ sF _ _$ sE _ _ j3) jC,12,?_]])];rw[show ik (.tp$ aD [aM g5,aB$ l3.map au]) (.tp$ aD [aM g,aB$ L.map au])=dm g L (no,h5,.cl g5 l3 c2 a5) from Cp];cases hb:dm g L (no,h5,.cl g5 l3 c2 a5) with
        |true=>rwa[pJ #[12,f0 Hz (sy.trans sz) hb]]
        |false=>rwa[om (f3 Hz (sy.trans sz) hb)]
       |_=>cases f'
      intro B HG h l2 n';symm;let(sG,_,ez):=h;rw[KJ,Su,Qz (λs hs=>Mj s hs) S.steps _ m Z]at ez;subst ez;rwa[g2 l2 _ _ (zK (S6.trans sG) n') ((SF.trans sG).trans$ je n') jc]
     .erw[a9 (RC hv)$ g2 lA O HD n7 sD ?_];let z:nh S.steps m N p w=[]:=by
       unfold nh;rw[RB e2];symm;cases w with
       |cl f is s a=>rwa[absurd (h0.mpr #[f,is,s,a,Z]) hv]
       |_=>right;rfl
      rw[z];rwa[sD _ _ eC]
   intro l2 O HD n2 sD eD;erw[v _ _ ?_];left;let SD:=SC.trans sD;let t0:=t9.trans (aa.tm sD);let LD:=L5.same SD;let eS:=sD _ _ eB;let e9:=sD _ _ e9;let bD:=b5.trans (dh.of_same SD);let a3:=SD _ _ i1;let p9:=SD _ _ i2;let i0:=i3.mono (aa.tm SD);let g7:=i4.mono (aa.tm SD);let tt:=b';rw[<- w8,Ly.tot_app]at tt;let q0:=BQ S.steps m N p w po pn k;erw[ah λF1 v=>?_];suffices I:∀(C:ym V) (HE:Hp),Lt HE z kA tA fA dA (y4.app$ Bu S.steps m N p w po pn k)->dh kA tA fA dA HD HE->F1 [↑c,↑b,↑oa,↑na,↑z,δ$ .int (m:Int),δ$ .int k,↑p',↑r9,o9,↑sl,↑l2,O,C,o2] HE by
    left;erw[#[12,gU,λl0 n0=>#[sl,l0,122,aq eS n0,jc,12,?_]]];let s2:aa HD (af HD l0$ .lst []):=je n0;generalize af HD l0 (.lst [])=HE at s2 ⊢;let LE:=LD.same s2;let ty:ο y4.f<=y4.tot/\ο y4.k<=y4.tot/\ο y4.t<=y4.tot/\ο y4.d<=y4.tot:=by unfold Ly.tot;omega
    rw[YS];unfold Bu at I;cases e2:dy (aY N p) S.steps m with
    |nil=>rw[e2]at I;erw[dB Z ?_];symm;let(xs,G,lx):=LE.fv;let l4:=lx.len;erw[(jv LE.ins eO #[.inl #[21,aJ.of G],12,fA,1122,G,PL,?_])];symm;let(L3,b3):=LE.setF G (bq.one (R:=eU) (w:=pn++[(k:Int)]) #[r9,Z,s2 _ _ e9]);rwa[I C _ L3 ((dh.of_same s2).trans b3)]
    |cons j r=>
     symm;let(g8,o,X,g'):=Zn (P:=aY N p) (os:=S.steps) (m:=m) (j:=j) (by rw[e2];rwa[RN]);rw[e2]at I;dsimp only at I;rw[X]at I;dsimp only at I;let(l1,l5):=xV g';let(d1,_):=Z9 D0 X;let dd:du o.2.2=du w:=by rw[d1,l1,l5,w6.1]
     let c4:HE sl=δ (.lst (xb (j:Int)::dR r)):=by let z:=s2 _ _ eS;rw[e2]at z;rwa[z]
     erw[a9 Z ?_];erw[ah λF2 f2=>#[1212,sl,11122,aJ.of c4,eQ,i8,λt nt=>#[oa,t,1122,aq (s2 _ _$ t0 _ _ b9) nt,jc,by rw[Rs];show _+1<=_;omega,λM H0 T s7=>#[12,cg,λpr j'=>f2 _ _ ?_]]]];left;let u:aa HE H0:=(je (o:=.tup [.int (j:Int)]) nt).trans s7;let T:H0 M=δ (.tup$ po.map xb++[.int (j:Int)]):=T;rw[uk]at T;let s4:aa H0 (af H0 pr$ .tup [.ref M,.ref r9]):=je j';let e6:af H0 pr (.tup [.ref M,.ref r9]) pr=δ (.tup [.ref M,.ref r9]):=jc;generalize af H0 pr (.tup [.ref M,.ref r9])=H1 at s4 e6 ⊢;let U:=(s2.trans u).trans s4;let t4:=t0.trans (aa.tm U);let Y:=LD.same U;symm;let(q,hq,uq,q1,q2,q3,q4,q5,_,_):=Yh o1 (h4.mono t4) X;let rp:pE H1 (.ref pr) (po++[(j:Int)],pn++[(k:Int)]):=#[pr,M,r9,Z,e6,s4 _ _ T,U _ _ e9];let e7:H1 sl=δ (.lst (xb (j:Int)::dR r)):=s4 _ _ (u _ _ c4);by_cases hf:o.2.2.fnd=w.fnd
     .rw[RB hf]at I;let(xs,G,lx):=Y.kv;let l4:=lx.len;erw[ah λF2 f2=>#[12,jv (t4 _ _ h1) eO #[12,sl,11122,aJ.of e7,eQ,e0,11122,aC.of$ t4 _ _ h3,jE q1,q,hq,o.1,uq,o.2.2,Z,q2,q4,q5,12,p',h',N,u',w,Z,U _ _ a3,i0.mono$ aa.tm U,w3.1,xk q5 w3.1 dd q4 (i0.mono$ aa.tm U) _$ .inr #[_,Eq.refl _,z,11,xm kA,22,aC.of Y.ins,by rw[RG hf];rfl,.inl #[21,aJ.of G],12,kA,1122,G,PL,f2 _ _ ?_]]]];left;symm;let(L0,b0):=Y.setK G (bq.one (R:=pE) rp);let t5:=Y.tm b0;right;generalize af H1 kA (.lst$ xs++[.ref pr])=H2 at L0 b0 t5 ⊢;symm;let(B,hz,lz):=L0.dv;let l6:ο B=ο y4.d:=by rw[lz.len];show(y4.d++[]).length=_;rw[Sb]
      erw[(jv L0.ins LC #[.inl #[21,aJ.of hz],jv (t5 _ _ e6) eQ #[dA,1122,hz,PL,?_]])];symm;let(L1,b1):=L0.setD hz (bq.one (R:=eU) (w:=po++[(j:Int)]) #[M,Z,t5 _ _$ s4 _ _ T]);rw[Ly.app_assoc]at L1;rwa[I _ _ L1 (((dh.of_same U).trans b0).trans b1)]
     .rw[RD hf]at I;let(xs,G,lx):=Y.tv;let l4:=lx.len;erw[ah λF2 f2=>#[12,jv (t4 _ _ h1) eO #[12,sl,11122,aJ.of e7,eQ,e0,11122,aC.of$ t4 _ _ h3,jE q1,q,hq,o.1,uq,o.2.2,Z,q2,q4,q5,12,p',h',N,u',w,Z,U _ _ a3,i0.mono$ aa.tm U,w3.1,xk q5 w3.1 dd q4 (i0.mono$ aa.tm U) _$ .inr #[_,Eq.refl _,z,11,xm tA,22,aC.of Y.ins,by rw[RC hf];rfl,.inl #[21,aJ.of G],12,tA,1122,G,PL,f2 _ _ ?_]]]];left;symm;let(L0,b0):=Y.setT G (bq.one (R:=pE) rp);let t5:=Y.tm b0;right;generalize af H1 tA (.lst$ xs++[.ref pr])=H2 at L0 b0 t5 ⊢;symm;let(B,hz,lz):=L0.dv;let l6:ο B=ο y4.d:=by rw[lz.len];show(y4.d++[]).length=_;rw[Sb]
      erw[(jv L0.ins LC #[.inl #[21,aJ.of hz],jv (t5 _ _ e6) eQ #[dA,1122,hz,PL,?_]])];symm;let(L1,b1):=L0.setD hz (bq.one (R:=eU) (w:=po++[(j:Int)]) #[M,Z,t5 _ _$ s4 _ _ T]);rw[Ly.app_assoc]at L1;rwa[I _ _ L1 (((dh.of_same U).trans b0).trans b1)]
   intro C HE LE bE;erw[v _ _ ?_];left;let t7:=LD.tm bE;let c6:=t0.trans t7;let nS:=L5.new f6;let k0:=L5.new n2;let eS:=bE.kept nS eS;let eD:=bE.kept k0 eD;let e9:=t7 _ _ e9;let k5:=t7 _ _ a3;let k6:=i0.mono t7;let k7:=g7.mono t7;let k8:=bD.trans bE;let q':=(dh.of_same SD).trans bE;let r6:=KJ (dy (aY N p) S.steps m);let r7:=KJ (nh S.steps m N p w);sleep 2;erw[ah λF1 v=>#[1212,sl,l2,1122,eS,eD,PL,λcA c9=>#[12,cA,12,aJ.of jc,λbA n4=>v _ _ ?_]]];left;let sF:aa HE (af (af HE cA$ .lst$ dR (dy (aY N p) S.steps m)++dR (nh S.steps m N p w)) bA$ .lst$ aQ (dR (dy (aY N p) S.steps m)++dR (nh S.steps m N p w)) θ$ δ 1):=(je c9).trans (je n4);let eF:af (af HE cA$ .lst$ dR (dy (aY N p) S.steps m)++dR (nh S.steps m N p w)) bA (.lst$ aQ (dR (dy (aY N p) S.steps m)++dR (nh S.steps m N p w)) θ$ δ 1) bA=δ (.lst$ dR ((dy (aY N p) S.steps m++nh S.steps m N p w).take 1)):=by rw[jc,X2,LP]
   generalize af (af HE cA$ .lst$ dR (dy (aY N p) S.steps m)++dR (nh S.steps m N p w)) bA (.lst$ aQ (dR (dy (aY N p) S.steps m)++dR (nh S.steps m N p w)) θ$ δ 1)=HF at sF eF n4 ⊢;rw[Nn,J3]at eF;let LF:=LE.same sF;let t3:=c6.trans (aa.tm sF);let b2:=k8.trans (dh.of_same sF);let i':=sF _ _ k5;let a4:=k6.mono (aa.tm sF);let a':=k7.mono (aa.tm sF);let c':=sF _ _ e9;symm;let(p3,v3,r3,eu,h7,h0):=KH w3.1 a4;subst eu;right;cases ht:fQ S.steps m N p w with
   |none=>
    rw[ht]at eF;let eF:HF bA=δ (.lst []):=eF;rw[wD ht]at LF;rw[YR ht]at w8;let t8:=tt;rw[YR ht,Ly.tot_app]at t8;let pl:=Qh w3.1 (pn++[(k:Int)]);let z2:(#[[],[],c8 (pn++[(k:Int)]) w,[]]:Ly).tot=w.size+1:=by show 0+0+(c8 (pn++[(k:Int)]) w).length+0=_;rw[pl];omega
    rw[z2]at t8;erw[ah λF1 v=>eG λJ jj=>#[12,bA,Z,#[_,aJ.of eF],jj _ _ ?_]];erw[qi (K:=K) (a:=bA) (xs:=[]) (λ_ σ H'=>σ=[↑c,↑b,↑oa,↑na,↑z,δ$ .int (m:Int),δ$ .int k,↑p',↑r9,o9,↑sl,↑l2,O,C,↑bA]/\H'=HF) #[22] (λi σ H' _ h=>by rw[h.2];rwa[aJ.of eF]) (λE2 r4 i x σ H' G=>absurd G PJ) (λσ H' h=>v _ _ ?_)];left;symm;let(rfl,rfl):=h;erw[ms λG1 yT yF=>#[12,gU,λl0 n0=>#[bA,l0,122,aq eF n0,jc,12,?_]]];let sG:aa H' (af H' l0$ .lst []):=je n0;generalize af H' l0 (.lst [])=HG at sG ⊢;erw[dB Z$ jv (sG _ _ i') eO #[p3,11122,aC.of$ sG _ _ h7,eQ,212,?_]];let LG:=LF.same sG;rw[Jz];symm;by_cases hv:v3="call"
    .let(g,L,sw,aw,rfl):=h0.mp hv;right;rw[RG hv];symm;let(x1,c1,g4,e4,s3,e3,j1,j2,j3,j4,j5):=a4.mono (aa.tm sG);cases e3;let(xs,G,lx):=LG.fv;let l4:ο xs=ο y4.f+1:=by rw[lx.len];exact Ru
     let ty:ο y4.f<=y4.tot:=by unfold Ly.tot;omega
     let d0:sw.dep+1<=s1.dep:=d0;let o3:sw.ok μ:=w3.1;let k9:(Sk.cl g L sw aw).size=sw.size:=rfl;erw[yT _$ jv LG.ins eO #[.inl #[21,aJ.of G],jv (sG _ _ i') eO #[p3,11122,aC.of j1,gY,12,r9,pn++[(k:Int)],g,L,sw,aw,.ref c1,Z,sG _ _ c',by rw[Ru];show _+1+_<=_;omega,#[c1,g4,e4,s3,Z,j2,j3,j4,j5],o3,PL,PL,λl B HI nl hl hz sI=>?_]]];let lz:=hz.len;rw[Rs,zj o3]at lz;symm;let(L7,b7):=(LG.same sI).setF (sI _ _ G) hz;erw[#[fA,l,1122,sI _ _ G,hl,PL,fE _ _ #[111111111,m,r1,12,L7,?_,w3.2,d2,PL,w6.2.2,w7,?_,?_]]]
     .exact(a'.mono$ aa.tm$ sG.trans sI).mono ((LG.same sI).tm b7)
     .rw[<- w8,Ly.app_assoc,Ly.app_assoc,<- Ly.app_assoc _ _ (nZ r1 po S.steps m pn$ k+1)];rfl
     .exact(b2.trans$ dh.of_same$ sG.trans sI).trans b7
    .right;rw[RC hv];erw[yF _$ fE _ _ #[111111111,m,r1,12,LG,a'.mono$ aa.tm sG,w3.2,d2,PL,w6.2.2,w7,?_,b2.trans$ dh.of_same sG]];let e0:c8 (pn++[(k:Int)]) w=[pn++[(k:Int)]]:=by
      let o3:=w3.1;symm;cases w with
      |nil |st _ _ _ _=>rwa[o3.elim]
      |cl f is s a=>rwa[absurd (h0.mpr #[f,is,s,a,Z]) hv]
      |_=>right;rfl
     rw[e0]at w8;rw[Ly.app_assoc];rwa[w8]
   |some j=>
    rw[ht]at eF;let eF:HF bA=δ (.lst [xb (j:Int)]):=eF;symm;let(g8,o,X,r8):=zI ht;let r':=(ξ.mp X).1;let bs:=wC (r:=r1) (po:=po) (pn:=pn) (k:=k) ht X;rw[<- wF (po:=po) (pn:=pn) (k:=k) ht X]at bs;let t8:=tt;rw[bs,Ly.tot_app,Ly.tot_app]at t8;rw[bs]at w8;let n3:bA≠kA/\bA≠tA/\bA≠fA/\bA≠dA:=(LE.same$ je c9).new n4;erw[ah λF1 v=>eG λJ jj=>#[12,bA,Z,#[_,aJ.of eF],jj _ _ ?_]];erw[qi (K:=K) (a:=bA) (xs:=[xb (j:Int)]) (λi σ H'=>(i=0/\σ=[↑c,↑b,↑oa,↑na,↑z,δ$ .int (m:Int),δ$ .int k,↑p',↑r9,o9,↑sl,↑l2,O,C,↑bA]/\H'=HF)∨(i=1/\σ=[↑c,↑b,↑oa,↑na,↑z,δ$ .int ((j+1:Nat):Int),δ$ .int k,↑p',↑r9,δ$ .int (j:Int),↑sl,↑l2,O,C,↑bA]/\Lt H' z kA tA fA dA ((y4.app$ Bu S.steps m N p w po pn k).app$ nZ w (po++[(j:Int)]) (um o.2.2) 0 (pn++[(k:Int)]) 0)/\dh kA tA fA dA HF H')) (.inl #[222]) (λi σ H' _ h=>?_) ?_ (λσ H' h=>v _ _ ?_)]
    .symm;rcases h with ⟨_,_,rfl⟩ | ⟨_,_,_,b8⟩
     .rwa[aJ.of eF]
     .rwa[aJ.of$ b8.kept n3 eF]
    .left;intro E2 r4 i x σ H' G f4 Gq kq h;symm;rcases h with ⟨rfl,rfl,rfl⟩ | ⟨rfl,_⟩
     .cases G;erw[kq ?_];show cw (dI _ _) _ E2 [↑c,↑b,↑oa,↑na,↑z,δ$ .int (m:Int),δ$ .int k,↑p',↑r9,δ$ .int (j:Int),↑sl,↑l2,O,C,↑bA] H';erw[ah λF2 f2=>#[121122,f2 _ _ ?_]];left;let ej:(j:Int)+1=((j+1:Nat):Int):=by omega
      show lh _ _ _ E2 [↑c,↑b,↑oa,↑na,↑z,δ$ .int ((j:Int)+1),δ$ .int k,↑p',↑r9,δ$ .int (j:Int),↑sl,↑l2,O,C,↑bA] H';rw[ej];erw[ms λG1 yT yF=>(jv i' eO #[p3,11122,aC.of h7,eQ,212,?_])];rw[Jz];symm;by_cases hv:v3="call"
      .let(g,L,sw,aw,rfl):=h0.mp hv;right;rw[RG hv];symm;let(q,hq,uq,q1,q2,q3,q4,q5,q6,q7):=Yh o1 (h4.mono t3) X;let(s6,ao,e8):=IM (s:=.nil) o1 D0 ht X q5 w6.1 g L sw aw Z;let(no,h5,wo):=o;let e8:wo= .cl g L s6 ao:=e8;subst e8;let(x5,c5,g6,e',c3,rfl,y1,y2,y3,y0,y5):=q4;let(x1,c1,g4,e4,s3,e3,j1,j2,j3,j4,j5):=a4;cases e3;let d0:sw.dep+1<=s1.dep:=d0;let q6:s6.dep+1<=S.dep:=q6;let q7:s6.size+1<=S.size:=q7;let k9:(Sk.cl g L sw aw).size=sw.size:=rfl;erw[yT _$ jv (t3 _ _ h1) eO #[12,e0,11122,aC.of$ t3 _ _ h3,jE q1,q,11122,aC.of q2,eO,x5,11122,aC.of y1,gY,jv i' eO #[p3,11122,aC.of j1,gY,1212,i8,λt nt=>#[oa,t,1122,aq (t3 _ _ b9) nt,jc,by rw[Rs];show _+1<=_;omega,λM H0 T s7=>?_]]]];let u:aa H' H0:=(je (o:=.tup [.int (j:Int)]) nt).trans s7;let T:H0 M=δ (.tup$ po.map xb++[.int (j:Int)]):=T;rw[uk]at T;let k':Dt D g s6:=(Z9 D0 X).2;let l8:Dt D g sw:=w6.2.1;erw[#[1212,D,z,kA,tA,fA,dA,M,c5,r9,c1,po++[(j:Int)],pn++[(k:Int)],g,L,L,s6,sw,ao,aw,12,LF.same u,T,u _ _ c',by rw[Ru];show _+1+_<=_;omega,by rw[Ru];show _+1+_<=_;omega,#[c5,g6,e',c3,Z,u _ _ y2,u _ _ y3,u _ _ y0,y5.mono$ aa.tm u],q5,PL,PL,#[c1,g4,e4,s3,Z,u _ _ j2,u _ _ j3,u _ _ j4,j5.mono$ aa.tm u],w3.1,PL,PL,PL,k',l8,?_,λH1 Y l9=>f4 _ _ (.inr #[22,Y,(dh.of_same u).trans l9])]];let u0:y4.tot+((Bu S.steps m N p (.cl g L sw aw) po pn k).tot+((nZ sw (po++[(j:Int)]) s6.steps 0 (pn++[(k:Int)]) 0).tot+(nZ r1 po S.steps (j+1) pn$ k+1).tot))<=100000:=t8;rw[Ly.tot_app,Ly.tot_app];omega
      .right;rw[RC hv];erw[yF _$ f4 _ _$ .inr #[22,?_,λ_ _ _ _ _ _ e=>e]];rw[wB w3.1 (λf is s a e=>hv (h0.mpr #[f,is,s,a,e])),Ly.app_nil];rwa[LF]
     .rwa[absurd G PJ]
    .symm;rcases h with ⟨z0,_⟩ | ⟨_,rfl,L8,b8⟩
     .rwa[absurd z0 PJ]
     erw[ms λG1 yT yF=>#[12,gU,λl0 n0=>#[bA,l0,122,aq (b8.kept n3 eF) n0,jc,12,a9 Z$ yF _$ fE _ _ #[111111111,j+1,r1,12,L8.same$ je n0,?_,w3.2,d2,PL,w6.2.2,PL,?_,?_]]]]
     .exact(a'.mono$ LF.tm b8).mono (aa.tm$ je n0)
     .rw[Ly.app_assoc,Ly.app_assoc];rwa[w8]
     .exact(b2.trans b8).trans (dh.of_same$ je n0)
 .symm;let(o6,o7,o8,o9,o4,o5,O,C,o2,m,r2,y4,rfl,L4,w2,w3,w4,w5,w6,w7,w8,b4):=h;rw[List.drop_length]at w2;cases r2 with
  |st n hs w r=>let(_,_,_,_,z,_):=w2;cases z
  |ask _ |rd _ _ |wr _ _ |cl _ _ _ _=>rwa[w3.elim]
  |nil=>have w8:y4.app .nil=_:=w8;rw[Ly.app_nil]at w8;rwa[q Hx (w8▸L4) b4]
noncomputable def LY(H:Hp)(p:aN):η->Bool
 | .ref a=>match H a with
  |some (.tup x)=>decide (x=p.map xb)
  |_=>ν
 |_=>ν
def xP{p q:aN}:p.map xb=q.map xb↔p=q:=#[λh=>(List.map_inj_right λa b e=>by injection e).mp h,λh=>by rw[h]]
def wU{H:Hp}{q:aN}(h:H a=δ (.tup$ q.map xb)):LY H p (.ref a)=decide (q=p):=by
 show(match H a with |some (.tup x)=>decide (x=p.map xb) |_=>ν)=_;rw[h];dsimp only;by_cases e:q=p
 .rw[RG e,RG (by rw[e])]
 .rw[RC e,RC λz=>e (xP.mp z)]
def D3{p q:aN}:ik (aB$ q.map au) (aB$ p.map au)=decide (q=p):=by
 by_cases e:q=p
 .rw[RG e,e,zF Z]
 .rw[RC e,zr];intro z;let z:Tr.tp (aD$ q.map au)= .tp (aD$ p.map au):=z;injection z with z;rwa[e$ qK z]
theorem p8:∀{b:xL aN} {X:xL V} {u:xL η},bq eU H b X->aF X u->u.any (LY H p)=decide (p∈b)
 | [],_,_,h,r=>by let h:_=[]:=h;subst h;cases r;simp
 |q::b,_,_,Q,r=>by
  obtain⟨x,y,e,⟨a,E,c⟩,h⟩:=Q;subst e;subst E;cases r with
  |cons R d=>
   cases R;rw[UO,p8 h d,wU c];by_cases e:q=p
   .subst e;simp
   .rw[RC e];simp [Sc e]
theorem xZ:∀{p:xL aN} {X:xL V} {U:xL η},bq eU H p X->aF X U->∀u∈U,∃(a:ζ) (q:aN),u= .ref a/\H a=δ (.tup$ q.map xb)
 | [],_,_,h,r,u,hu=>by let h:_=[]:=h;subst h;cases r;cases hu
 |q::p,_,_,Q,r,u,hu=>by
  obtain⟨x,y,e,⟨a,E,b⟩,h⟩:=Q;subst e;subst E;cases r with
  |cons R c=>
   cases R;rcases Ξ.mp hu with rfl |hu
   .exact#[a,q,Z,b]
   .rwa[xZ h c u hu]
inductive Km(x y:V)(H:Hp)(Q:VK):Prop
 |mk(a l:ζ)(p:aN)(b:xL aN)(c:xL V)(_:x= .ref a)(_:y= .ref l)(_:H a=δ (.tup (p.map xb)))(_:H l=δ (.lst c))(_:bq eU H b c)(_:Q (.bl (decide (p∉b))) H)
def vw{X:Cx}(j:X.A.in1.units+10 < cLine):gf X (compareOp .NotIn) Km:=by
 intro f s z H x y v u Q I R k h;let(a,l,p,d,B,rfl,rfl,m,n,L,q):=h;cases R;cases k;let(i,r,o,C):=I.list (aJ.of (K:=X.K) n);erw[PySem.SeqAt.notIn_listAt (LY H p) o.isList (λw t=>?_) #[.bl _,H,I,Z,?_]]
 .let(b,c,rfl,g):=xZ L r w (t:);rw[wU g,<- D3];rwa[XF I 10 (aB$ c.map au) (by show(aD$ c.map au).dep+1<=10;rw[zo];decide) j (show(aB$ c.map au).In from zB c) Z (u:=aB (p.map au)) (show(aB$ p.map au).In from zB p) Z (zi g) (zi m) _ _ Z Z]
 .rw[show i.toArray.any (LY H p)=i.any (LY H p) by simp,p8 L r];let e:(!decide (p∈d))=decide (p∉d):=by by_cases h:p∈d<;>simp [h]
  rw[e];rwa[q]
def uL(h:cf k A):A.in1.units+10 < cLine:=by let:=h.un;show A.units+1+10 < cLine;omega
inductive tH(k:xL V)(H:Hp)(Q:VK)(a:XK):Prop
 |mk(D:DF)(c b:ζ)(f:ρ)(g h:xL Int)(i j:Sk)(d e:Int)(_:k=[.ref c,.ref b])(_:io H f g i d (.ref c))(_:i.ok μ)(_:i.dep<=15)(_:i.size<=60)(_:io H f h j e (.ref b))(_:j.ok μ)(_:j.dep<=15)(_:j.size<=60)(_:Dt D f i)(_:Dt D f j)(_:∀(z kA tA fA dA:ζ) (xt xf:xL V) (fs:xL aN) (H':Hp),H' z=δ (.tup [.ref kA,.ref tA,.ref fA,.ref dA])->H' tA=δ (.lst xt)->bq pE H' (iN j [] i.steps 0 [] 0).t xt->H' fA=δ (.lst xf)->bq eU H' fs xf->fs.Perm (iN j [] i.steps 0 [] 0).f->aa H H'->Q (.ref z) H')
theorem JA:∀{b:Bool} {s:Sk},s.ok b->∀(a:aN) (os:xL aO) (m:Nat) (p:aN) (k:Nat),(iN s a os m p k).k.length+(iN s a os m p k).t.length+(iN s a os m p k).f.length<=s.size
 |true,.nil,_,_,_,_,_,_=>Rv 0
 |true,.st n H w r,o,a,os,m,p,k=>by
  show _<=w.size+r.size+1;cases h:fQ os m n H w with
  |none=>rw[Qi h];let d:=JA o.2 a os m p (k+1);let c:=Qh o.1 (p++[(k:Int)]);show([]++_:xL BF).length+([]++_:xL BF).length+(c8 (p++[(k:Int)]) w++_).length<=_;rw[V0,V0,Ru,c];omega
  |some j=>
   let(e,x,g,_):=zI h;rw[Qj h g];let c:=JA o.1 (a++[(j:Int)]) (um x.2.2) 0 (p++[(k:Int)]) 0;let d:=JA o.2 a os (j+1) p (k+1);let i:(one (a++[(j:Int)]) x (p++[(k:Int)]) n H w).k.length+(one (a++[(j:Int)]) x (p++[(k:Int)]) n H w).t.length+(one (a++[(j:Int)]) x (p++[(k:Int)]) n H w).f.length<=1:=by
    unfold one;split
    .split<;>rwa[Rv 1]
    .rwa[Rv 1]
   show(([]++(_++_))++_:xL BF).length+(([]++(_++_))++_:xL BF).length+(([]++(_++_))++_:xL aN).length<=_;simp only[Ru,V0];omega
 |false,.cl _ _ s _,o,a,os,m,p,k=>JA (b:=μ) (s:=s) o a os m p k
 |false,.ask _,_,_,_,_,_,_ |false,.rd _ _,_,_,_,_,_,_ |false,.wr _ _,_,_,_,_,_,_=>RE _
theorem JB:∀{b:Bool} {s:Sk},s.ok b->∀(p:aN) (os:xL aO) (m:Nat),(uS s p os m).length<=s.size
 |true,.nil,_,_,_,_=>RE _
 |true,.st n H w r,o,p,os,m=>by
  show _<=w.size+r.size+1;cases h:fQ os m n H w with
  |none=>rw[YL h];let:=JB o.2 p os m;omega
  |some j=>
   let(a,x,c,_):=zI h;rw[YM h c,Ru,Ru];let d:=JB o.1 (p++[(j:Int)]) (um x.2.2) 0;let e:=JB o.2 p os (j+1);let f:(if aY n H x=μ then [p++[(j:Int)]] else ([]:xL aN)).length<=1:=by
    split
    .rwa[Rv 1]
    .rwa[RE 1]
   omega
 |false,.cl _ _ s _,o,p,os,m=>JB (b:=μ) (s:=s) o p os m
 |false,.ask _,_,_,_,_ |false,.rd _ _,_,_,_,_ |false,.wr _ _,_,_,_,_=>RE _
def GF:⇑k f d z20z (i6 0):=by
 let n:∀{v H Q E},¬i6 0 v H Q E:=by rintro v H Q E ⟨D,z,e,t,F,g,O,c,N,b,p,i,f,I,j,S,l,m,q,y,_,_,_,_,_,_,_,_,_,_,_,_,z,_⟩;omega
 exact#[λv H Q E h=>(n h).elim,λA o s H a u v Q E r x B C h=>(n h).elim]
theorem LH(FB:xD K "_law_beside" vH f a)(b:aE K a z20z [])(M:mg "_law_beside"=↑f)(c:{1} j h ["_law_step"] oM "_law_found")(C:{18} k i z17z (gR 17) "_law_all_in")(m:mg "enumerate"=θ)(d:mg "len"=θ)(e:mg "range"=θ)(g:mg "int"=θ):∀n,⇑(n+20) f a z20z (i6 n)
 |0=>GF
 |n+1=>GP FB c C #[(LH FB b M c C m d e g n),b,FB.kp,M] m d e g
def As:am ["_law_old","_law_new","_law_found_here","_law_gone"] z23z (ae Dy):=bP
noncomputable def vM:ge:=#[.function,[(".0",.local),("_law_path",.local),("_law_found_here",.free)],ν,ν,[]]
def Gu:(["_law_path","_law_found_here"]:xL ρ).Nodup:=PH
def FF:bh ["_law_old","_law_new","_law_found_here","_law_gone"] (ae Dy) vM ["_law_path","_law_found_here"] 1 [2]:=oi
def Hd(F:xD K "_law_laid" Dy f fd)(cB:{36} fB f0 z20z (i6 16) "_law_beside")(cW:{18} fW f2 z17z (gR 17) "_law_all_in")(m0:mg "sorted"=θ):⇑37 f fd z23z tH:=by
 erw[F.ok As λc0 A o1 s H vs Q E hr h=>?_]
 let(D,c,b,f,is,js,d,S,a0,a1,rfl,J,C,h0,h7,h3,O,h4,h8,D0,D1,q):=h;erw[#[_,%[As|_c (zf (i:=2) As.nd Z (fR Z) %[As|_darbarbarbarbb]) _cz cB.e hr.m _a0a1adbadba2bc (@qQ _ _ _ _ _ _ _ _ _ _ 3 ["_law_path","_law_found_here"] 1 [2] _ _ _ _ As.nd Z (ψ Z) Z %[As|_S cW.e hr.m _a0adbb] FF (λ_ _ _ _ _=>ju (i:=0) Gu Z$ ψ Z) (λ_ _ _ _ _=>@KP _ _ _ %[As|_s (vw$ uL hr) _0K (r:=db K) _Q (K:=K) _j1gpj]) (λ_ _ _ _ _=>pv 0) Pz Ch Cv) _fldah2ah2aA qy _jY UY _ah2ba3b],?_]];let b1:=aL;erw[ah λF1 u=>#[gU,λk L=>#[gU,λT G=>#[gU,λg N=>#[gU,λj n=>#[tP,λz M=>u _ _ ?_]]]]]];let tk:T≠k:=λz=>by rw[z,jc]at G;cases G
 let ft:g≠T:=λz=>by rw[z,jc]at N;cases N
 let fk:g≠k:=λz=>by rw[z,ji tk.symm,jc]at N;cases N
 let df:j≠g:=λz=>by rw[z,jc]at n;cases n
 let dt:j≠T:=λz=>by rw[z,ji ft.symm,jc]at n;cases n
 let dk:j≠k:=λz=>by rw[z,ji fk.symm,ji tk.symm,jc]at n;cases n
 let n0:=zK (je (o:=.lst []) L) G;let n1:=zK ((je (o:=.lst []) L).trans$ je (o:=.lst []) G) N;let n2:=zK (((je (o:=.lst []) L).trans$ je (o:=.lst []) G).trans$ je (o:=.lst []) N) n;let s1:aa H (af (af (af (af (af H k$ .lst []) T$ .lst []) g$ .lst []) j$ .lst []) z$ .tup [.ref k,.ref T,.ref g,.ref j]):=((((je L).trans$ je G).trans$ je N).trans$ je n).trans (je M);let L1:Lt (af (af (af (af (af H k$ .lst []) T$ .lst []) g$ .lst []) j$ .lst []) z$ .tup [.ref k,.ref T,.ref g,.ref j]) z k T g j .nil:=#[jc,#[[],aq (aq (aq (aq jc G) N) n) M,Z],#[[],aq (aq (aq jc N) n) M,Z],#[[],aq (aq jc n) M,Z],#[[],aq jc M,Z],#[tk.symm,fk.symm,dk.symm,ft.symm,dt.symm,df.symm],λ_ z=>nomatch z];generalize af (af (af (af (af H k$ .lst []) T$ .lst []) g$ .lst []) j$ .lst []) z (.tup [.ref k,.ref T,.ref g,.ref j])=H1 at s1 L1 ⊢;let t0:=JA O [] d.steps 0 [] 0;let l3:=JB O [] d.steps 0;let b0:(nZ S [] d.steps 0 [] 0).tot<=1000:=by unfold nZ Ly.tot;dsimp only;omega
 erw[ah λF1 u=>#[1212,gU,λpa n3=>#[gU,λpb R=>#[12,?_]]]];let s2:aa H1 (af (af H1 pa$ .tup []) pb$ .tup []):=(je n3).trans (je R);let S2:=s1.trans s2;erw[#[D,z,k,T,g,j,pa,c,pb,b,[],[],f,is,js,d,S,a0,a1,.nil,Z,L1.same s2,aq jc R,jc,PM,PM,zH J$ aa.tm S2,C,h0,PL,zH h3$ aa.tm S2,O,PL,h4,PL,D0,D1,by rw[Ly.nil_app];omega,λH3 L3 b3=>u _ _ ?_]];rw[Ly.nil_app]at L3;let S3:aa H H3:=λx o e=>b3 _ _ (jk e L) (jk e n0) (jk e n1) (jk e n2) (S2 _ _ e);let(xd,h5,l0):=L3.dv;erw[ah λF1 u=>#[12,gU,λpe n4=>?_]];let s4:aa H3 (af H3 pe$ .tup []):=je n4;erw[#[pe,[],f,is,d,a0,.ref c,Z,jc,PM,zH J$ aa.tm$ S3.trans s4,C,PL,PL,λal xa H5 n7 U V s5=>?_]];let S5:=s4.trans s5;let l1:=V.len;rw[Rs,zj C]at l1;erw[#[al,Z,#[_,aJ.of U],?_]];erw[Qy (K:=K) (a:=al) (xs:=xa) PL (λi B Hx=>Hx=H5/\ο B<=i) #[Z,Rv 0] (λi B Hx h=>#[by rw[h.1];rwa[aJ.of U],h.2]) ?_ ?_]
 .intro i x B Hx hx h;let(rfl,lz):=h;let(p,hp,a,rfl,ha):=V.at hx;erw[#[12,jv (S5 _ _ L3.ins) LC #[a,j,p,_,xd,22,ha,S5 _ _ h5,l0.mono bJ$ aa.tm S5,12,?_]]];show if decide (p∉uS S [] d.steps 0)=μ then _ else _;by_cases hm:p∈uS S [] d.steps 0
  .rw[RC (λz=>z hm)];rwa[om #[Z,PL]]
  .rw[RG hm];rwa[pJ #[122,by rw[Ru];show _+1<=_;omega]]
 intro B H6 h I n5;let(rfl,_):=h;erw[u _ _ ?_];let s7:aa H6 (af H6 I$ .lst B):=je n5;let e7:af H6 I (.lst B) I=δ (.lst B):=jc;generalize af H6 I (.lst B)=H7 at s7 e7 ⊢;let S7:=S5.trans s7;let W:=L3.same S7;let(xf,h6,l):=W.fv;let l:bq eU H7 (iN S [] d.steps 0 [] 0).f xf:=l;let l2:=l.len;let pm:=JZ S [] d.steps 0 [] 0;let n:((iN S [] d.steps 0 [] 0).t.map (·.2)++(iN S [] d.steps 0 [] 0).f).Nodup:=pm.nodup_iff.mpr (AN$ ww O d.steps 0 [] 0);erw[(jv W.ins eQ$ jv W.ins gY$ jv W.ins eO #[g,xf,(iN S [] d.steps 0 [] 0).f,Z,aJ.of h6,l2,PL,λi v p h1 h2=>?_,(List.nodup_append.mp n).2.1,λsf ws rs n6 g1 g2 g3 g4=>#[12,tP,λtp X=>?_]])]
 .let(p',Y,a,ea,ha):=l.at h1;rw[h2]at Y;cases Y;exact#[a,ea,ha,wt O$ pm.mem_iff.mp$ RW _$ RL h2]
 let s8:aa H7 (af (af H7 sf$ .lst ws) tp$ .tup [.ref k,.ref T,.ref sf,.ref I]):=(je n6).trans (je X);let L8:=W.same s8;let(xt,ht,lt):=L8.tv;rwa[q tp k T sf I xt ws rs _ jc ht lt (aq jc X) ((rR g3 λi x p h1 h2=>let #[y,e1,e2,_]:=g4 i x p h1 h2;#[y,e1,e2]).mono bJ$ aa.tm s8) g1 ((S3.trans S7).trans s8)]
abbrev pO:cc:=bX 75
abbrev Ih:cc:=bX 76
def Dn(a:aW)(k:bY)(v:V):(bu a k v).length<=ο a+1:=qg
inductive lG(b:xL V)(H:Hp)(Q:VK)(a:XK):Prop
 |mk(p:ζ)(_:b=[.ref p])(_:ax H p)(_:∀(l:ζ) (C:aW) (H':Hp),H l=θ->H' l=δ (.dK C)->GT C->ο C<=13->ax H' p->aI p H H'->Q (.ref l) H')
inductive CL(p l:ζ)(H:Hp)(i:Nat)(k:_L.St)(a:Hp):Prop
 |mk(h j:ym V)(C:aW)(b:k=[↑p,↑l,h,j])(c:a l=δ (.dK C))(d:GT C)(e:ο C<=i)(f:ax a p)(g:aI p H a)
def Ji:NX (.lst x):=λa z=>by cases z
def yi:NX (.tup x):=λa z=>by cases z
def Kp.tm(k:Kp H h):aj H h:=λb x e=>k b _ yi e
def Kp.seq{K:Ψ}(e:Kp H b)(h:aJ K H a x):aJ K b a x:=by
 rcases h with (h | ⟨o,h⟩) |h
 .rwa[.inl$ .inl$ e _ _ Ji h]
 .rwa[.inl$ .inr #[o,e _ _ (by intro c z;cases z) h]]
 .rwa[.inr h]
def HL{H:Hp}{D:xL Df}{n:xL Nat}(h:mE H D n){i:Nat}{d:Df}{p:xL ρ}(a:D[i]?=δ d)(c:H d.pa=δ (.tup$ p.map vr)):n[i]?=δ p.length:=by let f:i < ο D:=(ξ.mp a).1;let b:n[i]?=δ (n[i]'(by rw[<- h.1];rwa[f])):=Rq _;let(g,e,l,_):=h.2 i d _ a b;rw[c]at e;injection e with e;injection e with e;let:=SM ti e;rw[Rs,Rs]at this;rw[b,<- l,this]
def EL:NX (.dK x):=λa z=>by cases z
def ax.kp(B:ax H p)(k:Kp H h):ax h p:=by let(a,b,c,d,f,e):=B;exact#[a,b,c,d,f,k _ _ Ji e]
def wn(H:Hp)(X:xL V):Prop:=∀x∈X,∃(q:ζ) (c i:Int),x= .ref q/\H q=δ (.tup [.int c,.int i])/\gW i
def wn.mono(k:aj H a)(h:wn H b):wn a b:=λx d=>let #[q,c,i,e,f,g]:=h x d;#[q,c,i,e,k _ _ f,g]
inductive tE(b:xL V)(H:Hp)(Q:VK)(a:XK):Prop
 |mk(p:ζ)(m:Int)(_:b=[.ref p,.int m])(_:ax H p)(_:0 < m)(_:m<=100)(_:∀(l:ζ) (xs:xL V) (H':Hp),H l=θ->H' l=δ (.lst xs)->wn H' xs->ο xs<=100->ax H' p->aI p H H'->Q (.ref l) H')
inductive ON(p l:ζ)(m:Int)(H:Hp)(i:Nat)(n:_L.St)(a:Hp):Prop
 |mk(h j:ym V)(k:xL V)(b:n=[↑p,δ (.int m),↑l,h,j])(c:a l=δ (.lst k))(d:wn a k)(e:ο k<=i)(f:ax a p)(g:aI p H a)
structure Bp(H:Hp)(nA pA ag cA:ζ)(i:Nat)(Cs:aW)(d:Df)(ds:xL Df)(ns:xL Nat)(xs:xL V)(pds:xL dD)(is:xL Int):Prop where
 ps:Ps H nA pA ds ns xs pds
 xl:ο xs<=1000
 hd:ds[i]?=δ d
 hn:ns[i]?=δ is.length
 ag:H ag=δ (.tup$ is.map xb)
 hi:∀z∈is,gW z
 il:ο is<=100
 ce:H cA=δ (.dK Cs)
 gc:GT Cs
def Bp.kp(h:Bp H n a A c i C d D N x p I)(k:Kp H b):Bp b n a A c i C d D N x p I:=#[h.ps.mono k.tm,h.xl,h.hd,h.hn,k.tm _ _ h.ag,h.hi,h.il,k _ _ EL h.ce,h.gc]
inductive oN(K:Ψ)(d:xL V)(H:Hp)(Q:VK)(b:XK):Prop
 |mk(a:ζ)(c:xL Int)(_:d=[.ref a])(_:aJ K H a (c.map xb))(_:ο c<=63)(_:∀H',Q (.bl μ) H')
def iB:am ["_law_box_here","_law_cells_here","_law_k","_law_cell"] z1z (ae pO):=bP
def yl(F:xD K "_law_cells" pO f fd)(r:{1} fT f0 z0z aZ "_law_take")(cU:{2} fU f2 z1z i7 "_law_number")(mr:mg "range"=θ):⇑3 f fd z1z lG:=by
 erw[F.ok iB λc0 A O s H vs Q E g h=>?_]
 let(p,rfl,B,q):=h;erw[#[_,%[iB|_ce1 Yo _cHTjοj mr _a r.e g.m _a0agbbi2ce3 r.e g.m _a0agbcmD r.e g.m _a0agbfe3oκoκo JR _ggg r.e g.m _a0agbtf (Jt (zW g) (pv 1) (pv 3) (cU.e g.m %[iB|_a0b]) Z) _fl1],?_]];let b0:=aL;let t0:=oX;erw[ah λt a=>λl N=>a _ _ ?_];let S:aa H (af H l$ .dK []):=je N;let I:af H l (.dK []) l=δ (.dK []):=jc;generalize af H l (.dK [])=H1 at S I;let L:l≠p:=B.ne N;let B1:=B.same S;erw[ah λt a=>eG λJ j=>#[12,p,(14),Z,B1,PM,PM,λd H2 d0 d1 B2 M=>#[12,PL,PL,j _ _ ?_]]];erw[kn (lo:=0) (CL p l H) #[θ,θ,[],Z,by rw[M l L];rwa[I],_K.GT.nil,Rv _,B2,(aI.of_same S).trans$ aI.of_eq M] ?_ (λσ H' h=>a _ _ ?_)]
 .intro E0 _ i σ H3 hi fE Gq o h;let(o2,o3,C,rfl,x,G,lC,y,D):=h;erw[o ?_];show cw (dI _ _) _ E0 _ _;erw[ah λt a=>#[12,p,(14),Z,y,PM,PM,λc4 H4 d2 d3 B4 R=>a _ _ ?_]];erw[ah λt a=>?_];let c:∀(u:Int) (v:Hp),ax v p->(∀b,b≠p->v b=H3 b)->t [↑p,↑l,δ$ .int (0+(i:Int)),δ$ .int u] v:=λu v BH T=>a _ _ (by
   erw[#[12,p,Z,BH,λm H7 m0 m1 B7 U=>?_]];let h7:H7 l=δ (.dK C):=by rw[U l L,T l L];rwa[x]
   let pl:=Dn C (.inl u) (.int m);exact#[1212,l,12,ph.k (k:=.inl u) h7 PL,fE _ _ #[1112,jc,G.put _ #[m0,m1],PL,B7.eq$ ji$ Sc L,(D.trans ((aI.of_eq T).trans$ aI.of_eq U)).upd_own N]])
  erw[ms λG1 yT yF=>#[12,p,8,Z,B4,PM,PM,λd5 H5 d4 d7 W X=>#[212,?_]]];by_cases Y:d5=0
  .rw[Y,RG (Z:xb 0=xb 0)];erw[yT _ #[1122,#[PM,PM,PM],112212,p,4,Z,W,PM,PM,λd6 H6 d8 d' B6 e6=>#[1122,c _ H6 B6 λb n=>(e6 b n).trans ((X b n).trans$ R b n)]]]
  .rw[RC (λz=>Y (by injection z))];rwa[yF _$ c _ H5 W λb n=>(X b n).trans (R b n)]
 .let(o2,o3,C,rfl,x,G,lC,y,D):=h;exact#[12,q l C H' N x G PL y D]
def oC:am ["_law_box_here","_law_most","_law_found_here","_law_k","_law_cell"] ["_law_box_here","_law_most"] (ae Ih):=bP
def GX(F:xD K "_law_changes" Ih f fd)(D:{1} fT f0 z0z aZ "_law_take")(cN:{2} fN f2 z1z i7 "_law_number")(mr:mg "range"=θ):⇑3 f fd ["_law_box_here","_law_most"] tE:=by
 erw[F.ok oC λc0 A O s H vs Q E g h=>?_]
 let(p,m,rfl,B,m0,m1,q):=h;erw[#[_,%[oC|_ce2rbcHTjοj mr _aoδg D.e g.m _a0a1bbi3ce4 D.e g.m _a0agbcmD D.e g.m _a0agbfe4oκoκo JR _ggg D.e g.m _a0agbtfzCRαβX2ada4a cN.e g.m _a0bbbfl2],?_]];let b0:=aL;let t0:=oX;erw[ah λG a=>#[gU,λl I=>a _ _ ?_]];let R:aa H (af H l$ .lst []):=je I;let e1:af H l (.lst []) l=δ (.lst []):=jc;generalize af H l (.lst [])=H1 at R e1;let L:l≠p:=B.ne I;let B1:=B.same R;erw[ah λG a=>eG λJ j=>#[1212,p,m,Z,B1,m0,PL,λd H2 d0 d1 B2 e2=>#[112212,PL,PL,j _ _ ?_]]];erw[kn (lo:=0) (ON p l m H) #[θ,θ,[],Z,by rw[e2 l L];rwa[e1],(λ_ h=>nomatch h),Rv _,B2,(aI.of_same R).trans$ aI.of_eq e2] ?_ (λσ H' h=>a _ _ ?_)]
 .intro E0 _ i σ H3 hi fE Gq k h;let(o3,o4,X,rfl,U,W,lV,M,Y):=h;erw[k ?_];show cw (dI _ _) _ E0 _ _;erw[ah λG a=>#[12,p,(15),Z,M,PM,PM,λc4 H4 d2 d3 B4 e4=>a _ _ ?_]];erw[ah λG a=>?_];let c:∀(C:Int) (r:Hp),ax r p->(∀b,b≠p->r b=H3 b)->G [↑p,δ$ .int m,↑l,δ$ .int (0+(i:Int)),δ$ .int C] r:=λC r BH eH=>a _ _ (by
   let u:r l=δ (.lst X):=by rw[eH l L];rwa[U]
   erw[#[12,.inl #[21,aJ.of u],1212,p,Z,BH,λn v n0 n1 B7 e7=>#[cg,λt nt=>?_]]];let h7:v l=δ (.lst X):=by rw[e7 l L];rwa[u]
   let S:aa v (af v t$ .tup [.int C,.int n]):=je nt;let t8:af v t (.tup [.int C,.int n]) t=δ (.tup [.int C,.int n]):=jc;erw[#[l,1122,S _ _ h7,PL,fE _ _ ?_]];generalize af v t (.tup [.int C,.int n])=y at S t8;let k8:aI p H3 y:=((aI.of_eq eH).trans$ aI.of_eq e7).trans (aI.of_same S);let l8:=S _ _ h7;let kl:aI l y (af y l$ .lst$ X++[.ref t]):=λb o N e=>by rw[ji N];rwa[e]
   let T:aj y (af y l$ .lst$ X++[.ref t]):=λb ys e=>kl _ _ (jO e l8 BT) e;erw[#[11,X++[.ref t],Z,jc,?_,by rw[Ru];show ο X+1<=_;omega,(B7.same S).eq$ ji$ Sc L,(Y.trans k8).upd_own I]];intro x hx;rcases γ.mp hx with z |z
   .exact((W.mono$ k8.tm M).mono T) x z
   .rw[τ.mp z];exact#[t,C,n,Z,T _ _ t8,n0,n1])
  erw[ms λG1 yT yF=>#[12,p,8,Z,B4,PM,PM,λd5 H5 d4 d7 B5 e5=>#[212,?_]]];by_cases h3:d5=0
  .rw[h3,RG (Z:xb 0=xb 0)];erw[yT _ #[1122,#[PM,PM,PM],112212,p,4,Z,B5,PM,PM,λd6 H6 d8 d' B6 e6=>#[1122,c _ H6 B6 λb N=>(e6 b N).trans ((e5 b N).trans$ e4 b N)]]]
  .rw[RC (λz=>h3 (by injection z))];rwa[yF _$ c _ H5 B5 λb N=>(e5 b N).trans (e4 b N)]
 .let(o3,o4,X,rfl,U,W,lV,M,Y):=h;exact#[12,q l X H' I U W PL M Y]
structure Xb(K:Ψ)(mg:ρ->ym η)(B TL TD:ζ):Prop where
 g:mg "BookError"=↑B
 h:clsIn K B≠θ
 t:typeIn K (.ref B)=δ (.type "type")
 m:mroIn K B (.type "BaseException")=δ μ
 L:mroIn K TL (.ref B)=δ μ
 D:mroIn K TD (.ref B)=δ μ
abbrev pR:cc:=bX 81
inductive tG(l:ζ)(o:xL V)(H:Hp)(Q:VK)(b:XK):Prop
 |mk(n g h:ζ)(i:Nat)(f:aW)(d:Df)(j:xL Df)(m:xL Nat)(p:xL V)(e:xL dD)(k:xL Int)(_:o=[.ref n,.str d.f,.ref g,.ref h])(_:Bp H l n g h i f d j m p e k)(_:∀(c:ζ) (sk:Sk) (a:Int) (L':aW) (H':Hp),a7 60 e f 16 d.f k [] 0= .ok sk a L' sk.size->io H' d.f k sk a (.ref c)->sk.ok μ->sk.dep<=15->sk.size<=60->Kp H H'->Q (.ref c) H')(_:(∀sk a L' t',a7 60 e f 16 d.f k [] 0≠ .ok sk a L' t')->∀H',Kp H H'->Q .non H')
def lE:am ["_law_parts","_law_f","_law_args","_law_cells_here","_law_book_here"] z40z (ae pR):=bP
def yt{f:ζ}{W:bS}{B Y TD nA r:ζ}{l:bS}(F:xD K "_law_book" pR f W)(GR:ai P w K mg base (dN P w) 45 r l z30z (tM Y TD nA))(bR:aE K l z30z [])(kR:hG K (.ref r)=μ)(mR:mg "run"=↑r)(X:Xb K mg B Y TD)(M:mg "dict"=θ):⇑46 f W z40z (tG nA):=by
 erw[F.ok lE λc0 A v s H vs Q E hr h=>?_]
 let(y,G,I,i,j,d,ds,ns,xs,p,is,rfl,c,q1,q2):=h;erw[#[_,%[lE|_ce4 (@zM _ _ _) _c (@Dl _ _ _ _ _ _ _ _ _ _ _ Z Z (@Dm _ _ _ _ 4 _ _ lE.nd Z (ψ Z) (@yJ _ _ _ _ _ _ _ _ _ _ _ _ _ _ GR hr.m Z mR kR bR .nil %[lE|_a0a1a2aE qU _j M boot_dict _a3bagb] PM Pz Pz) Pz Ch) Z X.g X.h X.t X.m (λ_=>%[lE|_fe4 (@zM _ _ _)]) PM) _fl4],?_]];erw[ah λF1 k=>k _ _ ?_];erw[ah λF1 k=>?_];show Fe _ _ _ _ _ [↑y,δ$ .str d.f,↑G,↑I,δ .non] H;erw[#[12121212,I,j,Z,c.ce,λO not=>?_]];let S:aa H (af H O$ .dK j):=je not;let e1:af H O (.dK j) O=δ (.dK j):=jc;generalize af H O (.dK j)=H1 at S e1 ⊢;let c:=c.kp (Kp.of_same S);erw[#[(60),y,G,O,i,j,d,ds,ns,xs,p,is,Z,PM,c.ps,c.hd,c.hn,c.ag,c.hi,e1,c.gc,λu sk a L' H2 q hc ok dp sz s2=>?_,λq=>?_,λq=>?_]]
 .let(c',_,_,_,rfl,_,_,_,_):=id hc;rwa[k _ _ #[12,q1 c' sk a L' H2 q hc ok dp sz$ Kp.of_same$ S.trans s2]]
 .intro _ H7 J x C T R U hT V;cases R;erw[#[X.L,λT' n=>k _ _ #[12,q2 (λ_ _ _ _ z=>by rw[q]at z;cases z) _ ?_]]];exactλb o N e=>Jw (H:=H) (J _ _ N$ S _ _ e) N U n
 .intro _ H7 J x C T R U hT V;cases R;erw[#[X.D,λT' n=>k _ _ #[12,q2 (λ_ _ _ _ z=>by rw[q]at z;cases z) _ ?_]]];exactλb o N e=>Jw (H:=H) (J _ _ N$ S _ _ e) N U n
def sZ:∀{b:Bool} {s:Sk},s.ok b->(oF s).In
 |true,.nil,_=>trivial
 |true,.st n h w r,o=>#[#[Z,zB h,sZ o.1,trivial],sZ o.2]
 |false,.ask _,_=>#[22,trivial]
 |false,.rd _ _,_ |false,.wr _ _,_=>#[222,trivial]
 |false,.cl f i s a,o=>#[Z,#[Z,zB i,sZ (b:=μ) o,Z,trivial],trivial]
def Ek{f:ρ}{i:xL Int}{s:Sk}{a:Int}(o:s.ok μ):(LJ f i s a).In:=#[Z,zB i,sZ (b:=μ) o,Z,trivial]
def Cm{M:Nat}{call:lH}{C L f:aW}{p:dD}{m t g n:Nat}{H:xL Int}{a:Int}{R:Sk}(h:gj M call C p (m+1) (.go n H) L t= .ok R a f g):∃c w l T r,p.cs[n]?=δ c/\gH M call C (aR c.nm H) L t c.e= .ok w l T/\R= .st (n:Int) H w r/\gj M call C p m (oq p c H w.wh) l T= .ok r a f g:=by
 unfold gj at h;cases e:p.cs[n]? with
 |none=>rw[e]at h;cases h
 |some c=>
  rw[e]at h;dsimp only at h;cases E:gH M call C (aR c.nm H) L t c.e with
  |long |deep=>rw[E]at h;cases h
  |ok w l T=>
   rw[E]at h;dsimp only at h;cases d:gj M call C p m (oq p c H w.wh) l T with
   |long |deep=>rw[d]at h;cases h
   |ok r b _L i=>rw[d]at h;cases h;exact#[c,w,l,T,r,Z,E,Z,d]
def NF(p:xL dD):DF:=λf n h=>match ff p f with
 |none=>.nil
 |some a=>match a.cs[n.toNat]? with
  |none=>.nil
  |some c=>uA (aR c.nm h) c.e
def NP(D:DF)(call:lH):Prop:=∀f i L t s a l T,call f i L t= .ok s a l T->Dt D f s
def LW{M:Nat}{D:DF}{call:lH}{C k L i:aW}{t j:Nat}{e:DD}{w:Sk}(H:NP D call)(h:gH M call C k L t e= .ok w i j)(g:ρ):Dt D g w:=by
 let b:=En h;cases e with
 |ask d T=>rw[XA b]at h;cases h;trivial
 |st p l=>
  cases l with
  |gv d T |st x d T=>unfold gH at h;rw[RB b]at h;cases h
  |rd x d T=>rw[Z6 b]at h;cases h;trivial
  |wr d u T U=>rw[Z7 b]at h;cases h;trivial
  |cl x f q m=>
   rw[qC b]at h;cases e:call f (m.map λc=>c.2.ev k) L (t+1) with
   |long |deep=>rw[e]at h;cases h
   |ok s a _L n=>rw[e]at h;cases h;show Dt D f s;rwa[H _ _ _ _ _ _ _ _ e]
theorem EA{M:Nat}{p:xL dD}{call:lH}{j:aW}{c:dD}{f:ρ}(H:NP (NF p) call)(d:ff p f=δ c):∀(m:Nat) {g:Gd} {L l:aW} {t T:Nat} {R:Sk} {a:Int},gj M call j c m g L t= .ok R a l T->Dt (NF p) f R
 |0,_,_,_,_,_,_,_,h=>by cases h
 |m+1,.give b,_,_,_,_,_,_,h=>by cases h;trivial
 |m+1,.go n k,_,_,_,_,_,_,h=>by let(C,w,s,u,r,o,i,rfl,q):=Cm h;erw[#[?_,LW H i f,EA H d m q]];rw[K0 i];show _=(match ff p f with |none=>Tr.nil |some c=>match c.cs[((n:Int)).toNat]? with |none=>Tr.nil |some C=>uA (aR C.nm k) C.e);rw[d];dsimp only;rw[SE,o]
theorem Zo{M:Nat}{p:xL dD}{C:aW}:∀j,NP (NF p) (a7 M p C j)
 |0=>λf i L t s a l T h=>by cases h
 |j+1=>λf i L t s a l T h=>by
  let h:(match ff p f with |none=>OC.long |some b=>gj M (a7 M p C j) C b (M+2) (gq (on b) (cQ b.way.sets$ aR b.ps i) b.way.goal) L t)= .ok s a l T:=h;cases e:ff p f with
  |none=>rw[e]at h;cases h
  |some b=>rw[e]at h;rwa[EA (Zo j) e (M+2) h]
def Mf{A:bU}{k:Nat}(h:cf k A):A.units+102 < cLine:=by let:=h.un;omega
abbrev Ig:cc:=bX 82
def GT.drop{C:aW}(h:GT C)(k:bY):GT (mH C k):=λp H=>h p (mL.mp H).1
inductive tw(c:xL V)(H:Hp)(Q:VK)(a:XK):Prop
 |mk(p b:ζ)(C:aW)(_:c=[.ref p,.ref b])(_:ax H p)(_:H b=δ (.dK C))(_:GT C)(_:ο C<=100)(_:∀(l:ζ) (C':aW) (H':Hp),H l=θ->H' l=δ (.dK C')->GT C'->ο C'<=ο C+100->ax H' p->aI p H H'->Q (.ref l) H')
inductive OM(p c l:ζ)(C:aW)(H:Hp)(i:Nat)(n:_L.St)(b:Hp):Prop
 |mk(k m:ym V)(a:aW)(d:n=[↑p,↑c,↑l,k,m])(e:b l=δ (.dK a))(f:GT a)(g:ο a<=ο C+i)(h:ax b p)(j:bg p l H b)
def sU:am ["_law_box_here","_law_cells_here","_law_other","_law_cell","_law_number_here"] ["_law_box_here","_law_cells_here"] (ae Ig):=bP
def GV{f:ζ}{fd:bS}{fG fT:ζ}{Y f0:bS}(F:xD K "_law_changed" Ig f fd)(cG:{3} fG Y ["_law_box_here","_law_most"] tE "_law_changes")(cT:{1} fT f0 z0z aZ "_law_take")(m0:mg "dict"=θ):⇑4 f fd ["_law_box_here","_law_cells_here"] tw:=by
 erw[F.ok sU λc0 A o1 s H vs Q E hr h=>?_]
 let(p,O,C,rfl,B,hC,gC,h3,q):=h;erw[#[_,%[sU|_ce2E qU _jY boot_dict _a1bcHTjS cG.e hr.m _a0agbP (n:=2) _jqi3qi4γc (Jt (zW hr) (pv 2) (pv 3) (pv 4) Z) _fmD cT.e hr.m _a0agbfzC Wa Ww PySem.F.type_dict_pop CA _2a3btfl2],?_]];let b0:=aL;erw[ah λF1 g=>#[12,O,C,Z,hC,λl R=>g _ _ ?_]];let s1:aa H (af H l$ .dK C):=je R;let e1:af H l (.dK C) l=δ (.dK C):=jc;generalize af H l (.dK C)=H1 at s1 e1 ⊢;let S:l≠p:=B.ne R;let B1:=B.same s1;erw[ah λF1 g=>eG λJ j=>#[12,p,4,Z,B1,PM,PM,λT x0 H2 N u pV lV B2 k2=>#[T,Z,#[_,aJ.of u],j _ _ ?_]]];let l2:H2 l=δ (.dK C):=k2 _ _ S e1;let l0:T≠l:=(jk e1 N).symm;let p0:T≠p:=B1.ne N;erw[qi (K:=K) (a:=T) (xs:=x0) (OM p O l C H2) #[θ,θ,C,Z,l2,gC,Rv _,B2,λ_ _ _ _ e=>e] (λk σ H' _ h=>?_) ?_ (λσ H' h=>g _ _ ?_)]
 .let(_,_,_,_,_,_,_,_,kk):=h;rwa[aJ.of$ kk _ _ p0 l0 u]
 .intro E rt k x σ r y fE Gq t h;let(o3,o4,d,rfl,l3,g3,n3,B3,U):=h;erw[t ?_];let h4:=(ξ.mp y).1;let(qq,c,I,rfl,D,h1):=pV x (RL y);let(_,_,_,_,_,h2):=B2.ob;let D:=U _ _ (jO D h2 BT) (jO D l2 BT) D;erw[#[qq,12,aC.of D,21121122,?_]];show cw _ _ E [↑p,↑O,↑l,δ$ .int c,δ$ .int I] r;let pl:=qg (kvs:=d) (k:=.inl c) (v:=.int I);erw[ah λF1 g=>#[121212,l,12,ph.k (k:=.inl c) l3 PL,g _ _ ?_]];let kE:aI l r (af r l$ .dK$ bu d (.inl c)$ .int I):=λb o W e=>by rw[ji W];exact e
  let eE:af r l (.dK$ bu d (.inl c)$ .int I) l=δ (.dK$ bu d (.inl c)$ .int I):=jc;let B4:ax (af r l$ .dK$ bu d (.inl c)$ .int I) p:=B3.eq (ji S.symm);generalize af r l (.dK$ bu d (.inl c)$ .int I)=H4 at kE eE B4;let g4:=g3.put (.inl c) h1;erw[ms λG1 yT yF=>#[12,p,5,Z,B4,PM,PM,λd1 G d0 d2 L q1=>#[212,?_]]];let l5:G l=δ (.dK$ bu d (.inl c)$ .int I):=by rw[q1 l S];rwa[eE]
  let k5:bg p l H2 G:=λb o X M e=>by rw[q1 b X];rwa[kE _ _ M$ U _ _ X M e]
  by_cases h0:d1=0
  .rw[h0,RG (Z:xb 0=xb 0)];erw[yT _ #[12,.inr$ .inr$ .inl #[Z,.inl #[_,l5]],12,l,_,.inl c,.int I,22,l5,by rw[Bg,RB Z],fE _ _ #[1112,jc,g4.drop _,?_,L.eq$ ji S.symm,λb o X M e=>by rw[ji M];rwa[k5 _ _ X M e]]]];let:=Yn (bu d (.inl c)$ .int I) (.inl c);omega
  .rw[RC (λz=>h0 (by injection z))];rwa[yF _$ fE _ _ #[1112,l5,g4,PL,L,k5]]
 .let(_,_,d,rfl,l3,g3,n3,B3,U):=h;exact#[12,q l d H' R l3 g3 PL B3 λb o W e=>U _ _ W (jk e R) (k2 _ _ W$ s1 _ _ e)]
abbrev DA:cc:=bX 83
def IH{C:iZ}{H:Hp}{y:xL ρ}{p q t:ζ}{x f:ρ}{k:Nat}(h:H p=δ (.tup [.str "call",.str x,.str f,.ref q]))(d:x∈y)(a:(f,1)∈C)(e:H q=δ (.tup [.ref t]))(g:ij H y k t)(i:↥(k < 6)):dq C H y 0 (.ref p):=by
 let(T,j,m):=g.ok i;erw[Q2 (l:=.cl x f q [(t,T)]) h #[Z,e,λc b=>?_] #[d,(by show 1<=6;decide),λc b=>?_] a]
 .rw[τ.mp b];rwa[j]
 .rw[τ.mp b];rwa[m]
inductive tI(b:xL V)(H:Hp)(Q:VK)(a:XK):Prop
 |mk(p:ζ)(_:b=[.ref p])(_:ax H p)(_:∀(t r:ζ) (v2 v3:V) (ds:xL Df) (xs:xL V) (H':Hp),H' t=δ (.tup [.ref r,v2,v3])->H' r=δ (.tup xs)->di H' ds xs->1<=ο ds->ο ds<=8->∀ns,pi ds ns->mE H' ds ns->mz H' ds v2 v3->ax H' p->aI p H H'->Q (.ref t) H')
def Di{d:Int}(h:0<=d)(H:d < 3):∃c,eW (Str.cps "<=/").toList d=δ c/\Sg #[(ε [c])]:=by
 rcases(PL:d=0∨d=1∨d=2) with rfl |rfl |rfl
 .exact#[12,qR]
 .exact#[12,EY]
 .exact#[12,sY]
def LN{y:xL ρ}(h:ο y=9):aQ (y.map vr) (δ 2) (δ 7)=((y.drop 2).take 5).map vr:=by unfold aQ;rw[show(2:Int)=((2:Nat):Int) from Z,show(7:Int)=((7:Nat):Int) from Z,HT.sIx_nat,HT.sIx_nat,Rs,h,Uq,WB];rfl
def Ny(C:iZ)(y:xL ρ)(n m:Nat)(f:ρ)(H:Hp)(v:V):Prop:=∃a q b,v= .ref a/\H a=δ (.tup [.str f,q,b])/\uf C n H a f/\PB C y 1 m H b
section
variable {Cf:iZ}{ys:xL ρ}{H0 Hb:Hp}{p wl:ζ}{σ:_L.St}
def wY{d g T:TE}{k:Nat}(i:#[] d (PN ys)){f:ρ}(j:#[] g (ui f))(b:(f,1)∈Cf)(l:#[] T (PT ys k))(n:k < 6):#[] (bV$ ap (tC$ .str "call")$ ap d$ ap g$ ap (bV$ ap T aS) aS) (λH v=>dq Cf H ys 0 v):=by
 let' R:Hp->V->Prop:=λH v=>∃q a,v= .ref q/\H q=δ (.tup [.ref a])/\ij H ys k a
 let M:mY R:=λ_ _ _ m #[q,a,e,c,o]=>#[q,a,e,m _ _ c,o.mono m];let s:#[] (bV$ ap T aS) R:=λH Q m W q=>
  l H _ m W λS U #[a,E,X] A C=>#[i8,λr N=>kH (P:=R) A (λD F x G k=>q D F x G (C.trans k)) N λt z=>#[r,a,Z,by rw[z,E],X.mono t]]
 rwa[FM Cz (B:=ui f) (λ_ _ _ _ h=>h) M i j s λH r u v x z #[y,I,c] (E:v= .str f) #[q,a,J,L,O]=>IH (f:=f) (by rw[z,I,E,J]) c b L O n]
def Md(e:σ[0]?=δ (↑p)):#[] (fb yS (tC$ .str "<=/")$ wb 3) PG:=λH Q m W q=>
 kr e PM PM H _ m W λv h #[d,E,D,a] b k=>by let(g,i,x):=Di D a;exact#["<=/",d,g,Z,E,PH,i,q _ h #[12,x] b k]
def Ma{K:Ψ}{T c:TE}{P:Hp->V->Prop}(M:mY P)(e:σ[0]?=δ (↑p))(r:#[] T P)(s:#[] c P):#[] (fb (lK K) (nV$ ap T$ ap c aS)$ wb 2) P:=λH Q m W q=>
 r H _ m W λf u X y k=>s u _ (m.trans k) y λg z A h a=>#[cg,λl n=>kr e PM PM _ _ (((m.trans k).trans a).trans$ .new n) (h.same$ je n) λv C #[d,E,G,I] D j=>by
  let t:=(Fw.new (p:=p) (o:=HO.lst [f,g]) n).trans j;let i:∃x,eW [f,g] d=δ x/\P z x:=by
   rcases(PL:d=0∨d=1) with rfl |rfl
   .exact#[12,M _ _ _ a.t X]
   .exact#[12,A]
  let(x,i,F):=i;exact#[l,_,d,12,E,aJ.of$ j.b _ _ (h.B.ne n) jc,i,q _ C (M _ _ _ t.t F) D ((k.trans a).trans t)]]
def FP{T d e:TE}{n m:Nat}{f:ρ}(l:#[] T (ui f))(o:#[] d (PP m))(s:#[] e (PB Cf ys 1 n))(Y:n<=100)(u:ys.length<=20):#[] (bV$ ap T$ ap d$ ap e aS) (Ny Cf ys m n f):=λH Q M W q=>
 l H _ M W λv y (E:v= .str f) A c=>o y _ (M.trans c) A λV B #[a,ps,C,D,L] F g=>s B _ ((M.trans c).trans g) F λG H4 #[b,I,h,i,X,J] N j=>#[ie,λr O=>kH (P:=Ny Cf ys m n f) N (λR S x U k=>q R S x U (((c.trans g).trans j).trans k)) O λt z=>
  #[r,V,G,Z,by rw[z,E],Ep (f:=f) (by rw[z,E,C,h]) (t _ _$ j.t _ _ D) L (t _ _ i) (X.mono t) PL u,dG _ _ _ t #[b,I,h,i,X,J]]]
def ya{n m:Nat}{f:ρ}:mY (Ny Cf ys n m f):=λ_ _ _ k #[a,q,b,e,h,H,c]=>#[a,q,b,e,k _ _ h,H.mono k,dG _ _ _ k c]
def LZ{K:Ψ}{i n m:Nat}{f:ρ}{v:V}(e:σ[i]?=δ (δ v))(h:Ny Cf ys n m f Hb v):#[] (fb (db K) (bn i)$ tC$ .int 2) (PB Cf ys 1 m):=λH Q M W q=>by let(a,g,b,rfl,c,_,d):=h;exact#[_,e,a,11122,aC.of$ M.t _ _ c,jE (j:=2) Z,q _ H (dG _ _ _ M.t d) W .refl]
def FQ{c e g:TE}{P:Hp->V->Prop}{f:ρ}{m:Int}(M:mY P)(l:#[] c P)(r:#[] e (ui f))(x:#[] g (PK m)):#[] (bV$ ap c$ ap e$ ap (bV$ ap g aS) aS) (λH v=>∃t T u d,v= .ref t/\H t=δ (.tup [u,.str f,.ref T])/\P H u/\H T=δ (.tup [.int d])/\0<=d/\d < m):=λH Q a W q=>
 l H _ a W λh y X z k=>r y _ (a.trans k) z λi A (E:i= .str f) B b=>x A _ ((a.trans k).trans b) B λC L #[d,D,F,G] I j=>#[i8,λT n=>#[ie,λt N=>q _ _ (by
  let S:=je (o:=HO.tup [C]) n;let s:=je (o:=HO.tup [h,i,.ref T]) N;let J:=(b.trans j).t.trans (aa.tm$ S.trans s);exact#[t,T,h,d,Z,by rw[jc,E],M _ _ _ J X,s _ _ (by rw[jc,D]),F,G]) ((I.same$ je n).same$ je N) (((k.trans b).trans j).trans ((Fw.new n).trans$ .new N))]]
def OS(y Y a:ρ)(H:Hp)(v:V):Prop:=∃r D x,v= .ref r/\H r=δ (.tup x)/\di H D x/\ο D=3/\((∀d∈D,n8 d/\d.b.Cs [(y,1),(Y,1),(a,1)])/\D.map Df.f=[y,Y,a])/\mE H D [1,1,1]
def Mo{y Y a:ρ}:mY (OS y Y a):=λ_ _ _ k #[r,d,x,e,h,H,b,c,f]=>#[r,d,x,e,k _ _ h,H.mono k,b,c,f.mono k]
def xj{K:Ψ}{H:Hp}{D:bp}(W:Wd H0 H p wl ys)(l:σ[1]?=δ (↑wl))(k:ο ys=9)
  (q:∀a b c d e g,PT ys 0 g a->PT ys 0 g b->PT ys 0 g c->PT ys 0 g d->PT ys 0 g e->Wd H0 g p wl ys->D.nx (((((σ.set 2$ δ a).set 3$ δ b).set 4$ δ c).set 5$ δ d).set 6$ δ e) g):
  dI (tQ (xI K$ Nl (yU K) (bn 1) (mj$ tC$ xb 2)$ mj$ tC$ xb 7) 1 [] (bf 0) mw$ bV$ ap (tC$ vr "var")$ ap (bn 0) aS) (NG K 5$ dj (bf 2)$ dj (bf 3)$ dj (bf 4)$ dj (bf 5)$ dj (bf 6) uH) D σ H:=by
 let B:=aL;erw[#[_,l,1212,wl,12,aJ.of W.w,λs n=>?_]];let t:af H s (.lst$ aQ (ys.map vr) (δ 2)$ δ 7) s=δ (.lst (((ys.drop 2).take 5).map vr)):=by rw[LN k];rwa[jc]
 let S:=je (o:=HO.lst (aQ (ys.map vr) (δ 2)$ δ 7)) n;generalize af H s (.lst$ aQ (ys.map vr) (δ 2)$ δ 7)=A at t S;let L:((ys.drop 2).take 5).length=5:=by rw[R0,Te,k];rfl
 erw[#[s,Z,#[_,aJ.of t],?_]];erw[J2 (K:=K) (a:=s) (xs:=((ys.drop 2).take 5).map vr) (by rw[Rs,L];omega) (λi j g=>ο j=i/\(∀v∈j,PT ys 0 g v)/\aa A g) #[Z,(λ_ h=>absurd h R6),aa.refl _] (λi j g h=>#[aJ.of$ h.2.2 _ _ t,U0 h.1]) (λi x j g C h=>?_) (λj F h E N=>?_)]
 .let(y,k,rfl):=dn.mp (RL C);exact#[12,cg,λr u=>#[by rw[Ru,h.1];rfl,qI (λa z=>ar _ _ _ (aa.tm$ je u) (h.2.1 a z)) #[r,Z,Zh jc$ VB$ Sz k],h.2.2.trans$ je u]]
 .let e:=h.1;rw[Rs,L]at e;let(a,b,c,d,f,rfl):=Mm e;let m:=aa.tm (je (o:=HO.lst [a,b,c,d,f]) N);exact#[E,12,aJ.of jc,21121121121121122,q a b c d f _ (ar _ _ _ m$ h.2.1 a PJ) (ar _ _ _ m$ h.2.1 b PJ) (ar _ _ _ m$ h.2.1 c PJ) (ar _ _ _ m$ h.2.1 d PJ) (ar _ _ _ m$ h.2.1 f PJ) (((W.same S).same h.2.2).same$ je N)]
end
def eK:am z45z z1z (ae DA):=bP
noncomputable def Z1:ge:=#[.function,[(".0",.local),("_law_one",.local)],ν,ν,[]]
def CD:(z6z:xL ρ).Nodup:=PH
def BU:bh z45z (ae DA) Z1 z6z 1 []:=oi
def He{f:ζ}{fd:bS}{fT fA:ζ}{f0 f9:bS}(F:xD K "_law_masked" DA f fd)(L:{1} fT f0 z0z aZ "_law_take")(cA:{2} fA f9 z24z gJ "_law_names"):⇑4 f fd z1z tI:=by
 erw[F.ok eK λc0 A o1 s H V Q E D h=>?_]
 symm;let(p,rfl,B,q):=h;erw[#[_,%[eK|_ce1 cA.e D.m _a0agbcO (@za _ _ _ _ _ _ _ z6z 1 [] _ _ _ _ Z %[eK|_SBσ1ygyg] BU (λ_ _ _ _ _=>ju (i:=0) CD Z$ ψ Z) (λ_ _ _ _ _=>@zw _) (λ_ _ _ _ _=>%[eK|_dana0b]) Cv) (@XU _ _ _ _ 5 _ Z %[eK|_qi2qi3qi4qi5qi6γ] Pz Pz) _ce7danana3adana L.e D.m _a0agbbbce8danak JS _n L.e D.m _a0agbpa6adanaoδg L.e D.m _a0agbbbce9daku1gpadaku1gpbadadanaku1gpa7badanadanaoδg L.e D.m _a0agbba3badana8bbbcev 10 _dadanaku1gpa3badanaku1gpaku1gpada6bbadanadananadanaku1gpba6bbbcev 11 _daku1gpadaku1gpbakurav 10 _ah9b L.e D.m _a0agbpbcev 12 _dadanaku1gpaku1gpada3bbadanaku1gpadanana4a5bbadanaku1gpadanana3adanagbbbbcev 13 _daku1gpadaku1gpbadadanadanana3a2bav 12 _badana4bbbfldadav 13 _av 11 _a9baku1gpadaoδg L.e D.m _a0agbbb],?_]];sleep 9;erw[ah λFa fa=>#[12,p,9,Z,B,PM,PM,λW Y Ha n6 R S b Ba ka=>fa _ _ ?_]];left;let S:ο Y=9:=PL
 symm;obtain⟨T,U⟩:∃y,Y[0]?=δ y:=#[_,Rq (PL:0 < ο Y)];obtain⟨N,h1⟩:∃y,Y[1]?=δ y:=#[_,Rq (PL:1 < ο Y)];obtain⟨G,h8⟩:∃y,Y[8]?=δ y:=#[_,Rq (PL:8 < ο Y)];let nq:∀(i j:Nat) (x y:ρ),i < 9->i≠j->Y[i]?=δ x->Y[j]?=δ y->x≠y:=λi j x y hi h2 hx hy e=>h2 ((UC (PL:i < ο Y) b.2).mp$ hx.trans ((SM δ e).trans hy.symm));let n0:=nq 0 1 _ _ PM PM U h1;let n4:=nq 0 8 _ _ PM PM U h8;let n5:=nq 1 8 _ _ PM PM h1 h8;let h3:[T,N,G].Nodup:=by simp [n0,n4,n5]
 let h4:∀y∈[T,N,G],y.length<=20:=λy hy=>by
  simp only[TC,R6,U7]at hy;symm;rcases hy with rfl |rfl |rfl
  .rwa[b.1 _$ RL U]
  .rwa[b.1 _$ RL h1]
  .rwa[b.1 _$ RL h8]
 let W0:Wd H Ha p W Y:=#[Ba,ka,R];erw[ah λF1 f1=>xj W0 Z S λg l V o C H1 xn X xs xy xz W1=>f1 _ _ ?_];left;show cw _ _ _ [↑p,↑W,δ g,δ l,δ V,δ o,δ C,θ,θ,θ,θ,θ,θ,θ] H1;erw[ah λF2 f2=>jS W1 (zq (n:=1) (zE zd) (jM Z ar X) (ky (kr Z PM PM) PM) PM PM) λI H2 x2 W2 k2=>f2 _ _ ?_];left;show cw _ _ _ [↑p,↑W,δ g,δ l,δ V,δ o,δ C,δ I,θ,θ,θ,θ,θ,θ] H2;erw[ah λF3 f3=>jS W2 (zq (n:=1) (Md Z) (jM Z ar$ ar _ _ _ k2.t xz) (ky (Je (kr Z PM PM) PM) PM) PM PM) λO H3 x3 W3 k3=>f3 _ _ ?_];left;let m0:=k2.t.trans k3.t;show cw _ _ _ [↑p,↑W,δ g,δ l,δ V,δ o,δ C,δ I,δ O,θ,θ,θ,θ,θ] H3;erw[ah λF4 f4=>jS W3 (FP (Cf:=[(G,1)]) (zL (k:=8) Z Z h8) (Ye$ kh Z PM PL) (Ev.up (Z5 (Jo (kh Z PM PL) (jM Z ar$ ar _ _ _ k3.t x2) PM) (J9 (ky (Je (kr Z PM PM) PM) PM) (jM Z ar$ ar _ _ _ m0 X) PM PM)$ Ka (jM Z ar x3) PM) λ_ _=>PB.lift) PM PL) λv4 H4 x4 W4 k4=>f4 _ _ ?_];left;let c:=m0.trans k4.t;show cw _ _ _ [↑p,↑W,δ g,δ l,δ V,δ o,δ C,δ I,δ O,δ v4,θ,θ,θ,θ] H4;erw[ah λF5 f5=>jS W4 (Ev.up (Z5 (Cf:=[(G,1)]) (Jo (kh Z PM PL) (jM Z ar$ ar _ _ _ c X) PM) (wY (kh Z PM PL) (zL (k:=8) Z Z h8) RN (jM Z ar$ ar _ _ _ c xz) PM)$ Ka (zq (n:=1) (zE qR) (J8$ kh Z PM PL) (jM Z ar$ ar _ _ _ c xz) PM PM) PM) λ_ _=>PB.lift) λv5 H5 x5 W5 k5=>f5 _ _ ?_];left;let m2:=c.trans k5.t;show cw _ _ _ [↑p,↑W,δ g,δ l,δ V,δ o,δ C,δ I,δ O,δ v4,δ v5,θ,θ,θ] H5;erw[ah λF6 f6=>jS W5 (Q4 (Cf:=[(G,1)]) (zL (k:=1) Z Z h1) (Ye$ kh Z PM PL) (Ma dG Z (jM Z dG x5)$ LZ Z$ ya _ _ _ k5.t x4) PM PL) λv6 H6 x6 W6 k6=>f6 _ _ ?_];left;let M:=m2.trans k6.t;show cw _ _ _ [↑p,↑W,δ g,δ l,δ V,δ o,δ C,δ I,δ O,δ v4,δ v5,δ v6,θ,θ] H6;erw[ah λF7 f7=>jS W6 (Z5 (Cf:=[(N,1)]) (wY (kh Z PM PL) (zL (k:=1) Z Z h1) RN (jM Z ar$ ar _ _ _ M X) PM) (qV (kh Z PM PL) (zq (n:=1) (zE zd) (jM Z ar$ ar _ _ _ M xs) (jM Z ar$ ar _ _ _ M xy) PM PM) PM)$ qV (kh Z PM PL) (zq (n:=1) (zE zd) (jM Z ar$ ar _ _ _ M X) (ky (QK PM (PM:(1:Int) < 2)) PM) PM PM) PM) λv7 H7 x7 W7 k7=>f7 _ _ ?_];left;let J:=M.trans k7.t;show cw _ _ _ [↑p,↑W,δ g,δ l,δ V,δ o,δ C,δ I,δ O,δ v4,δ v5,δ v6,δ v7,θ] H7;erw[ah λF8 f8=>jS W7 (Q4 (Cf:=[(N,1)]) (zL (k:=0) Z Z U) (Ye$ kh Z PM PL) (Yd (xg (zq (n:=1) (zE qR) (jM Z ar$ ar _ _ _ J X) (jM Z ar$ ar _ _ _ J xn) PM PM) (jM Z dG x7) PM PM)$ Ev.up (Ka (jM Z ar$ ar _ _ _ J xs) PM) λ_ _=>dq.lift) PM PL) λv8 H8 x8 W8 k8=>f8 _ _ ?_];left;let m1:=k7.t.trans k8.t;let m3:=(k5.t.trans k6.t).trans m1;show ig _ _ [↑p,↑W,δ g,δ l,δ V,δ o,δ C,δ I,δ O,δ v4,δ v5,δ v6,δ v7,δ v8] H8;erw[KZ W8 (FQ (P:=OS T N G) Mo (Es (n1:=1) (n2:=1) (n3:=1) (f1:=T) (f2:=N) (f3:=G) #[PM,PM,PM] (Ev.up (jM Z lg x8) (λ_ _ #[a,e,h]=>#[a,e,h.more PJ])) (Ev.up (jM Z lg$ lg _ _ _ m1 x6) (λ_ _ #[a,e,h]=>#[a,e,h.more PJ])) (Ev.up (jM Z ya$ ya _ _ _ m3 x4) (λ_ _ #[a,11,e,_,h,_]=>#[a,e,h.more PJ]))) (zL (k:=0) Z Z U)$ Je (kr Z PM PM) PM) λv Hz x Wz=>?_];symm;obtain⟨t,ta,u,dd,rfl,ht,⟨r,ds,x0,rfl,g0,g1,g2,g3,g4⟩,ha,d0,d1⟩:=x;erw[q t r _ _ ds x0 Hz ht g0 g1 PL PL [1,1,1] #[by rw[g3.2];rwa[g3.1],by rw[g3.2];exact#[h3,h4]] g4 ?_ Wz.B Wz.K];obtain⟨d,rd,rfl⟩:∃d rd,ds=d::rd:=by
  symm;cases ds with
  |nil=>cases g2
  |cons d rd=>exact#[d,rd,Z]
 let ed:d.f=T:=by let z:=g3.2;rw[SR]at z;injection z
 symm;let(ps,h5,h6,_):=g4.2 0 d 1 Z Z;exact#[d,ps,ta,[dd],RN,by rw[ed],h5,Z,ha,by rw[h6];rfl,by show 1<=100;decide,λi hi=>by rw[τ.mp hi];exact#[PL,PL]]
def Bp.to{H a:Hp}{n b A c:ζ}{i:Nat}{C:aW}{d:Df}{D:xL Df}{N:xL Nat}{x:xL V}{p:xL dD}{I:xL Int}(h:Bp H n b A c i C d D N x p I)(k:aj H a)(e:a c=δ (.dK C)):Bp a n b A c i C d D N x p I:=#[h.ps.mono k,h.xl,h.hd,h.hn,k _ _ h.ag,h.hi,h.il,e,h.gc]
inductive K'(H:Hp)(r:ζ)(j i:V):Prop
 |mk(a:xL Df)(k:xL V)(h:xL Nat)(b:H r=δ (.tup k))(c:di H a k)(d:ο a<=8)(e:pi a h)(f:mE H a h)(g:mz H a j i)
def mz.mono{H i:Hp}(k:aj H i){D:xL Df}{u v:V}(h:mz H D u v):mz i D u v:=by let(d,p,t,I,a,b,c,e,f,g):=h;rwa[#[d,p,t,I,a,b,k _ _ c,e,k _ _ f,g]]
def K'.mono{H a:Hp}(k:aj H a){r:ζ}{u v:V}(h:K' H r u v):K' a r u v:=by let(d,x,n,b,c,e,f,g,i):=h;exact#[d,x,n,k _ _ b,c.mono k,e,f,g.mono k,i.mono k]
inductive Bq(H:Hp)(s v g:ζ)(i:Nat)(d:Df)(j:xL Df)(u:xL Nat)(y:xL V)(b:xL dD)(r:xL Int)(x:V):Prop
 |mk(t c h:ζ)(f L:aW)(w:Sk)(a:Int)(e:x= .ref t)(k:H t=δ (.tup [.ref c,.ref h]))(l:Bp H s v g h i f d j u y b r)(m:io H d.f r w a (.ref c))(n:w.ok μ)(o:w.dep<=15)(p:w.size<=60)(q:a7 60 b f 16 d.f r [] 0= .ok w a L w.size)
def Bq.kp{H b:Hp}{n f A:ζ}{i:Nat}{d:Df}{D:xL Df}{N:xL Nat}{X:xL V}{p:xL dD}{I:xL Int}{x:V}(h:Bq H n f A i d D N X p I x)(k:Kp H b):Bq b n f A i d D N X p I x:=by let(t,c,C,g,L,s,a,e,j,l,m,o,q,r,u):=h;exact#[t,c,C,g,L,s,a,e,k.tm _ _ j,l.kp k,zH m k.tm,o,q,r,u]
def n9(p:ζ)(H h:Hp):Prop:=∀b o,b≠p->NX o->H b=δ o->h b=δ o
def n9.trans{p:ζ}{H h d:Hp}(a:n9 p H h)(b:n9 p h d):n9 p H d:=λc o n N e=>b c o n N (a c o n N e)
def n9.of_kp{p:ζ}{H h:Hp}(k:Kp H h):n9 p H h:=λb o _ n e=>k b o n e
def n9.kp{p:ζ}{h H a:Hp}(k:n9 p H a)(s:∀b o,h b=δ o->H b=δ o)(n:h p=θ):Kp h a:=λb o N e=>k b o (λz=>by rw[z,n]at e;cases e) N (s _ _ e)
def Bq.kb{H g:Hp}{n j A l:ζ}{i:Nat}{d:Df}{D:xL Df}{N:xL Nat}{X:xL V}{p:xL dD}{I:xL Int}{x:V}(h:Bq H n j A i d D N X p I x){y:xL V}(m:H l=δ (.lst y)){q:xL V}(k:∀b o,b≠l->H b=δ o->g b=δ o)(e:g l=δ (.lst q)):Bq g n j A i d D N X p I x:=by let T:aj H g:=λb X z=>k b _ (λw=>by rw[w,m]at z;cases z) z;let(t,c,C,r,L,s,a,e,u,f,v,B,E,F,G):=h;exact#[t,c,C,r,L,s,a,e,T _ _ u,#[f.ps.mono T,f.xl,f.hd,f.hn,T _ _ f.ag,f.hi,f.il,k _ _ (λw=>by let z:=f.ce;rw[w,m]at z;cases z) f.ce,f.gc],zH v T,B,E,F,G]
abbrev Ic:cc:=bX 84
inductive tq(K:Ψ)(c:ζ)(f:xL V)(H:Hp)(Q:VK)(b:XK):Prop
 |mk(a:ζ)(e:xL Int)(_:f=[.ref a])(_:aJ K H a (e.map xb))(_:ο e<=63)(_:∀(r pA l ag:ζ) (i:Nat) (d:Df) (ds:xL Df) (nl:xL Nat) (xs:xL V) (pds:xL dD) (is:xL Int) (ys:xL V) (H':Hp),H' r=δ (.tup [.ref pA,.ref l])->H' l=δ (.lst ys)->ο ys<=9->(∀y∈ys,Bq H' c pA ag i d ds nl xs pds is y)->Kp H H'->Q (.ref r) H')
inductive Le(u a p z g h l r:ζ)(f:ρ)(i:Nat)(d:Df)(j:xL Df)(v:xL Nat)(A:xL V)(c:xL dD)(t:xL Int)(H:Hp)(k:Nat)(C:_L.St)(e:Hp):Prop
 |mk(w x b:ym V)(B:xL V)(m:C=[↑a,↑p,↑r,δ (.str f),↑g,↑z,↑h,↑l,w,x,b])(n:e l=δ (.lst B))(o:ο B<=k)(q:∀y∈B,Bq e u z g i d j v A c t y)(s:n9 l H e)
def dX:am ["_law_script","_law_box_here","_law_program","_law_f","_law_args","_law_parts","_law_cells_here","_law_books_here","_law_k","_law_other","_law_book_here"] ["_law_script"] (ae Ic):=bP
def GS{f:ζ}{fd:bS}{nA fX fY fG fK fM fC fD fB:ζ}{f0 f2 f3 f4 f5 f6 f7 f8:bS}(F:xD K "_law_books" Ic f fd)(cX:{1} fX f0 ["_law_script","_law_k"] (oI K) "_law_box")(cY:{1} fY f2 z0z aZ "_law_take")(cG:{23} fG f3 z1z nQ "_law_case")(cK:{4} fK f4 z1z tI "_law_masked")(cM:{65} fM f5 ["program"] (nR K nA) "made")(cC:{3} fC f6 z1z lG "_law_cells")(cD:{4} fD f7 ["_law_box_here","_law_cells_here"] tw "_law_changed")(cB:{46} fB f8 z40z (tG nA) "_law_book")(m0:mg "dict"=θ)(ml:mg "len"=θ)(mr:mg "range"=θ)(m1:mg "min"=θ):⇑66 f fd ["_law_script"] (tq K nA):=by
 erw[F.ok dX λc0 A o2 s H vs Q E G h=>?_]
 symm;let(a,ns,rfl,hS,b3,q):=h;erw[#[_,%[dX|_ce1 cX.e G.m _a0agbcO cG.e G.m _a1bP (n:=3) _jqi2qi3qi4γcJmD cY.e G.m _a1agbfO cK.e G.m _a1bP (n:=3) _jqi2qi3qi4γtce5 cM.e G.m _a2bce6 cC.e G.m _a cX.e G.m _a0agbbce7rbcHTjοj mr _aoδgA (Q8 Z) _j m1 boot_min _agao C7 _Aεjπζa0bgbbi8ce9E qU _jY boot_dict _a6bcJms Jn _8gw _ _fe9 cD.e G.m _a cX.e G.m _a0aoδg8ba6btcev 10 cB.e G.m _a5a3a4a9bfm (Xw$ @De _ _ _ _ _$ pv 10) _fzCRαβX7adav 10 _a9bbtflda5a7b],?_]];let b4:=aL;let t1:=oX;sleep 7;erw[ah λI g=>#[12,a,ns,1,Z,hS,PM,PM,λp H1 np B1 e1=>g _ _ ?_]];left;let s1:aa H H1:=λb o e=>by rw[e1 b$ jk e np];rwa[e]
 erw[ah λI g=>#[12,p,Z,B1,λt r v2 v3 D xs H2 ht L Y h1 h8 n0 hN k M B2 k2=>#[t,12,aC.of ht,21121121122,g _ _ ?_]]];left;let p0:K' H2 r v2 v3:=#[D,xs,n0,L,Y,h8,hN,k,M];erw[ah λI g=>eI (λσ0 H'=>∃(r:ζ) (vf va:V),σ0=[↑a,↑p,↑r,δ vf,δ va,θ,θ,θ,θ,θ,θ]/\K' H' r vf va/\ax H' p/\aI p H1 H') (λE1 _ fm=>?_) λσ2 H3 hq=>?_]
 .left;erw[ms λG1 yT yF=>#[12,p,3,Z,B2,PM,PM,λd3 H3 d1 d2 B3 e3=>#[212,?_]]];symm;by_cases h0:d3=0
  .right;rw[h0,RG (Z:xb 0=xb 0)];rwa[yT _ #[12,p,Z,B3,λt r v2 v3 D xs H4 ht L Y h1 h8 n0 hN k M B4 k4=>#[t,12,aC.of ht,21121121122,fm _ _ #[r,v2,v3,Z,#[D,xs,n0,L,Y,h8,hN,k,M],B4,k2.trans ((aI.of_eq e3).trans k4)]]]]
  .right;rw[RC (λz=>h0 (by injection z))];rwa[yF _$ fm _ _ #[r,v2,v3,Z,p0.mono ((aI.of_eq e3).tm B2),B3,k2.trans$ aI.of_eq e3]]
 symm;let(r,vf,va,rfl,pg,B3,k3):=hq;erw[g _ _ ?_];left;symm;let(D,xs,nl,h4,Y,h8,hN,k,d,ps,T,is,hd,rfl,h5,rfl,h6,a5,h2,a'):=pg;erw[ah λI g=>#[12,r,D,xs,Z,h4,Y,PL,λd hd=>(hN.1 d hd).1,λv H4 hv s4=>g _ _ ?_]];left;symm;let(N,x,rfl,h7,h'):=KF hv;let S4:aa H H4:=λb o e=>s4 _ _ (k3 _ _ (jk e np)$ s1 _ _ e);erw[ah λI g=>#[12,a,ns,2,Z,S4.seq hS,PM,PM,λp5 H5 n4 B5 e5=>#[p5,Z,B5,λR Cs H6 n6 a0 gC lC B6 k6=>g _ _ ?_]]];left;let s6:aa H4 H6:=λb o e=>k6 _ _ (jk e n4) (by rw[e5 b$ jk e n4];rwa[e]);let S6:=S4.trans s6;let S:=aa.tm (s4.trans s6);symm;let(i0,hi,ei):=iv.mp hd;let a1:D[i0]?=δ d:=by rw[<- ei];rwa[Rq hi]
 let a2:=HL k a1 h5;rw[<- a5]at a2;let(B,hP):=ML (s6 _ _ h7) (h'.mono$ aa.tm s6) #[xs,Y.mono S] hN (k.mono S);let lx:=zA hP.tr;rw[Rs]at lx;let ak:Bp H6 nA N T R i0 Cs d D nl x B is:=#[hP,PL,a1,a2,S _ _ h6,a',h2,a0,gC];erw[ah λI g=>#[gU,λl n1=>g _ _ ?_]];left;let s7:aa H6 (af H6 l$ .lst []):=je n1;let U:af H6 l (.lst []) l=δ (.lst []):=jc;let n5:H l=θ:=by
  cases z:H l with
  |none=>rfl
  |some o=>rw[S6 _ _ z]at n1;symm;cases n1
 let S7:=S6.trans s7;let ak:=ak.kp (Kp.of_same s7);generalize af H6 l (.lst [])=H7 at s7 U S7 ak ⊢;show cw _ _ _ [↑a,↑p,↑r,δ$ .str d.f,↑T,↑N,↑R,↑l,θ,θ,θ] H7;symm;obtain⟨m,hm,m3,m9⟩:∃m:Int,(3:Int)+(if ((ns.map xb).length:Int) / 4 < 6 then ((ns.map xb).length:Int) / 4 else 6)=m/\3<=m/\m<=9:=#[12,by split<;>omega,by split<;>omega];erw[ah λI g=>eG λJ j=>#[12,a,12,.inl$ S7.seq hS,1122,#[PM,PM],1121122,?_]];rw[hm];erw[#[12,PL,PL,j _ _ ?_]];erw[kn (lo:=0) (Le nA a p N T R l r d.f i0 d D nl x B is H7) #[θ,θ,θ,[],Z,U,Rv _,λy hy=>(nomatch hy),λb o _ _ e=>e] ?_ (λσ H' h=>g _ _ ?_)]
 .left;intro E rt ii σ W b5 fE Gq kq h;symm;let(o8,o9,o1,ys,rfl,X,ly,hy,k9):=h;erw[kq ?_];let t0:aj H7 W:=λb xs z=>k9 b _ (λw=>by rw[w,U]at z;cases z) yi z;let cl:R≠l:=λw=>by let z:=ak.ce;rw[w,U]at z;cases z
  let C:=ak.to t0 (k9 _ _ cl EL ak.ce);let b0:aJ K W a (ns.map xb):=(k9.kp S7 n5).seq hS;show cw (dI _ _) _ E [↑a,↑p,↑r,δ$ .str d.f,↑T,↑N,↑R,↑l,δ$ .int (0+(ii:Int)),o9,o1] W;sleep 3;erw[ah λI g=>#[12,R,Cs,Z,C.ce,λot not=>g _ _ ?_]];left;let sA:aa W (af W ot$ .dK Cs):=je not;let eA:af W ot (.dK Cs) ot=δ (.dK Cs):=jc;generalize af W ot (.dK Cs)=HA at sA eA ⊢;erw[ah λI g=>eI (λσ0 H'=>∃(O:ζ) (C':aW),σ0=[↑a,↑p,↑r,δ$ .str d.f,↑T,↑N,↑R,↑l,δ$ .int (0+(ii:Int)),↑O,o1]/\H' O=δ (.dK C')/\GT C'/\aa W H') (λE1 _ fm=>?_) λσ2 HB hq=>?_]
  .left;refine pI λG1 g1=>#[12112212,g1 _ _$ cn (λ_=>?_) (λ_=>?_)]
   .erw[#[12121122,a,ns,12,sA.seq b0,PL,PL,λpB HX n2 BX eX=>#[12,pB,R,Cs,Z,BX,by rw[eX R$ jk (sA _ _ C.ce) n2];rwa[sA _ _ C.ce],C.gc,PL,λl' C' HY n7 b1 g0 l0 BY k1=>fm _ _ #[l',C',Z,b1,g0,λb o e=>k1 _ _ (jk (sA _ _ e) n2) (by rw[eX b$ jk (sA _ _ e) n2];rwa[sA _ _ e])]]]]
   .rwa[fm _ _ #[ot,Cs,Z,eA,C.gc,sA]]
  symm;let(O,C',rfl,eB,gB,sB):=hq;erw[g _ _ ?_];left;let a3:Bp HB nA N T O i0 C' d D nl x B is:={ (C.kp$ Kp.of_same sB) with ce:=eB,gc:=gB };erw[ah λI g=>#[12121212,N,T,O,i0,C',d,D,nl,x,B,is,Z,a3,λc so ao L0 HC e0 b2 o3 d0 s0 u=>g _ _ ?_,λno HC u=>g _ _ ?_]]
  .left;let a4:HC l=δ (.lst ys):=u _ _ Ji (sB _ _ X);erw[ms λG1 yT yF=>#[1212,yT _ #[12,.inl #[21,aJ.of a4],1212,cg,λt nt=>?_]]];let st:aa HC (af HC t$ .tup [.ref c,.ref O]):=je nt;let et:af HC t (.tup [.ref c,.ref O]) t=δ (.tup [.ref c,.ref O]):=jc;generalize af HC t (.tup [.ref c,.ref O])=HD at st et ⊢;let k0:Kp W HD:=((Kp.of_same sB).trans u).trans (Kp.of_same st);let h3:=st _ _ a4;let bc:Bq HD nA N T i0 d D nl x B is (.ref t):=#[t,c,O,C',L0,so,ao,Z,et,a3.kp$ u.trans$ Kp.of_same st,zH b2$ aa.tm st,o3,d0,s0,e0];let kU:∀b o,b≠l->HD b=δ o->af HD l (.lst$ ys++[.ref t]) b=δ o:=λb o nb e=>by rw[ji nb];exact e
   erw[#[l,ys,122,h3,PL,fE _ _ #[111,ys++[.ref t],Z,jc,by rw[Ru];show ο ys+1<=ii+1;omega,λy hy'=>?_,(k9.trans$ n9.of_kp k0).trans λb o nb _ e=>kU b o nb e]]];symm;rcases γ.mp hy' with hy' |hy'
   .exact((hy y hy').kp k0).kb h3 kU jc
   .cases τ.mp hy';rwa[bc.kb h3 kU jc]
  .left;refine ms λG1 yT yF=>#[1212,yF _$ fE _ _ #[111,ys,Z,?_,PL,?_,?_]]
   .rwa[u _ _ Ji$ sB _ _ X]
   .exactλy hy'=>(hy y hy').kp ((Kp.of_same sB).trans u)
   .rwa[k9.trans$ n9.of_kp ((Kp.of_same sB).trans u)]
 .symm;let(o8,o9,o1,ys,rfl,X,ly,hy,k9):=h;exact#[1212,cg,λt' n3=>q t' N l T i0 d D nl x B is ys _ jc ((je n3) _ _ X) PL (λy hy'=>(hy y hy').kp (Kp.of_same$ je n3)) ((k9.kp S7 n5).trans$ Kp.of_same$ je n3)]
abbrev DB:cc:=bX 85
inductive tJ(k:xL V)(H:Hp)(Q:VK)(a:XK):Prop
 |mk(D:DF)(c b:ζ)(f:ρ)(g h:xL Int)(j i:Sk)(d e:Int)(_:k=[.ref c,.ref b])(_:io H f g j d (.ref c))(_:j.ok μ)(_:j.dep<=15)(_:j.size<=60)(_:io H f h i e (.ref b))(_:i.ok μ)(_:i.dep<=15)(_:i.size<=60)(_:Dt D f j)(_:Dt D f i)(_:∀(l:ζ) (ws:xL V) (H':Hp),H' l=δ (.lst ws)->bq eU H' (gg i j.steps 0 [] 0) ws->aa H H'->Q (.ref l) H')
def ET:am ["_law_old","_law_new","_law_found_here"] z23z (ae DB):=bP
noncomputable def vN:ge:=#[.function,[(".0",.local),("_law_pair",.local)],ν,ν,[]]
def Gv:(["_law_pair"]:xL ρ).Nodup:=PH
def FG:bh ["_law_old","_law_new","_law_found_here"] (ae DB) vN ["_law_pair"] 1 []:=oi
def Hf{f:ζ}{fd:bS}{fL:ζ}{I:bS}(F:xD K "_law_anew" DB f fd)(cL:{37} fL I z23z tH "_law_laid")(M:mg "sorted"=θ):⇑38 f fd z23z tJ:=by
 erw[F.ok ET λc0 A O s H vs Q E hr h=>?_]
 let(D,c,b,f',is,js,S,d,a0,a1,rfl,J,N,T,U,hc,o,dp,sz,d0,d1,q):=h;erw[#[_,%[ET|_ce2 cL.e hr.m _a0a1bflA qy _j M UY _aoψ (@za _ _ _ _ _ _ _ ["_law_pair"] 1 [] _ _ _ _ Z %[ET|_Sh2] FG (λ_ _ _ _ _=>ju (i:=0) Gv Z$ ψ Z) (λ_ _ _ _ _=>@zw _) (λ_ _ _ _ _=>%[ET|_K (r:=db K) _G0gp]) Cv) _h2b],?_]];let b0:=aL;erw[ah λF1 f1=>#[1212,D,c,b,f',is,js,S,d,a0,a1,Z,J,N,T,U,hc,o,dp,sz,d0,d1,λz kA tA fA dA xt X j H3 hz ht lt hf lf pf s3=>f1 _ _ ?_]];let u:((iN d [] S.steps 0 [] 0).t.map (·.2)++j).Perm (gg d S.steps 0 [] 0):=(pf.append_left _).trans (JZ d [] S.steps 0 [] 0);let sr:=ww o S.steps 0 [] 0;let ln:=XJ o S.steps 0 [] 0;let l4:=u.length_eq;let V:=lt.len;let l5:=lf.len;let l8:((iN d [] S.steps 0 [] 0).t.map (·.2)++j).length=(iN d [] S.steps 0 [] 0).t.length+ο j:=by rw[Ru,Rs]
 erw[(jv hz gY #[tA,Z,#[_,aJ.of ht],J2 (K:=K) (xs:=xt) PL (λi a g=>g=H3/\bq eU H3 (((iN d [] S.steps 0 [] 0).t.take i).map (·.2)) a) #[22] (λi a g h=>?_) (λi x a g hx h=>?_) (λa g h l Y=>?_)])]
 .let(rfl,h):=h;exact#[aJ.of ht,by rw[h.len,Rs,R0];rwa[Vv _ _]]
 .let(rfl,h):=h;let(pr,h0,y,pa,pb,rfl,k,v,e3):=lt.at hx;erw[(jv k gY #[Z,?_])];rw[SX,h0,RU];rwa[bq.app (bq.one (R:=eU) #[pb,Z,e3]) h]
 let(rfl,h):=h;rw[V,Su]at h;let s4:aa g (af g l$ .lst a):=je Y;let l0:=h.len;rw[Rs]at l0;erw[(jv (s4 _ _ hz) eO #[l,fA,1122,jc,s4 _ _ hf,PL,λL n0=>?_])];let B:aa g (af (af g l$ .lst a) L$ .lst$ a++X):=s4.trans (je n0);let e5:af (af g l$ .lst a) L (.lst$ a++X) L=δ (.lst$ a++X):=jc;generalize af (af g l$ .lst a) L (.lst$ a++X)=C at B e5 ⊢;let la:bq eU C ((iN d [] S.steps 0 [] 0).t.map (·.2)++j) (a++X):=bq.app (lf.mono bJ$ aa.tm B) (h.mono bJ$ aa.tm B);erw[#[L,a++X,((iN d [] S.steps 0 [] 0).t.map (·.2)++j),Z,aJ.of e5,la.len,by rw[Ru];omega,λi x p h1 G=>?_,u.nodup_iff.mpr$ AN sr,λl6 W rs n1 g1 g2 g3 g4=>?_]]
 .let(p',n,y,k,v):=la.at h1;rw[G]at n;cases n;exact#[y,k,v,wt o$ u.mem_iff.mp$ RL G]
 let e0:rs=gg d S.steps 0 [] 0:=wz g2 sr (g1.trans u);subst e0;let l1:bq eU C (gg d S.steps 0 [] 0) W:=rR g3 λi x p h1 G=>let #[y,k,v,_]:=g4 i x p h1 G;#[y,k,v]
 let s6:aa C (af C l6$ .lst W):=je n1;rwa[q _ _ _ jc (l1.mono bJ$ aa.tm s6)$ s3.trans$ B.trans s6]
def AQ(s:Sp):Sp:=λv H Q _=>s v H Q λ_ _ _=>False
def AR{P:ω}{w:bF}{K:Ψ}{mg:ρ->ym η}{base:de}{k:Nat}{f:ζ}{b:bS}{p:xL ρ}{S:Sp}(F:ai P w K mg base (dN P w) k f b p S):⇑k f b p (AQ S):=
 #[λv H Q E h=>F.len v H Q _ h,λA o s H a u v Q E c d g i j=>Ue (F.run A o s H a u v Q _ c d g i j) λr m h=>by
  cases r with
  |error e=>let(_,_,_,_,_,_,_,_,_,_,_,_,_,h):=h;rwa[h.elim]
  |ok l=>cases l<;>rwa[h]]
structure Lx(K:Ψ):Prop where
 tt:kitOne K (.type "tuple") (.type "tuple")=δ μ
 ll:kitOne K (.type "list") (.type "list")=δ μ
 ii:kitOne K (.type "int") (.type "int")=δ μ
def OY(H:Hp)(x y:V):Prop:=∃t:Tr,t.dep<=5/\t.In/\t.isL=ν/\aV H t x []/\aV H t y []
def Ox{H:Hp}{x y:V}{p:aN}(h:eU H x p)(g:eU H y p):OY H x y:=by let(a,rfl,h):=h;let(b,rfl,g):=g;exact#[aB$ p.map au,(by show(aD$ p.map au).dep+1<=5;rw[zo];decide),zB p,Z,zi h,zi g]
section
open SeqAt
inductive YT(x y:V)(H:Hp)(Q:VK):Prop
 |mk(a b:ζ)(c d:xL V)(_:x= .ref a)(_:y= .ref b)(_:H a=δ (.lst c))(_:H b=δ (.lst d))(_:ο c=ο d)(_:∀(j:Nat) (u v:V),c[j]?=δ u->d[j]?=δ v->OY H u v)(_:Q (.bl ν) H)
def Ht{X:Cx}(hu:X.A.units+10 < cLine):gf X (compareOp .NotEq) YT:=by
 intro p s σ H x y v u Q I g k h;let(a,b,l,Y,rfl,rfl,m,n,hl,o,q):=h;cases g;cases k;let(i,r,B,_):=I.list (aJ.of (K:=X.K) m);let(C,R,D,_):=I.list (aJ.of (K:=X.K) n);let la:=r.length;let lb:=R.length;erw[PySem.SeqAt.RcNeAt.lists (e:=λ_=>μ) B.isList D.isList (by simp;omega) PL (λj E h2=>?_) X.prog X.w _ _ ?_]
 .let d:j < ο l:=by simp at E;omega
  let c:j < ο Y:=PL
  let(U,F,G):=r.get (Rq d);let(J,L,M):=R.get (Rq c);let N:i.toArray[j]=U:=by let(_,e):=ξ.mp F;simpa using e
  let O:C.toArray[j]=J:=by let(_,e):=ξ.mp L;simpa using e
  rw[N,O];let(t,S,T,f,V,W):=o j _ _ (Rq d) (Rq c);let z:=XF I 5 t (A:=X.A.in1) S (by show X.A.units+1+5 < cLine;omega) T f T f V W _ _ G M;rw[zF Z]at z;rwa[z]
 .let e:((dr i.toArray.size).all λ_=>μ)=μ:=by simp
  rw[e];exact#[.bl ν,H,I,Z,q]
end
def Pf{A:bU}{k:Nat}(h:cf k A):A.units+10 < cLine:=by let:=h.un;omega
def Yc{X:Cx}{K:Ψ}(h:X.K=K):dS X (.builtin "isinstance") (qc K):=by subst h;rwa[qL]
abbrev gD:cc:=bX 86
inductive Lp(a m l p:ζ)(H:Hp)(n:_L.St)(b:Hp):Prop
 |mk(f g h i j k:ym V)(c:n=[↑a,↑m,↑l,↑p,f,g,h,i,j,k])(d:n9 p H b)(e:ax b p)
def IR{A B:Prop}{E:XK}{T t:ζ}{R:Hp->Prop}(h:¬A)(k:¬B):iP A B E T t R:=by unfold iP;exact#[λa=>(h a).elim,λb=>(k b).elim]
theorem tW:∀{b:Bool} {s:Sk},s.ok b->∀(p:aN) (k:Nat),∀q∈s.ws p k,ο q.1<=ο p+s.dep+(if b=μ then 1 else 0)
 |true,.nil,_,_,_,_,h=>(nomatch h)
 |true,.st n H w r,o,p,k,q,h=>by
  show ο q.1<=ο p+max w.dep r.dep+1;rcases γ.mp (show q∈((p++[(k:Int)],w)::w.ws (p++[(k:Int)]) 0)++r.ws p (k+1) from h) with h |h
  .rcases Ξ.mp h with rfl |h
   .show(p++[(k:Int)]).length<=_;rw[Ru];show ο p+1<=_;omega
   .let z:=tW (b:=ν) o.1 _ _ q h;rw[Ru]at z;let z:ο q.1<=ο p+1+w.dep+0:=z;omega
  .let z:ο q.1<=ο p+r.dep+1:=tW (b:=μ) o.2 _ _ q h;omega
 |false,.cl _ _ s _,o,p,_,q,h=>by let z:ο q.1<=ο p+s.dep+1:=tW (b:=μ) (s:=s) o p 0 q h;show ο q.1<=ο p+(s.dep+1)+0;omega
 |false,.ask _,_,_,_,_,h |false,.rd _ _,_,_,_,_,h |false,.wr _ _,_,_,_,_,h=>(nomatch h)
def LB{s:Sk}(o:s.ok μ)(os:xL aO)(m:Nat){p:aN}(h:p∈gg s os m [] 0):ο p<=s.dep+1:=by let(q,H,rfl):=dn.mp ((qF o os m [] 0 (λz=>by cases z)).subset h);let z:ο q.1<=0+s.dep+1:=tW (b:=μ) o [] 0 q H;omega
def gQ:am z46z ["_law_script"] (ae gD):=bP
noncomputable def Z2:ge:=#[.function,[(".0",.local),("_law_one",.local),("isinstance",.globalImplicit),("int",.globalImplicit)],ν,ν,[]]
def CC:(z6z:xL ρ).Nodup:=PH
def BS:bh z46z (ae gD) Z2 z6z 1 []:=oi
def G8{f:ζ}{fd:bS}{TL TD nA fX fT fB fG fN:ζ}{f0 f2 f3 f4 f5:bS}(F:xD K "law" gD f fd)(cX:{1} fX f0 ["_law_script","_law_k"] (oI K) "_law_box")(cT:{1} fT f2 z0z aZ "_law_take")(cB:{66} fB f3 ["_law_script"] (tq K nA) "_law_books")(cG:{71} fG f4 ["parts","old","cells","most"] (AQ$ mP TL TD nA) "again")(cN:{38} fN f5 z23z tJ "_law_anew")(tk:Lx K)(m1:mg "dict"=θ)(ml:mg "len"=θ)(mr:mg "range"=θ)(m2:mg "min"=θ)(X:mg "isinstance"=θ)(m3:mg "tuple"=θ)(m4:mg "list"=θ)(m6:mg "int"=θ)(m7:mg "all"=θ):⇑74 f fd ["_law_script"] (oN K):=by
 erw[F.ok gQ λc0 A o2 s H vs Q E R h=>?_]
 symm;let(a,ns,rfl,hS,hn,q):=h;erw[#[_,%[gQ|_cO cB.e R.m _a0bP (n:=2) _jqi1qi2γce3 cX.e R.m _a0agbcHTjοj mr _aA (Q8 Z) _j m2 boot_min _agao zD _gAεjπζa2bbbi4ce5kGku2 cT.e R.m _a3aAεjπζa2bbpgpcOku2 cT.e R.m _a3aAεjπζa2bbpP (n:=2) _jqi6qi7γce8 cG.e R.m _a1a5aE qU _j m1 boot_dict _a7bagbcm (PW.pt %[gQ|_θs (yB (d:=100)$ Uf$ Mf R) _h86w _ _θs (Ht$ Pf R) _h8 cN.e R.m _a5a6bw _ _μ (Zc$ Zb$ jH qL Z X WI %[gQ|_ah8a (XL (v:=.ty "list") Z m4 boot_list Z) _b])]) _fl (@yH _ _ _ _) _tfHTjSh8i9fm (PW.pt$ J7 (Zc$ Zb$ jH qL Z X WI %[gQ|_a9a (XL (v:=.ty "tuple") Z m3 Tu Z) _b])$ Ja$ Zc$ Zb$ jH (wG Z) Z m7 boot_all$ ja (@za _ _ _ _ _ _ _ z6z 1 [] _ _ _ _ Z (qk$ pv 9) BS (λ_ _ _ _ _=>ju (i:=0) CC Z$ ψ Z) (λ_ _ _ _ _=>@zw _) (λ_ _ _ _ _=>jH (Yc (K:=K) Z) Z X WI %[gQ|_a0a (XL (v:=.ty "int") Z m6 WY Z) _b]) Cv) jb) _fl (@yH _ _ _ _) _tfl (@yH _ _ _ _)],?_]];let b2:=aL;sleep 3;erw[ah λF1 g=>#[12,a,ns,Z,hS,hn,λr G l ag i d ds nl xs p0 is Y H1 h' I ly hy k1=>#[r,12,aC.of h',21121122,g _ _ ?_]]];left;erw[ah λF1 g=>#[12,a,ns,3,Z,k1.seq hS,PM,PM,λp H2 np B2 e2=>g _ _ ?_]];left;let s2:aa H1 H2:=λb o e=>by rw[e2 b$ jk e np];rwa[e]
 symm;obtain⟨m,hm,m0,m5,mp⟩:∃m:Int,(if 2*(Y.length:Int) < 5 then 2*(Y.length:Int) else 5)=m/\0<=m/\m<=5/\(0 < m->0 < ο Y):=#[12,by split<;>omega,by split<;>omega,by split<;>omega];show cw _ _ _ [↑a,↑G,↑l,↑p,θ,θ,θ,θ,θ,θ] H2;erw[ah λF1 g=>eG λJ j=>#[12,l,12,.inl$ aJ.of$ s2 _ _ I,1122,.inl #[PM,PM],112,?_]];rw[hm];erw[#[12,PL,PL,j _ _ ?_]];erw[kn (lo:=0) (λ_=>Lp a G l p H2) #[θ,θ,θ,θ,θ,θ,Z,λ_ _ _ _ e=>e,B2] ?_ (λσ H' h=>g _ _ (q _))];left;intro E rt ii σ H9 b3 fE Gq S h;symm;let(o4,o5,o6,o7,o8,o9,rfl,k9,B9):=h;erw[S ?_];let yp:0 < ο Y:=mp PL;let k6:Kp H1 H9:=k9.kp s2 np;let a1:H9 l=δ (.lst Y):=k6 _ _ Ji I;show cw (dI _ _) _ E [↑a,↑G,↑l,↑p,δ$ .int (0+(ii:Int)),o5,o6,o7,o8,o9] H9;sleep 4;erw[ah λF1 g=>#[121212,l,12,.inl$ aJ.of a1,p,12,B9,PL,PL,λd1 HA d4 d5 BA eA=>?_]];let k0:n9 p H9 HA:=λb o nb _ e=>by rw[eA b nb];rwa[e]
 let k3:Kp H1 HA:=(k9.trans k0).kp s2 np;let h2:=k3 _ _ Ji I;symm;obtain⟨n1,rfl⟩:∃n1:Nat,d1=(n1:Int):=#[d1.toNat,PL];let h3:n1 < ο Y:=PL
 let(t,c,cA,Cs,L,so,ao,e1,h0,ak,a4,o1,d3,s1,T):=(hy _$ TF h3).kp k3;erw[#[l,11122,aJ.of h2,jE$ Rq h3,?_]];rw[e1];erw[#[t,11122,aC.of h0,eQ,g _ _ ?_]];show cw (dI _ _) _ E [↑a,↑G,↑l,↑p,δ$ .int (0+(ii:Int)),↑c,o6,o7,o8,o9] HA;erw[ah λF1 g=>#[121212,l,12,.inl$ aJ.of h2,p,12,BA,PL,PL,λd2 M d6 d7 BB eB=>?_]];let k4:n9 p HA M:=λb o nb _ e=>by rw[eB b nb];rwa[e]
 let k5:Kp H1 M:=((k9.trans k0).trans k4).kp s2 np;let a5:=k5 _ _ Ji I;symm;obtain⟨n2,rfl⟩:∃n2:Nat,d2=(n2:Int):=#[d2.toNat,PL];let h4:n2 < ο Y:=PL
 let(t2,c2,cB,C2,_L,s0,a2,e0,a',a0,h5,O,d0,cg,B):=(hy _$ TF h4).kp k5;let t0:aj HA M:=(aI.of_eq eB).tm BA;let U:=zH a4 t0;let o3:wj p0 d.f is so ao:=#[(60),Cs,(16),[],0,L,so.size,T];erw[#[l,11122,aJ.of a5,jE$ Rq h4,?_]];rw[e0];erw[#[t2,12,aC.of a',21121122,g _ _ ?_]];show cw (dI _ _) _ E [↑a,↑G,↑l,↑p,δ$ .int (0+(ii:Int)),↑c,↑c2,↑cB,o8,o9] M;erw[ah λF1 g=>#[121212,cB,C2,Z,a0.ce,λot not=>?_]];let sC:aa M (af M ot$ .dK C2):=je not;let eC:af M ot (.dK C2) ot=δ (.dK C2):=jc;let C:=a0.kp (Kp.of_same sC);generalize af M ot (.dK C2)=HC at sC eC C ⊢;erw[(show mP TL TD nA [.ref G,.ref c,.ref ot,.int ((60:Nat):Int)] HC _ (λ_ _ _=>False) from ?_)];erw[#[(60),G,ot,c,i,C2,so,ao,d,ds,nl,xs,p0,is,Z,Rv _,C.ps,C.hd,C.hn,C.hi,eC,C.gc,io.mono' U$ aa.tm sC,o1,PL,o3,λp' lw v ws sk a3 L' HD W hp hl hw hc ok dp sz sD=>g _ _ ?_,IR (λW=>by rw[B]at W;cases W) (λW=>by rw[B]at W;cases W)]];left;rw[B]at W;symm;injection W with z1 z2 z3 z4;subst z1;subst z2;let(cv,_,_,_,rfl,_,_,_,_):=id hc;let S1:=sC.trans sD;let h6:=zH U (aa.tm S1);let D:=zH h5 (aa.tm S1);show cw (lh _ _ _) _ E [↑a,↑G,↑l,↑p,δ$ .int (0+(ii:Int)),↑c,↑c2,↑cB,↑p',o9] HD;erw[ah λF1 g=>(jv hp eQ #[12,LJ d.f is s0 a2,LJ d.f is s0 a2,Fz O d0,Ek O,Ek O,El hc O,El D O,12,a9 (by rw[zF Z];rfl) ?_])];erw[(jv hp gY #[1212,NF p0,c,c2,d.f,is,is,so,s0,ao,a2,Z,h6,o1,d3,PL,D,O,d0,PL,Zo 16 _ _ _ _ _ _ _ _ T,Zo 16 _ _ _ _ _ _ _ _ B,λl6 w0 H6 b0 h7 s6=>?_])];let h1:=hw.mono bJ (aa.tm s6);let N:=s6 _ _ hl;let h8:=s6 _ _ hp;erw[#[lw,l6,ws,w0,22,N,b0,by rw[h1.len,h7.len],λj u v hu hv=>?_,12,a9 Z #[12,p',11122,aC.of h8,gY,_,.ty "list",_,.type "list",μ,22,.lst N,tk.ll,12,a9 Z$ g _ _ ?_]]]
 .symm;let(p1,g1,r1):=h1.at hu;let(p2,g2,r2):=h7.at hv;rw[g1]at g2;cases g2;rwa[Ox r1 r2]
 left;let S2:Kp M H6:=Kp.of_same (S1.trans s6);let kE:n9 p H2 H6:=((k9.trans k0).trans k4).trans (n9.of_kp S2);let B6:=BB.kp S2;erw[eG λJ jj=>(jv h8 gY #[lw,Z,#[_,aJ.of N],jj _ _ ?_])];erw[qi (K:=K) (a:=lw) (xs:=ws) (λ_ σ H'=>(∃o9,σ=[↑a,↑G,↑l,↑p,δ$ .int (0+(ii:Int)),↑c,↑c2,↑cB,↑p',o9])/\aa H6 H') #[#[12],aa.refl _] (λk σ H' _ h=>aJ.of (h.2 _ _ N)) ?_ (λσ H' h=>?_)]
 .intro E2 r0 k2 y σ H' b1 f6 Gq S h;symm;obtain⟨⟨o',rfl⟩,sy⟩:=h;erw[S ?_];symm;let(p1,g1,y1,rfl,r1):=h1.at b1;let r1:=sy _ _ r1;let lp:=LB O so.steps 0 (RL g1);let l0:(p1.map xb).length=ο p1:=Rs _;erw[ms λG1 yT yF=>#[121,.ty "tuple",_,.type "tuple",μ,22,.tup r1,tk.tt,12,a9 Z ?_]];erw[#[12,y1,Z,#[_,aC.of r1],?_]];refine qj (K:=K) (xs:=p1.map xb) PL (λi Y H5=>Y=(fz i μ).map V.bl/\H5=H') #[22] (λi Y H5 h=>?_) (λi v Y H5 hv h=>?_) (λY H5 h l9 n0=>?_)
  .symm;let(rfl,rfl):=h;exact#[aC.of r1,by rw[Rs,UG];rwa[Rv _]]
  .symm;let(rfl,rfl):=h;rw[RP]at hv;let(c9,_,rfl):=cJ.mp hv;exact#[121,.ty "int",_,.type "int",μ,22,.int _,tk.ii,by rw[List.replicate_succ',RU];rfl,Z]
  .symm;let(rfl,rfl):=h;erw[#[l9,fz (p1.map xb).length μ,Z,aJ.of jc,?_]];let e9:(fz (p1.map xb).length μ).all id=μ:=sn.mpr λx hx=>(List.mem_replicate.mp hx).2;rw[e9];exact#[12,yF _$ f6 _ _ #[#[12],sy.trans$ je n0]]
 .symm;obtain⟨⟨o',rfl⟩,sy⟩:=h;rwa[fE _ _ #[1111112,kE.trans$ n9.of_kp$ Kp.of_same sy,B6.same sy]]
def Mr{f:ζ}{F:bS}{k:Nat}{C T a n:ζ}:ai P w K mg base (dN P w) k f F z16z (oG C T a n 0):=by
 let N:∀{v H Q E},¬oG C T a n 0 v H Q E:=by rintro v H Q E ⟨M,r,g,j,l,m,q,p,c,u,D,t,x,i,L,y,S,B,d,G,I,X,e,J,_,_,z,_⟩;omega
 exact#[λv H Q E h=>(N h).elim,λA o s H b U v Q E O R V W h=>(N h).elim]
theorem O2{C T t n h z A B i fP fN fG fL fV fI fE fO fK fF:ζ}{f F a b c k l o p q r s u v x:bS}(y:RK K C)(N:ba K C "anew")(D:aT K "chain_along" "AgainRun.chain_along" Dp h f)(E:aE K f z16z [])(m:bo K C "chain_along" h)(G:aT K "what_along" "AgainRun.what_along" Dq z F)(H:aE K F z28z [])(M:bo K C "what_along" z)
  (I:∀j,ai P w K mg base (dN P w) (2*j+13) A a z12z$ iV C T t n j) (J:aE K a z12z []) (d:bo K C "what_of" A) (GT:ai P w K mg base (dN P w) 1 B b ["self"] (gG C T)) (L:aE K b ["self"] []) (e:bo K C "take_turn" B) (O:ai P w K mg base (dN P w) 1 i c ["deep"] (dY t)) (Q:aE K c ["deep"] []) (R:hG K (.ref i)=μ) (S:mg "deeper"=↑i) (U:{36} fP k z10z (oU 17) "paths_at")
  (V:{2} fN l ["parts","f"] l7 "part_of") (W:{1} fG o ["chain","number"] oK "goal_at") (X:{1} fL p ["steps","mark","cut"] lY "like_from") (Y:{2} fV q ["steps","mark","deed"] lX "lender_from") (cI:{1} fI r ["what"] mQ "deed_in") (cE:{9} fE s z9z (fh n) "deed_at") (cO:{9} fO u ["part","step"] (pZ n) "onward") (cK:{1} fK v ["steps","at"] mW "chain_taken") (cF:{1} fF x ["what"] lT "found_in") (ml:mg "len"=θ) (g:mg "tuple"=θ):∀j,ai P w K mg base (dN P w) (2*j+38) h f z16z (oG C T t n j)
 |0=>Mr
 |j+1=>Mt D y N V W X Y cI cE cO cK cF (Mu G y N (I j) J d GT L e (O2 y N D E m G H M I J d GT L e O Q R S U V W X Y cI cE cO cK cF ml g j) E m O Q R S U) H M ml g
@[elab_as_elim] theorem Pt{P:xL η->Prop}(u:xL η)(h:ο u=1)(q:∀a,P [a]):P u:=by
 cases u with
 |nil=>cases h
 |cons a r=>
  cases r with
  |nil=>rwa[q a]
  |cons _ _=>cases h
def _root_._L.aT.b1{K:Ψ}{st:cc}{p:xL ρ}(F:aT K x q st f g)(h:∀(kV d b:η) (A:ym ζ) (c C a:η),bindArgs (tT x q (ci st) (bM st) (ae st) .none kV d b A c C) #[[a],[]]=pure (p.zip [a]):=by intros;rfl)(e:↥(ο p=1)):aE K g p []:=F.binds λkV d b A c C u H=>Pt u (H.trans e) λa=>h kV d b A c C a
@[elab_as_elim] theorem Pu{P:xL η->Prop}(u:xL η)(h:ο u=2)(q:∀a b,P [a,b]):P u:=by
 cases u with
 |nil=>cases h
 |cons a r=>
  cases r with
  |nil=>cases h
  |cons b R=>
   cases R with
   |nil=>rwa[q a b]
   |cons _ _=>cases h
def _root_._L.aT.b2{K:Ψ}{st:cc}{p:xL ρ}(F:aT K x q st f i)(h:autoParam (∀(kV d g:η) (A:ym ζ) (c C a b:η),bindArgs (tT x q (ci st) (bM st) (ae st) .none kV d g A c C) #[[a,b],[]]=pure (p.zip [a,b])) _L.aT.b1._auto_1)(e:↥(ο p=2)):aE K i p []:=F.binds λkV d g A c C u H=>Pu u (H.trans e) λa b=>h kV d g A c C a b
@[elab_as_elim] theorem Pw{P:xL η->Prop}(u:xL η)(h:ο u=3)(q:∀a b c,P [a,b,c]):P u:=by
 cases u with
 |nil=>cases h
 |cons a r=>
  cases r with
  |nil=>cases h
  |cons b R=>
   cases R with
   |nil=>cases h
   |cons c d=>
    cases d with
    |nil=>rwa[q a b c]
    |cons _ _=>cases h
def _root_._L.aT.b3{K:Ψ}{st:cc}{p:xL ρ}(F:aT K x q st f j)(h:autoParam (∀(kV d g:η) (A:ym ζ) (C i a b c:η),bindArgs (tT x q (ci st) (bM st) (ae st) .none kV d g A C i) #[[a,b,c],[]]=pure (p.zip [a,b,c])) _L.aT.b1._auto_1)(e:↥(ο p=3)):aE K j p []:=F.binds λkV d g A C i u H=>Pw u (H.trans e) λa b c=>h kV d g A C i a b c
@[elab_as_elim] theorem Px{P:xL η->Prop}(u:xL η)(h:ο u=4)(q:∀a b c d,P [a,b,c,d]):P u:=by
 cases u with
 |nil=>cases h
 |cons a r=>
  cases r with
  |nil=>cases h
  |cons b R=>
   cases R with
   |nil=>cases h
   |cons c e=>
    cases e with
    |nil=>cases h
    |cons d f=>
     cases f with
     |nil=>rwa[q a b c d]
     |cons _ _=>cases h
def _root_._L.aT.b4{K:Ψ}{st:cc}{p:xL ρ}(F:aT K x q st f j)(h:autoParam (∀(kV D g:η) (A:ym ζ) (C i a b c d:η),bindArgs (tT x q (ci st) (bM st) (ae st) .none kV D g A C i) #[[a,b,c,d],[]]=pure (p.zip [a,b,c,d])) _L.aT.b1._auto_1)(e:↥(ο p=4)):aE K j p []:=F.binds λkV D g A C i u H=>Px u (H.trans e) λa b c d=>h kV D g A C i a b c d
@[elab_as_elim] theorem Py{P:xL η->Prop}(u:xL η)(h:ο u=5)(q:∀a b c d e,P [a,b,c,d,e]):P u:=by
 cases u with
 |nil=>cases h
 |cons a r=>
  cases r with
  |nil=>cases h
  |cons b R=>
   cases R with
   |nil=>cases h
   |cons c f=>
    cases f with
    |nil=>cases h
    |cons d g=>
     cases g with
     |nil=>cases h
     |cons e i=>
      cases i with
      |nil=>rwa[q a b c d e]
      |cons _ _=>cases h
def _root_._L.aT.b5{K:Ψ}{st:cc}{p:xL ρ}(F:aT K x q st f j)(h:autoParam (∀(kV D g:η) (A:ym ζ) (C i a b c d e:η),bindArgs (tT x q (ci st) (bM st) (ae st) .none kV D g A C i) #[[a,b,c,d,e],[]]=pure (p.zip [a,b,c,d,e])) _L.aT.b1._auto_1)(e:↥(ο p=5)):aE K j p []:=F.binds λkV D g A C i u H=>Py u (H.trans e) λa b c d e=>h kV D g A C i a b c d e
def fq(K:Ψ)(p q:ρ)(st:cc)(f:ζ):Prop:=∃(o:η) (O:ym ζ) (kV d a:η) (A:ym ζ) (c C:η) (s:Array (ym η)),K.lookup f=δ #[o,O,.func$ tT p q (ci st) (bM st) (ae st) .none kV d a A c C,s]/\codeIn K c q=μ/\hG K (.ref f)=μ
def cp(K:Ψ)(p:ρ)(st:cc)(f:ζ):Prop:=nsIn K Φ p=δ (↑f)/\fq K p p st f
section
variable {K:Ψ}{py q:ρ}{st:cc}{f:ζ}{oc:η}{od:ym ζ}{kV dc pm:η}{an:ym ζ}{cd ct:η}{sl:Array (ym η)}
def O3(l:K.lookup f=δ #[oc,od,.func$ tT py q (ci st) (bM st) (ae st) .none kV dc pm an cd ct,sl])(c:codeIn K cd q=μ)(k:hG K (.ref f)=μ):fq K py q st f:=#[111111111,l,c,k]
def OG(a:nsIn K Φ py=δ (↑f))(l:K.lookup f=δ #[oc,od,.func$ tT py py (ci st) (bM st) (ae st) .none kV dc pm an cd ct,sl])(c:codeIn K cd py=μ)(k:hG K (.ref f)=μ):cp K py st f:=#[a,O3 l c k]
def fq.go(h:fq K py q st f):∃F,aT K py q st f F/\hG K (.ref f)=μ:=by let(oc,od,kV,dc,pm,an,cd,ct,sl,l,c,k):=h;exact#[_,xu l c k,k]
def cp.go{mg:ρ->ym η}(t:cp K py st f)(X:K.In h)(G:h.Ns Φ mg):∃a,aT K py py st f a/\hG K (.ref f)=μ/\mg py=↑f:=by let(a,F,k):=t.2.go;exact#[a,F,k,VE X G t.1]
end
def Fs{l:rz}{w:bF}{K:Ψ}{mg:ρ->ym η}(X:K.In h)(G:h.Ns Φ mg)(q':mg "law"=↑fa)

  (t3:cp K "names_in" gE f3)
  (t4:cp K "own_terms" Im r0)
  (t5:cp K "used_behind_terms" Al fUb)
  (t6:cp K "used_ahead_of" DH f6)
  (t7:cp K "used_ahead" DG fUa)
  (t8:cp K "bodies_in" Ib r1)
  (t9:cp K "many_cuts" Ad r2)
  (t':cp K "deed_of" y9 r3)
  (r4:cp K "place_of_give" nK f7)
  (r5:cp K "place_of_set" Af r6)
  (r7:cp K "part_made" Ae r8)
  (r9:cp K "made" sO r')
  (s0:cp K "_law_box" Ie s1)
  (wb:cp K "_law_take" Ak s2)
  (s3:cp K "_law_number" nG s4)
  (s5:cp K "_law_names" lN s6)
  (s7:cp K "_law_term" sR s8)
  (s9:cp K "_law_spot" Ag s')
  (u0:cp K "_law_statement" Ah fSt)
  (u1:cp K "_law_body" sM u2)
  (u3:cp K "_law_any" Ia u4)
  (fb:cp K "_law_op" Oo u8)
  (u9:cp K "_law_inner" pQ u')
  (v1:cp K "_law_looped" lB v2)
  (v3:cp K "_law_ticking" iA v4)
  (v5:cp K "_law_busy" yZ v6)
  (v7:cp K "_law_case" sN v8)
  (v9:cp K "joined" nE v')
  (w0:cp K "worth" nL w1)
  (w2:cp K "named" nF w3)
  (w4:cp K "begun" pN w5)
  (w6:cp K "deeper" nB w7)
  (w8:cp K "part_of" nJ w9)
  (w':cp K "cut_at" pP x1)
  (x2:cp K "held_at" nD x3)
  (x4:cp K "worths" lD x5)
  (x6:cp K "deed_at" ny x7)
  (x8:cp K "found_in" iz f8)
  (x9:cp K "end_of" nC x')
  (y0:cp K "first_of" lM y1)
  (y2:cp K "onward" nH y3)
  (y4:cp K "run" Ip y5)
  (y8:cp K "whats_at" DJ y')
  (A1:cp K "whats_in" DK A2)
  (A3:cp K "paths_at" DC A5)
  (A8:cp K "deed_in" Ii A9)
  (A':cp K "goal_at" Ij B1)
  (B2:cp K "like_from" Ac B3)
  (B4:cp K "chain_taken" Iq B5)
  (B6:cp K "again" HZ f9)
  (B7:cp K "lender_from" Ab B8)
  (B9:cp K "_law_cells" pO B')
  (C2:cp K "_law_changes" Ih C')
  (D0:cp K "_law_changed" Ig D1)
  (D':cp K "_law_found" Il E1)
  (E2:cp K "_law_all_in" Dr E3)
  (E4:cp K "_law_beside" vH E5)
  (E6:cp K "_law_laid" Dy E7)
  (E8:cp K "_law_book" pR E9)
  (E':cp K "_law_masked" DA H0)
  (H1:cp K "_law_books" Ic H2)
  (H3:cp K "_law_anew" DB H4)
  (tZ:cp K "law" gD fZ)
  (H5:nsIn K Φ "NOUGHT"=δ (↑u)) (H6:K.lookup u=δ #[.type "tuple",odN,.seq (ε [.str "num" rN0,.int 0 rN1]) nN,slN]) (H7:nsIn K Φ "Cutting"=δ (↑p)) (v0:nsIn K Φ "TOP"=δ (δ$ .int 1000000000000000000 tTop)) (vD:nsIn K Φ "DEEPEST"=δ (δ$ .int 15 tD)) (vR:nsIn K Φ "BookRun"=δ (↑C)) (vT:nsIn K Φ "Turns"=δ (↑d0)) (vL:nsIn K Φ "AgainRun"=δ (↑c)) (vB:nsIn K Φ "BookError"=δ (↑xB))
  (H8:nsIn K Φ "TooLong"=δ (↑y))
  (H9:nsIn K Φ "TooDeep"=δ (↑A))
  (H':K.lookup y=δ #[ocxL,odxL,.cls cdxL,slxL]) (t0:typeIn K (.ref y)=δ (.type "type")) (mbxL:mroIn K y (.type "BaseException")=δ μ) (k':hG K (.ref y)=μ)
  (I1:K.lookup A=δ #[ocxD,odxD,.cls cdxD,slxD]) (t1:typeIn K (.ref A)=δ (.type "type")) (mbxD:mroIn K A (.type "BaseException")=δ μ) (d1:hG K (.ref A)=μ)
  (I2:K.lookup xB=δ #[ocxB,odxB,.cls cdxB,slxB]) (t2:typeIn K (.ref xB)=δ (.type "type")) (d2:mroIn K xB (.type "BaseException")=δ μ) (I3:mroIn K y (.ref xB)=δ μ) (I4:mroIn K A (.ref xB)=δ μ)
  (e0:excIn K y uj "ValueError.__new__"=μ) (e1:excIn K A uj "ValueError.__new__"=μ)
  (d3:wq K y) (d4:wq K A)
  (rk:RK K C) (I5:Mk K C f0) (tm:wc K d0 "__init__" f4) (d5:bo K C "take_turn" f1) (d6:bo K C "number_in" f2) (m6:bo K C "chain_of" f') (d7:bo K C "what_of" f5)
  (ra:RK K c) (n6:ba K c "anew") (I6:Mk K c d8) (I7:wc K C "__init__" f0) (M:bo K c "take_turn" f1) (m7:bo K c "number_in" f2) (m8:bo K c "chain_of" f') (m9:bo K c "what_of" f5) (m':bo K c "chain_along" d') (e2:bo K c "what_along" I')
  (ck:CK K p) (mk:Mk K p e3) (e4:bo K p "place_of_body" e5) (J0:bo K p "place_of" K1) (K3:bo K p "place_of_cut" K4) (K5:bo K p "ways_of" L0)
  (L1:fq K "__init__" "Cutting.__init__" Aa e3)
  (L3:fq K "place_of_body" "Cutting.place_of_body" Dv e5)
  (L5:fq K "place_of" "Cutting.place_of" DE K1)
  (L6:fq K "place_of_cut" "Cutting.place_of_cut" Dw K4)
  (L7:fq K "ways_of" "Cutting.ways_of" DI L0)
  (L8:fq K "__init__" "Turns.__init__" Ai f4)
  (L':fq K "take_turn" "Turns.take_turn" pS f1)
  (N1:fq K "number_in" "Turns.number_in" Aj f2)
  (N2:fq K "__init__" "BookRun.__init__" yY f0)
  (N3:fq K "chain_of" "BookRun.chain_of" Ds f')
  (N':fq K "what_of" "BookRun.what_of" Du f5)
  (O':fq K "__init__" "AgainRun.__init__" yX d8)
  (P0:fq K "chain_along" "AgainRun.chain_along" Dp d')
  (P1:fq K "what_along" "AgainRun.what_along" Dq I')
  (z4:nsIn K Φ "len"=δ θ)
  (z5:nsIn K Φ "int"=δ θ)
  (z0:nsIn K Φ "range"=δ θ)
  (z2:nsIn K Φ "list"=δ θ)
  (B:nsIn K Φ "reversed"=δ θ)
  (z1:nsIn K Φ "tuple"=δ θ)
  (O:nsIn K Φ "sorted"=δ θ)
  (z6:nsIn K Φ "set"=δ θ)
  (z7:nsIn K Φ "zip"=δ θ)
  (z3:nsIn K Φ "dict"=δ θ)
  (x:nsIn K Φ "enumerate"=δ θ)
  (r:nsIn K Φ "isinstance"=δ θ)
  (z8:nsIn K Φ "min"=δ θ)
  (z':nsIn K Φ "all"=δ θ)
  (tk:Lx K)
  :∃fd:bS,(∀(s:ι) (v:η),BindsTo s fd #[[v],[]] [("_law_script",v)])/\∀base:de,K.In base->base.Ns Φ mg->ai l.prog w K mg base aH 74 fa fd ["_law_script"] (oN K):=by
 let e:=q'.symm.trans (VE X G tZ.1);symm;cases e;let(P4,D,k0,Q):=t3.go X G;let(dOw,e6,P5,P6):=t4.go X G;let(dUb,e7,kUb,P7):=t5.go X G;let(dUo,F1,e8,a2):=t6.go X G;let(dUa,e9,kUa,P8):=t7.go X G;let(dBi,e',P9,P'):=t8.go X G;let(dMc,a3,g0,g1):=t9.go X G;let(dDe,g2,Q',R1):=t'.go X G;let(dPg,F2,g4,g5):=r4.go X G;let(dPs,g6,R3,R5):=r5.go X G;let(dPm,g7,R7,R8):=r7.go X G;let(dMa,g8,R9,R'):=r9.go X G;let(dBx,a4,g',h0):=s0.go X G;let(dTk,F,k,m):=wb.go X G;let(dNu,R,k1,m0):=s3.go X G;let(dNm,F3,k6,a5):=s5.go X G;let(dTm,F4,h1,a'):=s7.go X G;let(dPo,h2,S1,S2):=s9.go X G;let(dSt,h3,kSt,S3):=u0.go X G;let(dBo,b0,S4,h4):=u1.go X G;let(dAn,h5,S5,S6):=u3.go X G;let(dOp,S,k2,m1):=fb.go X G;let(dIn,h6,S7,S8):=u9.go X G;let(dLo,h7,S9,S'):=v1.go X G;let(dTi,h8,T0,T1):=v3.go X G;let(dBu,h',T2,T9):=v5.go X G;let(dCa,i0,T',W0):=v7.go X G;let(dJo,i1,W1,W2):=v9.go X G;let(dWo,T,k7,m2):=w0.go X G;let(dNd,b7,i2,i3):=w2.go X G;let(dBe,i4,W3,W4):=w4.go X G;let(dDp,U,k3,m3):=w6.go X G;let(dPf,V,k4,m4):=w8.go X G;let(dCu,Y,k5,m5):=w'.go X G;let(dHe,b8,i',j0):=x2.go X G;let(dWs,j1,W5,W6):=x4.go X G;let(dDa,F5,k8,b9):=x6.go X G;let(dFo,F6,j2,j3):=x8.go X G;let(dEn,b',j4,j5):=x9.go X G;let(dFi,c0,j',l0):=y0.go X G;let(dOn,F7,k9,c1):=y2.go X G;let(dRu,l1,W7,W8):=y4.go X G;let(dWa,F8,W9,l2):=y8.go X G;let(dWi,c2,W',l3):=A1.go X G;let(dPa,l4,kPa,mPa):=A3.go X G;let(dDi,c3,l5,l6):=A8.go X G;let(dGa,l8,kGa,mGa):=A'.go X G;let(dLk,l9,kLk,mLk):=B2.go X G;let(dKt,l',kKt,mKt):=B4.go X G;let(dAg,n3,kAg,mAg):=B6.go X G;let(dLe,n4,kLe,mLe):=B7.go X G;let(dCe,n5,kCe,mCe):=B9.go X G;let(dCg,n7,kCg,mCg):=C2.go X G;let(dLc,n',kLc,mLc):=D0.go X G;let(dLf,o1,kLf,mLf):=D'.go X G;let(dAi,F9,o2,c4):=E2.go X G;let(dBs,c5,kBs,o3):=E4.go X G;let(dLl,o4,kLl,mLl):=E6.go X G;let(dLb,o5,kLb,mLb):=E8.go X G;let(dMk,o6,kMk,mMk):=E'.go X G;let(dBk,o7,kBk,mBk):=H1.go X G;let(dNw,o8,kNw,mNw):=H3.go X G;let(dmI,o9,kmI):=L1.go;let(dmB,c6,kmB):=L3.go;let(dmO,o',kmO):=L5.go;let(dmC,p0,kmC):=L6.go;let(dmW,p1,kmW):=L7.go;let(dTI,a0,kTI):=L8.go;let(dTT,I,kTT):=L'.go;let(dTN,F0,kTN):=N1.go;let(dRI,a1,kRI):=N2.go;let(dRC,J,kRC):=N3.go;let(dRW,L,kRW):=N'.go;let(dAI,p2,kAI):=O'.go;let(dAL,c9,kAL):=P0.go;let(dAW,p3,kAW):=P1.go;let(ocZ,odZ,kVZ,dcZ,pmZ,anZ,cdZ,ctZ,slZ,lZ,cZ,kZ):=tZ.2;let FZ:=xu (st:=gD) lZ cZ kZ;let b:=TB X G z4;let q:=TB X G z5;let a:=TB X G z0;let E:=TB X G z2;let i:=TB X G B;let N:=TB X G z1;let d:=TB X G O;let n0:=TB X G z6;let n1:=TB X G z7;let o:=TB X G z3;let f:=TB X G x;let t:=TB X G r;let n2:=TB X G z8;let p4:=TB X G z';let p5:px K u:=λH=>.inr #[111,H6,22,cg,(.cons #[12] (.cons #[12] .nil))];erw[#[tT "law" "law" (ci gD) (bM gD) (ae gD) .none kVZ dcZ pmZ anZ cdZ ctZ,λs v=>.of_eq Z,λbase _ _=>?_]];generalize l.prog=P;let g:⇑1 s2 _ _ aZ:=C3 F;let p6:⇑1 s1 _ _ (oI K):=GU a4 b q;let G0:⇑2 s4 _ _ i7:=vm R #[g,F.b2,k,m];let G5:⇑2 s6 _ _ gJ:=yu F3 g F.b2 k m a;let p9:⇑6 s8 _ _ (dH 4):=Ff (P:=P) (w:=w) (base:=base) F4 F4.b3 a' #[g,F.b2,k,m] #[G0,R.b1,k1,m0] b 4;let GPo:⇑7 s' _ _ md:=C1 h2 #[g,F.b2,k,m] #[p9,F4.b3,h1,a'];let SS:=M7 (P:=P) (w:=w) (base:=base) h3 b0 #[g,F.b2,k,m] #[p9,F4.b3,h1,a'] #[GPo,h2.b2,S1,S2] h3.b5 S3 b0.b5 h4 b N a;let GBo:⇑21 u2 _ _ (iS 6):=(SS 6).2;let GAn:⇑22 u4 _ _ tj:=GL h5 #[g,F.b2,k,m] #[G5,F3.b2,k6,a5] #[GBo,b0.b5,S4,h4] b a N q;let G1:⇑2 u8 _ _ oO:=Mx S #[g,F.b2,k,m];let GIn:⇑3 u' _ _ (dZ 2):=yr h6 #[g,F.b2,k,m] #[G1,S.b3,k2,m1];let GLo:⇑3 v2 _ _ (dZ 1):=vj h7 #[g,F.b2,k,m] #[G1,S.b3,k2,m1] q N;let GTi:⇑3 v4 _ _ (dZ 1):=ZX h8 #[g,F.b2,k,m] #[G1,S.b3,k2,m1] q N;let GBu:⇑4 v6 _ _ nP:=CP h' #[g,F.b2,k,m] #[G1,S.b3,k2,m1] #[G5,F3.b2,k6,a5] #[GLo,h7.b4,S9,S'] #[GTi,h8.b4,T0,T1] #[GIn,h6.b4,S7,S8];let GCa:⇑23 v8 _ _ nQ:=CQ i0 #[g,F.b2,k,m] #[G0,R.b1,k1,m0] #[GBu,h'.b1,T2,T9] #[GAn,h5.b3,S5,S6] b N;let NS:=EK (P:=P) (w:=w) (base:=base) D D.b1 Q n0 d;let p':⇑7 f3 _ _ (d9 6):=NS 6;let GNc:⇑7 f3 _ _ (tK K):=Hg (fN:=f3) (fdN:=P4) D #[NS 5,D.b1,k0,Q] n0 d;let GOw:⇑1 r0 _ _ oQ:=Hh e6;let US:=Nq (P:=P) (w:=w) (base:=base) e9 e7 F1 e9.b2 P8 e7.b2 P7 F1.b2 a2 #[GOw,e6.b1,P5,P6] #[p',D.b1,k0,Q] E n0 d i;let GUo:⇑31 f6 _ _ (iI 7):=(US 7).2;let GUz:⇑10 f6 _ _ (iI 0):=(US 0).2;let GBi:⇑1 r1 _ _ oH:=GQ e';let q0:⇑2 r2 _ _ iT:=CW a3 #[GBi,e'.b1,P9,P'] E;let GDe:⇑1 r3 _ _ lS:=CS g2;let GPg:⇑8 f7 _ _ iH:=yv F2 #[p',D.b1,k0,Q];let GPc:⇑8 f7 _ _ (tL K):=Hj F2 #[GNc,D.b1,k0,Q];let GPs:⇑11 r6 _ _ ma:=C0 g6 #[GUz,F1.b2,e8,a2];let GmB:⇑63 e5 _ _ (oR p 8):=O5 (P:=P) (w:=w) (base:=base) ck c6 o' p0 p1 c6.b3 e4 o'.b3 J0 p0.b3 K3 p1.b4 K5 #[q0,a3.b1,g0,g1] #[GUo,F1.b2,e8,a2] #[GDe,g2.b1,Q',R1] #[GPg,F2.b1,g4,g5] #[GPs,g6.b2,R3,R5] b N i 8 (Rv _);let GmI:⇑3 e3 _ _ (tF p):=G7 o9 ck #[q0,a3.b1,g0,g1];let GPm:⇑64 r8 _ _ (nU K u):=CZ g7 ck mk GmI o9.b2 (VE X G H7) (VE X G H5) p5 GmB c6.b3 e4 #[GPc,F2.b1,g4,g5] N i;let GMa:⇑65 r' _ _ (nR K u):=CV g8 #[GPm,g7.b3,R7,R8] N;let GJo:⇑1 v' _ _ lW:=vh i1 (VE X G v0);let G6:⇑7 w1 _ _ (dC K 6):=Bk (P:=P) (w:=w) (base:=base) T T.b2 m2 #[GJo,i1.b3,W1,W2] 6;let G2:⇑1 x1 _ _ (lR u):=yn Y;let q1:⇑2 x3 _ _ (lU u):=vg b8 #[G2,Y.b2,k5,m5] o n1;let GWs:⇑8 x5 _ _ iJ:=vq j1 #[G6,T.b2,k7,m2] N;let G9:⇑9 x7 _ _ (fh u):=u7 F5 #[q1,b8.b3,i',j0] #[G2,Y.b2,k5,m5] #[G6,T.b2,k7,m2] #[GWs,j1.b2,W5,W6];let GFo:⇑1 f8 _ _ gI:=yq F6;let q2:⇑8 x' _ _ (oJ u):=yo b' #[G2,Y.b2,k5,m5] #[G6,T.b2,k7,m2] N p5;let q3:⇑9 y1 _ _ (iG u):=ZZ c0 #[q2,b'.b3,j4,j5] o n1;let G':⇑9 y3 _ _ (pZ u):=vo F7 #[G2,Y.b2,k5,m5] #[q1,b8.b3,i',j0] #[GFo,F6.b1,j2,j3] #[q2,b'.b3,j4,j5];let hxL:clsIn K y≠θ:=by
  unfold clsIn;rw[H'];intro z;symm;cases z
 let hxD:clsIn K A≠θ:=by unfold clsIn;rw[I1];intro z;cases z
 let mxL:=VE X G H8;let mxD:=VE X G H9;let x0:XM K mg "TooLong" y:=#[e0,k',d3,t0,mxL];let xmD:XM K mg "TooDeep" A:=#[e1,d1,d4,t1,mxD];let q4:⇑1 w3 _ _ l7:=vk b7;let G3:⇑2 w9 _ _ l7:=vp V #[q4,b7.b2,i2,i3];let GBe:⇑2 w5 _ _ lF:=yj i4 #[q4,b7.b2,i2,i3] b;let G4:ai P w K mg base (dN P w) 1 w7 _ _ (dY A):=vb U (VE X G vD) xmD;let GTI:⇑1 f4 _ _ (me C):=rZ a0 rk;let GTT:ai P w K mg base (dN P w) 1 f1 _ _ (gG C y):=YE I rk x0;let GTN:⇑1 f2 _ _ (gK C):=sd F0 rk;let GRI:⇑2 f0 _ _ (iU C):=rY a1 rk GTI a0.b3 (VE X G vT) tm;let GRC:=Fv (P:=P) (w:=w) (base:=base) rk J J.b4 m6 L L.b3 d7 #[q3,c0.b2,j',l0] #[G9,F5.b3,k8,b9] #[G',F7.b2,k9,c1] GTT I.b1 d5 GTN F0.b2 d6 (G4) U.b1 k3 m3 #[G3,V.b2,k4,m4] N 16;let GRu:ai P w K mg base (dN P w) 45 y5 _ _ (tM y A u):=Hk l1 rk I5 GRI a1.b4 (VE X G vR) #[GBe,i4.b3,W3,W4] GRC J.b4 m6;let GCe:⇑3 B' _ _ lG:=yl n5 #[g,F.b2,k,m] #[G0,R.b1,k1,m0] a;let hxB:clsIn K xB≠θ:=by unfold clsIn;rw[I2];intro z;cases z
 let mxB:=VE X G vB;let GWi:⇑34 A2 _ _ (mh 16):=Nv (P:=P) (w:=w) (base:=base) F8 F8.b2 l2 c2 c2.b2 l3 f 16;let GWa:⇑35 y' _ _ (oV 17):=yy (n:=16) F8 #[GWi,c2.b2,W',l3];let GPa:⇑36 A5 _ _ (oU 17):=Hi (n:=16) l4 #[GWa,F8.b2,W9,l2];let q5:⇑1 A9 _ _ mQ:=GY c3;let GFz:⇑1 f8 _ _ lT:=ve F6;let GLk:⇑1 B3 _ _ lY:=CU l9 b a;let GLe:⇑2 B8 _ _ lX:=CT n4 #[q5,c3.b1,l5,l6] b a;let GGa:⇑1 B1 _ _ oK:=GZ l8 b;let GKt:⇑1 B5 _ _ mW:=Hm l';let GTJ:⇑1 f4 _ _ (me c):=rZ a0 ra;let c':ai P w K mg base (dN P w) 1 f1 _ _ (gG c y):=YE I ra x0;let q6:⇑1 f2 _ _ (gK c):=sd F0 ra;let GRJ:⇑2 f0 _ _ (iU c):=rY a1 ra GTJ a0.b3 (VE X G vT) tm;let GAI:⇑3 d8 _ _ (nO c):=CO p2 ra n6 GRJ a1.b4 (VE X G vR) I7;let GAC:=Fv (P:=P) (w:=w) (base:=base) ra J J.b4 m8 L L.b3 m9 #[q3,c0.b2,j',l0] #[G9,F5.b3,k8,b9] #[G',F7.b2,k9,c1] c' I.b1 M q6 F0.b2 m7 (G4) U.b1 k3 m3 #[G3,V.b2,k4,m4] N;let GAW:∀j,ai P w K mg base (dN P w) (2*j+13) f5 _ _ (iV c y A u j):=λj=>yk L ra c' I.b1 M q6 F0.b2 m7 (G4) U.b1 k3 m3 #[G3,V.b2,k4,m4] (GAC j) J.b4 m8;let GAL:ai P w K mg base (dN P w) 70 d' _ _ (oG c y A u 16):=O2 (P:=P) (w:=w) (base:=base) ra n6 c9 c9.b4 m' p3 p3.b5 e2 GAW L.b3 m9 c' I.b1 M (G4) U.b1 k3 m3 #[GPa,l4.b2,kPa,mPa] #[G3,V.b2,k4,m4] #[GGa,l8.b2,kGa,mGa] #[GLk,l9.b3,kLk,mLk] #[GLe,n4.b3,kLe,mLe] #[q5,c3.b1,l5,l6] #[G9,F5.b3,k8,b9] #[G',F7.b2,k9,c1] #[GKt,l'.b2,kKt,mKt] #[GFz,F6.b1,j2,j3] b N 16;let GAg:ai P w K mg base (dN P w) 71 f9 _ _ (mP y A u):=GJ n3 ra n6 I6 GAI p2.b4 (VE X G vL) GAL c9.b4 m' d;let GCg:⇑3 C' _ _ tE:=GX n7 #[g,F.b2,k,m] #[G0,R.b1,k1,m0] a;let GLc:⇑4 D1 _ _ tw:=GV n' #[GCg,n7.b2,kCg,mCg] #[g,F.b2,k,m] o;let GMk:⇑4 H0 _ _ tI:=He o6 #[g,F.b2,k,m] #[G5,F3.b2,k6,a5];let GLf:⇑1 E1 _ _ oM:=Hc o1;let q7:⇑18 E3 _ _ (gR 17):=LA (P:=P) (w:=w) (base:=base) F9 F9.b2 c4 f 17;let GBs:⇑36 E5 _ _ (i6 16):=LH (P:=P) (w:=w) (base:=base) c5 c5.b5 o3 #[GLf,o1.b1,kLf,mLf] #[q7,F9.b2,o2,c4] f b a q 16;let GLl:⇑37 E7 _ _ tH:=Hd o4 #[GBs,c5.b5,kBs,o3] #[q7,F9.b2,o2,c4] d;let GLb:⇑46 E9 _ _ (tG u):=yt o5 (GRu) l1.b5 W7 W8 #[mxB,hxB,t2,d2,I3,I4] o;let GBk:⇑66 H2 _ _ (tq K u):=GS o7 #[p6,a4.b2,g',h0] #[g,F.b2,k,m] #[GCa,i0.b1,T',W0] #[GMk,o6.b1,kMk,mMk] #[GMa,g8.b1,R9,R'] #[GCe,n5.b1,kCe,mCe] #[GLc,n'.b2,kLc,mLc] #[GLb,o5.b4,kLb,mLb] o b a n2;let GNw:⇑38 H4 _ _ tJ:=Hf o8 #[GLl,o4.b2,kLl,mLl] d;let GSg:⇑71 f9 _ _ (AQ$ mP y A u):=AR GAg;rwa[G8 FZ #[p6,a4.b2,g',h0] #[g,F.b2,k,m] #[GBk,o7.b1,kBk,mBk] #[GSg,n3.b4,kAg,mAg] #[GNw,o8.b2,kNw,mNw] tk o b a n2 t N E q p4]
def OJ{l:rz}{Y:bF->de->Prop}{d:DefRec}{K:Params->Ψ}(e:l.most=δ 63)(H:d.params.defaults=[])
  (g:∀(w:bF) (h:de),Y w h->(K w.params).In h)
  (F:∀(w:bF) (mg:ρ->ym η) (b:ζ) (h:de),(K w.params).In h->h.Ns Φ mg->mg d.name=↑b->
   ∃c:bS,(∀(s:ι) (u:η),BindsTo s c #[[u],[]] [("_law_script",u)])/\∀base:de,(K w.params).In base->base.Ns Φ mg->ai l.prog w (K w.params) mg base aH 74 b c ["_law_script"] (oN$ K w.params)):
  PySem.W.WalkO q L m Y l.row.toRowW d [] (λf v=>PySem.call f v):=
 _L.D5 (n:=63) (k:=74) (x:="_law_script") (CX:=λ_=>aH) (sp:=λw=>oN (K w.params)) e PM H #[Z,PM,PM] g F (λ_ _ a N i _ j=>#[a,N,Z,j,i,λ_=>Z]) λ_ _ _ _ _ z=>z
end _K
local macro_rules|`(command|#print $s:str)=>do{let mut l:=Array.mkEmpty 0;let mut n:=0;let mut k:=0;for c in s.getString.toList do{let a:=c.toNat;n:=n*62+(if a<58 then a-48 else if a<91 then a-55 else a-61);k:=k+1;if k%11==0 then{l:=l.push (Lean.mkIdent (.mkSimple s!"tw{n}"));n:=0}};let f:=Lean.mkIdent `PySem.W.Fast;`(command|structure $f:ident:Prop where ($l* :True))}
#print "9Xz1Ub2Y7lJ5rrBjkX7oCY6TgbVUM4DcNJ9OnQjBrG3HKJ04Oc20YaLEKMwlEDAYowK1fpdW6vcpF791EpYHL7zrIMeCry0v7AK8AFqR8DZZByBnhr0jMEGDsAvNjTB2DmOY74K2lWoLkIG4p3CKcwe4Vv36slfbNoltv7P8BKWwZ6uf21pUY0GYKoy8HXRw2zFmBt8mfHSZjK2qGJlPAk4W4s8bIVVM9SyqNOp6mU0wsp1ULy1vMdlyYHFDz9VfBR53wM7K70uKoDmdm3a7pZTimIWNNZ2iV2RAd2he2Dqyil34UWHGKttTlVE9lQX59M7s0eKHmX1y2FeX4ybVr0LID1rHjJsvKKvPOtoUkSFCd1cJ2Ckop73vnVgdatgMu8CBRBwIELc2FgAVCOj83jALKdnWfDqVcYBuJwfqXTVCg5JQdZC7bLJ40nOARL0J7A7LciuyBUJQ996yrdm3KYqy62rZs9ImQlE44DjbZWlBTVm7KPL94R7Ywi4xcRb7aX78s2hwIEx0NRiZ2VNbtq8vf0eKPELQ53Hfpg2zK15UshPxrEBVZWzYiZxiLyMHEVPHHjyHHTNAD7RjVf8f88DPzJ9Iv11Kcfce4mCl6Qck4kmJ6F2ARrRLQfzXRGG5eIzHd6BI68VkMm9iT23r8hT5LRjqpcz3HCJp8YczaA1oliiKuvTgoC6iLyVX4tGyFodAp8OKf9HCyK2OWnkTMiKFoyzXFDof8KGG7R0tj6L376mvmzFRagrJoJXH3ANllc57lW8VL1VyG2Cdc921ZrvD3nzJinJQ7suHBrdp0RlrENDGIUm4838DIA8QMo1QaQrCFtVSXPgw6mCJ3DhUUZbLpw9l7uYnUGnFL6j88u6WQXpm4NJPbVujqt0LXaxEtuPI4JE5R6hkcUaCHF1BKIk6WTxtAowG3miJiMoD2mDyWLIaZqIPDP0Vb2WsaJtTZ19tDdEG6V3Hvy6hUT53kDBJTxB4Q0EcJtec1lsPhIrcB8BygTRQHWM50SMRUgiLi9C0BnvWYk9D0fTq2UYmA8fPP5VaDyn68nnwYq9O4NQHIR3MPGCQEwEqS8x0WuJ2v2IZiulgdEFF1uBXdBLMfT0177jU71YR77GCWd3BRvmQwIWeGLjJEIOWBxxP9cbnmji6LauiBqGIAE9UHclY5IWI5E5MSEp3as0EAweAAqTod5A8XaqwKanjPIANG4p0jIcNwEp873q7QjNV66cRIixbGDX6RsJHGEwB8MB8FVnVLXRAtHPs8U43HRKF1q2uMwg9DwID4YBFt9yTW85vHWq9hoTAxIeGfQFNhPGULGB3d5fCRVv8qQzzuNjjG79e1v2gaMqzT4eWJZegScO9JOEV22wscoVLU7gFKXx5eaFNCBKnqEBAhDa6VUGnEaT53A0ePANJSR89usYfWbejP087PPiW8xuW4DYURGYbAzOCGbxFUsEVH4B5D3R436mk4BLTRCDcgcIgC3waXcF6qS6z2eOppRyFH6SF4tHtW8gkTM5Q3ZcSPulc0JbXNlVYFDOcCWgZ5mnZn256GvKoTdhLNS4fQ4WLLQaUs9cOJKDdhbr1CRj5l1bmVZIGzRgczRK4Ox9UaTIl2vpCm1UWPwT8ytOvGFm3q8Usxo3G4Q7EKTP6Rz87tSt45O4CCEDzeTdFWBmB3xEV3ApvGpmGKr3ZMlKBowE6IyncOloTl4jhIrywN2W5DXsFgSbDwzkD6FhD1yp1PhHGpL359aidh3LJzUC8AhPp7b1j86V6qSP0uqBuhf8or3LmCvOEPj4d03hbLDCDJAtHHAwlQPgVsnr3dsFYEbG8uB7pFdAJZrvh34kqGspJWAZWEsJslglKX3h1v8g9IENDpIFYXS9MOt54rHt6alD4Hiq86hbHWFe8b9W7MiteslqUUL4oFEbnj7o6CGW3aAY0wrpgCZOUbua0K9qGhKJvkzIcX27qu4F9fBlvkJfrCh26ZXYmAsxdUYSzoY68WjpjpmWqNXJV6REDYpiuT1oB9OzS7L8RDqWDApiqRX31IG48dWMnuWLZu4v1AHhFG9OxMMmJPdsQ3SwWYi4cgCNHGQv70Bqnt4In8gR95UAP83Z4NQZmCxav8G5gkBG9fOR9xYK2GWtjf2FvJsgFZh48W6hYI7MmVEEsBxbV2SYGyMyKGbxngvJKapA2VLPi5j3ys6fKP9kddGdy0yYHeMYS75n4d74Ccvg62QGy3pMFrtySGCkbq8rXteudJ9LPaGdVWTWA4PrhQfOzHy60W7veSNfc52cgcDCAwPCE0Tz5sBLEA0r2Kk25nRhwzPHWFZWn186wJ72nIMmroTnO3UfATBmUgG20pgsarEZATI7FVGXhLsv2w09Zi1iSNLT5EzwiDkCnc2uJjfXccZlitX1fHVJFY4ya03NrOZlihhQy7TrrafoFDsU136Pze6xEea3rYZMkx54RqER9V3JRTytE8HboIa2CZqUIxifhY7XpBnJBltyujDL78ByzSNWppxVmCo2uesAzKuR8w7K002xQUr65oK34GjjbC1WRMODONa4WIALc6cQ2uVtC1xeid1KQmaKJxXnFZrOJUFF5Rwas8LuD0TbJ9SnkVkh4gaxMdgA2RBDGlM8l4SRCKHIsE4dXP2rD8GVyXTLXBl45OqMLB0sXl78DUIHGlvm9RCCGNc2aCfpP8YfkSGLqZrR9o2WXndnOhY1QtMt38AMGEHTvBOxPRDZgLrDxRooZsTy99xh1U83Q52I1T1gbTOO3z3ny1WcRLM87EFCfk9XOnPsLsPJ1ILwtqNDXO8huy7cea1kXsEirsbd6LEqaimA3sG2GLf5tn1V4UN4oFwl4QxHgo4j0BOGaKew3BGox2bJ0H3oDgMKcqAFf3lFncDnjivSKUEO8berRVkwc4EgE0m0JVtcHZFgmpoD5IWAthMvCRY6rP9HgTRAfHoI70AkUnFJEJar7zwmf5kvxAmGIh0o3u8rNc12hKiSSRUWZ2JiNpC5fKedHAlmlV9sKuCHpv3elOLSSH3fdwb5YLE09HFItwhY38VLF87tcfj4nE19Uf4otyQpPC8rbulGHFtP98s1FVvd6CuGG7fdbcmk2Al5jZbVOaG1dF7Oq7lMFy32UEPz4IRRxfj6GjlNYJ7C47uDh7I57IkfcL8MXnf2SJK9iHKVfnUDgNT42bGdXUWMTRR8gk4fUnekp5C85g5ZTPt076puFlZefu8b6feJkhlDUBSGG8gxvQokQ80gIK3op8qrPGERNXtFUNS8H71snyFK1GSB49YkfGXYHM5NZBDUhXnzuFXIXiFJDyCF7QdW1d2Tjpb12XP2XT5yMCEI3FvkXEXCE1mRDPfIXPKS7KL1yCtt0Qk5o8jBtHb7U8JxB8JsdzmSR1TdII6LXUYBBptQ4IcpFKMAGL9ZJQxQheBx8U4aHWxydJNBHSasfTYi77zqfDp8oSM0jpX1N3AmER8aqDsZ59VkS14TRpDafJrL7cgjbFN1O7G615yxzEChdd5DDBcCiypNuIxjQVjeiazN8ht2bAYlXjbDE5l6jdbyvqJwt52pXjdZGBXqhH8poaToE3KNeLZu3AvLMCgxzbzWmfJ9OIE38FIk67ZDNlgoWvEc5ltXYMjW2OCHkdMKwYavrSI94QXj9zmf97GVU1Tkn55o280jP8Dx47vJqmWaHcuczA6eRyLBlcAJr1G4iUNGJI9r31G8Y7WPR22EPRC8r0LrJyEKLsxoNY3dJ8s8YfWbpyn8ASexTyws3ye1czgOvzCfie6YMD7qtfAQs37Lj7F4a1Ey7GQVfIibS2aFwarjboHc7mL1k30ylOCb34jjXkIqzsVIDJ28ixVDayXHBiGDVBYQo1KgVXJrbRkypGWUVgaXUpRXLmZiq8NGHNnCEN7YTXmoN1DgU3F965TR2Ka9JBuMxKvH1mcoeM8xkoMLP2PfXT8f67BWXAmtxKnnX4gYG3rAT1O04QOj1dlQZICCAimDf1NOf68jjlON2qLYUIxDYzDBpWpBECUwhQv41EVLGfZn2GVT1TKSvOXr8wlcD2z1pB1GksLoCxb30xTBiNlFVY4wQ0IRu5J6LnnHENp1cDjYrkFhxvLRA9lcrKNPDYLERvzeCT0aVH4IiYeJPs6SQ4qQW0oAzatm2HzEbTNSLN5G4mLVZFlYWh93LsWmjtSIGLb5FShPfBdgDX6RoVVlNrjKoDdHcodSAXHS9dWf7Zrgl6AJWoeZ1C3z98Y2kf6PqvPDAK55EmYApJJPyL9AIEDfV8SsRFM8UkErJvEdm2BS3nQ93JWBs1JKluFdgESuz3DkBBeF48ctKP1BFRqRH6Fisi8BESBoTxUX9o3PuO55qhUUMFfvuQAUbvEn0p2n9akK6g82cawHY1KOCS98RoO1gQp3G08CWEIzJdaY2gPZ1IqbwWq3NkiSnVBsAYE28ozEQ95c43kJBzlzikfp124QOBLWYVCHBb9Fu5nuNsJlgaql3xaNv4sewMISUisgK4qkaR9pgDv9cmPVmV70N92zXYQtcxwVTG8kFL5jSAJ3Bc4dqinZ6CnIKOeqKaxbAAJBhCL5uOTSa8T7oDxWuc4u3YRUXWxeakh6fnP91iICu44E9zyTEGqB60xZBky0F2huFjGaucaVDmIDYyWdKzB3Ia0j8ZjPUwFjOJFLuSAtwQp2H8q0mNzLswlClBVnQT22C6IwcTIlE9ZYZ0Ii533nmVoL2IgDLwXUQd6"
open PySem PySem.W PyProof.Rows PySem.W.X
def _K.Nr {q : ω} {loose : xL PySem.Str} {XP : (PySem.Str → ym η) → de → Prop} {K : Params → Ψ} {as : xL ζ} {n t : Nat} {r : RowW} {d : DefRec} {kwd : xL (PySem.Str × PySem.Expr)} {run : η → xL η → Sem η}
    (e : ∀ P, as = (K P).map (·.1)) (h : WalkO q loose XP (InK K) r d kwd run) : WalkX q loose XP (obsZ as) (valZ K n t) r d kwd run :=
  fun w s₀ s₁ mg mb G Y a o pm cd doc dV kV h1 h2 h3 h4 h5 h6 args vals as' L => h w s₀ s₁ mg mb G (InK.keeps w _ _ (z_facts e Y).2.1 L.keeps) a o pm cd doc dV kV h1 h2 h3 h4 h5 h6 args vals as'
set_option maxRecDepth 100000 in
set_option maxHeartbeats 0 in
theorem PySem.Challenge.cw_againbook_k40_whole_anew_as_laid_holds : PySem.Challenge.rw_againbook_k40_whole_anew_as_laid.Holds := by
  w_on; o_law; z_head; (case hw => w_witness2)
  erw[_K.Nr (fun _ => by rfl)$ _K.OJ (l := PySem.Challenge.rw_againbook_k40_whole_anew_as_laid) rfl rfl (fun w h Y => Y) ?F]
  case F =>
    intro w mg fa h KX G hmg
    apply _K.Fs KX G hmg
    iterate 63 (apply _K.OG;iterate 4 k_is)
    iterate 24 k_is
    iterate 2 k_exc
    iterate 2 (constructor<;>k_is)
    erw[⟨⟨?_,?_,?_,?_⟩,?_,?_,?_,?_,?_⟩];iterate 4 k_is
    iterate 5 (unfold _L.ba;k_is)
    iterate 2 (constructor;iterate 4 k_is)
    iterate 4 (constructor;iterate 3 k_is)
    erw[⟨⟨?_,?_,?_,?_⟩,?_,?_,?_,?_,?_⟩];iterate 4 k_is
    iterate 5 (unfold _L.ba;k_is)
    unfold _L.ba;k_is
    iterate 2 (constructor;iterate 4 k_is)
    iterate 6 (constructor;iterate 3 k_is)
    erw[⟨⟨?_,?_,?_,?_⟩,?_,?_⟩];iterate 4 k_is
    iterate 2 (unfold _L.ba;k_is)
    constructor;iterate 4 k_is
    iterate 4 (constructor;iterate 3 k_is)
    iterate 14 (apply _K.O3;iterate 3 k_is)
    iterate 14 k_is
    constructor;iterate 3 kit_is
