import PyProof.Rows.All
import Wide.All
import OpenK.AllK
import Wide.FinOn
import Lean
import PyProof.EqAt
import PyProof.EqKinds
import PyProof.TupleCall
import PySem.Challenge.RW_againbook_k35_whole_likes_in_order
set_option Elab.async false
set_option linter.all false
set_option maxRecDepth 100000
set_option genSizeOf false
set_option compiler.extract_closed false
set_option bootstrap.genMatcherCode false
open Option renaming some->δ,none->ι,map_eq_some_iff->cJ,isSome_iff_exists->mI
open List renaming length->ο,toArray->ε,getElem?_eq_some_iff->ν,mem_singleton->τ,mem_append->ψ,mem_cons->ω,mem_map->β,range->dg,replicate->fJ,lookup->hG,length->hJ,pairwise_cons->hY,mem_append_right->ic,mem_iff_getElem->im,getElem?_eq_getElem->ir,mem_iff_getElem?->ks,mem_append_left->lO,mem_range->mu,length_eq_zero_iff->mT,perm_middle->mU,mem_filter->ot,nodup_cons->ov,Perm->rb,all_eq_true->tT,getElem?_zip_eq_some->ww,all_cons->xm,drop_nil->Ch
open PySem renaming Value->ζ,Addr->η,Shared->θ,wpAny->π,Str->ρ,sizeLine->υ,model->χ,Program->Δ,starEach->Ψ,mainGlobals->ab,Around->bU,World->cv,Stmt->de,Heap->df,strKind->dn,Expr->dr,Builtin->dw,FuncData->dN,backTo->fz,Obj->gb,Scope->gO,codeAny->iu,holding->kw,sizeLine->mm,Within->ry
open Bool renaming true->μ,false->ξ,eq_false_iff->mS,or_false->xb
open Or renaming inl->Θ,inr->ge
open PySem.Value renaming none->Ξ,ref->Φ,type->dO,int->gs,str->jq,bool->ms
open PySem.Obj renaming mapSeq->Ω,mapFields->fy,putSet->mF
open PySem.W renaming Frag->γ,keepIn->ii,methodObj->rc,takerIn->sw,OpenLaw->ti,fnOf->ua,cellsFrom_some->vr
open PySem.Builtin.SmallTypes renaming nextOf->bm,ownedTupleIsFree->cc,ownedTupleHandOut->mB
open Array renaming getElem?_eq_some_iff->bx,toList->nI
open List.Pairwise renaming nil->du
open PySem.Heap renaming SameBut->eC,ExtBut->mL
open PySem.Builtin.Tuple renaming tupleExact->eT,tupleItemsOf->rm
open PySem.Builtin.List renaming listSameRef->fx,listTooLong->fR,listExtendWith->gN,listLengthHint->iv,listSubscript?->ro,listAllItems->sr
open PySem.Builtin.Slice renaming slicePlaces->ib,sliceAdjust->kz,sliceApplied->ri
open PySem.F renaming slot_zip_getattribute->kr,called_tuple->oS,entry_dict_get->wf,slot_dict_iter->xa,slot_dict_pop->xD,plain_set_new->xL,slot_set_iter->ym
open PySem.Heap.SameBut renaming refl->pz
open List.Perm renaming cons->tz
open List.Nodup renaming sublist->BT
local macro_rules|`(tactic|erw[$t:term])=>if t.raw[0].getId.getPrefix== `F then `(tactic|(refine $t;intro)) else `(tactic|refine $t)
local macro_rules|`(tactic|rwa[$t:term])=>`(tactic|exact $t)
local macro_rules|`(tactic|rwa[$t:term,$x,*])=>let y:Array Lean.Term:=x.getElems.map (⟨·.raw[1]⟩);`(tactic|exact #[$t,$y,*])
local macro_rules|`(tactic|erw[$t:term,$x,*])=>let y:Array Lean.Term:=x.getElems.map (⟨·.raw[1]⟩);`(tactic|refine #[$t,$y,*])
local macro_rules|`($s:ident<|$h)=>`({$s with heap:=$h})|`($c:str<|$d)=>`({cls:=.type $c,data:=$d})
local macro_rules|`(!$f $x*)=>let i:=Lean.mkIdent;if f.raw[0].isAtom then `(π _ _ $x*) else match f.raw.getId with|`A=>`(π (χ $(i `prog) $(i `w)) $f $x*)|`X=>`(π (χ $(i `X.prog) $(i `X.w)) $(i `X.A) $x*)|_=>Lean.Macro.throwUnsupported
local macro_rules|`(($h :))=>`(by simpa using $h)
local macro_rules|`(tactic|let $d:letDecl)=>`(tactic|have $d:letDecl)
local macro_rules|`(↑$a)=>`(some (.ref $a))
local macro_rules|`(tactic|let ($a,$x,*):=$t)=>do{let y←(x.getElems.insertIdx! 0 a).mapM fun|`($i:ident)=>`(Lean.Parser.Tactic.rcasesPatLo|$i:ident)|_=>`(Lean.Parser.Tactic.rcasesPatLo|_);`(tactic|obtain ⟨$y,*⟩:=$t)}
local macro_rules|`(-$n:ident)=>`(($n).heap.objs.size)
local macro_rules|`(∅)=>`(λ_ _=>rfl)
abbrev FA:=@List
abbrev FC:=@Option
def iT:0≤mm:=by decide
def l7:1≤mm:=by decide
def b8:2≤mm:=by decide
def ip:3≤mm:=by decide
def wW:4≤mm:=by decide
set_option maxHeartbeats 4000000
open PySem.W (keepIn Frag nsIn kitOne fnOf mg_of codeIn findIn mroIn isFn mg_none_of kia_one typeIn emptyDict clsIn instObj hasDictIn kitAny specialIn callWith_K excIn lookIn plainGet notCls tailIn)
noncomputable section
def Ra{p:Prop}(h:p:=by decide):p:=h
def P'{p:Prop}(h:p:=by omega):p:=h
def N09{p:Prop}(h:p:=by omega+splitDisjunctions):p:=h
def P9{p:Prop}(h:p:=by simp):p:=h
def P8{p:Prop}(h:p:=by decide +kernel):p:=h
def P7{p:Prop}(h:p:=by rfl):p:=h
def FI{p:Prop}(h:p:=by intro z;cases z):p:=h
def FO{p:Prop}(h:p:=by intro _;rfl):p:=h
def Z{α:Sort u}{a:α}:a=a:=rfl
def Wb{p:Prop}(h:p:=by first|decide|rfl):p:=h
def Wx{p:Prop}(h:p:=by first |exact .inl Z |exact .inr Z |assumption):p:=h
def FL{p:Prop}(h:autoParam p Wx._auto_1):p:=h
local macro_rules|`(↥$p)=>`(autoParam $p Wb._auto_1)
open PySem renaming wpAny_bind->RG,wpAny_pure->RM,wpAny_holding->Sj,wpAny_field->Ss,wpAny_call_entry->Sv,wpAny_callSpecial?_slot->SD,wpAny_newObj_type->SE,wpAny_setField->SR,builtinLookup_eq_fast->SV,wpAny_Call_Name_kw->S0,boot_len->Tb,wpAny_seqItems->Th,wpAny_mono->Ti,typeLookup_type->TH,codeAny_builtin->TJ,sizeLine_eq->TK,mem_of_lookup->TM,isSubtype_type->T4,wpAny_setState_of->T6,wpAny_specialOf->T7,wpAny_typeOf->Ud,wpAny_isInstance->Ug,wpAny_rule->Uj,wpAny_newList->Uq,wpAny_attempt->Ur,plainId_quiet->Us,wpAny_typeNameOfWhole_keyiter->Ux,wpAny_setField_rec->UA,wpAny_passesOwn->UE,wpAny_standAt->UF,wpAny_truthy_bool->UJ,wpAny_newTuple->UO,wpAny_askSetting->UU,codeAny_mono->UV,wpAny_setEntries_of->U2,wpAny_typeNameOf_keyiter->U4,wpAny_execs_nil->U6,wpAny_pyIter_tuple->U8,wpAny_pyIter_list->Ve,wpAny_fieldsOf->Vf,wpAny_of_eq->Vn,tupleKind_room_in1->VC,isSubtype_stop->VE,wpAny_pyIter_slot->VX,fits_of_scanBound->VY,entryFor_of_tree->V5,wpAny_updateSeq->Wg,entryFor_alias->Wr,call_meets->WH,wpAny_sequenceKey->WN,wpAny_dictEntries->WO,wpAny_execs_cons->Y',noFill_tuple_add->Z'
open List renaming getElem?_eq_getElem->RI,length_map->RJ,length_append->RN,map_append->RP,size_toArray->RS,getElem?_map->RX,getD_eq_getElem?_getD->RY,mem_append_right->R3,mem_cons_self->Sa,mem_of_getElem?->Sc,mem_cons_of_mem->Sd,length_take->Se,length_cons->So,mem_append_left->Sr,take_length->Su,append_nil->Sw,not_mem_nil->Sz,take_add_one->SG,append_assoc->SI,getElem?_eq_none->SM,map_cons->SN,length_drop->Td,mem_of_mem_take->Tj,take_of_length_le->Tk,getElem_cons_drop->Tl,lookup_cons->To,map_map->Ts,drop_zero->Tu,mem_append->Tw,nil_append->TF,mem_cons->Ua,getElem?_append_right->Uc,take_append_drop->Uf,getElem?_append_left->Ui,take_sublist->Ul,getElem?_set_ne->Um,forIn_cons->Uu,map_take->Uw,length_singleton->Uy,reverse_cons->UB,length_range->UC,take_succ->UH,getElem_mem->UK,mem_filter->UX,length_nil->UY,find?_cons->UZ,filter_append->U1,getElem?_set_self->U7,length_replicate->Va,length_filter_le->Vb,getElem?_reverse->Vc,all_eq_true->Vd,nodup_nil->Vp,mem_singleton->Vq,getElem?_drop->Vr,forIn_nil->Vs,pairwise_iff_getElem->Vv,getElem?_inj->Vy,append_cancel_right->VA,any_cons->VB,filter_cons_of_pos->VI,filter_cons_of_neg->VJ,ext_getElem->VL,append_inj'->VM,append_cancel_left->VN,of_mem_zip->V1,length_set->V2,length_reverse->Wk,filter_sublist->Wl,filterMap_cons->Wm,ext_getElem?->Wu,eraseIdx_eq_take_drop_succ->WA,getElem_map->WF,nodup_cons->WK,length_zip->WL,take_zero->WX,take_take->WY,length_eraseIdx_of_lt->WZ
open PySem.Heap renaming get?_push_of_some->RL,get?_push_size->RQ,lt_size->RT,get?_update_other->Sl,get?_update_self->SH,size_push->SW,get?_update_ne->Vl,size_update->VO
open Nat renaming le_refl->RO,zero_le->R4,ne_of_lt->R6,le_trans->Sf,lt_of_lt_of_le->Si,le_succ->SY,ne_of_gt->Tc,lt_irrefl->Tf,lt_succ_self->Tz,min_eq_left->TN,succ_le_succ->TY,lt_of_le_of_lt->TZ,lt_succ_of_lt->T3,min_le_left->T5,le_of_lt->Uo,not_lt_zero->Uv,zero_add->UL,le_max_right->UM,le_add_right->UN,le_max_left->U0,sub_zero->U9,sub_self->Vo,le_of_not_lt->VV,lt_or_ge->V0,lt_of_succ_lt->Ww,le_of_eq->Wz
open Bool renaming false_ne_true->RZ,false_eq_true->R8,and_eq_true->Tp,not_true->Vg,eq_iff_iff->V3,and_false->Wa,eq_false_iff->Wv
open PySem.F renaming plainAttrs_list->R9,type_list_append->Sm,slot_list_append->Sn,slot_tuple_iterator_next->Tq,slot_zip_next->TC,type_list_extend->TW,slot_list_extend->TX,slot_dict_keyiterator_next->T8,args_tuple_iterator_next_1->UP,plain_list_iadd->UQ,args_zip_next_1->UR,entry_tuple_iterator_next->UW,entry_zip_next->U3,args_object_init_2->Vk,args_tuple_add_2->Vu,entry_tuple_add->Vx,slot_tuple_add->VG,plainAttrs_str->VH,type_str_join->VR,slot_str_join->VS,slot_dict_get->VT,args_dict_keyiterator_next_1->V8,entry_dict_keyiterator_next->V',plain_proto_collect->WC,entry_proto_collect->WE,plain_extend_loop->WJ,plain_tuple_new->WT,plainAttrs_dict->WU,entry_list_iadd->WV,args_dict_get_3->WW
open Array renaming length_toList->Sb,getElem?_eq_getElem->TB,getElem?_toList->TR,getElem?_eq_none->U5,size_map->V9,size_append->Ws
open PySem.PassesOwn renaming never->Sq
open PySem.Obj renaming data_mapFields->Sy,isFreed_of_fields->Ta,cls_mapFields->UD
open Int renaming toNat_natCast->SJ,emod_lt_of_pos->SU,emod_nonneg->Tn
open Option.some renaming inj->SK
open PyProof.Rows renaming callWith_type1->SO,boot_tuple->TQ,slot_tuple_getitem->Ue,boot_sorted->Up,listUpdate_at->UG,seqEpoch_at->U',entry_list_sort->Vt,slot_list_sort->VD,args_list_sort->VF,plain_sorted->Wc,entry_sorted->We,args_sorted1->Wf,list_sort_plain->Wi,get?_update_seq->Wj,kind_sorted->Wq,size_push'->WG,listItems_at->WP,collect_list->WQ
open PySem.Around renaming under_plainId->Tg
open List.Perm renaming refl->Tt,append_right->WR,append_left->X'
open PySem.Heap.SameBut renaming update->Tv
open PySem.AutoSeq1 renaming wpAny_loadPart'->TU,sub_tuple_tuple->WM
open PySem.Calls renaming spliced_cons->Ub,call_function_entry->Uh,spliced_nil->Uz,callWith_builtin->VW,Name_function_global->WS
open PySem.W renaming mg_none_of->Uk,kia_one->Vw,methodCall_KW->VQ,plainGet_of->V6,callWith_K0->V7,mg_of->WB,callWith_K->WI
open PyProof.Rows.F renaming plain_set_update_loop->Ut,entry_set_update_loop->Vz
open List.Pairwise renaming sublist->UT
open List.Sublist renaming refl->Vi
open PySem.Value renaming isStrOf_shape->Vj
open PySem.Heap.IsSliceOf renaming new->VP
open Option renaming map_some->VU,getD_none->Wt
open PySem.W.KFB renaming if_not->VZ
open PySem.SeqAt.RcAt renaming lists->Wp
def RU:=@if_neg
def RV:=@if_pos
def RW:=@decide_eq_false
def R0:=@decide_eq_true
def Sx:=@Ne.symm
def SF:=@of_decide_eq_true
def SQ:=@congrArg
def Te:=@if_false
def Tx:=@bne_self_eq_false
def Vh:=@of_decide_eq_false
def Vm:=@if_true
def V4:=@or_false
def Wn:=@Iff.rfl
def Wo:=@beq_self_eq_true
def GE(h:FA Char)(a:FA Lean.Term):Lean.Term:=Lean.Syntax.mkApp (Lean.mkIdent (.mkSimple (.ofList h))) a.toArray
def GM(N:Lean.Term)(c:Char)(S:FA Lean.Term):FA Char->FA Lean.Term
 |a::k::x::y::r=>if a==c then let j:=k.toNat%16;let T:=S.take j;GE [x,y] (if k<'A' then T else ⟨T.head!.raw[1][0]⟩::N::T.tail)::S.drop j else GM N c S r
 |_=>S
def HH(N:Lean.Term)(x:Lean.Syntax)(S:FA Lean.Term):FA Lean.Term:=match x.getId with
 |.str .anonymous s=>match s.toList with
  |'_'::s=>s.foldr (λc S=>if c<':' then GE ['p','v'] [⟨Lean.Syntax.mkNumLit c.toString⟩]::S else GM N c S "a2jab0jbg0FSj0jfc2jdd1jgf1jih1jzo0jlk1jmp0FUl4jvm3jys0jon3jxy0jwH0P7q1jEI0jGr1ket2jCu4jBw1aFx1jDz1jKA4jFB1zjO0SqC5jJD5jUE6j9P0hrF5jIG4jrQ0jSR0R9J2j8K1zhV0FOW0jWL1jZα0j4β0m0γ0bgδ0jRM9kcε0kUη0Snθ0SmN1kfι0TQκ0kjξ0Raο0jLρ0zqσ0Tbυ0jYS3zzψ0jNω0UpT1qeU3kYX2qdY2zAZ2Jtζ5jvμ2KPν1zYπ5qBς1JWτ3kPφ4q8χ1Lsv1pveBjAiAFW".toList) S
  |_=>⟨x⟩::S
 |.str _ "e"=>Lean.Syntax.mkApp ⟨x⟩ (S.take 2).toArray::S.drop 2
 |_=>⟨x⟩::S
local macro_rules|`(%[$N|$t])=>return (((if t.raw.isIdent then [t.raw] else t.raw[0]::t.raw[1].getArgs.toList)).foldr (HH (Lean.mkIdent (N.raw.getId.str "nd"))) []).headD t
def FS{α:Sort u}{a:α}:a=a:=rfl
def FU{α β γ}{f:α->β->γ}:∀a b,f a b=f a b:=λ_ _=>rfl
local macro_rules|`(#[$x,*])=>do{let y←x.getElems.flatMapM fun e=>match e.raw.isNatLit? with|some n=>if n<11 then return .singleton e else (toString n).toList.toArray.mapM fun c=>if c=='1' then `(_) else `(rfl)|_=>return .singleton e;`(⟨$y,*⟩)}
local macro_rules|`(~~~$x)=>`(some (.tup $x))
local macro_rules|`($x⁻¹)=>`(some (.lst $x))
local macro_rules|`(tactic|apply $t)=>`(tactic|refine RG $t)
set_option hygiene false
local macro_rules|`(command|#print $_:ident)=>`(variable {prog:Δ}{w:cv}{A:bU}{E:ζ->θ->Prop}{s:θ})
set_option hygiene true
local macro_rules|`(#[])=>do{let i:=Lean.mkIdent;`($(i `_K.Ev) $(i `H0) $(i `p) $(i `wl) $(i `ys) $(i `Hb) $(i `σ))}
local macro_rules|`(tactic|omega)=>`(tactic|lia)
namespace _L
open PySem PySem.Spec PyProof.Rows
abbrev a9:=Sum Int ρ
noncomputable def mv:a9->ζ->Bool
 | .inl k,v=>Value.isInt k v
 | .inr x,v=>Value.isStrOf x v
noncomputable def Ou(w:cv):a9->Int
 | .inl k=>hashInt k
 | .inr x=>hashStr w x
def j7:∀{k:a9} {v:ζ},mv k v=μ->(∃i t,k=Sum.inl i/\v=gs i t)∨(∃x t,k=Sum.inr x/\v=jq x t)
 | .inl i,v,h=>by let(t,e):=Value.isInt_shape (k:=i) (v:=v) h;rwa[.inl #[i,t,Z,e]]
 | .inr x,v,h=>by let(t,e):=Vj (x:=x) (v:=v) h;rwa[.inr #[x,t,Z,e]]
def vA(i:Int)(t:Tok):mv (.inl i) (.int i t)=μ:=by simp [mv,Value.isInt]
def vC(x:ρ)(t:Tok):mv (.inr x) (.str x t)=μ:=by simp [mv,Value.isStrOf]
def GJ(a b:Int):decide ((Sum.inl a:a9)=Sum.inl b)=(a==b):=by
 by_cases e:a=b
 .subst e;simp
 .let h:¬(Sum.inl a:a9)=Sum.inl b:=λq=>e (Sum.inl.inj q);rw[RW h];exact(beq_eq_false_iff_ne.mpr e).symm
def GQ(a b:ρ):decide ((Sum.inr a:a9)=Sum.inr b)=decide (a=b):=by
 by_cases e:a=b
 .subst e;simp
 .let h:¬(Sum.inr a:a9)=Sum.inr b:=λq=>e (Sum.inr.inj q);rw[RW h,RW e]
def GK(a:Int)(b:ρ):decide ((Sum.inl a:a9)=Sum.inr b)=ξ:=RW (λq=>nomatch q)
def GP(a:ρ)(b:Int):decide ((Sum.inr a:a9)=Sum.inl b)=ξ:=RW (λq=>nomatch q)
def aP(p:Δ)(w:cv):PySem.KeyKind p w a9 where
 is:=mv
 hash:=Ou w
 inj:=λv a b d c=>by
  rcases j7 d with ⟨i,t,rfl,rfl⟩ | ⟨x,t,rfl,rfl⟩
  .rcases j7 c with ⟨j,u,rfl,e⟩ | ⟨y,u,rfl,e⟩
   .injection e with E _;rw[E]
   .rwa[nomatch e]
  .rcases j7 c with ⟨j,u,rfl,e⟩ | ⟨y,u,rfl,e⟩
   .rwa[nomatch e]
   .injection e with E _;rw[E]
 byValue:=λk v h=>by rcases j7 h with ⟨i,t,rfl,rfl⟩ | ⟨x,t,rfl,rfl⟩<;>rfl
 pyHash:=λH h=>by
  rcases j7 H with ⟨i,t,rfl,rfl⟩ | ⟨x,t,rfl,rfl⟩
  .rwa[wpAny_pyHash_int h]
  .rwa[wpAny_pyHash_str h]
 eqBool:=λf H h=>by
  rcases j7 f with ⟨i,t,rfl,rfl⟩ | ⟨x,t,rfl,rfl⟩
  .rcases j7 H with ⟨j,u,rfl,rfl⟩ | ⟨y,u,rfl,rfl⟩
   .rw[GJ]at h;rwa[wpAny_eqBool_int h]
   .rw[GK]at h;rwa[SeqAt.EqAt.int_str i t y u _ _ _ _ h]
  .rcases j7 H with ⟨j,u,rfl,rfl⟩ | ⟨y,u,rfl,rfl⟩
   .rw[GP]at h;rwa[SeqAt.EqAt.str_int x t j u _ _ _ _ h]
   .rw[GQ]at h;rwa[wpAny_eqBool_str h]
 «strs»:=λk x t v h=>by
  rcases j7 h with ⟨i,u,rfl,e⟩ | ⟨y,u,rfl,e⟩
  .rwa[nomatch e]
  .injection e with E _;subst E;cases v<;>rfl
def Zd(p:Δ)(w:cv)(i:Int)(t:Tok):(aP p w).is (.inl i) (.int i t)=μ:=vA i t
def Ze(p:Δ)(w:cv)(x:ρ)(t:Tok):(aP p w).is (.inr x) (.str x t)=μ:=vC x t
end _L
namespace _L
open PySem PySem.Spec PyProof.Rows
inductive V where
 |non |bl (b:Bool) |int (i:Int) |str (x:ρ) |byt (b:Array UInt8) |flt (b:UInt64) |ref (a:η) |ty (n:String)
 deriving DecidableEq
set_option genInjectivity false
def aB:V->ζ->Prop
 | .non,u=>u=Ξ
 | .bl b,u=>u=ms b
 | .int i,u=>∃t,u=gs i t
 | .str x,u=>∃t,u=jq x t
 | .byt b,u=>∃t,u=Value.bytes b t
 | .flt b,u=>∃t,u=Value.float b t
 | .ref a,u=>u=Φ a
 | .ty n,u=>u=dO n
abbrev aw:FA V->FA ζ->Prop:=Paired aB
def aw.length(r:aw x u):ο x=ο u:=Paired.length r
theorem aw.get:∀{X:FA V} {U:FA ζ} {i:Nat} {x:V},aw X U->X[i]?=δ x->∃u,U[i]?=δ u/\aB x u
 |_,_,_,_,.nil,e=>by simp at e
 |_,_,0,_,.cons r _,e=>by simp at e;subst e;rwa[12,r]
 |_,_,i+1,x,.cons _ t,e=>by let(u,h,H):=aw.get (i:=i) (x:=x) t (e:);rwa[u,(h:),H]
theorem aw.set(r:aB x u):∀{X:FA V} {U:FA ζ} (i:Nat),aw X U->aw (X.set i x) (U.set i u)
 |_,_,_,.nil=>.nil
 |_,_,0,.cons _ t=>.cons r t
 |_,_,i+1,.cons q t=>.cons q (aw.set r i t)
theorem aw.append{x y:FA V}{u w:FA ζ}(h:aw x u)(s:aw y w):aw (x++y) (u++w):=by
 induction h with
 |nil=>rwa[s]
 |cons r _ f=>rwa[.cons r f]
theorem aw.take:∀{x:FA V} {u:FA ζ} (n:Nat),aw x u->aw (x.take n) (u.take n)
 |_,_,0,_ |_,_,_+1,.nil=>.nil
 |_,_,n+1,.cons r t=>.cons r (aw.take n t)
theorem aw.drop:∀{x:FA V} {u:FA ζ} (n:Nat),aw x u->aw (x.drop n) (u.drop n)
 |_,_,0,r=>r
 |_,_,_+1,.nil=>.nil
 |_,_,n+1,.cons _ t=>aw.drop n t
def eN:FC V->FC ζ->Prop
 |some v,δ u=>aB v u
 |none,ι=>True
 |_,_=>False
def KV{a:Type}:FA (a×V)->FA (a×ζ)->Prop:=Paired λ(p:a×V) (q:a×ζ)=>p.1=q.1/\aB p.2 q.2
noncomputable def kV:a9->V
 | .inl i=>.int i
 | .inr x=>.str x
inductive HO where
 |lst (xs:FA V)
 |tup (xs:FA V)
 |dK (kvs:FA (a9×V)) |dT (kvs:FA (FA a9×V))
 |set (S:Int->Bool) (n:Nat)
 |ins (C dx:η) (fs:FA (ρ×V))
 |own (x:η)
 |xd (fs:FA (ρ×V))
 |met (f x:η)
 |rng (lo hi:Int)
 |frz (o:gb) (u:HO)
 |tbl (ps:Array ζ)
 |ext (φ:df->Prop)
abbrev Hp:=η->FC HO
noncomputable def af(H:Hp)(a:η)(o:HO):Hp:=λb=>if b=a then δ o else H b
def jc:af H a o a=δ o:=by unfold af;rw[RV Z]
def jh(h:b≠a):af H a o b=H b:=by unfold af;rw[RU h]
def jQ{H:Hp}(h:H a=δ o)(c:H b=δ u)(d:o≠u):a≠b:=by intro e;subst e;rw[h]at c;rwa[d (SK c)]
def jk{H:Hp}(h:H a=δ o)(c:H b=ι):a≠b:=by intro e;subst e;rw[h]at c;cases c
section
variable (P:Δ)(w:cv)
def aK(H:Hp)(h:df)(a:η):HO->Prop
 | .lst X=>ο X<=υ/\∃(i:FA ζ) (n:Nat),aw X i/\h.get? a=δ ("list"<|.seq i.toArray n)
 | .tup X=>ο X<=υ/\∃i:FA ζ,aw X i/\IsTup h a i.toArray
 | .dK k=>ο k<=υ/\(a==sysModules)=ξ/\∃c,KV k c/\h.DictOf (aP P w) a c
 | .dT k=>ο k<=υ/\(a==sysModules)=ξ/\∃X:FA (FA a9×η×ζ),
   Paired (λ(p:FA a9×V) (q:FA a9×η×ζ)=>p.1=q.1/\H q.2.1= ~~~(p.1.map kV)/\aB p.2 q.2.2) k X/\
   ∃o e E,h.get? a=δ o/\o.ExactDict/\o.data= .dict e E/\e.toList=X.map (entryOfKey$ tupleKind$ aP P w)/\(X.map (·.1)).Nodup
 | .set S n=>h.SetOf (intKind P w) a S n
 | .ins C d F=>H d=δ (.own a)/\ο F<=1000/\d≠a/\h.get? a=δ (instObj C d)/\
   ∃m,h.Ns1 d m/\(∀f,eN (F.lookup f)$ m f)/\ry m (F.map (·.1))
 | .own _=>∃o,h.get? a=δ o
 | .xd F=>∃m,h.Ns1 a m/\∀f,eN (F.lookup f) (m f)
 | .rng lo l=>∃t u v,h.get? a=δ ("range"<|.fields (ε [.int lo t,.int l u,.int 1 v]))
 | .frz o u=>h.get? a=δ o/\aK H h a u
 | .tbl r=>h.get? a=δ { cls:=.none,data:=.fields r }
 | .met f x=>h.get? a=δ (rc (.ref f) (.ref x))
 | .ext b=>b h/\(∃o,h.get? a=δ o)/\∀g j:df,b g->(∀o,g.get? a=δ o->j.get? a=δ o)->b j
def fQ(H:Hp)(h:df):Prop:=∀a o,H a=δ o->aK P w H h a o
end
section
variable {P:Δ}{w:cv}{H H':Hp}{h h':df}{a:η}{o:HO}
def aK.lt(x:aK P w H h a o):a < h.objs.size:=by
 cases o with
 |lst X=>let(_,_,_,_,e):=x;rwa[RT e]
 |tup X=>let(_,_,_,p):=x;rwa[p.lt]
 |dK k |dT k=>let(_,_,_,_,o,_,_,e,_):=x;rwa[RT e]
 |set S n=>let(o,_,_,_,e,_):=x;rwa[RT e]
 |ins C d F=>let(_,_,_,e,_):=x;rwa[RT e]
 |own y=>let(_,e):=x;rwa[RT e]
 |xd F=>obtain⟨_,⟨_,_,_,e,_⟩,_⟩:=x;rwa[RT e]
 |rng lo b=>let(_,_,_,e):=x;rwa[RT e]
 |frz O u=>let(e,_):=x;rwa[RT e]
 |tbl c |met f y=>rwa[RT (show h.get? a=δ _ from x)]
 |ext g=>obtain⟨_,⟨_,e⟩,_⟩:=x;rwa[RT e]
theorem Paired.mapP{c d:Type}{F G:c->d->Prop}{l:FA c}{L:FA d}(h:Paired F l L)(f:∀a b,F a b->G a b):Paired G l L:=by
 induction h with
 |nil=>rwa[.nil]
 |cons r _ t=>rwa[.cons (f _ _ r) t]
def aK.stay(x:aK P w H h a o)(k:∀b u,(b=a∨H b=δ (.own a))->h.get? b=δ u->h'.get? b=δ u)
  (s:∀b,H b=δ (.own a)->H' b=δ (.own a)) (A:∀b X,H b= ~~~X->H' b= ~~~X):aK P w H' h' a o:=by
 induction o with
 |lst X=>let(z,i,n,r,e):=x;rwa[z,i,n,r,k _ _ (.inl Z) e]
 |tup X=>let(z,i,r,O,e,c):=x;rwa[z,i,r,O,k _ _ (.inl Z) e,c]
 |dK K=>let(z,y,V,r,O,E,g,e,c):=x;rwa[z,y,V,r,O,E,g,k _ _ (.inl Z) e,c]
 |dT K=>let(z,y,X,r,O,E,g,e,c):=x;rwa[z,y,X,Paired.mapP r λp q z=>#[z.1,A _ _ z.2.1,z.2.2],O,E,g,k _ _ (.inl Z) e,c]
 |set S n=>let(O,E,g,t,e,c):=x;rwa[O,E,g,t,k _ _ (.inl Z) e,c]
 |ins C D F=>obtain⟨d,z,N,e,m,⟨j,E,g,B,c⟩,r⟩:=x;rwa[s _ d,z,N,k _ _ (.inl Z) e,m,#[j,E,g,k _ _ (.inr d) B,c],r]
 |own y=>let(O,e):=x;rwa[O,k _ _ (.inl Z) e]
 |xd F=>obtain⟨m,⟨j,E,g,e,c⟩,r⟩:=x;rwa[m,#[j,E,g,k _ _ (.inl Z) e,c],r]
 |rng lo G=>let(t,u,v,e):=x;rwa[t,u,v,k _ _ (.inl Z) e]
 |frz O u I=>let(e,q):=x;rwa[k _ _ (.inl Z) e,I q]
 |tbl l=>have e:h.get? a=δ { cls:=.none,data:=.fields l }:=x;show h'.get? a=δ { cls:=.none,data:=.fields l };rwa[k a _ (.inl Z) e]
 |met f y=>have e:h.get? a=δ (rc (.ref f)$ .ref y):=x;show h'.get? a=δ (rc (.ref f)$ .ref y);rwa[k a _ (.inl Z) e]
 |ext J=>obtain⟨p,⟨o,e⟩,st⟩:=x;rwa[st _ _ p λo q=>k _ _ (.inl Z) q,#[o,k _ _ (.inl Z) e],st]
def fQ.lt(x:fQ P w H h)(e:H a=δ o):a < h.objs.size:=(x a o e).lt
def fQ.fresh(x:fQ P w H h)(e:h.objs.size<=a):H a=ι:=by
 cases q:H a with
 |none=>rfl
 |some u=>rwa[absurd (Si (x.lt q) e) (Tf _)]
def fQ.kept(x:fQ P w H h)(k:∀b u,h.get? b=δ u->h'.get? b=δ u):fQ P w H h':=λa o e=>
 (x a o e).stay (λb u _ q=>k b u q) (λ_ q=>q) λ_ _ q=>q
def fQ.laid(x:fQ P w H h)(k:∀b u,h.get? b=δ u->h'.get? b=δ u)(g:h.objs.size<=a)(n:aK P w (af H a o) h' a o):fQ P w (af H a o) h':=λb u e=>by
 let d:=x.fresh g;by_cases f:b=a
 .subst f;rw[jc]at e;cases e;rwa[n]
 .rw[jh f]at e;exact(x b u e).stay (λc v _ q=>k c v q) (λc q=>by rw[jh$ jk q d];rwa[q]) λc X q=>by rw[jh$ jk q d];rwa[q]
end
def Rd(H:Hp)(a:η)(u:HO):Prop:=H a=δ u∨∃o,H a=δ (.frz o u)
def Rd.ok{P:Δ}(r:Rd H a u)(x:fQ P w H h):aK P w H h a u:=by
 rcases r with r | ⟨o,r⟩
 .rwa[x a u r]
 .let(_,q):=x a _ r;rwa[q]
def LI:FC HO->Prop
 |some (.lst _) |some (.dK _) |some (.dT _) |some (.set _ _) |some (.ins _ _ _) |some (.ext _)=>True
 |_=>False
section
variable {P:Δ}{w:cv}{H:Hp}{h h':df}{x e:η}{o':HO}
def fQ.write(o:fQ P w H h)(m:LI (H x))(i:e=x∨H e=δ (.own x))(k:∀b u,b≠e->h.get? b=δ u->h'.get? b=δ u)(f:∃u,h'.get? e=δ u)
  (g:aK P w (af H x o') h' x o'):fQ P w (af H x o') h':=λb u q=>by
 let n:∀c y,H c=δ (.own y)->c≠x:=λc y r z=>by subst z;rw[r]at m;rwa[m]
 let N:∀c X,H c= ~~~X->c≠x:=λc X r z=>by subst z;rw[r]at m;rwa[m]
 by_cases d:b=x
 .subst d;rw[jc]at q;cases q;rwa[g]
 .rw[jh d]at q;by_cases a:b=e
  .let Q:H b=δ (.own x):=by
    rcases i with z |z
    .rwa[absurd (a.trans z) d]
    .rw[a];rwa[z]
   rw[q]at Q;cases Q;let(v,j):=f;rwa[v,by rw[a];rwa[j]]
  .refine(o b u q).stay (λc v hc r=>k c v ?_ r) (λc r=>by rw[jh$ n c b r];rwa[r]) λc X r=>by rw[jh$ N c X r];exact r
   rcases hc with rfl |hc
   .rwa[a]
   .rintro rfl;rcases i with z |z
    .rwa[n c b hc z]
    .rw[hc]at z;cases z;rwa[d Z]
end
structure Un(fs ex:FA η)(H H':Hp)(h h':df):Prop where
 keep:∀b o,h.get? b=δ o->H b=ι->b∉fs->b∉ex->h'.get? b=δ o
 slot:∀b o,h.get? b=δ o->H b=ι->b∈fs->b∉ex->∃sl,h'.get? b=δ { o with slots:=sl }
 free:∀b o,h.get? b=δ o->H b=ι->b∉ex->H' b=ι
 there:∀b o,h.get? b=δ o->b∉ex->∃o',h'.get? b=δ o'
 tups:∀b xs,H b= ~~~xs->H' b= ~~~xs
 frzs:∀b o u,H b=δ (.frz o u)->H' b=δ (.frz o u)
 tbls:∀b ps,H b=δ (.tbl ps)->∃more,H' b=δ (.tbl$ ps++more)
section
variable {fs fs' ex ex':FA η}{H H1 H2:Hp}{h h1 h2 h':df}{a x e:η}{o:HO}
def Un.any(u:Un fs ex H H1 h h1)(q:h.get? b=δ O)(n:H b=ι)(c:b∉ex):∃s,h1.get? b=δ { O with slots:=s }:=by
 by_cases d:b∈fs
 .rwa[u.slot b O q n d c]
 .exact#[O.slots,u.keep b O q n d c]
def Un.kept(k:∀b u,h.get? b=δ u->h'.get? b=δ u):Un fs ex H H h h':=
 #[λb O q _ _ _=>k b O q,λb O q _ _ _=>#[O.slots,k b O q],λ_ _ _ n _=>n,λb O q _=>#[O,k b O q],λ_ _ q=>q,λ_ _ _ q=>q,λ_ p q=>#[(ε []),by rw[q];simp]]
def Un.refl:Un fs ex H H h h:=Un.kept λ_ _ q=>q
def Un.laid(k:∀b u,h.get? b=δ u->h'.get? b=δ u)(d:h.objs.size<=a)(c:H a=ι):Un fs ex H (af H a o) h h' where
 keep:=λb u q _ _ _=>k b u q
 slot:=λb u q _ _ _=>#[u.slots,k b u q]
 free:=λb u q n _=>by rw[jh$ R6$ Si (RT q) d];rwa[n]
 there:=λb u q _=>#[u,k b u q]
 tups:=λb X q=>by rw[jh$ jk q c];rwa[q]
 frzs:=λb u X q=>by rw[jh$ jk q c];rwa[q]
 tbls:=λb p q=>#[(ε []),by rw[jh$ jk q c,q];simp]
def Un.write(m:LI (H x))(j:e=x∨H e=δ (.own x))(k:∀b u,b≠e->h.get? b=δ u->h'.get? b=δ u)(d:∃u,h'.get? e=δ u):Un fs ex H (af H x o) h h':=by
 let g:∀b,H b=ι->b≠x:=λb n z=>by subst z;rw[n]at m;rwa[m]
 let i:∀b,H b=ι->b≠e:=λb n z=>by
  subst z;rcases j with r |r
  .rwa[g b n r]
  .rw[n]at r;cases r
 let f:∀b u,H b=δ u->¬LI (δ u)->b≠x:=λb u q N z=>by subst z;rw[q]at m;rwa[N m]
 refine#[λb u q n _ _=>k b u (i b n) q,λb u q n _ _=>#[u.slots,k b u (i b n) q],λb u q n _=>by rw[jh$ g b n];exact n,λb u q _=>?_,
  λb X q=>by rw[jh$ f b _ q λz=>z];rwa[q],λb u X q=>by rw[jh$ f b _ q λz=>z];rwa[q],λb p q=>#[(ε []),by rw[jh$ f b _ q λz=>z,q];simp]]
 by_cases c:b=e
 .subst c;rwa[d]
 .exact#[u,k b u c q]
end
noncomputable def NQ(h:df)(H:Hp):FA η:=(dg h.objs.size).filter λa=>(H a).isSome
def mH(h:df)(H:Hp):df:=PySem.W.hideAll h (NQ h H)
def vq(h:df)(H:Hp):(mH h H).objs.size=h.objs.size:=PySem.W.hideAll_size _ _
def yc{h:df}{H:Hp}(e:h.get? b=δ o)(n:H b=ι):(mH h H).get? b=δ o:=
 PySem.W.hideAll_get _ e λa=>by let q:(H b).isSome=μ:=(ot.mp a).2;rw[n]at q;simp at q
def C3(e:(mH h H).get? b=δ o):h.get? b=δ o/\H b=ι:=by
 let E:h.get? b=δ o:=PySem.W.of_hideAll (NQ h H) e;erw[E,?_];cases q:H b with
 |none=>rfl
 |some x=>have a:b∈NQ h H:=ot.mpr #[mu.mpr$ RT E,by simp [q]];let z:(mH h H).get? b=ι:=PySem.W.hideAll_none (NQ h H) a;rw[z]at e;cases e
end _L
set_option genInjectivity false
open _L.V renaming str->Cv,int->Da,ref->Fa
namespace _L
open PySem PySem.Spec PyProof.Rows
structure Mod(K:γ)(mg:ρ->FC ζ)(base:df):Prop where
 kin:K.In base
 glob:base.Ns ab mg
 blt:∃mb,base.Ns builtinsNs mb/\∀x:ρ,x≠"__name__"->mb x=bootBuiltins x
 nolimit:base.NoLimit
structure Cx where
 prog:Δ
 w:cv
 K:γ
 mg:ρ->FC ζ
 base:df
 A:bU
 N:FA ρ
 s₀:θ
 H₀:Hp
 env:Env
 outer:FA Env
 stack:FA Env
 ex:FA η
 fn:ρ->Bool
 calm:Bool
 pn:FA (η×gb)
 xe:ζ->θ->Prop
noncomputable def ij(l:FA Env):FA η:=l.filterMap (·.frame)
abbrev Cx.fs(X:Cx):FA η:=ij X.outer
def NK(s:gO)(x:ρ):Prop:=s.names.lookup x=δ .local∨s.names.lookup x=δ .cell∨s.names.lookup x=δ .free
def wZ(s:gO)(x:ρ):Prop:=s.names.lookup x=δ .local∨s.names.lookup x=δ .cell
def N4(e:Env)(h:df)(m:ρ->FC ζ)(x:ρ)(u:ζ):Prop:=
 (e.kindOf x=δ .local/\m x=δ u)∨((e.kindOf x=δ .cell∨e.kindOf x=δ .free)/\∃c,e.cells.lookup x=δ c/\h.IsCell c (δ u))
structure Cx.Ok(X:Cx):Prop where
 mod:Mod X.K X.mg X.base
 kind:X.env.scope.kind= .function
 glob:X.env.globals=ab
 blt:X.env.builtins=builtinsNs
 above:X.s₀.heap.objs.size<=X.env.locals
 inj:∀x y c,X.env.cells.lookup x=δ c->X.env.cells.lookup y=δ c->x=y
 has:∀x,(X.env.kindOf x=δ .cell∨X.env.kindOf x=δ .free)->∃c,X.env.cells.lookup x=δ c
 cab:∀x c,X.fn x=μ->X.env.cells.lookup x=δ c->X.s₀.heap.objs.size<=c
 hd:X.calm=μ->X.A.handled=ι
 frames:X.A.frames=δ X.stack
 stk:X.stack=X.outer∨(X.stack=X.env::X.outer/\X.env.frame=δ X.env.locals)
 exf:∀b∈X.ex,b≠X.env.locals/\∀x c,X.env.cells.lookup x=δ c->c≠b
 bs:∀b o,X.base.get? b=δ o->X.s₀.heap.get? b=δ o/\X.H₀ b=ι
 bsz:X.base.objs.size<=X.s₀.heap.objs.size
 noex:∀b o,X.base.get? b=δ o->b∉X.ex
 exfs:∀b∈X.ex,b∉X.fs
 funs:X.s₀.heap.FunFrames X.base X.outer
 frf:∀b∈X.fs,X.H₀ b=ι
structure aq(X:Cx)(pins:FA (η×gb))(σ:FA (FC V))(H:Hp)(s:θ):Prop where
 ok:X.Ok
 os:s.os=X.s₀.os
 bare:AllBare s.gens
 base:Un X.fs X.ex X.H₀ H X.s₀.heap s.heap
 loc:∃m,s.heap.Ns X.env.locals m/\∀(i:Nat) (x:ρ) (v:V),X.N[i]?=δ x->σ[i]?=δ (δ v)->NK X.env.scope x->∃u,aB v u/\N4 X.env s.heap m x u
 cell:∀x c,X.env.cells.lookup x=δ c->∃v,s.heap.IsCell c v
 free:H X.env.locals=ι
 freeC:∀x c,X.env.cells.lookup x=δ c->H c=ι
 pin:∀p∈X.pn++pins,s.heap.get? p.1=δ p.2/\H p.1=ι/\p.1≠X.env.locals/\p.1∉X.fs/\∀v,p.2.data≠ .cell v
 hok:fQ X.prog X.w H s.heap
 len:ο σ=ο X.N
section
variable {X:Cx}{pins:FA (η×gb)}{σ:FA (FC V)}{H H':Hp}{s:θ}{h':df}
def Cx.Ok.nofr(O:X.Ok)(e:X.base.get? b=δ o):b∉X.fs:=λh=>by let:=(O.funs.mem h).1;rw[e]at this;cases this
def aq.bs(I:aq X pins σ H s):∀b o,X.base.get? b=δ o->s.heap.get? b=δ o/\H b=ι:=λb o e=>
 #[I.base.keep b o (I.ok.bs b o e).1 (I.ok.bs b o e).2 (I.ok.nofr e)$ I.ok.noex b o e,I.base.free b o (I.ok.bs b o e).1 (I.ok.bs b o e).2$ I.ok.noex b o e]
def aq.bk(I:aq X pins σ H s):∀b o,X.base.get? b=δ o->s.heap.get? b=δ o:=λb o e=>(I.bs b o e).1
def aq.mod(I:aq X pins σ H s):Mod X.K X.mg X.base:=I.ok.mod
def aq.kIn(I:aq X pins σ H s):X.K.In s.heap:=I.ok.mod.kin.keeps I.bk
def aq.lt(I:aq X pins σ H s):X.env.locals < -s:=by let(_,h,_):=I.loc;rwa[h.lt]
def aq.sz(I:aq X pins σ H s):X.s₀.heap.objs.size<=-s:=Sf I.ok.above (Uo I.lt)
def aq.nofs(I:aq X pins σ H s)(h:-s<=a):a∉X.fs:=λb=>by let(_,o,c,_):=I.ok.funs.mem b;rwa[absurd (Si (RT c)$ Sf I.sz h)$ Tf _]
def aq.cne(I:aq X pins σ H s):∀x c,X.env.cells.lookup x=δ c->c≠X.env.locals:=λx c e z=>by let(v,o,b,d):=I.cell x c e;obtain⟨m,⟨O,E,f,h,a,_⟩,_⟩:=I.loc;rw[z,h]at b;cases b;rw[a]at d;cases d
def aq.funs(I:aq X pins σ H s):s.heap.FunFrames X.base X.outer:=by
 let all:∀(l:FA Env),(∀b∈ij l,b∈X.fs)->X.s₀.heap.FunFrames X.base l->s.heap.FunFrames X.base l:=by
  intro l;induction l with
  |nil=>intro _ _;trivial
  |cons E r i=>intro d f;obtain⟨g,⟨L,o,h,j,k,m⟩,n⟩:=f;let a:L∈X.fs:=d L (by unfold ij;rw[List.filterMap_cons,h];rwa[List.mem_cons_self]);let(S,e):=I.base.slot L o k (I.ok.frf L a) a λz=>I.ok.exfs L z a;rwa[g,#[L,_,h,j,e,m],i (λb c=>d b (by unfold ij;rw[List.filterMap_cons,h];rwa[List.mem_cons_of_mem _ c])) n]
 rwa[all X.outer (λ_ c=>c) I.ok.funs]
def aq.stack(I:aq X pins σ H s):s.heap.FunFrames X.base X.stack:=by
 rcases I.ok.stk with e | ⟨e,h⟩
 .rw[e];rwa[I.funs]
 .rw[e];let(m,a,_):=I.loc;erw[.cons (by rw[I.ok.kind];decide) h a ?_ I.funs];rwa[Heap.get?_none_of_le$ Sf I.ok.bsz I.ok.above]
def aq.stkSub(I:aq X pins σ H s):∀b∈ij X.stack,b∈X.env.locals::X.fs:=λb h=>by
 rcases I.ok.stk with e | ⟨e,a⟩
 .rw[e]at h;rwa[Sd _ h]
 .rw[e]at h;unfold ij at h;rw[Wm,a]at h;rwa[h]
def aq.stkFree(I:aq X pins σ H s):∀b∈ij X.stack,H b=ι:=λb hb=>by
 rcases ω.mp (I.stkSub b hb) with e |hb
 .rw[e];rwa[I.free]
 .let(_,o,h,_):=I.ok.funs.mem hb;rwa[I.base.free b o h (I.ok.frf b hb) λz=>I.ok.exfs b z hb]
def aq.step{g':Array GenState}{d':Drawn}{ch:FA η}(I:aq X pins σ H s)
  (a:∀b∈ch,(b∈X.ex∨X.s₀.heap.objs.size<=b)/\b≠X.env.locals/\(∀x c,X.env.cells.lookup x=δ c->c≠b)/\∀p∈X.pn++pins,p.1≠b)
  (K:∀b o,b≠X.env.locals->b∉X.fs->b∉ch->s.heap.get? b=δ o->H b=ι->h'.get? b=δ o)
  (S:∀b o,b≠X.env.locals->b∈X.fs->b∉ch->s.heap.get? b=δ o->H b=ι->∃J,h'.get? b=δ { o with slots:=J }) (f:∀b o,b∉ch->s.heap.get? b=δ o->H b=ι->H' b=ι)
  (t:∀b o,b∉ch->s.heap.get? b=δ o->∃O,h'.get? b=δ O)
  (T:∀b j,H b= ~~~j->H' b= ~~~j) (F:∀b o u,H b=δ (.frz o u)->H' b=δ (.frz o u)) (B:∀b P,H b=δ (.tbl P)->∃M,H' b=δ (.tbl$ P++M))
  (ns:∀m,s.heap.Ns X.env.locals m->h'.Ns X.env.locals m) (L:fQ X.prog X.w H' h') (hg:AllBare g'):
  aq X pins σ H' { s with heap:=h',gens:=g',drawn:=d',toks:=t' }:=by
 let D:∀b o,X.s₀.heap.get? b=δ o->b≠X.env.locals:=λb o e=>R6 (Si (RT e) I.ok.above);let g:∀b o,X.s₀.heap.get? b=δ o->b∉X.ex->b∉ch:=λb o e h y=>by
  rcases(a b y).1 with z |z
  .rwa[h z]
  .rwa[absurd (Si (RT e) z)$ Tf _]
 let C:∀x c,X.env.cells.lookup x=δ c->∀v,s.heap.IsCell c v->h'.IsCell c v:=λx c e v #[o,A,Q]=>by
  let N:c∉ch:=λz=>(a c z).2.2.1 x c e Z;by_cases U:c∈X.fs
  .let(J,q):=S c o (I.cne x c e) U N A (I.freeC x c e);rwa[_,q,Q]
  .exact#[o,K c o (I.cne x c e) U N A$ I.freeC x c e,Q]
 erw[I.ok,I.os,hg,#[λb o e n y h=>?_,λb o e n y h=>?_,λb o e n h=>?_,λb o e h=>?_,λb j e=>T b j (I.base.tups b j e),λb o j e=>F b o j (I.base.frzs b o j e),λb P e=>?_],?_,λx c e=>?_,?_,λx c e=>?_,λp W=>?_,L,I.len]
 .rwa[K b o (D b o e) y (g b o e h) (I.base.keep b o e n y h)$ I.base.free b o e n h]
 .let(J,E):=I.base.slot b o e n y h;let(R,G):=S b _ (D b o e) y (g b o e h) E (I.base.free b o e n h);rwa[R,G]
 .let(O,E):=I.base.there b o e h;rwa[f b O (g b o e h) E$ I.base.free b o e n h]
 .let(O,E):=I.base.there b o e h;rwa[t b O (g b o e h) E]
 .let(m1,E):=I.base.tbls b P e;let(m2,G):=B b _ E;rwa[m1++m2,by rw[G,Array.append_assoc]]
 .let(m,hn,hl):=I.loc;erw[m,ns m hn,λi x v E G e3=>?_];let(u,r,l):=hl i x v E G e3;erw[u,r,?_];rcases l with l | ⟨k,c,e,z⟩
  .rwa[.inl l]
  .rwa[.inr #[k,c,e,C x c e _ z]]
 .let(v,z):=I.cell x c e;rwa[v,C x c e v z]
 .obtain⟨m,⟨o,_,_,A,_⟩,_⟩:=I.loc;rwa[f _ o (λz=>(a _ z).2.1 Z) A I.free]
 .let(v,o,A,Q):=I.cell x c e;rwa[f c o (λz=>(a c z).2.2.1 x c e Z) A$ I.freeC x c e]
 .let(e,n,Y,nf,d):=I.pin p W;let N:p.1∉ch:=λz=>(a p.1 z).2.2.2 p W Z;rwa[K p.1 p.2 Y nf N e n,f p.1 p.2 N e n,Y,nf,d]
def aq.un{t':Nat}(I:aq X pins σ H s)(u:Un X.fs [] H H' s.heap h')(a:fQ X.prog X.w H' h'):aq X pins σ H' { s with heap:=h',toks:=t' }:=by
 obtain⟨m,⟨o,j,k,f,r⟩,_⟩:=id I.loc;let(S,g):=u.any f I.free P9;exact I.step (g':=s.gens) (d':=s.drawn) (ch:=[]) (λ_ z=>nomatch z) (λb o _ c _ e n=>u.keep b o e n c P9) (λb o _ c _ e n=>u.slot b o e n c P9) (λb o _ e n=>u.free b o e n P9) (λb o _ e=>u.there b o e P9) u.tups u.frzs u.tbls (λM i=>by
  let(O,E,d,h,R):=i;rw[f]at h;cases h;rwa[_,E,d,g,R]) a I.bare
def aq.call{g':Array GenState}{t':Nat}{d':Drawn}{ch:FA η}(I:aq X pins σ H s)(u:Un (ij X.stack) ch H H' s.heap h')(f:fQ X.prog X.w H' h')(k:AllBare g')
  (a:∀b∈ch,(b∈X.ex∨X.s₀.heap.objs.size<=b)/\b≠X.env.locals/\(∀x c,X.env.cells.lookup x=δ c->c≠b)/\∀p∈X.pn++pins,p.1≠b):
  aq X pins σ H' { s with heap:=h',gens:=g',drawn:=d',toks:=t' }:=by
 obtain⟨m,⟨o,t,v,j,r⟩,_⟩:=id I.loc;let(S,g):=u.any j I.free λz=>(a _ z).2.1 Z;exact I.step (ch:=ch) a (λb o g l h e n=>u.keep b o e n (λz=>(ω.mp$ I.stkSub b z).elim g l) h) (λb o _ _ h e n=>u.any e n h) (λb o h e n=>u.free b o e n h) (λb o h e=>u.there b o e h) u.tups u.frzs u.tbls (λM q=>by
  let(O,E,i,d,R):=q;rw[j]at d;cases d;rwa[_,E,i,g,R]) f k
def aq.turned{t':Nat}{it:η}(I:aq X pins σ H s)(k:∀b o,b≠it->s.heap.get? b=δ o->h'.get? b=δ o)(d:H it=ι)(a:it≠X.env.locals)
  (f:it∈X.ex∨X.s₀.heap.objs.size<=it) (g:∀x c,X.env.cells.lookup x=δ c->c≠it) (i:∀p∈X.pn++pins,p.1≠it):aq X pins σ H { s with heap:=h',toks:=t' }:=by
 let N:∀b u,H b=δ u->b≠it:=λb u e z=>by rw[z,d]at e;cases e
 refine I.step (g':=s.gens) (d':=s.drawn) (ch:=[it]) (λb j=>?_) (λb o _ _ h e _=>k b o (λz=>h (by simp [z])) e) (λb o _ _ h e _=>#[o.slots,k b o (λz=>h (by simp [z])) e]) (λ_ _ _ _ n=>n)
  (λb o h e=>#[o,k b o (λz=>h (by simp [z])) e]) (λ_ _ e=>e) (λ_ _ _ e=>e) (λb P e=>#[(ε []),by rw[e];simp]) (λm l=>?_) (λb u e=>?_) I.bare
 .let e:b=it:=by simpa using j
  subst e;rwa[f,a,g,i]
 .let(o,E,t,w,r):=l;rwa[o,E,t,k _ o (Sx a) w,r]
 .erw[(I.hok b u e).stay (λc v h q=>k c v ?_ q) (λ_ q=>q) λ_ _ q=>q];rcases h with z |z
  .rw[z];rwa[N b u e]
  .rwa[N c _ z]
def aq.tok(I:aq X pins σ H s)(t:Nat):aq X pins σ H { s with toks:=t }:=I.un (h':=s.heap) (t':=t) Un.refl I.hok
def aq.kept{t':Nat}(I:aq X pins σ H s)(k:∀b u,s.heap.get? b=δ u->h'.get? b=δ u):aq X pins σ H { s with heap:=h',toks:=t' }:=I.un (Un.kept k) (I.hok.kept k)
def aq.laid{a:η}{o:HO}{t':Nat}(I:aq X pins σ H s)(k:∀b u,s.heap.get? b=δ u->h'.get? b=δ u)(h:-s<=a)(n:aK X.prog X.w (af H a o) h' a o):
  aq X pins σ (af H a o) { s with heap:=h',toks:=t' }:=I.un (Un.laid k h$ I.hok.fresh h) (I.hok.laid k h n)
def aq.write{x e:η}{o:HO}{t':Nat}(I:aq X pins σ H s)(m:LI (H x))(a:e=x∨H e=δ (.own x))(k:∀b u,b≠e->s.heap.get? b=δ u->h'.get? b=δ u)(h:∃u,h'.get? e=δ u)
  (n:aK X.prog X.w (af H x o) h' x o):aq X pins σ (af H x o) { s with heap:=h',toks:=t' }:=I.un (Un.write m a k h) (I.hok.write m a k h n)
def aq.pins_of{pins':FA (η×gb)}(I:aq X pins σ H s)(h:∀p∈pins',s.heap.get? p.1=δ p.2/\H p.1=ι/\p.1≠X.env.locals/\p.1∉X.fs/\∀v,p.2.data≠ .cell v):aq X pins' σ H s:=
 #[I.ok,I.os,I.bare,I.base,I.loc,I.cell,I.free,I.freeC,λp a=>(ψ.mp a).elim (λz=>I.pin p (Sr _ z)) (h p),I.hok,I.len]
def Yz{N:FA ρ}(h:N.Nodup){i j:Nat}{x:ρ}(a:N[i]?=δ x)(b:N[j]?=δ x):i=j:=by let(c,e):=ν.mp a;let(d,E):=ν.mp b;exact(List.getElem_inj h).mp (e.trans E.symm)
def Xh{v:V}{Q:Unit->θ->Prop}(I:aq X pins σ H s)(hN:X.N.Nodup)(L:X.N[i]?=δ x)(l:wZ X.env.scope x)(r:aB v u)
  (h:∀s',aq X pins (σ.set i$ δ v) H s'->(∃a,eC a s.heap s'.heap/\(a=X.env.locals∨X.env.cells.lookup x=δ a))->Q () s') (hf:autoParam (X.fn x=μ∨X.env.scope.names.lookup x=δ .local) Wx._auto_1):π M A (storeName X.env x u) Q E s:=by
 let(m,hn,hl):=id I.loc;let O:(X.env.scope.kind== .class||(X.env.scope.kind== .module&&X.env.locals != X.env.globals))=ξ:=by rw[I.ok.kind];rfl
 let D:i < ο σ:=by rw[I.len];exact(ν.mp L).1
 let F:=I.cne;let t:∀{a:η} {h':df},(∃o,s.heap.get? a=δ o/\H a=ι)->eC a s.heap h'->fQ X.prog X.w H h':=λ{a h'} ha f b ob e=>by
  let(_,_,B):=ha;erw[(I.hok b ob e).stay (λc W hc q=>(f.2 c ?_).trans q) (λ_ q=>q) λ_ _ q=>q];rintro rfl;rcases hc with rfl |hc
  .rw[B]at e;cases e
  .rw[B]at hc;cases hc
 rcases l with hk |hk
 .erw[wpAny_storeName_local hk hn (λh' h0 f=>?_) O];let(oL,_,_,h1,_):=id hn;refine h _ #[I.ok,I.os,I.bare,#[λb o e n G l=>?_,λb o e n G l=>?_,I.base.free,λb o e l=>?_,I.base.tups,I.base.frzs,I.base.tbls],#[_,h0,λj y v' g C e3=>?_],λy c e=>?_,I.free,I.freeC,λp hp=>?_,t #[oL,h1,I.free] f,(I.len:)] #[_,f,.inl Z]
  .exact(f.2 b$ R6$ Si (RT e) I.ok.above).trans (I.base.keep b o e n G l)
  .let(sl,g):=I.base.slot b o e n G l;rwa[sl,(f.2 b$ R6$ Si (RT e) I.ok.above).trans g]
  .let(o',g):=I.base.there b o e l;rwa[o',(f.2 b$ R6$ Si (RT e) I.ok.above).trans g]
  .by_cases J:j=i
   .subst J;rw[L]at g;cases g;rw[U7 D]at C;cases C;rwa[u,r,.inl #[hk,P9]]
   .rw[Um$ Sx J]at C;let(u',r',q):=hl j y v' g C e3;erw[u',r',?_];rcases q with ⟨k,e⟩ | ⟨k,c,e,z⟩
    .erw[.inl #[k,?_]];let:y≠x:=λe=>J (Yz hN g$ e▸L);simp [this,e]
    .rwa[.inr #[k,c,e,z.sameBut f$ F y c e]]
  .let(W,z):=I.cell y c e;rwa[W,z.sameBut f$ F y c e]
  .let(e,n,U,nf,d):=I.pin p hp;rwa[(f.2 p.1 U).trans e,n,U,nf,d]
 .let K:X.fn x=μ:=by
   rcases hf with z |z
   .rwa[z]
   .rw[z]at hk;cases hk
  let(c,hc):=I.ok.has x (.inl hk);let(W,z):=I.cell x c hc;erw[wpAny_storeName_cell I.ok.kind hk hc z (λh' P f=>?_)];let(oc,R,S):=id z;erw[h (s<|h') #[I.ok,I.os,I.bare,#[λb o e n G l=>?_,λb o e n G l=>?_,I.base.free,λb o e l=>?_,I.base.tups,I.base.frzs,I.base.tbls],#[m,hn.sameBut f$ Sx$ F x c hc,λj y v' g C e3=>?_],λy Y e=>?_,I.free,I.freeC,λp hp=>?_,t #[oc,R,I.freeC x c hc] f,(I.len:)] #[c,f,.inr hc]]
  .exact(f.2 b$ R6$ Si (RT e)$ I.ok.cab x c K hc).trans (I.base.keep b o e n G l)
  .let(sl,g):=I.base.slot b o e n G l;rwa[sl,(f.2 b$ R6$ Si (RT e)$ I.ok.cab x c K hc).trans g]
  .let(o',g):=I.base.there b o e l;rwa[o',(f.2 b$ R6$ Si (RT e)$ I.ok.cab x c K hc).trans g]
  .by_cases J:j=i
   .subst J;rw[L]at g;cases g;rw[U7 D]at C;cases C;rwa[u,r,.inr #[.inl hk,c,hc,P]]
   .rw[Um$ Sx J]at C;let(u',r',q):=hl j y v' g C e3;erw[u',r',?_];rcases q with q | ⟨k,Y,e,z'⟩
    .rwa[.inl q]
    .erw[.inr #[k,Y,e,z'.sameBut f ?_]];rintro rfl;rwa[J$ Yz hN g$ I.ok.inj _ _ _ e hc▸L]
  .by_cases T:Y=c
   .subst T;rwa[_,P]
   .let(w2,z2):=I.cell y Y e;rwa[w2,z2.sameBut f T]
  .let(e,n,U,nf,d):=I.pin p hp;erw[(f.2 p.1 ?_).trans e,n,U,nf,d];intro q;rw[q,R]at e;let q':oc=p.2:=SK e;rwa[d W (by rw[<- q'];rwa[S])]
def zM{Q:Unit->θ->Prop}(I:aq X pins σ H s)(a:X.N.Nodup)(b:X.N[i]?=δ x)(c:wZ X.env.scope x)(r:aB v u)
  (h:∀S,aq X pins (σ.set i$ δ v) H S->Q () S) (d:autoParam (X.fn x=μ∨X.env.scope.names.lookup x=δ .local) Wx._auto_1):π M A (storeName X.env x u) Q E s:=
 Xh I a b c r (λS e _=>h S e) d
def aq.call'{S:θ}{ch:FA η}(I:aq X pins σ H s)(d:S.os=s.os)(u:Un (ij X.stack) ch H H' s.heap S.heap)(h:fQ X.prog X.w H' S.heap)(f:AllBare S.gens)
  (a:∀b∈ch,(b∈X.ex∨X.s₀.heap.objs.size<=b)/\b≠X.env.locals/\(∀x c,X.env.cells.lookup x=δ c->c≠b)/\∀p∈X.pn++pins,p.1≠b):aq X pins σ H' S:=by
 let(h',g',d',t',o):=S;let e:o=s.os:=d;subst e;rwa[I.call (g':=g') (t':=t') (d':=d') u h f a]
end
abbrev XK:=ζ->FC η->Hp->Prop
abbrev St:=FA (FC V)
abbrev VK:=V->Hp->Prop
abbrev TE:=St->Hp->VK->Prop
abbrev TT:=St->Hp->(Bool->Hp->Prop)->Prop
abbrev TA:=St->Hp->(FA V->Hp->Prop)->Prop
structure a8 where
 nx:St->Hp->Prop
 rt:VK
 bk:St->Hp->Prop:=λ_ _=>False
 ct:St->Hp->Prop:=λ_ _=>False
abbrev TS:=a8->St->Hp->Prop
inductive EP(X:Cx)(a:FA (η×gb))(d:St)(Q:VK)(u:ζ)(c:θ):Prop
 |mk(v b:_)(_:aq X a d b c)(_:aB v u)(_:Q v b)
inductive TP(X:Cx)(a:FA (η×gb))(e:St)(Q:Bool->Hp->Prop)(b:Bool)(d:θ):Prop
 |mk(c:_)(_:aq X a e c d)(_:Q b c)
inductive AP(X:Cx)(a:FA (η×gb))(f:St)(Q:FA V->Hp->Prop)(d:FA ζ)(c:θ):Prop
 |mk(e b:_)(_:aq X a f b c)(_:aw e d)(_:Q e b)
def SP(X:Cx)(p:FA (η×gb))(D:a8)(f:Flow)(s:θ):Prop:=
 match f with
 | .next=>∃a H,aq X p a H s/\D.nx a H
 | .brk=>∃a H,aq X p a H s/\D.bk a H
 | .cont=>∃a H,aq X p a H s/\D.ct a H
 | .ret u=>∃v a H,aq X p a H s/\aB v u/\D.rt v H
def PE(X:Cx)(e:dr)(t:TE):Prop:=
 ∀(p:FA (η×gb)) (s:θ) (a:St) (H:Hp) (Q:VK),aq X p a H s->t a H Q->!X (eval e X.env) (EP X p a Q) X.xe s
def PT(X:Cx)(e:dr)(t:TT):Prop:=
 ∀(p:FA (η×gb)) (s:θ) (a:St) (H:Hp) (Q:Bool->Hp->Prop),aq X p a H s->t a H Q->!X (isTrue e X.env$ eval e X.env) (TP X p a Q) X.xe s
def PW(X:Cx)(e:dr)(t:TT):Prop:=
 ∀(W:Sem ζ) (p:FA (η×gb)) (s:θ) (a:St) (H:Hp) (Q:Bool->Hp->Prop),aq X p a H s->t a H Q->!X (isTrue e X.env W) (TP X p a Q) X.xe s
def PW.pt{X:Cx}{e:dr}{t:TT}(h:PW X e t):PT X e t:=h _
def PA(X:Cx)(e:FA dr)(t:TA):Prop:=
 ∀(P:Pos) (p:FA (η×gb)) (s:θ) (a:St) (H:Hp) (Q:FA V->Hp->Prop),aq X p a H s->t a H Q->!X (spliced$ fz P$ Ψ e X.env) (AP X p a Q) X.xe s
def PS(X:Cx)(st:de)(t:TS):Prop:=
 ∀(p:FA (η×gb)) (s:θ) (a:St) (H:Hp) (D:a8),aq X p a H s->t D a H->!X (exec st X.env) (SP X p D) X.xe s
def nZ(X:Cx)(st:FA de)(t:TS):Prop:=
 ∀(p:FA (η×gb)) (s:θ) (a:St) (H:Hp) (D:a8),aq X p a H s->t D a H->!X (execs st X.env) (SP X p D) X.xe s
def aS{b:Type}{t:Sem b}{Q q:b->θ->Prop}{M:Model}{A:bU}{E:ζ->θ->Prop}{s:θ}(h:π M A t Q E s)(H:∀a s,Q a s->q a s):π M A t q E s:=Ti h H λ_ _ x=>x
section
variable {X:Cx}
inductive ba(i:Nat)(a:St)(H:Hp)(Q:VK):Prop
 |mk(v:_)(_:a[i]?=δ (δ v))(_:Q v H)
def tC(v:V):TE:=λ_ H Q=>Q v H
def Iu(j:X.N[i]?=δ x)(k:NK X.env.scope x)(b:↥((x==("__debug__":ρ))=ξ))(d:↥((x==("__classdict__":ρ))=ξ)):PE X (.Name x n) (ba i):=by
 intro p s o H Q I h;let(v,e,h):=h;let(m,q,t):=I.loc;let(u,r,l):=t i x v j e k;let f:EP X p o Q u s:=#[v,H,I,r,h];rcases l with ⟨hk,w⟩ | ⟨hk,c,g,a⟩
 .rwa[wpAny_Name (wpAny_loadName_local I.ok.kind hk q w f) b]
 .rcases hk with hk |hk
  .rwa[wpAny_Name (wpAny_loadName_cell I.ok.kind hk g a f) b]
  .rwa[wpAny_Name (wpAny_loadName_free I.ok.kind hk g a f d) b]
def jf{i j p}:PE X (.Constant (.int i) j p) (tC$ .int i):=λ_ _ _ H _ I h=>wpAny_Constant_int #[.int i,H,I.tok _,#[12],h]
def Kf{b j p}:PE X (.Constant (.bool b) j p) (tC$ .bl b):=λ_ _ _ H _ I h=>Constant_bool #[.bl b,H,I,Z,h]
def K9{j p}:PE X (.Constant .none j p) (tC .non):=λ_ _ _ H _ I h=>Constant_none #[.non,H,I,Z,h]
def jl{x j p}:PE X (.Constant (.str x) j p) (tC$ .str x):=λ_ _ _ H _ I h=>Calls.Constant_str #[.str x,H,I.tok _,#[12],h]
def Gl(X:Cx)(x:ρ):Prop:=X.env.kindOf x=δ .globalImplicit
def zX{Q:ζ->θ->Prop}(I:aq X p e H s)(a:Gl X x)(b:X.mg x=δ u)(h:Q u s)
  (c:↥((x==("__debug__":ρ))=ξ)):!X (eval (.Name x d) X.env) Q E s:=
 WS I.ok.kind a (Calls.loadGlobal_global (by rw[I.ok.glob];rwa[I.mod.glob.keeps I.bk]) b h) c
def zH{Q:ζ->θ->Prop}(I:aq X p j H s)(a:Gl X x)(b:X.mg x=ι)(c:bootBuiltins x=δ u)(h:Q u s)
  (d:↥(x≠"__name__")) (e:↥((x==("__debug__":ρ))=ξ)):!X (eval (.Name x f) X.env) Q E s:=by
 let(m,g,i):=I.mod.blt;rwa[WS I.ok.kind a (Calls.loadGlobal_builtin (by rw[I.ok.glob];rwa[I.mod.glob.keeps I.bk]) b (by rw[I.ok.blt];rwa[g.keeps I.bk]) ((i x d).trans c) h) e]
def Jw{v:V}(a:Gl X x)(b:X.mg x=δ u)(r:aB v u)(c:↥((x==("__debug__":ρ))=ξ)):PE X (.Name x p) (tC v):=
 λ_ _ _ H _ I h=>zX I a b #[v,H,I,r,h] c
def Dx{v:V}(a:Gl X x)(b:X.mg x=ι)(c:bootBuiltins x=δ u)(r:aB v u)(d:↥(x≠"__name__"))(e:↥((x==("__debug__":ρ))=ξ)):PE X (.Name x p) (tC v):=
 λ_ _ _ H _ I h=>zH I a b c #[v,H,I,r,h] d e
variable {a b:dr}{ta tb:TE}{pos:Pos}
def PC(X:Cx)(o:CmpOp)(a b:dr)(t:TE):Prop:=
 ∀(p:FA (η×gb)) (s:θ) (d:St) (H:Hp) (Q:VK),aq X p d H s->t d H Q->
  !X (eval a X.env) (λv S=>!X (eval b X.env) (λu c=>!X (compareOp o v u) (EP X p d Q) X.xe c) X.xe S) X.xe s
def OO(ta:TE):TE:=λc H Q=>ta c H λx h=>Q (.bl$ decide$ x= .non) h
def aB.none_iff(r:aB x v):(v==Ξ)=decide (x= .non):=by
 cases x with
 |non |bl _=>cases r;rfl
 |int _ |str _ |byt _ |flt _=>let(t,rfl):=r;rfl
 |ref _ |ty _=>cases r;rfl
def XH{j p}(c:PE X a ta):PC X .Is a (.Constant .none j p) (OO ta):=by intro P s d H Q I h;erw[aS (c P s d H _ I h) λv S z=>?_];let(x,e,i,r,q):=z;rwa[Constant_none$ is_none_gen #[.bl _,e,i,by rw[r.none_iff];rfl,q]]
inductive Pk(Q:Bool->Hp->Prop)(x:V)(a:Hp):Prop
 |mk(c:_)(_:x= .bl c)(_:Q c a)
def tB(t:TE):TT:=λc H Q=>t c H (Pk Q)
def Qa(h:PC X o a b t)(e:behindInMarks o b=ξ:=by first |exact n _ Ra Ra |rfl):PT X (.Compare a [o] [b] pos) (tB t):=by intro p s f H Q I g;erw[wpAny_isTrue_Compare1 (aS (h p s f H _ I g) λv S e=>aS e λu m i=>aS i λc w z=>?_) e];let(x,j,k,r,l):=z;let(d,rfl,q):=l;cases r;rwa[UJ #[j,k,q]]
def Zv(h:PE X e t)(c:autoParam (∀w,isTrue e X.env w=(do let v <- w;standAt e.pos;kw [v] (truthy v))) FO._auto_1):PT X e (tB t):=by intro p s f H Q I g;erw[isTrue_plain (aS (h p s f H _ I g) λv S z=>?_)$ c _];let(x,i,j,r,k):=z;let(d,rfl,q):=k;cases r;rwa[UJ #[i,j,q]]
variable {tA tB':TT}{rest:FA dr}
def OJ(t u:TT):TT:=λd H Q=>t d H λc h=>if c=μ then u d h Q else Q ξ h
def PR(t u:TT):TT:=λd H Q=>t d H λc h=>if c=μ then Q μ h else u d h Q
def OP(t:TT):TT:=λd H Q=>t d H λc h=>Q (!c) h
def zY(d:PT X a tA):PW X (.BoolOp .And [a] pos) tA:=by
 intro w p s f H Q I h;erw[isTrue_and$ aS (d p s f H Q I h) λc S e=>?_];cases c with
 |true=>rwa[isTrue_and_nil e]
 |false=>rwa[e]
def JW(d:PT X a tA):PW X (.BoolOp .Or [a] pos) tA:=by
 intro w p s f H Q I h;erw[isTrue_or$ aS (d p s f H Q I h) λc S e=>?_];cases c with
 |false=>rwa[isTrue_or_nil e]
 |true=>rwa[e]
def qd(f:PT X a tA)(g:PW X (.BoolOp .And (b::rest) pos) tB'):PW X (.BoolOp .And (a::b::rest) pos) (OJ tA tB'):=by
 intro w p s d H Q I h;erw[isTrue_and$ aS (f p s d H _ I h) λc S z=>?_];let(e,i,q):=z;cases c with
 |true=>rwa[g w p S d e Q i q]
 |false=>rwa[e,i,q]
def KP(f:PT X a tA)(g:PW X (.BoolOp .Or (b::rest) pos) tB'):PW X (.BoolOp .Or (a::b::rest) pos) (PR tA tB'):=by
 intro w p s d H Q I h;erw[isTrue_or$ aS (f p s d H _ I h) λc S z=>?_];let(e,i,q):=z;cases c with
 |true=>rwa[e,i,q]
 |false=>rwa[g w p S d e Q i q]
def Zw(e:PT X a tA):PT X (.UnaryOp .Not a pos) (OP tA):=by intro p s f H Q I h;rwa[isTrue_not$ aS (e p s f H (λc d=>Q (!c) d) I h) λc S #[d,i,q]=>#[d,i,q]]
inductive Bn(b:TE)(d:St)(Q:VK)(x:V)(a:Hp):Prop
 |mk(c:_)(_:x= .bl c)(_:if c=μ then b d a Q else Q (.bl ξ) a)
def Nn(ta tb:TE):TE:=λc H Q=>ta c H (Bn tb c Q)
def Ae(h:PE X a t):PE X (.BoolOp o [a] pos) t:=λp s c H Q I d=>BoolOp_one (h p s c H Q I d)
def Aa(f:PE X a ta)(g:PE X (.BoolOp .And (b::rest) pos) tb):PE X (.BoolOp .And (a::b::rest) pos) (Nn ta tb):=by
 intro p s d H Q I h;erw[BoolOp_and$ aS (f p s d H _ I h) λv S z=>?_];let(x,e,i,r,q):=z;let(c,rfl,q):=q;cases r;erw[UJ ?_];cases c with
 |true=>rwa[g p S d e Q i q]
 |false=>rwa[.bl ξ,e,i,Z,q]
def PQ(t:TT)(ta tb:TE):TE:=λd H Q=>t d H λc h=>if c=μ then ta d h Q else tb d h Q
def kY(g:PT X c tA)(j:PE X a ta)(k:PE X b tb):PE X (.IfExp c a b pos) (PQ tA ta tb):=by
 intro p s e H Q I h;erw[wpAny_IfExp$ aS (g p s e H _ I h) λd S z=>?_];let(f,i,q):=z;cases d with
 |true=>rwa[j p S e f Q i q]
 |false=>rwa[k p S e f Q i q]
end
def aE(K:γ)(H:Hp)(a:η)(x:FA V):Prop:=
 Rd H a (.lst x)∨
  ∃(o:gb) (i:Array ζ) (n:Nat),K.lookup a=δ o/\o.cls= .type "list"/\o.dict=ι/\o.data= .seq i n/\i.size<=υ/\aw x i.toList
def aC(K:γ)(H:Hp)(a:η)(x:FA V):Prop:=
 Rd H a (.tup x)∨
  ∃(o:gb) (i:Array ζ) (n:Nat),K.lookup a=δ o/\o.cls= .type "tuple"/\o.data= .seq i n/\i.size<=υ/\aw x i.toList
noncomputable def Oc:ζ->FC V
 | .none=>δ .non
 | .bool b=>δ (.bl b)
 | .int i _=>δ (.int i)
 | .str x _=>δ (.str x)
 | .bytes b _=>δ (.byt b)
 | .float b _=>δ (.flt b)
 | .ref a=>↑a
 | .type n=>δ (.ty n)
 |_=>ι
def aB.abs(r:aB x u):Oc u=δ x:=by
 cases x with
 |non |bl _=>cases r;rfl
 |int _ |str _ |byt _ |flt _=>let(t,rfl):=r;rfl
 |ref _ |ty _=>cases r;rfl
def aB.inj{x:V}(r:aB x u)(q:aB y u):x=y:=SK (r.abs.symm.trans q.abs)
theorem aw.inj{x y:FA V}{u:FA ζ}(h:aw x u)(k:aw y u):x=y:=by
 induction h generalizing y with
 |nil=>cases k;rfl
 |cons r _ f=>cases k with
  |cons R T=>rw[r.inj R,f T]
section
variable {X:Cx}{pins:FA (η×gb)}{σ:St}{H:Hp}{s:θ}{a:η}{xs ys:FA V}
def aE.of{K:γ}(h:H a=xs⁻¹):aE K H a xs:=.inl (.inl h)
def aC.of{K:γ}(h:H a= ~~~xs):aC K H a xs:=.inl (.inl h)
def aq.list(I:aq X pins σ H s)(h:aE X.K H a xs):∃i:FA ζ,aw xs i/\PlainL s.heap a i.toArray/\ο xs<=υ:=by
 rcases h with h | ⟨o,i,n,b,c,d,f,g,r⟩
 .let(z,i,n,r,e):=h.ok I.hok;rwa[i,r,#[_,n,e,222],z]
 .erw[#[i.toList,r,#[o,n,I.kIn a o b,c,d,(f:)],?_]];let e:=r.length;simp only[Sb]at e;omega
def aq.tuple(I:aq X pins σ H s)(h:aC X.K H a xs):∃i:FA ζ,aw xs i/\IsTup s.heap a i.toArray/\ο xs<=υ:=by
 rcases h with h | ⟨o,i,n,b,c,d,f,r⟩
 .let(z,i,r,p):=h.ok I.hok;rwa[i,r,p,z]
 .erw[#[i.toList,r,#[o,I.kIn a o b,c,n,(d:)],?_]];let e:=r.length;simp only[Sb]at e;omega
def aq.list_inj(I:aq X pins σ H s)(h:aE X.K H a xs)(c:aE X.K H a ys):xs=ys:=by
 obtain⟨b,r,⟨o,n,e,_,_,d⟩,_⟩:=I.list h;obtain⟨i,R,⟨O,N,E,_,_,D⟩,_⟩:=I.list c;rw[e]at E;cases E;rw[d]at D;injection D with f _;let:b=i:=by simpa using SQ nI f
 subst this;rwa[r.inj R]
def aq.tuple_inj(I:aq X pins σ H s)(h:aC X.K H a xs)(c:aC X.K H a ys):xs=ys:=by
 obtain⟨b,r,⟨o,e,_,n,d⟩,_⟩:=I.tuple h;obtain⟨i,R,⟨O,E,_,N,D⟩,_⟩:=I.tuple c;rw[e]at E;cases E;rw[d]at D;injection D with f _;let:b=i:=by simpa using SQ nI f
 subst this;rwa[r.inj R]
end
noncomputable abbrev Cx.wish(X:Cx)(E:ζ->θ->Prop):Cx:={ X with xe:=E }
abbrev Cx.nox(X:Cx):Cx:=X.wish λ_ _=>False
def Cx.Ok.wish{X:Cx}(o:X.Ok)(E:ζ->θ->Prop):(X.wish E).Ok:=
 #[o.mod,o.kind,o.glob,o.blt,o.above,o.inj,o.has,o.cab,o.hd,o.frames,o.stk,o.exf,o.bs,o.bsz,o.noex,o.exfs,o.funs,o.frf]
def Cx.Ok.unwish{X:Cx}(o:(X.wish E).Ok):X.Ok:=
 #[o.mod,o.kind,o.glob,o.blt,o.above,o.inj,o.has,o.cab,o.hd,o.frames,o.stk,o.exf,o.bs,o.bsz,o.noex,o.exfs,o.funs,o.frf]
section
variable {X:Cx}{pins:FA (η×gb)}{σ:St}{H:Hp}{s:θ}{E:ζ->θ->Prop}
def aq.wish(I:aq X pins σ H s)(E:ζ->θ->Prop):aq (X.wish E) pins σ H s:=#[I.ok.wish E,I.os,I.bare,I.base,I.loc,I.cell,I.free,I.freeC,I.pin,I.hok,I.len]
def aq.unwish(I:aq (X.wish E) pins σ H s):aq X pins σ H s:=#[I.ok.unwish,I.os,I.bare,I.base,I.loc,I.cell,I.free,I.freeC,I.pin,I.hok,I.len]
def SP.unwish(h:SP (X.wish E) pins D f c):SP X pins D f c:=by
 cases f with
 |next |brk |cont=>let(a,b,I,q):=h;rwa[a,b,I.unwish,q]
 |ret u=>let(v,a,b,I,r,q):=h;rwa[v,a,b,I.unwish,r,q]
def nZ.nox{st:FA de}(h:nZ X.nox st t):nZ X st t:=λpins s σ H D I a=>
 Ti (h pins s σ H D (I.wish _) a) (λ_ _ q=>q.unwish) λ_ _ z=>False.elim z
end
section
variable {X:Cx}{st:de}{rest:FA de}{t u:TS}{e:dr}{te:TE}{pos:Pos}
def Bt:TS:=λD a H=>D.nx a H
def dq(t u:TS):TS:=λD a H=>t { D with nx:=u D } a H
def jo:nZ X [] Bt:=λ_ _ a H _ I h=>U6 #[a,H,I,h]
def jd(b:PS X st t)(c:nZ X rest u):nZ X (st::rest) (dq t u):=by
 intro p s d H D I h;erw[Y'$ aS (b p s d H { D with nx:=u D } I h) λf S q=>?_];cases f with
 |next=>let(a,g,i,q):=q;rwa[c p S a g D i q]
 |ret v |brk |cont=>rwa[q]
def jg(a:PS X st t):nZ X [st] t:=by
 intro p s b H D I h;erw[Y'$ aS (a p s b H D I h) λf S q=>?_];cases f with
 |next=>rwa[U6 q]
 |ret v |brk |cont=>rwa[q]
def aq.quiet(I:aq X p a H s):interactive X.env=ξ:=by simp [interactive,I.ok.kind]
def uP(te:TE):TS:=λD a H=>te a H λ_ h=>D.nx a h
def jK(b:PE X e te)(c:↥(swapsWith e ι pos.line X.env=pure ξ)):PS X (.Expr e pos) (uP te):=by intro p s a H D I h;rwa[wpAny_Expr_any (aS (b p s a H _ I h) λv S #[x,d,i,r,q]=>#[a,d,i,q]) I.quiet c]
def gZ(te:TE):TS:=λD a H=>te a H D.rt
def jm(b:PE X e te):PS X (.Return (δ e) pos) (gZ te):=by intro p s a H D I h;rwa[wpAny_Return_some$ aS (b p s a H _ I h) λv S #[x,c,i,r,q]=>#[x,a,c,i,r,q]]
def gY(c:TT)(t u:TS):TS:=λD a H=>c a H λb h=>if b=μ then t D a h else u D a h
def jy{c:dr}{a b:FA de}{T:TT}(j:PT X c T)(k:nZ X a t)(l:nZ X b u):PS X (.If c a b pos) (gY T t u):=by
 intro p s f H D I h;erw[wpAny_If$ aS (j p s f H _ I h) λd S z=>?_];let(g,i,q):=z;cases d with
 |true=>rwa[k p S f g D i q]
 |false=>rwa[l p S f g D i q]
end
abbrev TG:=V->St->Hp->(St->Hp->Prop)->Prop
abbrev Cj:=FA V->St->Hp->(St->Hp->Prop)->Prop
def PG(X:Cx)(T:dr)(t:TG):Prop:=
 ∀(p:FA (η×gb)) (s:θ) (b:St) (H:Hp) (v:V) (u:ζ) (Q:St->Hp->Prop),aq X p b H s->aB v u->t v b H Q->
  !X (assign T X.env u) (λ_ S=>∃a h,aq X p a h S/\Q a h) X.xe s
def Lq(X:Cx)(T:FA dr)(t:Cj):Prop:=
 ∀(p:FA (η×gb)) (s:θ) (b:St) (H:Hp) (v:FA V) (u:FA ζ) (Q:St->Hp->Prop),aq X p b H s->aw v u->t v b H Q->
  !X (assignInOrder ((assignEach T X.env).map (·.2)) u) (λ_ S=>∃a h,aq X p a h S/\Q a h) X.xe s
abbrev FM:=V->V->V->Hp->(Hp->Prop)->Prop
def LM(X:Cx)(t:FM):Prop:=
 ∀(p:FA (η×gb)) (s:θ) (a:St) (H:Hp) (o i v:V) (O I u:ζ) (Q:Hp->Prop),aq X p a H s->aB o O->aB i I->aB v u->t o i v H Q->
  !X (setItem O I u) (λ_ S=>∃h,aq X p a h S/\Q h) X.xe s
abbrev N7:=V->V->Hp->VK->Prop
def O8(X:Cx)(o:Operator)(t:N7):Prop:=
 ∀(p:FA (η×gb)) (s:θ) (a:St) (H:Hp) (x y:V) (v u:ζ) (Q:VK),aq X p a H s->aB x v->aB y u->t x y H Q->
  !X (inplaceOp o v u) (EP X p a Q) X.xe s
section
variable {X:Cx}{pos:Pos}
def bo(i:Nat):TG:=λv a H Q=>Q (a.set i$ δ v) H
def jr{i:Nat}{x:ρ}(a:X.N.Nodup)(b:X.N[i]?=δ x)(c:wZ X.env.scope x)(d:autoParam (X.fn x=μ∨X.env.scope.names.lookup x=δ .local) Wx._auto_1):PG X (.Name x pos) (bo i):=by intro p s f H v u Q I r h;rwa[wpAny_assign_Name$ zM I a b c r (λS e=>#[_,H,e,h]) d]
def FW(i:Nat)(a:X.N.Nodup)(b:↥(X.N[i]?=δ x))(c:wZ X.env.scope x:=by rwa[Θ Z])(d:autoParam (X.fn x=μ∨X.env.scope.names.lookup x=δ .local) Wx._auto_1):PG X (.Name x p) (bo i):=jr a b c d
def x6:Cj:=λv a H Q=>v=[]/\Q a H
inductive dR(t:TG)(u:Cj)(a:FA V)(b:St)(H:Hp)(Q:St->Hp->Prop):Prop
 |mk(v r:_)(_:a=v::r)(_:t v b H λσ' H'=>u r σ' H' Q)
def kj:Lq X [] x6:=by intro p s a H v u Q I r h;let(e,h):=h;subst e;cases r;rwa[assignInOrder_nil #[a,H,I,h]]
def jC(b:PG X e t)(c:Lq X E u)
  (d:↥((assignEach (e::E) X.env).map (·.2)=assign e X.env::(assignEach E X.env).map (·.2))):Lq X (e::E) (dR t u):=by
 intro p s f H V U Q I r h;let(v,k,g,h):=h;subst g;cases r with
 |cons r R=>rw[d];erw[assignInOrder_cons$ aS (b p s f H _ _ _ I r h) λ_ S z=>?_];let(a,i,j,q):=z;rwa[c p S a i _ _ Q j R q]
inductive vo(K:γ)(n:Nat)(t:Cj)(v:V)(c:St)(H:Hp)(Q:St->Hp->Prop):Prop
 |mk(a b:_)(_:v= .ref a)(_:aC K H a b)(_:ο b=n)(_:t b c H Q)
def zz{n:Nat}(g:X.calm=μ)(h:Lq X E t)
  (i:↥((assignEach E X.env).length=n)) (c:↥((assignEach E X.env).findIdx? (·.1)=ι)):PG X (.Tuple E k pos) (vo X.K n t):=by
 intro p s f H v u Q I r d;let(a,x,j,l,m,d):=d;subst j;cases r;let(q,R,w,B):=I.tuple l;erw[assign_Tuple_tuple (I.ok.hd g) w (by simp [i,<- m,R.length]) c λy z=>?_];let A:aq X p f H (s<|y):=I.kept (t':=s.toks) λb o e=>z b o (R6$ RT e) e;rwa[h p _ f H x _ Q A (R:) d]
def Gu(T b:TE)(t:FM):TG:=λv a H Q=>T a H λo h=>b a h λi c=>t o i v c λd=>Q a d
def Jm{o i:dr}{T c:TE}{t:FM}(d:PE X o T)(e:PE X i c)(f:LM X t)
  (g:autoParam (∀v,assign (.Subscript o i pos) X.env v=(do
   let O <- kw [v] (eval o X.env)
   let a <- kw [v,O] (eval i X.env)
   standAt pos
   kw [v,O,a] (setItem O a v)
   release [v,O,a] [])) FO._auto_1):PG X (.Subscript o i pos) (Gu T c t):=by
 intro p s b H v u Q I r h;rw[g];apply Sj$ aS (d p s b H _ I h) λO S z=>?_;let(x,j,k,R,q):=z;apply Sj$ aS (e p S b j _ k q) λa l z=>?_;let(y,m,n,w,A):=z;apply UF$ RG$ Sj$ aS (f p l b m x y v O a u _ n R w r A) λ_ E z=>?_;let(B,C,D):=z;rwa[wpAny_release #[b,B,C,D]]
def dP(t:TE)(g:TG):TS:=λD a H=>t a H λx h=>g x a h D.nx
def zA{t e:dr}{T:TE}{g:TG}(b:PE X e T)(c:PG X t g)(d:↥(swapsWithSole [t] e pos.line X.env=pure ξ))(f:↥(swappedStores [t] e X.env=pure ι))
  (i:↥((assignEach [t] X.env).map (·.2)=[assign t X.env])):PS X (.Assign [t] e pos) (dP T g):=by
 intro p s a H D I h;erw[wpAny_Assign_stores (aS (b p s a H _ I h) λv S z=>?_) d f];let(x,j,k,r,Q):=z;rw[i];rwa[aS (c p S a j x v _ k r Q) λ_ l q=>q]
def zf{i:Nat}{x:ρ}{e:dr}{t:TE}{p:Pos}(a:X.N.Nodup)(b:X.N[i]?=δ x)(c:wZ X.env.scope x)(d:PE X e t)(f:↥(swapsWith e (δ$ .Name x p) pos.line X.env=pure ξ))(g:autoParam (X.fn x=μ∨X.env.scope.names.lookup x=δ .local) Wx._auto_1):
  PS X (.Assign [.Name x p] e pos) (dP t$ bo i):=by
 intro P s j H D I h;erw[wpAny_Assign_Name (aS (d P s j H _ I h) λv S z=>?_) f];let(y,k,l,r,q):=z;rwa[zM l a b c r (λn m=>#[_,k,m,q]) g]
inductive No(i:Nat)(a:TE)(b:N7)(D:a8)(c:St)(H:Hp):Prop
 |mk(x:_)(_:c[i]?=δ (δ x))(_:a c H λy H1=>b x y H1 λz H2=>D.nx (c.set i (δ z)) H2)
def Iv{i:Nat}(q:X.N.Nodup)(g:X.N[i]?=δ x)(f:wZ X.env.scope x)(t:PE X e T)(B:O8 X o C)(E:autoParam (X.fn x=μ∨X.env.scope.names.lookup x=δ .local) Wx._auto_1):
  PS X (.AugAssign (.Name x j) o e pos) (No i T C):=by
 intro p s n H D I h;let(v,F,h):=h;let(m,J,K):=I.loc;let V:NK X.env.scope x:=by rcases f with k |k;rwa[.inl k];rwa[.inr$ .inl k]
 let(u,r,l):=K i x v g F V;erw[wpAny_AugAssign_Name ?_];let G:!X (eval e X.env) (λw S=>!X (inplaceOp o u w) (λr d=>!X (storeName X.env x r) (λ_=>SP X p D .next) X.xe d) X.xe S) X.xe s:=by erw[aS (t p s n H _ I h) λw L a=>?_];let(y,M,O,R,Q):=a;erw[aS (B p L n M v y u w _ O r R Q) λz s2 a=>?_];let(zv,P,U,W,Y):=a;rwa[zM U q g f W (λs3 I3=>#[_,P,I3,Y]) E]
 rcases l with ⟨hk,hm⟩ | ⟨hk,c,hc,b⟩
 .rwa[wpAny_loadName_local I.ok.kind hk J hm G]
 .rcases hk with hk |hk
  .rwa[wpAny_loadName_cell I.ok.kind hk hc b G]
  .rcases f with k |k
   .let:X.env.scope.names.lookup x=δ .free:=hk;rw[k]at this;cases this
   .let:X.env.scope.names.lookup x=δ .free:=hk;rw[k]at this;cases this
inductive Pg(f:Int->Int->Int)(x y:V)(H:Hp)(Q:VK):Prop
 |mk(i j:_)(_:x= .int i)(_:y= .int j)(_:Q (.int (f i j)) H)
def GG:O8 X .Add (Pg λi j=>i+j):=by intro p s a H x y v u Q I r R h;let(i,j,e,E,q):=h;subst e;subst E;let(t,rfl):=r;let(T,rfl):=R;rwa[iadd_int #[.int _,H,I.tok _,#[12],q]]
end
section
variable {X:Cx}{pos:Pos}
def Bw(c:TT)(t:TS):TS:=λD a H=>∃W:Nat->St->Hp->Prop,(∃m,W m a H)/\∀m a H,W m a H->
 c a H λb h=>if b=μ then ∃N:St->Hp->Prop,(∀d e,N d e->∃M,M < m/\W M d e)/\t { D with nx:=N,ct:=N,bk:=D.nx } a h else D.nx a h
def YA(o:PassesOwn (χ X.prog X.w) X.A X.env X.xe)(E:PT X c T)(F:nZ X B G):PS X (.While c B [] pos) (Bw T G):=by
 intro p s J H D I h;obtain⟨W,⟨M,K⟩,t⟩:=h;erw[wpAny_While$ codeAny_whileLoop (λn S=>∃e r,aq X p e r S/\W n e r) ?_ M #[J,H,I,K]];rintro n L ⟨d,u,O,P⟩;erw[UE o$ aS (E p L d u _ O$ t n d u P) λb R z=>?_];let(x,y,q):=z;cases b with
 |true=>
  let(N,C,q):=q;rw[RV Z];erw[UE o$ aS (F p R d x _ y q) λf U Q=>?_];cases f with
  |next |cont=>let(a,g,i,j):=Q;let(m,k,l):=C a g j;rwa[m,k,a,g,i,l]
  |brk |ret v=>rwa[Q]
 |false=>rw[RU RZ];rwa[U6 #[d,x,y,q]]
end
structure It where
 go:Nat->Hp->Prop
 yld:Nat->Hp->V->Hp->Prop
 stop:Nat->Hp->Prop
def gw(X:Cx)(P:FA (η×gb))(H:Hp)(b:η):Prop:=
 H b=ι/\b≠X.env.locals/\b∉X.fs/\(b∈X.ex∨X.s₀.heap.objs.size<=b)/\(∀x c,X.env.cells.lookup x=δ c->c≠b)/\∀p∈X.pn++P,p.1≠b
def aq.fpOk{X:Cx}{d:Hp}(I:aq X a i H s)(h:-s<=b)(f:d b=ι):gw X a d b:=by
 erw[f,Tc$ Si I.lt h,I.nofs h,.inr$ Sf I.sz h,λx c e z=>?_,λp g z=>?_]
 .let(v,q):=I.cell x c e;rwa[absurd (Si q.lt (by rw[z];rwa[h]))$ Tf _]
 .rwa[absurd (Si (RT (I.pin p g).1) (by rw[z];rwa[h]))$ Tf _]
structure oh(P:Δ)(w:cv)(K:γ)(tg:dr)(J:It)(fp:FA η)(it:η)(tn:Nat->df->Prop):Prop where
 mem:it∈fp
 obj:∀i h,tn i h->∀b∈fp,∃o,h.get? b=δ o/\∀v,o.data≠ .cell v
 keep:∀i h h',tn i h->(∀b∈fp,∀o,h.get? b=δ o->h'.get? b=δ o)->tn i h'
 item:∀(X:Cx),X.prog=P->X.w=w->X.K=K->X.calm=μ->∀(i:Nat) (pins:FA (η×gb)) (s:θ) (σ:St) (H:Hp) (E:ζ->θ->Prop),aq X pins σ H s->(∀b∈fp,gw X pins H b)->tn i s.heap->J.go i H->
  π (χ P w) X.A (pyNext$ .ref it) (λr s1=>∃u,r=δ u/\
   π (χ P w) X.A (letOwnedTupleGo tg (.ref it) u) (λ_ s2=>∃x H',aq X pins σ H' s2/\aB x u/\J.yld i H x H'/\tn (i+1) s2.heap/\∀b∈fp,H' b=ι) E s1) E s
 done:∀(X:Cx),X.prog=P->X.w=w->X.K=K->X.calm=μ->∀(i:Nat) (pins:FA (η×gb)) (s:θ) (σ:St) (H:Hp) (E:ζ->θ->Prop),aq X pins σ H s->(∀b∈fp,gw X pins H b)->tn i s.heap->J.stop i H->
  π (χ P w) X.A (pyNext$ .ref it) (λr s1=>r=ι/\aq X pins σ H s1) E s
 self:∀(A:bU) (i:Nat) (s:θ) (Q:ζ->θ->Prop) (E:ζ->θ->Prop),tn i s.heap->Q (.ref it) s->π (χ P w) A (pyIter$ .ref it) Q E s
abbrev TI:=St->Hp->(It->Hp->Prop)->Prop
def O7(X:Cx)(p:FA (η×gb))(a:St)(T:dr)(R:It->Hp->Prop)(i:ζ)(s:θ):Prop:=
 ∃(I:η) (f:FA η) (t:Nat->df->Prop) (J:It) (H:Hp),i= .ref I/\aq X p a H s/\oh X.prog X.w X.K T J f I t/\t 0 s.heap/\(∀b∈f,gw X p H b)/\R J H
def PI(X:Cx)(t iter:dr)(W:TI):Prop:=
 ∀(p:FA (η×gb)) (s:θ) (a:St) (H:Hp) (R:It->Hp->Prop),aq X p a H s->W a H R->
  !X (eval iter X.env) (λv S=>!X (pyIter v) (O7 X p a t R) X.xe S) X.xe s
def Yr{s : θ}{n : String}{Q : Unit -> θ -> Prop}(a : s.heap.get? i = δ o)(b : o.cls = .type n)(c : o.data = .fields v)
    (d : ["enumerate", "zip", "dict_itemiterator", "dict_reverseitemiterator", "odict_iterator", "itertools.zip_longest", "itertools.pairwise"].contains n = ξ) (H : Q () s) : π M A (letOwnedTupleGo t (.ref i) u) Q E s := by
  unfold letOwnedTupleGo;cases t <;> first
    | rwa[RM H]
    | (cases u <;> first
        | rwa[RM H]
        | (refine RG (wpAny_load a ?_)
           rw [b, c];show π M A (if (["enumerate", "zip", "dict_itemiterator", "dict_reverseitemiterator", "odict_iterator", "itertools.zip_longest", "itertools.pairwise"].contains n && v[0]? == δ (rawInt _)) = μ then _ else _) Q E s;rw [RU (by intro h; rw [d, Bool.false_and] at h; cases h)];rwa[RM H]))
noncomputable def BR(K:γ)(a:η):It:=
 #[λi H=>∃X x,aE K H a X/\X[i]?=δ x,λi H x h=>h=H/\∀X,aE K H a X->X[i]?=δ x,λi H=>∃X,aE K H a X/\ο X<=i]
noncomputable def Cb(K:γ)(a:η):It:=
 #[λi H=>∃X x,aC K H a X/\X[i]?=δ x,λi H x h=>h=H/\∀X,aC K H a X->X[i]?=δ x,λi H=>∃X,aC K H a X/\ο X<=i]
noncomputable def BS(lo:Int)(n:Nat):It:=#[λi _=>i < n,λi H x h=>h=H/\x= .int (lo+i),λi _=>n<=i]
def wN{P:Δ}{K:γ}(a g:η):oh P w K tg (BR K a) [g] g (λi h=>h.IsListIter g a i) where
 mem:=by simp
 obj:=λi h st b j=>by
  let e:b=g:=by simpa using j
  subst e;let(o,e,c,d):=st;rwa[o,e,λv z=>by rw[d]at z;cases z]
 keep:=λi h l st k=>st.at λo e=>k g P9 o e
 item:=by intro X q r t L i f s M H E I m st y;subst q r t;let(N,x,n,A):=y;let(B,R,p,O):=I.list n;let(u,Q,T):=R.get A;let(F,C,U,D,G,J):=m g P9;erw[wpAny_pyNext_list_item st p.isList (x:=u) (Q:) λl S V=>?_];let W:aq X f M H (s<|l):=I.turned (t':=s.toks) (λb o j e=>(V.2 b j).trans e) F C D G J;let(o,e,c,d):=id S;rwa[u,Z,Yr (s:=(s<|l)) e c d Ra #[x,H,W,T,#[Z,λys Y=>by rw[I.list_inj Y n];rwa[A]],S,λb j=>(m b j).1]]
 done:=by intro X q r t L i f s M H E I m st y;subst q r t;let(N,n,A):=y;let(B,R,p,O):=I.list n;let(F,C,U,D,G,J):=m g P9;let hl:=R.length;rwa[wpAny_pyNext_list_end (I.ok.hd L) st p.isList (by simp;omega) λl eb=>#[Z,I.turned (t':=s.toks) (λb o j e=>eb b o j e) F C D G J]]
 self:=λ_ _ _ _ _ st h=>wpAny_pyIter_listiter st h
def ZM{P:Δ}{K:γ}(a g:η):oh P w K tg (Cb K a) [g] g (λi h=>h.IsTupleIter g a i) where
 mem:=by simp
 obj:=λi h st b j=>by
  let e:b=g:=by simpa using j
  subst e;let(o,e,c,d):=st;rwa[o,e,λv z=>by rw[d]at z;cases z]
 keep:=λi h m st k=>st.at λo e=>k g P9 o e
 item:=by intro X r t y L i f s M H E I n st A;subst r t y;let(N,x,q,B):=A;let(l,R,p,O):=I.tuple q;let(u,Q,T):=R.get B;let(F,C,U,D,G,J):=n g P9;erw[wpAny_pyNext_tuple_item st (show s.heap.IsTuple a l.toArray from p) (x:=u) (Q:) λm S V=>?_];let W:aq X f M H (s<|m):=I.turned (t':=s.toks) (λb o j e=>(V.2 b j).trans e) F C D G J;let(o,e,c,d):=id S;rwa[u,Z,Yr (s:=(s<|m)) e c d Ra #[x,H,W,T,#[Z,λys Y=>by rw[I.tuple_inj Y q];rwa[B]],S,λb j=>(n b j).1]]
 done:=by intro X r t y L i f s M H E I n st A;subst r t y;let(N,q,B):=A;let(l,R,p,O):=I.tuple q;let(F,C,U,D,G,J):=n g P9;let hl:=R.length;rwa[wpAny_pyNext_tuple_end (I.ok.hd L) st (show s.heap.IsTuple a l.toArray from p) (by simp;omega) λm eb=>#[Z,I.turned (t':=s.toks) (λb o j e=>eb b o j e) F C D G J]]
 self:=λ_ _ _ _ _ st h=>wpAny_pyIter_tupleiter st h
def ZN{P:Δ}{K:γ}(a:η)(lo:Int)(n:Nat):oh P w K M (BS lo n) [a] a (λi h=>IsRangeIter h a (lo+(i:Nat)*1) ((n:Int) - (i:Nat)) 1) where
 mem:=by simp
 obj:=λi h st b c=>by
  let e:b=a:=by simpa using c
  subst e;exact#[_,st,λv z=>by
   let B:Data.fields _=Data.cell v:=z;cases B]
 keep:=λi h d st k=>k a P9 _ st
 item:=by intro X g j l m i p s A H E I f st q;subst g j l;let(F,r,C,u,x,y):=f a P9;let W:=Walks.range (prog:=X.prog) (w:=X.w) (I.ok.hd m) a lo 1 n;erw[W.item i s _ _ q st λv d T D S G=>?_];let(t,rfl):=D;let J:aq X p A H { s with heap:=d,toks:=T }:=I.turned (λb o c e=>G b o (c:) e) F r u x y;erw[12,Yr (s:={ s with heap:=d,toks:=T }) (n:="range_iterator") S Z Z Ra #[.int$ lo+i,H,J,#[t,?_],#[22],S,λb c=>(f b c).1]];rw[Int.mul_one]
 done:=by intro X g j l m i p s A H E I f st q;subst g j l;let(F,r,C,u,x,y):=f a P9;rwa[wpAny_pyNext_range_end (I.ok.hd m) st (by let:n<=i:=q;omega) λd L=>#[Z,I.turned (t':=s.toks) (λb o c e=>L b o c e) F r u x y]]
 self:=λ_ _ _ _ _ st h=>wpAny_pyIter_rangeiter st h
section
variable {X:Cx}{tg:dr}
inductive yd(K:γ)(R:It->Hp->Prop)(x:V)(b:Hp):Prop
 |mk(a:_)(_:x= .ref a)(_:∃xs,aE K b a xs)(_:R (BR K a) b)
def ES(K:γ)(t:TE):TI:=λa H R=>t a H (yd K R)
inductive EU(K:γ)(R:It->Hp->Prop)(x:V)(b:Hp):Prop
 |mk(a:_)(_:x= .ref a)(_:∃xs,aC K b a xs)(_:R (Cb K a) b)
def Ot(K:γ)(t:TE):TI:=λa H R=>t a H (EU K R)
def jZ(c:PE X l t):PI X tg l (ES X.K t):=by
 intro P s d H R I h;erw[aS (c P s d H _ I h) λv S z=>?_];let(x,f,i,r,Q):=z;obtain⟨a,e,⟨m,g⟩,q⟩:=Q;subst e;cases r;let(j,n,p,u):=i.list g;erw[Ve p.isList ?_];erw[-S,[-S],11,f,Z,i.kept (t':=S.toks) λb o e=>RL _ e,wN a _,#[_,RQ _ Z,22],λb k=>?_,q];let e:b=-S:=by simpa using k
 subst e;rwa[i.fpOk (RO _)$ i.hok.fresh$ RO _]
def qe(d:PE X l t):PI X tg l (Ot X.K t):=by
 intro P s f H R I h;erw[aS (d P s f H _ I h) λv S z=>?_];let(x,g,i,r,Q):=z;obtain⟨a,e,⟨m,j⟩,q⟩:=Q;subst e;cases r;let(c,n,p,u):=i.tuple j;erw[U8 (show S.heap.IsTuple a c.toArray from p) ?_];erw[-S,[-S],11,g,Z,i.kept (t':=S.toks) λb o e=>RL _ e,ZM a _,#[_,RQ _ Z,22],λb k=>?_,q];let e:b=-S:=by simpa using k
 subst e;rwa[i.fpOk (RO _)$ i.hok.fresh$ RO _]
def YB{R:It->Hp->Prop}{lo:Int}(I:aq X p a H s)(c: -(2 ^ 62)<=lo)(d:lo < 2 ^ 62)(f: -(2 ^ 62)<=h)(g:h < 2 ^ 62)
  (q:R (BS lo (h - lo).toNat) H):!X (pyIter$ .ref (-s)) (O7 X p a tg R) E { s with heap:=s.heap.push ("range"<|.fields (ε [.int lo t,.int h u,.int 1 v])),toks:=T }:=by
 erw[wpAny_pyIter_range (IsRange.new ..) (small_one c d f g) ?_];let i:aq X p a H { s with heap:=s.heap.push ("range"<|.fields (ε [.int lo t,.int h u,.int 1 v])),toks:=T }:=I.kept λb o e=>RL _ e;refine#[(s.heap.push ("range"<|.fields (ε [.int lo t,.int h u,.int 1 v]))).objs.size,[(s.heap.push ("range"<|.fields (ε [.int lo t,.int h u,.int 1 v]))).objs.size],11,H,Z,
  i.kept (t':=T) λb o e=>RL _ e,ZN _ lo (h - lo).toNat,?_,λb j=>?_,q]
 .let k:lo+((0:Nat):Int)*1=lo:=by simp
  let l:(((h - lo).toNat:Nat):Int) - ((0:Nat):Int)=Builtin.Range.rangeSize lo h 1:=by rw[rangeSize_one];split<;>omega
  show IsRangeIter _ _ (lo+((0:Nat):Int)*1) ((((h - lo).toNat:Nat):Int) - ((0:Nat):Int)) 1;rw[k,l];rwa[RQ _ Z]
 .let e:b=(s.heap.push ("range"<|.fields (ε [.int lo t,.int h u,.int 1 v]))).objs.size:=by simpa using j
  subst e;rwa[i.fpOk (RO _)$ i.hok.fresh$ RO _]
inductive ye(R:It->Hp->Prop)(b:FA V)(a:Hp):Prop
 |mk(j:Int)(_:b=[.int j])(_:-(2 ^ 62)<=j)(_:j < 2 ^ 62)(_:R (BS 0 j.toNat) a)
def Mr(t:TA):TI:=λa H R=>t a H (ye R)
inductive yf(R:It->Hp->Prop)(b:FA V)(a:Hp):Prop
 |mk(i j:Int)(_:b=[.int i,.int j])(_:-(2 ^ 62)<=i/\i < 2 ^ 62/\ -(2 ^ 62)<=j/\j < 2 ^ 62)(_:R (BS i (j - i).toNat) a)
def Ms(t:TA):TI:=λa H R=>t a H (yf R)
def kP{a:dr}{T:TA}{p P:Pos}(c:Gl X "range")(d:X.mg "range"=ι)(f:PA X [a] T)(g:↥(Ψ [a] X.env=[(ξ,eval a X.env)])):PI X tg (.Call (.Name "range" p) [a] [] P) (Mr T):=by
 intro b s i H R I h;erw[Call_$ zH I c d boot_range$ SO (aS (f P b s i H _ I h) λu S z=>?_) g Z];let(v,o,k,l,Q):=z;let(j,e,Q,m,q):=Q;subst e;cases l with
 |cons r n=>cases n;let(t,rfl):=r;rwa[call_range_1$ YB k P' P' Q m (q:)]
def J9(g:Gl X "range")(k:X.mg "range"=ι)(l:PA X [a,b] T)(m:↥(Ψ [a,b] X.env=[(ξ,eval a X.env),(ξ,eval b X.env)]))(c:↥(Ψ [b] X.env=[(ξ,eval b X.env)])):
  PI X tg (.Call (.Name "range" p) [a,b] [] d) (Ms T):=by
 intro P s n H R I h;erw[Call_$ zH I g k boot_range$ SO (aS (l d P s n H _ I h) λU S #[V,z,o,u,Q]=>?_) (by rw[m,c]) (by rw[c];rfl)];obtain⟨i,j,e,⟨Q,v,w,x⟩,q⟩:=Q;subst e;cases u with
 |cons r f=>
  cases f with
  |cons y f=>cases f;let(t,rfl):=r;let(A,rfl):=y;rwa[call_range_2$ YB o Q v w x q]
def Ej(w:TI)(g:TG)(t:TS):TS:=λD a H=>w a H λJ d=>∃W:Nat->Nat->St->Hp->Prop,(∃m,W 0 m a d)/\∀i m a H,W i m a H->
 (J.stop i H/\D.nx a H)∨(J.go i H/\∃N:St->Hp->Prop,(∀b h,N b h->∃M,M < m/\W (i+1) M b h)/\∀x h,J.yld i H x h->g x a h λc e=>t { D with nx:=N,ct:=N,bk:=D.nx } c e)
noncomputable def mK(f:FA η)(h:df):FA (η×gb):=f.filterMap λb=>(h.get? b).map λo=>(b,o)
def zr{h:df}(H:b∈f)(e:h.get? b=δ o):(b,o)∈mK f h:=List.mem_filterMap.mpr #[b,H,by rw[e];rfl]
def vQ(H:p∈mK f h):p.1∈f/\h.get? p.1=δ p.2:=by
 let(b,a,e):=List.mem_filterMap.mp H;cases q:h.get? b with
 |none=>rw[q]at e;cases e
 |some o=>rw[q]at e;let E:(b,o)=p:=SK e;subst E;rwa[a,q]
def aq.pinned(I:aq X a c H s)(g:∀b∈f,gw X a H b)(i:∀b∈f,∃o,s.heap.get? b=δ o/\∀v,o.data≠ .cell v):aq X (a++mK f s.heap) c H s:=
 I.pins_of λp j=>(ψ.mp j).elim (λz=>I.pin p (R3 _ z)) λz=>by let(h,e):=vQ z;let(F,k,l,_):=g p.1 h;let(o,E,d):=i p.1 h;rw[e]at E;cases E;rwa[e,F,k,l,d]
def aq.unpinned(I:aq X (a++c) b H s):aq X a b H s:=I.pins_of λp h=>I.pin p (R3 _$ Sr _ h)
def jU{iter:dr}{B:FA de}{wi:TI}{g:TG}{tb:TS}{P:Pos}(C:PassesOwn (χ X.prog X.w) X.A X.env X.xe)(hc:X.calm=μ)(hi:PI X tg iter wi)(hg:PG X tg g)(c:nZ X B tb)
  (hs:autoParam (∀x,foldedSetIterable iter X.env x=pure x) FO._auto_1):PS X (.For tg iter B [] P) (Ej wi g tb):=by
 intro p s σ H D I h;erw[wpAny_For (aS (hi p s σ H _ I h) λv s1 h1=>aS h1 λi0 s2 h2=>?_) hs];obtain⟨it,F,tn,J,H2,e,I2,T,O,f2,W,⟨m0,w0⟩,E⟩:=h2;subst e;let S:∀{t:Hp},(∀b∈F,t b=ι)->∀b∈F,gw X p t b:=λhn b c=>#[hn b c,(f2 b c).2];erw[codeAny_forLoop_any (λn s'=>∃i j t,aq X p j t s'/\tn i s'.heap/\(∀b∈F,t b=ι)/\W i n j t) ?_ m0 #[0,σ,H2,I2,O,λb c=>(f2 b c).1,w0]];rintro n s3 ⟨i,k,M,I3,G,K,w3⟩;rcases E i n k M w3 with ⟨stop,qn⟩ | ⟨go,N,hN,step⟩
 .erw[UE C$ aS (T.done X Z Z Z hc i p s3 k M X.xe I3 (S K) G stop) λr s4 z=>?_];let(R,I4):=z;subst R;rwa[U6 #[k,M,I4,qn]]
 .erw[UE C$ aS (T.item X Z Z Z hc i p s3 k M X.xe I3 (S K) G go) λr s4 z=>?_];let(u,R,h4):=z;subst R;erw[UE C$ aS h4 λ_ s5 z=>?_];let(x,H5,I5,r5,y5,y,U):=z;let V:=I5.pinned (S U) (T.obj _ _ y);erw[UE C$ aS (hg _ s5 k H5 x u _ V r5$ step x H5 y5) λ_ s6 z=>?_];let(Y,H6,I6,q6):=z;erw[UE C$ aS (c _ s6 Y H6 _ I6 q6) λf s7 Q=>?_];let again:∀{a:St} {l:Hp},aq X (p++mK F s5.heap) a l s7->N a l->∃m,m < n/\∃i j t,aq X p j t s7/\tn i s7.heap/\(∀b∈F,t b=ι)/\W i m j t:=λ{a l} q L=>by let(m',hm,w7):=hN a l L;erw[m',hm,i+1,a,l,q.unpinned,T.keep _ _ _ y λb c o e=>(q.pin (b,o)$ R3 _$ R3 _$ zr c e).1,λb c=>?_,w7];let(o,e,d):=T.obj _ _ y b c;exact(q.pin (b,o)$ R3 _$ R3 _$ zr c e).2.1
  cases f with
  |next |cont=>let(a,l,q,L):=Q;rwa[again q L]
  |brk=>let(a,l,q,Q):=Q;rwa[a,l,q.unpinned,Q]
  |ret v=>let(x7,a,l,q,r7,Q):=Q;rwa[x7,a,l,q.unpinned,r7,Q]
end
def xX{K:γ}{a:η}{X:FA V}{g:TG}{t:TS}{D:a8}{b:St}{H:Hp}(Pv:Nat->St->Hp->Prop)(k:Pv 0 b H)(l:∀i b H,i<=ο X->Pv i b H->aE K H a X)
  (n:∀i x b H,X[i]?=δ x->Pv i b H->g x b H λc j=>t { D with nx:=Pv (i+1),ct:=Pv (i+1),bk:=D.nx } c j) (o:∀b H,Pv X.length b H->D.nx b H):
  ∃W:Nat->Nat->St->Hp->Prop,(∃m,W 0 m b H)/\∀i m b H,W i m b H->
   ((BR K a).stop i H/\D.nx b H)∨((BR K a).go i H/\∃N:St->Hp->Prop,(∀d h,N d h->∃M,M < m/\W (i+1) M d h)/\∀x h,(BR K a).yld i H x h->g x b h λc j=>t { D with nx:=N,ct:=N,bk:=D.nx } c j):=by
 erw[λi m b H=>m=ο X - i/\i<=ο X/\Pv i b H,#[X.length,P9,R4 _,k],?_];rintro i m b H ⟨rfl,r,p⟩;let q:=l i b H r p;by_cases f:i < ο X
 .erw[.inr #[#[X,X[i],q,by simp [f]],Pv$ i+1,λd h P=>#[ο X - (i+1),N09,Z,f,P],λx h y=>?_]];let(e,y):=y;subst e;rwa[n i x b _ (y X q) p]
 .let e:i=ο X:=by omega
  subst e;rwa[.inl #[#[X,q,RO _],o b H p]]
def CH{K:γ}{a:η}{X:FA V}{g:TG}{t:TS}{D:a8}{b:St}{H:Hp}(Pv:Nat->St->Hp->Prop)(k:Pv 0 b H)(l:∀i b H,i<=ο X->Pv i b H->aC K H a X)
  (n:∀i x b H,X[i]?=δ x->Pv i b H->g x b H λc j=>t { D with nx:=Pv (i+1),ct:=Pv (i+1),bk:=D.nx } c j) (o:∀b H,Pv X.length b H->D.nx b H):
  ∃W:Nat->Nat->St->Hp->Prop,(∃m,W 0 m b H)/\∀i m b H,W i m b H->
   ((Cb K a).stop i H/\D.nx b H)∨((Cb K a).go i H/\∃N:St->Hp->Prop,(∀d h,N d h->∃M,M < m/\W (i+1) M d h)/\∀x h,(Cb K a).yld i H x h->g x b h λc j=>t { D with nx:=N,ct:=N,bk:=D.nx } c j):=by
 erw[λi m b H=>m=ο X - i/\i<=ο X/\Pv i b H,#[X.length,P9,R4 _,k],?_];rintro i m b H ⟨rfl,r,p⟩;let q:=l i b H r p;by_cases f:i < ο X
 .erw[.inr #[#[X,X[i],q,by simp [f]],Pv$ i+1,λd h P=>#[ο X - (i+1),P',Z,f,P],λx h y=>?_]];let(e,y):=y;subst e;rwa[n i x b _ (y X q) p]
 .let e:i=ο X:=by omega
  subst e;rwa[.inl #[#[X,q,RO _],o b H p]]
def Xi{lo:Int}{n:Nat}{g:TG}{t:TS}{D:a8}{a:St}{H:Hp}(Pv:Nat->St->Hp->Prop)(j:Pv 0 a H)
  (k:∀i a H,i < n->Pv i a H->g (.int$ lo+i) a H λb f=>t { D with nx:=Pv (i+1),ct:=Pv (i+1),bk:=D.nx } b f) (l:∀a H,Pv n a H->D.nx a H):
  ∃W:Nat->Nat->St->Hp->Prop,(∃m,W 0 m a H)/\∀i m a H,W i m a H->
   ((BS lo n).stop i H/\D.nx a H)∨((BS lo n).go i H/\∃N:St->Hp->Prop,(∀c h,N c h->∃M,M < m/\W (i+1) M c h)/\∀x h,(BS lo n).yld i H x h->g x a h λb f=>t { D with nx:=N,ct:=N,bk:=D.nx } b f):=by
 erw[λi m a H=>m=n - i/\i<=n/\Pv i a H,#[n,P9,R4 _,j],?_];rintro i m a H ⟨rfl,o,p⟩;by_cases d:i < n
 .erw[.inr #[d,Pv$ i+1,λc h P=>#[n - (i+1),N09,Z,d,P],λx h y=>?_]];let(e,y):=y;subst e y;rwa[k i a _ d p]
 .let e:i=n:=by omega
  subst e;rwa[.inl #[RO _,l a H p]]
abbrev R2:=V->V->Hp->VK->Prop
def gu(X:Cx)(f:ζ->ζ->Sem ζ)(r:R2):Prop:=
 ∀(p:FA (η×gb)) (s:θ) (a:St) (H:Hp) (x y:V) (v u:ζ) (Q:VK),aq X p a H s->aB x v->aB y u->r x y H Q->
  !X (f v u) (EP X p a Q) X.xe s
def Oa(X:Cx)(f:ζ->Sem ζ)(r:V->Hp->VK->Prop):Prop:=
 ∀(p:FA (η×gb)) (s:θ) (a:St) (H:Hp) (x:V) (v:ζ) (Q:VK),aq X p a H s->aB x v->r x H Q->
  !X (f v) (EP X p a Q) X.xe s
def dy(X:Cx)(f:ζ)(r:FA V->Hp->VK->Prop):Prop:=
 ∀(p:FA (η×gb)) (s:θ) (a:St) (H:Hp) (x:FA V) (u:FA ζ) (Q:VK),aq X p a H s->aw x u->r x H Q->
  !X (call f u) (EP X p a Q) X.xe s
def N9(X:Cx)(r:V->Hp->(Bool->Hp->Prop)->Prop):Prop:=
 ∀(p:FA (η×gb)) (s:θ) (a:St) (H:Hp) (x:V) (v:ζ) (Q:Bool->Hp->Prop),aq X p a H s->aB x v->r x H Q->
  !X (truthy v) (TP X p a Q) X.xe s
def eW(r:R2)(t T:TE):TE:=λa H Q=>t a H λx h=>T a h λy b=>r x y b Q
def PU(r:V->Hp->VK->Prop)(t:TE):TE:=λa H Q=>t a H λx h=>r x h Q
inductive rI(C:Int->Int->Prop)(g:Int->Int->V)(x y:V)(H:Hp)(Q:VK):Prop
 |mk(i j:_)(_:x= .int i)(_:y= .int j)(_:C i j)(_:Q (g i j) H)
inductive BW(g:Int->Int->V)(x y:V)(H:Hp)(Q:VK):Prop
 |mk(i j:_)(_:x= .int i)(_:y= .int j)(_:Q (g i j) H)
inductive rU(g:Int->V)(x:V)(H:Hp)(Q:VK):Prop
 |mk(i:_)(_:x= .int i)(_:Q (g i) H)
section
variable {X:Cx}{a b c:dr}{ta tb tc:TE}{pos:Pos}
def FV(k:PE X a ta)(l:PE X b tb){R:V->V->Hp->Prop}(I:aq X p e H s)
  (h:ta e H λx j=>tb e j λy d=>R x y d)  {f:ζ->ζ->Sem ζ}
  (m:∀v u i x y d,aq X p e d i->aB x v->aB y u->R x y d->!X (f v u) Q X.xe i):
  !X (eval a X.env) (λv S=>!X (eval b X.env) (λu g=>!X (f v u) Q X.xe g) X.xe S) X.xe s:=by
 erw[aS (k p s e H _ I h) λv n z=>?_];let(x,j,o,r,q):=z;erw[aS (l p n e j _ o q) λu i z=>?_];let(y,d,t,B,C):=z;rwa[m v u i x y d t r B C]
def jx{o:Operator}{r:R2}(d:gu X (binaryOp o) r)(e:PE X a ta)(f:PE X b tb):PE X (.BinOp a o b pos) (eW r ta tb):=by intro p s g H Q I h;rwa[wpAny_BinOp$ FV e f I h λv u S x y i j R k q=>d p S g i x y v u Q j R k q]
def Jt(e:Oa X (unaryOp o) r)(f:PE X a ta):PE X (.UnaryOp o a pos) (PU r ta):=by intro p s d H Q I h;rwa[UnaryOp_$ aS (f p s d H _ I h) λv S #[x,g,i,R,q]=>e p S d g x v Q i R q]
def NN{f:ζ->ζ->Sem ζ}{C:Int->Int->Prop}{g:Int->Int->Int}
  (rule:∀(i j:Int) (t u:Tok) (s:θ) (Q:ζ->θ->Prop) (E:ζ->θ->Prop),C i j->Q (.int (g i j) s.toks) { s with toks:=s.toks+1 }->!X (f (.int i t)$ .int j u) Q E s):
  gu X f (rI C λi j=>.int (g i j)):=by
 intro p s e H x y v u Q I r R h;let(i,j,rfl,rfl,d,q):=h;let(t,rfl):=r;let(T,rfl):=R;rwa[rule i j t T s _ _ d #[.int$ g i j,H,I.tok _,#[12],q]]
def ML{f:ζ->ζ->Sem ζ}{g:Int->Int->Int}
  (rule:∀(i j:Int) (t u:Tok) (s:θ) (Q:ζ->θ->Prop) (E:ζ->θ->Prop),Q (.int (g i j) s.toks) { s with toks:=s.toks+1 }->!X (f (.int i t)$ .int j u) Q E s):
  gu X f (BW λi j=>.int (g i j)):=by
 intro p s d H x y v u Q I r R h;let(i,j,rfl,rfl,q):=h;let(t,rfl):=r;let(T,rfl):=R;rwa[rule i j t T s _ _ #[.int$ g i j,H,I.tok _,#[12],q]]
def Ic{f:ζ->ζ->Sem ζ}{g:Int->Int->Bool}
  (rule:∀(i j:Int) (t u:Tok) (s:θ) (Q:ζ->θ->Prop) (E:ζ->θ->Prop),Q (.bool$ g i j) s->!X (f (.int i t)$ .int j u) Q E s):
  gu X f (BW λi j=>.bl (g i j)):=by
 intro p s d H x y v u Q I r R h;let(i,j,rfl,rfl,q):=h;let(t,rfl):=r;let(T,rfl):=R;rwa[rule i j t T s _ _ #[.bl$ g i j,H,I,Z,q]]
def NT(i j:Int):Prop:=0<=j/\j<=1000000/\i.natAbs < 2 ^ 64
def BY(i j:Int):Prop:=(-(2 ^ 64) < i/\i < 2 ^ 64)∨(-(2 ^ 64) < j/\j < 2 ^ 64)
def BY.ok(h:BY i j):IntMulOk i j:=by
 rcases h with ⟨H,d⟩ | ⟨H,d⟩
 .rwa[.of_left$ intBits_le_64 H d]
 .rwa[.of_right$ intBits_le_64 H d]
def jY:gu X (binaryOp .Add) (BW λi j=>.int (i+j)):=ML λ_ _ _ _ _ _ _ q=>add_int q
def kU:gu X (binaryOp .Sub) (BW λi j=>.int (i - j)):=ML λ_ _ _ _ _ _ _ q=>sub_int q
def zI:gu X (binaryOp .Mult) (rI BY λi j=>.int (i*j)):=NN λ_ _ _ _ _ _ _ h q=>mul_int q h.ok
def zp:gu X (binaryOp .Mod) (rI (λ_ j=>0 < j) λi j=>.int (i % j)):=NN λi j _ _ _ _ _ h q=>by let H:(0:Int) < j:=h;rwa[mod_int' P' (by rw[Int.fmod_eq_emod_of_nonneg i P'];rwa[q])]
def JX:gu X (binaryOp .Pow) (rI NT λi j=>.int (i ^ j.toNat)):=NN λ_ _ _ _ _ _ _ h q=>pow_int_small h.1 h.2.1 h.2.2 q
def PX{f:ζ->Sem ζ}{g:Int->Int}
  (rule:∀(i:Int) (t:Tok) (s:θ) (Q:ζ->θ->Prop) (E:ζ->θ->Prop),Q (.int (g i) s.toks) { s with toks:=s.toks+1 }->!X (f$ .int i t) Q E s):
  Oa X f (rU λi=>.int (g i)):=by
 intro p s d H x v Q I r h;let(i,rfl,q):=h;let(t,rfl):=r;rwa[rule i t s _ _ #[.int$ g i,H,I.tok _,#[12],q]]
def qw:Oa X (unaryOp .USub) (rU λi=>.int (Neg.neg i)):=PX λ_ _ _ _ _ q=>neg_int q
end
noncomputable def Na:V->V->Bool
 | .non,.non=>μ | .non,.int _=>μ | .int _,.non=>μ | .non,.bl _=>μ | .bl _,.non=>μ | .non,.str _=>μ | .str _,.non=>μ
 | .int _,.int _=>μ | .bl _,.bl _=>μ | .str _,.str _=>μ | .byt _,.byt _=>μ
 | .int _,.str _=>μ | .str _,.int _=>μ | .bl _,.str _=>μ | .str _,.bl _=>μ
 |_,_=>ξ
def MU:R2:=λx y H Q=>Na x y=μ/\Q (.bl$ decide$ x=y) H
def PH:R2:=λx y H Q=>Na x y=μ/\Q (.bl (!decide (x=y))) H
def rM:decide (Da i=Da j)=(i==j):=by rw[V3];simp
def xI:decide (V.bl i=V.bl j)=(i==j):=by rw[V3];simp
def rN:decide (Cv i=Cv j)=(i==j):=by rw[V3];simp
def rL:decide (V.byt i=V.byt j)=(i.toList==j.toList):=by rw[V3];cases i;cases j;simp
section
variable {X:Cx}{a b c:dr}{ta tb tc:TE}{pos:Pos}
def jT{Q:VK}(I:aq X p d H s)(q:Q (.bl k) H)(e:k=f):EP X p d Q (.bool f) s:=by subst e;rwa[.bl k,H,I,Z,q]
def Jd:gu X (compareOp .Eq) MU:=by
 intro p s e H x y v u Q I R r h;let(d,q):=h;cases x with
 |non=>
  cases R;cases y with
  |non=>cases r;rwa[PySem.EqNone.eq_none_none (jT I q P9)]
  |bl j=>cases r;rwa[PySem.EqNone.eq_none_bool (jT I q P9)]
  |int j=>let(T,rfl):=r;rwa[PySem.EqNone.eq_none_int (jT I q P9)]
  |str j=>let(T,rfl):=r;rwa[PySem.EqNone.eq_none_str (jT I q P9)]
  |_=>rwa[absurd (show ξ=μ from d) RZ]
 |bl i=>
  cases R;cases y with
  |non=>cases r;rwa[PySem.EqNone.eq_bool_none (jT I q P9)]
  |bl j=>cases r;rwa[eq_bool (jT I q xI)]
  |str j=>let(T,rfl):=r;rwa[PySem.EqMixed.eq_bool_str (jT I q P9)]
  |_=>rwa[absurd (show ξ=μ from d) RZ]
 |int i=>
  let(t,rfl):=R;cases y with
  |non=>cases r;rwa[PySem.EqNone.eq_int_none (jT I q P9)]
  |int j=>let(T,rfl):=r;rwa[eq_int (jT I q rM)]
  |str j=>let(T,rfl):=r;rwa[PySem.EqMixed.eq_int_str (jT I q P9)]
  |_=>rwa[absurd (show ξ=μ from d) RZ]
 |str i=>
  let(t,rfl):=R;cases y with
  |non=>cases r;rwa[PySem.EqNone.eq_str_none (jT I q P9)]
  |bl j=>cases r;rwa[PySem.EqMixed.eq_str_bool (jT I q P9)]
  |int j=>let(T,rfl):=r;rwa[PySem.EqMixed.eq_str_int (jT I q P9)]
  |str j=>let(T,rfl):=r;rwa[eq_str (jT I q rN)]
  |_=>rwa[absurd (show ξ=μ from d) RZ]
 |byt i=>
  let(t,rfl):=R;cases y with
  |byt j=>let(T,rfl):=r;rwa[PySem.W.eq_bytes (jT I q rL)]
  |_=>rwa[absurd (show ξ=μ from d) RZ]
 |_=>cases y<;>rwa[absurd (show ξ=μ from d) RZ]
def Ys:gu X (compareOp .NotEq) PH:=by
 intro p s e H x y v u Q I R r h;let(d,q):=h;cases x with
 |non=>
  cases R;cases y with
  |non=>cases r;rwa[PySem.EqNone.ne_none_none (jT I q P9)]
  |bl j=>cases r;rwa[PySem.EqNone.ne_none_bool (jT I q P9)]
  |int j=>let(T,rfl):=r;rwa[PySem.EqNone.ne_none_int (jT I q P9)]
  |str j=>let(T,rfl):=r;rwa[PySem.EqNone.ne_none_str (jT I q P9)]
  |_=>rwa[absurd (show ξ=μ from d) RZ]
 |bl i=>
  cases R;cases y with
  |non=>cases r;rwa[PySem.EqNone.ne_bool_none (jT I q P9)]
  |bl j=>cases r;rwa[ne_bool (jT I q (SQ not xI))]
  |str j=>let(T,rfl):=r;rwa[PySem.EqMixed.ne_bool_str (jT I q P9)]
  |_=>rwa[absurd (show ξ=μ from d) RZ]
 |int i=>
  let(t,rfl):=R;cases y with
  |non=>cases r;rwa[PySem.EqNone.ne_int_none (jT I q P9)]
  |int j=>let(T,rfl):=r;rwa[ne_int (jT I q (SQ not rM))]
  |str j=>let(T,rfl):=r;rwa[PySem.EqMixed.ne_int_str (jT I q P9)]
  |_=>rwa[absurd (show ξ=μ from d) RZ]
 |str i=>
  let(t,rfl):=R;cases y with
  |non=>cases r;rwa[PySem.EqNone.ne_str_none (jT I q P9)]
  |bl j=>cases r;rwa[PySem.EqMixed.ne_str_bool (jT I q P9)]
  |int j=>let(T,rfl):=r;rwa[PySem.EqMixed.ne_str_int (jT I q P9)]
  |str j=>let(T,rfl):=r;rwa[ne_str (jT I q (SQ not rN))]
  |_=>rwa[absurd (show ξ=μ from d) RZ]
 |byt i=>
  let(t,rfl):=R;cases y with
  |byt j=>let(T,rfl):=r;rwa[PySem.W.ne_bytes (jT I q (SQ not rL))]
  |_=>rwa[absurd (show ξ=μ from d) RZ]
 |_=>cases y<;>rwa[absurd (show ξ=μ from d) RZ]
def Xd:gu X (compareOp .Lt) (BW λi j=>.bl (decide$ i < j)):=Ic λ_ _ _ _ _ _ _ q=>lt_int q
def Kg:gu X (compareOp .Gt) (BW λi j=>.bl (decide$ j < i)):=Ic λ_ _ _ _ _ _ _ q=>gt_int q
def yY:gu X (compareOp .GtE) (BW λi j=>.bl (decide$ j<=i)):=Ic λ_ _ _ _ _ _ _ q=>ge_int q
def aF(b:dr)(h:↥(o≠ .In))(H:↥(o≠ .NotIn)):behindInMarks o b=ξ:=by
 let e:(o==CmpOp.In)=ξ:=by cases o<;>first |rfl |exact absurd Z h
 let E:(o==CmpOp.NotIn)=ξ:=by cases o<;>first |rfl |exact absurd Z H
 cases b<;>first |rfl |(show (_&&((o==CmpOp.In)||(o==CmpOp.NotIn))&&_)=ξ;rw[e,E];simp)
def qZ(d:gu X (compareOp o) r)(e:PE X a ta)(f:PE X b tb)(g:behindInMarks o b=ξ):PE X (.Compare a [o] [b] pos) (eW r ta tb):=by intro p s i H Q I h;rwa[wpAny_Compare1 (FV e f I h λv u S x y j k R l q=>d p S i j x y v u Q k R l q) g]
inductive Bv(Q:Bool->Hp->Prop)(x:V)(a:Hp):Prop
 |mk(k:_)(_:x= .bl k)(_:Q k a)
def mG(t:TE):TT:=λd H Q=>t d H (Bv Q)
def jB{o:CmpOp}{r:R2}(f:gu X (compareOp o) r)(g:PE X a ta)(i:PE X b tb)(j:behindInMarks o b=ξ):PT X (.Compare a [o] [b] pos) (mG$ eW r ta tb):=by
 intro p s d H Q I h;refine wpAny_isTrue_Compare1 (aS (g p s d H _ I h) λv S #[x,l,m,R,q]=>aS (i p S d l _ m q) λu n #[y,t,w,A,B]=>
  aS (f p n d t x y v u _ w R A B) λc G #[z,C,D,E,k,e,F]=>?_) j
 subst e;cases E;rwa[UJ #[C,D,F]]
def LU(K:γ)(x:V)(H:Hp)(k:Bool):Prop:=
 match x with
 | .non=>k=ξ
 | .bl b=>k=b
 | .int i=>k=(i != 0)
 | .str y=>y.length<=υ/\k=((y.length:Int) != 0)
 | .byt y=>y.size<=υ/\k=((y.size:Int) != 0)
 | .ref p=>(∃d,aE K H p d/\k=!d.isEmpty)∨(∃d,aC K H p d/\k=!d.isEmpty)∨∃e,H p=δ (.dK e)/\k=!e.isEmpty
 |_=>False
def ZO{d:Type}{k:FA (d×V)}{v:FA (d×ζ)}(r:KV k v):(!v.isEmpty)=!k.isEmpty:=by cases r<;>rfl
def Qv(r:aw x i):(!i.toArray.isEmpty)=!x.isEmpty:=by cases r<;>simp
def fc:(υ:Nat) < 2 ^ 63:=by rw[TK];decide
def La:N9 X (λx H Q=>∃k,LU X.K x H k/\Q k H):=by
 intro o s B H x v Q I R h;let(k,e,q):=h;let C:=fc;let D:υ=16777216:=TK;cases x with
 |non=>cases R;let E:k=ξ:=e;subst E;rwa[truthy_none #[H,I,q]]
 |bl b=>cases R;let E:k=b:=e;subst E;rwa[UJ #[H,I,q]]
 |int i=>let(t,rfl):=R;let E:k=(i != 0):=e;subst E;rwa[PySem.P.truthy_int #[H,I,q]]
 |str y=>let(t,rfl):=R;obtain⟨z,E⟩:y.length<=υ/\k=((y.length:Int) != 0):=e;subst E;rwa[PySem.P.truthy_str P' #[H,I.tok _,q]]
 |byt y=>let(t,rfl):=R;obtain⟨z,E⟩:y.size<=υ/\k=((y.size:Int) != 0):=e;subst E;rwa[PySem.W.truthy_bytes P' #[H,I.tok _,q]]
 |ref p=>
  cases R;let E:(∃g,aE X.K H p g/\k=!g.isEmpty)∨(∃g,aC X.K H p g/\k=!g.isEmpty)∨∃d,H p=δ (.dK d)/\k=!d.isEmpty:=e;rcases E with ⟨g,j,E⟩ | ⟨g,j,E⟩ | ⟨d,j,E⟩
  .subst E;let(l,r,n,u):=I.list j;let f:=r.length;rwa[wpAny_truthy_list n.isList (by simp only[RS];omega) #[H,I.tok _,by rw[Qv r];rwa[q]]]
  .subst E;let(l,r,n,u):=I.tuple j;let f:=r.length;rwa[truthy_tuple n (by simp only[RS];omega) #[H,I.tok _,by rw[Qv r];rwa[q]]]
  .subst E;obtain⟨u,A,V,r,m⟩:ο d<=υ/\(p==sysModules)=ξ/\∃V,KV d V/\s.heap.DictOf (aP X.prog X.w) p V:=I.hok p _ j;let f:ο d=ο V:=Paired.length r;rwa[wpAny_truthy_dict A m P' #[H,I.tok _,by rw[ZO r];rwa[q]]]
 |_=>exact(show False from e).elim
def Ao(f:PE X a ta)(g:∀w,isTrue a X.env w=(do let v <- w;standAt a.pos;kw [v] (truthy v))):
  PT X a (λd H Q=>ta d H λx e=>∃k,LU X.K x e k/\Q k e):=by
 intro p s d H Q I h;rwa[isTrue_plain (aS (f p s d H _ I h) λv S #[x,i,j,r,q]=>La p S d i x v Q j r q)$ g _]
inductive JN(x y:V)(H:Hp)(Q:VK):Prop
 |mk(i j:_)(_:x= .str i)(_:y= .str j)(_:i.length+j.length<=υ)(_:Q (.str (i++j)) H)
def zU:gu X (binaryOp .Add) JN:=by intro p s e H x y v u Q I r R h;let(i,j,rfl,rfl,d,q):=h;let(t,rfl):=r;let(T,rfl):=R;rwa[add_str (λT f=>#[.str$ i++j,H,I.tok _,#[12],q]) d]
def eG(r:aw [x] U):∃u,U=[u]/\aB x u:=by
 cases r with
 |cons R d=>cases d;rwa[12,R]
def Nx(r:aw [x,y] U):∃u w,U=[u,w]/\aB x u/\aB y w:=by
 cases r with
 |cons R d=>
  cases d with
  |cons e f=>cases f;rwa[112,R,e]
def Ka:dy X (.type "int") (λx H Q=>(∃i,x=[.int i]/\Q (.int i) H)∨∃k,x=[.bl k]/\Q (.int (if k then 1 else 0)) H):=by
 intro p s d H x U Q I r h;rcases h with ⟨i,rfl,q⟩ | ⟨k,rfl,q⟩
 .let(u,rfl,t,rfl):=eG r;rwa[call_int_int #[.int i,H,I,#[12],q]]
 .let(u,rfl,R):=eG r;cases R;rwa[call_int_bool #[.int (if k then 1 else 0),H,I.tok _,#[12],q]]
end
structure px(h:df)(x dx C:η)(mA:ρ->FC ζ):Prop where
 obj:h.get? x=δ (instObj C dx)
 ns:h.Ns1 dx mA
 ne:dx≠x
def vG{h:df}(n:h.Ns1 d m):∃O,h.get? d=δ O/\∀name,lookIn name O=δ (m name):=by
 let(o,E,j,b,c,f,_,g):=n;erw[o,b,λname=>?_];let e:=g name;unfold nsFind findBy at e;rw[<- Array.find?_toList]at e;unfold lookIn;rw[c];dsimp only;split
 .rename_i y q
  rw[q]at e;rwa[SQ δ e]
 .rename_i q
  rw[q]at e;let a:E.toList.any (·.refKey)=ξ:=by rw[List.any_eq_false];intro y i;let(z,t,H):=f y (Array.mem_toList_iff.mp i);simp [DictEntry.refKey,H]
  let A:¬E.toList.any (·.refKey)=μ:=by rw[a];rwa[RZ]
  rw[RU A];rwa[SQ δ e]
def px.look(I:px h x d C m):∃o,PySem.W.InstAt h x (instObj C d) C (δ o)/\∀name,lookIn name o=δ (m name):=
 let #[o,H,a]:=vG I.ns
 #[o,#[I.obj,22,H],a]
section
variable {prog:Δ}{w:cv}{A:bU}{E:ζ->θ->Prop}{s:θ}{K:γ}{x dx C f:η}{mA:ρ->FC ζ}{name:ρ}{v:ζ}
def CM{Q:ζ->θ->Prop}(X:K.In s.heap)(I:px s.heap x dx C mA)(a:plainGet K C name=μ)(b:hasDictIn K C=μ)
  (c:findIn K (.ref C) name=δ ι) (d:mA name=δ v) (H:PySem.W.handedIn v=μ) (h:Q v { s with toks:=s.toks+1 }):
  !A (getAttr (.ref x) name e) Q E s:=by
 let(o,J,g):=I.look;rwa[PySem.W.get_value X J (V6 a).1 (PySem.W.findObj_own b c Z (by rw[g,d])) H h]
def ya{Q:ζ×FA ζ->θ->Prop}(X:K.In s.heap)(I:px s.heap x dx C mA)(H:plainGet K C name=μ)
  (a:findIn K (.ref C) name=δ (↑f)) (b:isFn K (.ref f)=μ) (c:mA name=ι) (h:Q (.ref f,[.ref x]) s):
  !A (getMethod (.ref x) name p) Q E s:=by
 let(o,J,d):=I.look;rwa[PySem.W.method_fn X J (V6 H).1 (V6 H).2 a (beq_iff_eq.mp b) (by show(lookIn name o).map (·.isSome)=δ ξ;rw[d,c];rfl) h]
def Ea{Q:Unit->θ->Prop}(X:K.In s.heap)(I:px s.heap x dx C mA)
  (k:findIn K (.ref C) "__setattr__"=δ (δ$ .builtin "object.__setattr__")) (l:PySem.W.plainOver K C=μ) (m:sw K C name=δ ι) (n:hasDictIn K C=μ)
  (o:ry mA N) (p:ο N<=υ)
  (h:∀d,px d x dx C (λy=>if y=name then δ v else mA y)->eC dx s.heap d->Q () { s with heap:=d,toks:=s.toks+2 }):
  !A (setAttr (.ref x) name v) Q E s:=by
 let(O,J,B):=I.look;erw[PySem.W.set_plain X J k$ PySem.W.osa_open (s:={ s with toks:=s.toks+1 }) (r:=ι) X J l m λb=>?_];let(D,q,e):=PySem.W.any_some n;let t:s.heap.get? x=δ #[.ref C,δ dx,.plain,(ε [])]:=I.obj;apply RM$ RG$ RG$ wpAny_loadPart t$ RG$ PySem.W.Looks.here (s:={ s with toks:=s.toks+1 }) (PySem.W.looks_clsIn X q) ?_;rw[e];erw[RM (a:=δ dx)$ RG$ RM$ RG ?_];erw[wpAny_nsSet1 (s:={ s with toks:=s.toks+1 }) I.ns λd H c=>?_];let(F,u,z,g,i,j):=H.count (ry.cons name v o);apply wpAny_lookBehind g (by rw[i];rwa[pastItsLine_dict$ Sf j (by rw[So];omega)]) ?_;rwa[RM$ h _ #[(c.2 _$ Sx I.ne).trans I.obj,H,I.ne] c]
def yy{R:Result->θ->Prop}(X:K.In s.heap)(H:PySem.W.makesIn K C=μ)
  (b:findIn K (.ref C) "__init__"=δ (↑f)) (c:typeIn K (.ref f)=δ (.type "function"))
  (h:iu (χ prog w) (A.under$ .builtin "type.__call__" #[.ref C::a,k]) (.call (.ref f) #[.ref (-s+1)::a,k]) (PySem.W.InitBack (-s+1) R)
   (s<|(s.heap.push emptyDict).push (instObj C (-s)))):
  iu (χ prog w) A (.call (.ref C) #[a,k]) R s:=by
 let(e,g,d,t,os):=s;rwa[PySem.W.make_core (PySem.W.makes_of X H) (PySem.W.looks_findIn X b) (λS=>PySem.W.bind_fn X S c) (.inl Z) h]
end
noncomputable def fg(f:ρ)(v:V):FA (ρ×V)->FA (ρ×V)
 | []=>[(f,v)]
 | (g,x)::r=>if g=f then (g,v)::r else (g,x)::fg f v r
theorem Kk(f g:ρ)(v:V):∀F:FA (ρ×V),(fg f v F).lookup g=if g=f then δ v else F.lookup g
 | []=>by
  show hG g [(f,v)]=_;by_cases h:g=f
  .let H:(g==f)=μ:=beq_iff_eq.mpr h;simp only[hG,H,RV h]
  .let H:(g==f)=ξ:=beq_eq_false_iff_ne.mpr h;simp only[hG,H,RU h]
 | (k,x)::r=>by
  let i:=Kk f g v r;rw[show fg f v ((k,x)::r)=(if k=f then (k,v)::r else (k,x)::fg f v r) from Z];by_cases a:k=f
  .rw[RV a];by_cases h:g=k
   .let H:(g==k)=μ:=beq_iff_eq.mpr h;simp only[hG,H,RV$ h.trans a]
   .let H:(g==k)=ξ:=beq_eq_false_iff_ne.mpr h;simp only[hG,H,RU (λe:g=f=>h (e.trans a.symm))]
  .rw[RU a];by_cases h:g=k
   .let H:(g==k)=μ:=beq_iff_eq.mpr h;simp only[hG,H,RU (λe:g=f=>a (h.symm.trans e))]
   .let H:(g==k)=ξ:=beq_eq_false_iff_ne.mpr h;simp only[hG,H];rwa[i]
theorem Kb(f:ρ)(v:V):∀F:FA (ρ×V),f∈(fg f v F).map (·.1)/\∀g,g∈F.map (·.1)->g∈(fg f v F).map (·.1)
 | []=>#[by simp [fg],λg h=>by simp at h]
 | (k,x)::r=>by
  let(i,I):=Kb f v r;rw[show fg f v ((k,x)::r)=(if k=f then (k,v)::r else (k,x)::fg f v r) from Z];by_cases H:k=f
  .rw[RV H];subst H;rwa[P9,λg h=>by simpa using h]
  .rw[RU H];refine#[?_,λg h=>?_]
   .rw[SN];rwa[Sd _ i]
   .rw[SN]at h ⊢;rcases ω.mp h with e |e
    .rwa[ω.mpr$ .inl e]
    .rwa[Sd _$ I g e]
theorem Kl(f:ρ)(v:V):∀F:FA (ρ×V),(fg f v F).length<=ο F+1
 | []=>by simp [fg]
 | (k,x)::r=>by
  let i:=Kl f v r;rw[show fg f v ((k,x)::r)=(if k=f then (k,v)::r else (k,x)::fg f v r) from Z];by_cases h:k=f
  .rw[RV h,So,So];omega
  .rw[RU h,So,So];omega
def eN.some_of{v:V}{o:FC ζ}(r:eN (δ v) o):∃u,o=δ u/\aB v u:=by
 cases o with
 |none=>exact(show False from r).elim
 |some u=>rwa[u,Z,r]
def eN.none_of(r:eN ι o):o=ι:=by
 cases o with
 |none=>rfl
 |some u=>exact(show False from r).elim
def vp(r:aB v u):PySem.W.handedIn u=μ:=by
 cases v with
 |non=>cases (show u=Ξ from r);rfl
 |bl b=>cases (show u=ms b from r);rfl
 |int i=>let(t,e):=(show ∃t,u=gs i t from r);cases e;rfl
 |str x=>let(t,e):=(show ∃t,u=jq x t from r);cases e;rfl
 |byt b=>let(t,e):=(show ∃t,u=Value.bytes b t from r);cases e;rfl
 |flt b=>let(t,e):=(show ∃t,u=Value.float b t from r);cases e;rfl
 |ref a=>cases (show u=Φ a from r);rfl
 |ty n=>cases (show u=dO n from r);rfl
section
variable {P:Δ}{w:cv}{H H':Hp}{h h':df}{a C dx:η}{fs fs':FA (ρ×V)}
def Kz(b:fQ P w H h)(e:H a=δ (.ins C dx fs)):∃m,px h a dx C m/\(∀f,eN (fs.lookup f)$ m f)/\ry m (fs.map (·.1))/\ο fs<=1000/\H dx=δ (.own a):=by let(d,z,N,o,m,n,r,q):=(show aK P w H h a (.ins C dx fs) from b a _ e);rwa[m,#[o,n,N],r,q,z,d]
end
structure rE(K:γ)(C:η):Prop where
 pg:plainGet K C Str.empty=μ
 hd:hasDictIn K C=μ
 po:PySem.W.plainOver K C=μ
 sa:findIn K (.ref C) "__setattr__"=δ (δ$ .builtin "object.__setattr__")
def rE.get{K:γ}(c:rE K C)(f:ρ):plainGet K C f=μ:=c.pg
def be(K:γ)(C:η)(f:ρ):Prop:=findIn K (.ref C) f=δ ι
def be.taker{K:γ}(n:be K C f):sw K C f=δ ι:=by unfold sw;rw[show findIn K (.ref C) f=δ ι from n];rfl
structure bq(K:γ)(C:η)(m:ρ)(f:η):Prop where
 at_:findIn K (.ref C) m=δ (↑f)
 fn:isFn K (.ref f)=μ
 kp:ii K (.ref f)=μ
section
variable {X:Cx}{pins:FA (η×gb)}{σ:St}{H:Hp}{s:θ}{a C dx:η}{fs:FA (ρ×V)}{f:ρ}{v:V}{A:bU}{E:ζ->θ->Prop}
def Qw{Q:ζ->θ->Prop}(I:aq X pins σ H s)(e:H a=δ (.ins C dx fs))(c:rE X.K C)(n:be X.K C f)(l:fs.lookup f=δ v)
  (h:∀u S,aq X pins σ H S->aB v u->Q u S):π (χ X.prog X.w) A (getAttr (.ref a) f b) Q E s:=by
 let(m,O,r,_,_,_):=Kz I.hok e;let(u,d,R):=eN.some_of (v:=v) (o:=m f) (by rw[<- l];rwa[r f]);rwa[CM I.kIn O (c.get f) c.hd n d (vp R)$ h u _ (I.tok _) R]
def Qx{Q:ζ×FA ζ->θ->Prop}(I:aq X pins σ H s)(e:H a=δ (.ins C dx fs))(c:rE X.K C)(k:bq X.K C m g)(l:fs.lookup m=ι)
  (h:Q (.ref g,[.ref a]) s):π (χ X.prog X.w) A (getMethod (.ref a) m p) Q E s:=by
 let(M,O,r,_,_,_):=Kz I.hok e;let b:M m=ι:=eN.none_of (by rw[<- l];rwa[r m]);rwa[ya I.kIn O (c.get m) k.at_ k.fn b h]
def Qy{Q:Unit->θ->Prop}(I:aq X pins σ H s)(e:H a=δ (.ins C dx fs))(c:rE X.K C)(n:be X.K C f)(F:ο fs < 1000)(R:aB y u)
  (h:∀S,aq X pins σ (af H a$ .ins C dx$ fg f y fs) S->Q () S):π (χ X.prog X.w) A (setAttr (.ref a) f u) Q E s:=by
 let(m,O,r,W,_,i):=Kz I.hok e;let j:(fs.map (·.1)).length<=υ:=by rw[RJ,TK];omega
 erw[Ea I.kIn O c.sa c.po n.taker c.hd W j λk d l=>h _ ?_];let p:∃o,k.get? dx=δ o:=let #[o,11,t,_]:=d.ns;#[o,t]
 erw[I.write (x:=a) (e:=dx) (by rw[e];rwa[True.intro]) (.inr i) (λb q B z=>(l.2 b B).trans z) p ?_];erw[by rw[jh O.ne];rwa[i],?_,O.ne,d.obj,_,d.ns,λg=>?_,λg D=>?_]
 .let:=Kl f y fs;omega
 .show eN ((fg f y fs).lookup g) (if g=f then δ u else m g);rw[Kk];by_cases q:g=f
  .rw[RV q,RV q];rwa[R]
  .rw[RU q,RU q];rwa[r g]
 .by_cases q:g=f
  .rw[q];exact(Kb f y fs).1
  .erw[(Kb f y fs).2 g (W g λz=>D ?_)];show(if g=f then δ u else m g)=ι;rw[RU q];rwa[z]
def aq.made(I:aq X pins σ H s):aq X pins σ (af (af H (-s)$ .own$ -s+1) (-s+1)$ .ins C (-s) [])
  (s<|(s.heap.push emptyDict).push (instObj C (-s))):=by
 let c:(s.heap.push emptyDict).get? (-s)=δ emptyDict:=RQ s.heap Z;let d:((s.heap.push emptyDict).push$ instObj C (-s)).get? (-s+1)=δ (instObj C (-s)):=by let:=RQ (s.heap.push emptyDict) (o:=instObj C (-s)) Z;rw[SW]at this;assumption
 let g:(s.heap.push emptyDict).Ns (-s) (λ_=>ι):=#[emptyDict,(ε []),_,c,Z,(λe h=>absurd h P9),λ_=>Z];let i:=I.laid (a:=-s) (o:=.own (-s+1)) (h':=s.heap.push emptyDict) (t':=s.toks) (λb u q=>RL _ q) (RO _) #[_,c];erw[i.laid (a:=-s+1) (o:=.ins C (-s) []) (t':=s.toks) (λb u q=>RL _ q) (Wz$ SW _ _) ?_];let n:-s≠-s+1:=R6 (Tz _);erw[by rw[jh n,jc],R4 _,n,d,λ_=>ι,(Heap.Ns1.of_empty g).at λo q=>RL _ q,λ_=>True.intro,λy j=>absurd Z j]
def Cq{f:ρ}{s:θ}(c:attributeBase e f b (eval e b)=eval e b)
  (h:π (χ p w) A (eval e b) (λo S=>π (χ p w) A (getAttr o f μ) Q E S) E s):π (χ p w) A (eval (.Attribute e f d) b) Q E s:=
 Attribute_any_ h (by rw[arm_eval_Attribute,c])
end
inductive Fx(K:γ)(f:ρ)(Q:VK)(x:V)(b:Hp):Prop
 |mk(a C c d v:_)(_:x= .ref a)(_:b a=δ (.ins C c d))(_:rE K C)(_:be K C f)(_:d.lookup f=δ v)(_:Q v b)
def ON(K:γ)(t:TE)(f:ρ):TE:=λa H Q=>t a H (Fx K f Q)
inductive Fk(K:γ)(f:ρ)(D:a8)(e:St)(y x:V)(b:Hp):Prop
 |mk(a C c d:_)(_:x= .ref a)(_:b a=δ (.ins C c d))(_:rE K C)(_:be K C f)(_:ο d < 1000)(_:D.nx e (af b a (.ins C c (fg f y d))))
def OA(K:γ)(t T:TE)(f:ρ):TS:=λD a H=>T a H λy h=>t a h (Fk K f D a y)
def LG(X:Cx)(o:Operator)(r:V->V->Hp->VK->Prop):Prop:=
 ∀(p:FA (η×gb)) (s:θ) (a:St) (H:Hp) (x y:V) (u v:ζ) (Q:VK),aq X p a H s->aB x u->aB y v->r x y H Q->!X (inplaceOp o u v) (EP X p a Q) X.xe s
inductive oy(K:γ)(g:TE)(e:V->V->Hp->VK->Prop)(f:ρ)(D:a8)(h:St)(x:V)(b:Hp):Prop
 |mk(a C c d v:_)(_:x= .ref a)(_:b a=δ (.ins C c d))(_:rE K C)(_:be K C f)(_:d.lookup f=δ v)(_:g h b λy H2=>e v y H2 λz H3=>∃dx' fs',H3 a=δ (.ins C dx' fs')/\ο fs' < 1000/\D.nx h (af H3 a (.ins C dx' (fg f z fs'))))
def DR(K:γ)(t T:TE)(r:V->V->Hp->VK->Prop)(f:ρ):TS:=λD a H=>t a H (oy K T r f D a)
section
variable {X:Cx}{o e value:dr}{f:ρ}{pos pos' tpos:Pos}{ta tv:TE}
def j8(b:PE X e ta)(d:attributeBase e f X.env (eval e X.env)=eval e X.env):PE X (.Attribute e f pos) (ON X.K ta f):=by intro p s g H Q I h;erw[Cq d$ aS (b p s g H _ I h) λu S z=>?_];let(x,i,j,r,a,C,D,F,v,E,k,c,n,l,q):=z;subst E;obtain rfl:u=Φ a:=r;rwa[Qw j k c n l λU t m R=>#[v,i,m,R,q]]
def zJ(d:PE X o ta)(g:PE X value tv)(i:swapsWith value (δ$ .Attribute o f pos') pos.line X.env=pure ξ):PS X (.Assign [.Attribute o f pos'] value pos) (OA X.K ta tv f):=by intro p s b H D I h;erw[plainObj_wpAny_Assign_Attribute (aS (g p s b H _ I h) λu S #[y,j,k,r,q]=>aS (d p S b j _ k q) λO w z=>?_) i];let(x,A,m,R,a,C,B,F,E,t,c,n,l,Q):=z;subst E;obtain rfl:O=Φ a:=R;rwa[Qy m t c n l r λG v=>#[b,_,v,Q]]
def wt{O:Operator}{r:V->V->Hp->VK->Prop}(i:PE X o ta)(j:PE X value tv)(g:LG X O r):PS X (.AugAssign (.Attribute o f tpos) O value pos) (DR X.K ta tv r f):=by intro p s d H D I h;erw[wpAny_AugAssign_AttributeAny$ aS (i p s d H _ I h) λk s1 b=>?_];let(x,m,t,R,a,C,dx,fs,v,w,A,c,n,l,q):=b;subst w;obtain rfl:k=Φ a:=R;erw[Qw t A c n l λu S B F=>aS (j p S d m _ B q) λW G #[y,J,L,M,Q]=>aS (g p G d J v y u W _ L F M Q) λw4 s4 b=>?_];let(z,H3,N,P,T,U,E,Y,q4):=b;rwa[Qy N E c n Y P λs5 I5=>#[d,_,I5,q4]]
inductive MT(x y:V)(H:Hp)(Q:VK):Prop
 |mk(i j:_)(_:x= .int i)(_:y= .int j)(_:Q (.int (i+j)) H)
def GF:LG X .Add MT:=by rintro p s a H x y u v Q I r R ⟨i,j,rfl,rfl,q⟩;let(t,rfl):=(show ∃t,u=gs i t from r);let(T,rfl):=(show ∃T,v=gs j T from R);rwa[PyProof.Rows.iadd_int #[.int$ i+j,H,I.tok _,#[12],q]]
end
section
variable {X:Cx}{pins:FA (η×gb)}{σ:St}{H:Hp}{s:θ}{A:bU}{E:ζ->θ->Prop}{Q:ζ->θ->Prop}{c:ζ}{b:Bool}
inductive ig(K:γ)(H:Hp):V->ζ->Prop where
 |non:ig K H .non (.type "NoneType")
 |bl (x:Bool):ig K H (.bl x) (.type "bool")
 |int (i:Int):ig K H (.int i) (.type "int")
 |str (x:ρ):ig K H (.str x) (.type "str")
 |flt (x:UInt64):ig K H (.flt x) (.type "float")
 |lst {a:η} {xs:FA V} (e:H a=xs⁻¹):ig K H (.ref a) (.type "list")
 |frz {a:η} {o:gb} {xs:FA V} (e:H a=δ (.frz o (.lst xs))):ig K H (.ref a) (.type "list")
 |tup {a:η} {xs:FA V} (e:H a= ~~~xs):ig K H (.ref a) (.type "tuple")
 |dK {a:η} {kvs:FA (a9×V)} (e:H a=δ (.dK kvs)):ig K H (.ref a) (.type "dict")
 |dT {a:η} {kvs:FA (FA a9×V)} (e:H a=δ (.dT kvs)):ig K H (.ref a) (.type "dict")
 |ins {a C dx:η} {fs:FA (ρ×V)} (e:H a=δ (.ins C dx fs)) (cl:rE K C) (ha:findIn K (.ref C) "__class__"=δ (δ (.builtin "object.__class__")))
   (hn:specialIn K (.builtin "object.__class__") "__get__"=δ (δ$ .builtin "getset_descriptor.__get__")) (htk:PySem.W.takesIn K (.builtin "object.__class__")=δ μ)
   (hm:mroIn K C (.type "object")=δ μ):ig K H (.ref a) (.ref C)
def vw(I:aq X pins σ H s)(r:aB x u)(T:ig X.K H x t)(e:kitOne X.K t c=δ b)(h:∀v,Q (.bool b) { s with toks:=v }):
  π (χ X.prog X.w) A (call (.builtin "isinstance") [u,c]) Q E s:=by
 cases T with
 |non=>cases (show u=Ξ from r);rwa[Vw PySem.W.kitx_none I.kIn True.intro e (λz=>nomatch z) h]
 |bl y=>cases (show u=ms y from r);rwa[Vw PySem.W.kitx_bool I.kIn True.intro e (λz=>nomatch z) h]
 |int i=>let(t,q):=(show ∃t,u=gs i t from r);cases q;rwa[Vw PySem.W.kitx_int I.kIn True.intro e (λz=>nomatch z) h]
 |str y=>let(t,q):=(show ∃t,u=jq y t from r);cases q;rwa[Vw PySem.W.kitx_str I.kIn True.intro e (λz=>nomatch z) h]
 |flt y=>let(t,q):=(show ∃t,u=Value.float y t from r);cases q;rwa[Vw PySem.W.kitx_float I.kIn True.intro e (λz=>nomatch z) h]
 | @lst a g d=>cases (show u=Φ a from r);let(_,_,n,_,f):=(show aK X.prog X.w H s.heap a (.lst g) from I.hok a _ d);rwa[Vw PySem.W.kitx_list I.kIn #[_,f,Z] e (λz=>nomatch z) h]
 | @frz a B g d=>cases (show u=Φ a from r);let(_,_,_,n,_,f):=(show aK X.prog X.w H s.heap a (.frz B$ .lst g) from I.hok a _ d);rwa[Vw PySem.W.kitx_list I.kIn #[_,f,Z] e (λz=>nomatch z) h]
 | @tup a g d=>cases (show u=Φ a from r);let(_,_,_,p):=(show aK X.prog X.w H s.heap a (.tup g) from I.hok a _ d);let(o,f,j,_):=p;rwa[Vw PySem.W.kitx_tuple I.kIn #[o,f,j] e (λz=>nomatch z) h]
 | @dK a k d=>cases (show u=Φ a from r);let(_,_,V,_,p):=(show aK X.prog X.w H s.heap a (.dK k) from I.hok a _ d);let(o,D,F,f,j,_):=p;rwa[Vw PySem.W.kitx_dict I.kIn #[o,f,j.1] e (λz=>nomatch z) h]
 | @dT a k d=>cases (show u=Φ a from r);let(_,_,g,_,o,D,F,f,j,_):=(show aK X.prog X.w H s.heap a (.dT k) from I.hok a _ d);rwa[Vw PySem.W.kitx_dict I.kIn #[o,f,j.1] e (λz=>nomatch z) h]
 | @ins a C N P d m G L l M=>cases (show u=Φ a from r);let(R,O,_):=Kz I.hok d;let(S,J,_):=O.look;rwa[Vw (PySem.W.kitx_own (m.get _) m.hd G L l M) I.kIn J e (λz=>nomatch z) h]
end
structure bX(k:Nat)(A:bU):Prop where
 hd:A.handled=ι
 dp:A.depth+3*k+5 < recursionLimit
 un:A.units+16*k+200 < cLine
def bX.mono(r:bX k A)(h:j<=k):bX j A:=#[r.hd,by let:=r.dp;omega,by let:=r.un;omega]
def bX.deeper(r:bX (k+1) A)(e:Env):bX k (A.deeper e):=
 #[r.hd,by let:=r.dp;show A.depth+1+3*k+5 < _;omega,by let:=r.un;show A.units+3+16*k+200 < _;omega]
def ZP{A:bU}:(A.under$ .builtin "type.__call__" #[.ref C::u,k]).depth=A.depth+1:=by
 first |rfl |simp [Around.under,Code.weight,Code.isCreation,Code.isGuard,Code.isCaller,Code.frames,Code.isFrame,guardIds]
def ZQ{A:bU}:(A.under$ .builtin "type.__call__" #[.ref C::u,k]).units=A.units+1:=by
 first |rfl |simp [Around.under,Code.cUnits,Code.frames,Code.isFrame]
def bX.make(r:bX (k+1) A)(C:η)(u:FA ζ)(K:FA (ρ×ζ)):bX k (A.under$ .builtin "type.__call__" #[.ref C::u,K]):=
 #[r.hd,by let:=r.dp;rw[ZP];omega,by let:=r.un;rw[ZQ];omega]
def bX.depth(r:bX k A):A.depth < recursionLimit:=by let:=r.dp;omega
def bX.units(r:bX k A):A.units+64 < cLine:=by let:=r.un;omega
def aR:TA:=λ_ H Q=>Q [] H
def ao(t:TE)(T:TA):TA:=λa H Q=>t a H λx h=>T a h λX b=>Q (x::X) b
section
variable {X:Cx}{e:dr}{es:FA dr}{te:TE}{t:TA}{pos:Pos}
def jb:PA X [] aR:=λ_ _ _ _ H Q I h=>Uz #[[],H,I,.nil,h]
def ja(b:PE X e te)(c:PA X es t)(d:↥(Ψ (e::es) X.env=(ξ,eval e X.env)::Ψ es X.env)):PA X (e::es) (ao te t):=by intro pos p s a H Q I h;rw[d];show !_ (spliced ((ξ,eval e X.env)::fz pos (Ψ es X.env))) _ _ s;erw[Ub$ aS (b p s a H _ I h) λu S z=>?_];let(x,f,i,r,q):=z;rwa[aS (c pos p S a f _ i q) λU m #[g,j,k,R,l]=>#[x::g,j,k,.cons r R,l]]
def cn(t:TA):TE:=λa H Q=>t a H λx h=>ο x<=υ/\∀p,h p=ι->Q (.ref p) (af h p$ .tup x)
def oU(t:TA):TE:=λa H Q=>t a H λx h=>ο x<=υ/\∀p,h p=ι->Q (.ref p) (af h p$ .lst x)
def ji{x}(h:PA X es t):PE X (.Tuple es x pos) (cn t):=by intro p s c H Q I d;erw[wpAny_Tuple_spliced$ aS (h pos p s c H _ I d) λU S #[f,a,i,r,z,q]=>#[by rw[<- r.length];rwa[z],?_]];let g:a (-S)=ι:=i.hok.fresh (RO _);erw[.ref (-S),af a (-S)$ .tup f,i.laid (t':=S.toks) (λb u e=>RL _ e) (RO _) ?_,Z,q _ g];rwa[z,U,r,#[_,RQ _ Z,212]]
def jE(h:PA X es t):PE X (.List es pos) (oU t):=by intro p s c H Q I d;erw[wpAny_List_spliced$ aS (h pos p s c H _ I d) λU S #[x,a,i,r,z,q]=>#[by rw[<- r.length];rwa[z],?_]];let f:a (-S)=ι:=i.hok.fresh (RO _);erw[.ref (-S),af a (-S)$ .lst x,i.laid (t':=S.toks) (λb u e=>RL _ e) (RO _) ?_,Z,q _ f];rwa[z,U,0,r,RQ _ Z]
end
abbrev Sp:=FA V->Hp->VK->XK->Prop
abbrev uV:=FA Env->Hp->θ->XK->ζ->θ->Prop
structure pi(P:Δ)(w:cv)(K:γ)(mg:ρ->FC ζ)(base:df)(A:bU)(outer:FA Env)(s:θ)(H:Hp):Prop where
 frames:A.frames=δ outer
 mod:Mod K mg base
 bs:∀b o,base.get? b=δ o->s.heap.get? b=δ o/\H b=ι
 bsz:base.objs.size<=-s
 funs:s.heap.FunFrames base outer
 frf:∀b∈ij outer,H b=ι
 hok:fQ P w H s.heap
 bare:AllBare s.gens
def CE(o:FA Env)(P:Δ)(w:cv)(H:Hp)(s:θ)(Q:VK)(u:ζ)(S:θ):Prop:=
 ∃v h,S.os=s.os/\AllBare S.gens/\Un (ij o) [] H h s.heap S.heap/\fQ P w h S.heap/\aB v u/\Q v h
def CR(C:uV)(o:FA Env)(P:Δ)(w:cv)(H:Hp)(s:θ)(Q:VK)(E:XK)(r:Result)(S:θ):Prop:=
 match r with
 | .ok (.ret u)=>CE o P w H s Q u S
 | .ok _=>False
 | .error e=>C o H s E e S
structure ai(P:Δ)(w:cv)(K:γ)(mg:ρ->FC ζ)(base:df)(CX:uV)(k:Nat)(f:η)(fd:dN)(ps:FA ρ)(sp:Sp):Prop where
 len:∀vs H Q E,sp vs H Q E->ο vs=ο ps
 run:∀(A:bU) (outer:FA Env) (s:θ) (H:Hp) (args:Args) (us:FA ζ) (vs:FA V) (Q:VK) (E:XK),bX k A->pi P w K mg base A outer s H->BindsTo s fd args (ps.zip us)->aw vs us->sp vs H Q E->
  iu (χ P w) A (.call (.ref f) args) (CR CX outer P w H s Q E) s
def pi.make{P:Δ}{K:γ}(e:pi P w K m b A o s H)(C:η)(u:FA ζ)(k:FA (ρ×ζ)):
  pi P w K m b (A.under$ .builtin "type.__call__" #[.ref C::u,k]) o s H:=#[by first |exact e.frames | (simpa [Around.under,Code.envs,Code.isFrame,pushEnvs] using e.frames),e.mod,e.bs,e.bsz,e.funs,e.frf,e.hok,e.bare]
section
variable {X:Cx}{pins:FA (η×gb)}{σ:St}{H:Hp}{s s':θ}
def aq.env0(I:aq X pins σ H s):pi X.prog X.w X.K X.mg X.base X.A X.stack s H:=
 #[I.ok.frames,I.ok.mod,I.bs,Sf I.ok.bsz I.sz,I.stack,I.stkFree,I.hok,I.bare]
def aq.after(I:aq X pins σ H s)(h:CE X.stack X.prog X.w H s Q u s'):EP X pins σ Q u s':=by let(v,c,os,B,U,a,r,q):=h;let(e,g,d,t,o):=s';obtain rfl:o=s.os:=os;rwa[v,c,I.call (h':=e) (g':=g) (d':=d) (t':=t) (ch:=[]) U a B (λb z=>absurd z P9),r,q]
end
def eV(s:Sp)(d:FA V)(E:XK)(t:TA):TE:=λa H Q=>t a H λv h=>s (v++d) h Q E
inductive Bs(C:η)(m:ρ)(f:Sp)(b:FA V)(E:XK)(t:TA)(g:St)(Q:VK)(x:V)(c:Hp):Prop
 |mk(a d e:_)(_:x= .ref a)(_:c a=δ (.ins C d e))(_:e.lookup m=ι)(_:t g c λvs H2=>f (x::(vs++b)) H2 Q E)
def Br(C:η)(m:ρ)(s:Sp)(d:FA V)(E:XK)(T:TE)(t:TA):TE:=λa H Q=>T a H (Bs C m s d E t a Q)
def Fy(C:η)(s:Sp)(D:FA V)(E:XK)(t:TA):TE:=λa H Q=>t a H λb h=>∀x d,h x=ι->h d=ι->d≠x->
 s (.ref x::(b++D)) (af (af h d$ .own x) x$ .ins C d []) (λv c=>v= .non/\Q (.ref x) c) E
def ax(K:γ)(f:dN)(p:FA ρ)(d:FA ζ):Prop:=
 ∀(s:θ) (u:FA ζ),K.In s.heap->(u++d).length=ο p->BindsTo s f #[u,[]] (p.zip$ u++d)
def ax.all{K:γ}{p:FA ρ}(h:∀u:FA ζ,ο u=ο p->bindArgs f #[u,[]]=pure (p.zip u)):ax K f p []:=λs u _ H=>by rw[Sw]at H ⊢;rwa[.of_eq$ h u H]
def dE(C:uV)(X:Cx)(E:XK):Prop:=∀(p:FA (η×gb)) (a:St) (H:Hp) (s:θ) (e:ζ) (S:θ),aq X p a H s->C X.stack H s E e S->X.xe e S
section
variable {X:Cx}{CX:uV}{k:Nat}{f C:η}{fd:dN}{ps:FA ρ}{sp:Sp}{dvs:FA V}{ds:FA ζ}{E:XK}{x m:ρ}{p pos apos:Pos}{e o:dr}{es:FA dr}{ta:TE}{t:TA}
def XI{us:FA ζ}{vs:FA V}(F:ai X.prog X.w X.K X.mg X.base CX k f fd ps sp)(d:bX k X.A)(g:ax X.K fd ps ds)(i:aw dvs ds)(j:dE CX X E)
  (I:aq X a c H s) (r:aw vs us) (h:sp (vs++dvs) H Q E):!X (call (.ref f) us) (EP X a c Q) X.xe s:=by
 let R:aw (vs++dvs) (us++ds):=r.append i;let l:(us++ds).length=ο ps:=by rw[<- R.length];rwa[F.len _ _ _ _ h]
 erw[wpAny_call$ UV (F.run X.A X.stack s H #[us,[]] (us++ds) (vs++dvs) Q E d I.env0 (g s us I.kIn l) R h) λr S b=>?_];cases r with
 |error e=>rwa[j a c H s e S I b]
 |ok n=>
  cases n with
  |ret u=>rwa[I.after b]
  |next |brk |cont=>rwa[False.elim b]
def za(F:ai X.prog X.w X.K X.mg X.base CX k f fd ps sp)(c:bX k X.A)(d:Gl X x)(g:X.mg x=↑f)(j:ii X.K (.ref f)=μ)(l:ax X.K fd ps ds)(n:aw dvs ds)(u:dE CX X E)
  (v:PA X (e::es) t) (a:↥((x==("__debug__":ρ))=ξ)) (y:↥(Ψ (e::es) X.env=(ξ,eval e X.env)::Ψ es X.env)) (b:↥((fz pos$ Ψ es X.env).any (·.1)=ξ)):
  PE X (.Call (.Name x p) (e::es) [] pos) (eV sp dvs E t):=by
 intro P s z H Q I h;erw[S0$ zX I d g ?_ a];erw[WI (h₀:=X.base) I.ok.mod.kin j (aS (v pos P s z H _ I h) λU S #[B,D,i,r,q]=>#[i.kIn,?_]) y b];rwa[XI F c l n u i r q]
def kc(v:PE X o ta)(c:rE X.K C)(g:bq X.K C m f)(F:ai X.prog X.w X.K X.mg X.base CX k f fd ps sp)(y:bX k X.A)(B:ax X.K fd ps ds)(D:aw dvs ds)(G:dE CX X E)(J:PA X (e::es) t)
  (b:↥(Ψ (e::es) X.env=(ξ,eval e X.env)::Ψ es X.env)) (d:↥((fz pos$ Ψ es X.env).any (·.1)=ξ))
  (L:↥(eval (.Call (.Attribute o m apos) (e::es) [] pos) X.env=(do
   let O <- eval o X.env
   standAt apos.atName
   let (f,first) <- kw [O] (getMethod O m pl)
   callWith pos f first (fz pos$ Ψ (e::es) X.env) (backToKw pos$ keywordEach [] X.env)))):
  PE X (.Call (.Attribute o m apos) (e::es) [] pos) (Br C m sp dvs E ta t):=by
 intro P s i H Q I h;erw[VQ (pl:=pl) (aS (v P s i H _ I h) λu S z=>?_) L];let(x,M,j,R,a,W,Y,N,T,l,q):=z;subst N;obtain rfl:u=Φ a:=R;erw[Qx j T c g l ?_];erw[WI (first:=[.ref a]) (h₀:=X.base) I.ok.mod.kin g.kp (aS (J pos P S i M _ j q) λus s2 #[vs,H2,n,r,U]=>#[n.kIn,?_]) b d];rwa[XI (us:=.ref a::us) (vs:=.ref a::vs) F y B D G n (.cons Z r) U]
def Ad(d:PE X o ta)(c:rE X.K C)(b:bq X.K C m f)(F:ai X.prog X.w X.K X.mg X.base CX k f fd ps sp)(g:bX k X.A)(j:ax X.K fd ps ds)(n:aw dvs ds)(r:dE CX X E)
  (v:↥(eval (.Call (.Attribute o m apos) [] [] pos) X.env=(do
   let O <- eval o X.env
   standAt apos.atName
   let (f,first) <- kw [O] (getMethod O m pl)
   callWith pos f first (fz pos$ Ψ [] X.env) (backToKw pos$ keywordEach [] X.env)))):
  PE X (.Call (.Attribute o m apos) [] [] pos) (Br C m sp dvs E ta aR):=by
 intro P s y H Q I h;erw[VQ (pl:=pl) (aS (d P s y H _ I h) λu S z=>?_) v];let(x,G,i,R,a,J,L,B,D,l,q):=z;subst B;obtain rfl:u=Φ a:=R;erw[Qx i D c b l ?_];rwa[V7 (first:=[.ref a]) i.kIn b.kp$ XI (us:=[.ref a]) (vs:=[.ref a]) F g j n r i (.cons Z .nil) q]
structure Mk(K:γ)(C f:η):Prop where
 makes:PySem.W.makesIn K C=μ
 init:findIn K (.ref C) "__init__"=δ (↑f)
 fn:isFn K (.ref f)=μ
 kp:ii K (.ref C)=μ
def YC{us:FA ζ}(M:Mk X.K C f)(F:ai X.prog X.w X.K X.mg X.base CX k f fd ps sp)(l:bX (k+1) X.A)(n:ax X.K fd ps ds)(q:aw dvs ds)
  (y:dE CX X E) (I:aq X b c H s) (r:aw g us)
  (h:∀x d,H x=ι->H d=ι->d≠x->sp (.ref x::(g++dvs)) (af (af H d$ .own x) x$ .ins C d []) (λv z=>v= .non/\Q (.ref x) z) E):
  !X (call (.ref C) us) (EP X b c Q) X.xe s:=by
 let j:=h (-s+1) (-s) (I.hok.fresh$ SY _) (I.hok.fresh$ RO _) (R6$ Tz _);let i:=aq.made (C:=C) I;let R:aw (Fa (-s+1)::(g++dvs)) (Φ (-s+1)::(us++ds)):=.cons Z (r.append q);let B:(Φ (-s+1)::us++ds).length=ο ps:=by let e:=R.length;rw[F.len _ _ _ _ j]at e;rwa[e.symm]
 refine wpAny_call (yy (f:=f) I.kIn M.makes M.init (beq_iff_eq.mp M.fn) (UV (F.run _ X.stack _ _ #[Φ (-s+1)::us,[]] (Φ (-s+1)::(us++ds)) _ _ E (l.make C us [])
  (i.env0.make C us []) (n _ (Φ (-s+1)::us) i.kIn B) R j) λr S a=>?_))
 cases r with
 |error e=>rwa[y b c _ _ e S i a]
 |ok D=>
  cases D with
  |ret u=>let(v,G,J,L,N,O):=i.after a;subst N;rwa[L,#[Fa$ -s+1,G,J,Z,O]]
  |next |brk |cont=>rwa[False.elim a]
def tF(M:Mk X.K C f)(F:ai X.prog X.w X.K X.mg X.base CX k f fd ps sp)(c:bX (k+1) X.A)(d:Gl X x)(g:X.mg x=↑C)(j:ax X.K fd ps ds)(l:aw dvs ds)(n:dE CX X E)
  (u:PA X (e::es) t) (a:↥((x==("__debug__":ρ))=ξ)) (v:↥(Ψ (e::es) X.env=(ξ,eval e X.env)::Ψ es X.env)) (b:↥((fz pos$ Ψ es X.env).any (·.1)=ξ)):
  PE X (.Call (.Name x p) (e::es) [] pos) (Fy C sp dvs E t):=by
 intro P s y H Q I h;erw[S0$ zX I d g ?_ a];erw[WI (h₀:=X.base) I.ok.mod.kin M.kp (aS (u pos P s y H _ I h) λU S #[z,B,i,r,q]=>#[i.kIn,?_]) v b];rwa[YC M F c j l n i r q]
def Ac(M:Mk X.K C f)(F:ai X.prog X.w X.K X.mg X.base CX k f fd ps sp)(b:bX (k+1) X.A)(c:Gl X x)(d:X.mg x=↑C)(g:ax X.K fd ps ds)(i:aw dvs ds)(j:dE CX X E)
  (a:↥((x==("__debug__":ρ))=ξ)):PE X (.Call (.Name x p) [] [] pos) (Fy C sp dvs E aR):=by
 intro P s l H Q I h;erw[S0$ zX I c d ?_ a];rwa[V7 I.kIn M.kp$ YC (us:=[]) M F b g i j I .nil h]
end
structure al(N P:FA ρ)(sc:gO):Prop where
 kind:sc.kind= .function
 co:sc.isCoroutine=ξ
 gen:sc.isGenerator=ξ
 nd:N.Nodup
 pre:N.take (ο P)=P
 par:∀x∈P,sc.names.lookup x=δ .local∨sc.names.lookup x=δ .cell
 nofree:∀y∈sc.names,y.2≠ .free
theorem Xj{kindOf:ρ->FC NameKind}:∀{b:FA (ρ×ζ)} {m:ρ->FC ζ},(∀v,(x,v)∉b)->bindL kindOf b m x=m x
 | [],_,_=>rfl
 | (n,v)::r,m,h=>by
  unfold bindL;rw[Xj λw H=>h w (Sd _ H)];split
  .let:x≠n:=by rintro rfl;exact h v Sa
   simp [this]
  .rfl
theorem Xk{kindOf:ρ->FC NameKind}:∀{b:FA (ρ×ζ)} {m:ρ->FC ζ},(∀v,(x,v)∉b)->bindC kindOf b m x=m x
 | [],_,_=>rfl
 | (n,v)::r,m,h=>by
  unfold bindC;rw[Xk λw H=>h w (Sd _ H)];split
  .rfl
  .let:x≠n:=by rintro rfl;exact h v Sa
   simp [this]
theorem Xl{kindOf:ρ->FC NameKind}:∀{P:FA ρ} {V:FA ζ} {i:Nat} {m:ρ->FC ζ},P.Nodup->P[i]?=δ x->V[i]?=δ v->kindOf x=δ .local->
  bindL kindOf (P.zip V) m x=δ v
 | [],_,_,_,_,h,_,_ |_::_,[],_,_,_,_,h,_=>by simp at h
 |p::P,w::V,0,m,n,H,a,b=>by simp at H a;subst H;subst a;show bindL kindOf ((p,w)::P.zip V) m p=_;unfold bindL;rw[Xj λv c=>(ov.mp n).1 (V1 c).1,RV b];simp
 |p::P,w::V,i+1,m,n,H,a,b=>by show bindL kindOf ((p,w)::P.zip V) m x=_;unfold bindL;rwa[Xl (i:=i) (ov.mp n).2 (H:) (a:) b]
theorem Xm{kindOf:ρ->FC NameKind}:∀{P:FA ρ} {V:FA ζ} {i:Nat} {m:ρ->FC ζ},P.Nodup->P[i]?=δ x->V[i]?=δ v->kindOf x≠δ .local->
  bindC kindOf (P.zip V) m x=δ v
 | [],_,_,_,_,h,_,_ |_::_,[],_,_,_,_,h,_=>by simp at h
 |p::P,w::V,0,m,n,H,a,b=>by simp at H a;subst H;subst a;show bindC kindOf ((p,w)::P.zip V) m p=_;unfold bindC;rw[Xk λv c=>(ov.mp n).1 (V1 c).1,RU b];simp
 |p::P,w::V,i+1,m,n,H,a,b=>by show bindC kindOf ((p,w)::P.zip V) m x=_;unfold bindC;rwa[Xm (i:=i) (ov.mp n).2 (H:) (a:) b]
noncomputable def gX(N:FA ρ)(v:FA V):St:=v.map δ++fJ (ο N - ο v) ι
noncomputable def gA(C:uV)(P:Δ)(w:cv)(K:γ)(mg:ρ->FC ζ)(base:df)(N:FA ρ)(q:ρ)(S:gO)(f:η)(c:ζ)(A:bU)(outer:FA Env)(s:θ)(H:Hp)(E:XK):Cx where
 prog:=P
 w:=w
 K:=K
 mg:=mg
 base:=base
 A:=A.deeper (envOfC q S (-s) f c)
 N:=N
 s₀:=s
 H₀:=H
 env:=envOfC q S (-s) f c
 outer:=outer
 stack:=envOfC q S (-s) f c::outer
 ex:=[]
 calm:=μ
 fn:=λ_=>μ
 pn:=[]
 xe:=λe b=>π (χ P w) (A.deeper$ envOfC q S (-s) f c) (leaving (envOfC q S (-s) f c) e) (λ_ a=>C outer H s E e a) (λd a=>C outer H s E d a) b
def YD{s:gO}{n:Nat}(h:s.names.lookup x=δ .cell):∃c,(cellsFrom n s.names []).lookup x=δ c:=by let q:=vr s.names n [] (.inl h);rwa[mI.mp q]
def vt{P:Δ}{K:γ}{A:bU}{l:FA V}
  (S:al N t d) (O:A.handled=ι) (j:pi P w K M B A o s H) (hl:ο l=ο t) (r:aw l U)
  (x:InCallC s (-s) (bindL (envOfC Q d (-s) f I).kindOf (t.zip U) λ_=>ι) (cellsFrom (-s+1) d.names []) (bindC (envOfC Q d (-s) f I).kindOf (t.zip U) λ_=>ι) T):
  aq (gA Y P w K M B N Q d f I A o s H E) [] (gX N l) H T:=by
 let R:ο t<=ο N:=by let:=SQ hJ S.pre;rw[Se]at this;omega
 let(F,tk,rfl,J):=x.done;let m:∀b:η,b∉(gA Y P w K M B N Q d f I A o s H E).ex:=λb z=>absurd (show b∈([]:FA η) from z) P9;refine#[#[j.mod,S.kind,22,RO _,λy z c F g=>?_,λy hy=>?_,λy c _ h=>?_,λ_=>O,Around.frames_deeper j.frames,.inr #[22],λb z=>absurd z (m b),j.bs,j.bsz,λb _ _=>m b,λb z=>absurd z (m b),j.funs,j.frf],
  rfl,j.bare,Un.kept J,#[_,x.toInCall.ns,λi y v F g h3=>?_],λy c h=>#[_,x.cell y c h],j.hok.fresh$ RO _,λy c h=>?_,λp C=>absurd (show p∈([]:FA (η×gb)) from C) P9,j.hok.kept J,?_]
 .rwa[name_of_addr x.apart (TM F)$ TM g]
 .let hy:d.names.lookup y=δ .cell∨d.names.lookup y=δ .free:=hy;rcases hy with hy |hy
  .rwa[YD hy]
  .rwa[absurd Z$ S.nofree _$ TM hy]
 .rwa[Uo$ x.above y c$ TM h]
 .let G:i < ο l:=by
   unfold gX at g;by_cases G:i < ο l
   .rwa[G]
   .rw[Uc (G:)]at g;rw[List.getElem?_replicate]at g;split at g<;>cases g
  let W:l[i]?=δ v:=by
   unfold gX at g;rw[Ui (G:),RX]at g;cases e:l[i]? with
   |none=>rw[e]at g;cases g
   |some a=>rw[e]at g;cases g;rfl
  let(u,L,X):=r.get W;let C:t[i]?=δ y:=by rw[<- S.pre,List.getElem?_take_of_lt P'];rwa[F]
  let D:t.Nodup:=by rw[<- S.pre];rwa[S.nd.sublist$ Ul _ _]
  erw[u,X,?_];rcases S.par y (Sc C) with k |k
  .rwa[.inl #[k,Xl D C L k]]
  .let(c,e):=YD (n:=-s+1) k;erw[.inr #[.inl k,c,e,?_]];let q:=x.cell y c e;rw[Xm D C L (by show d.names.lookup y≠_;rw[k];decide)]at q;rwa[q]
 .rwa[j.hok.fresh$ Uo$ x.above y c$ TM h]
 .unfold gX;show _=ο N;rw[RN,RJ,Va];omega
def EO{P:Δ}{K:γ}{kV:ζ}
    {G:Sp} (lk:K.lookup f=δ #[oc,od,.func$ ua name c p h a dV kV L pm an C ct,o0]) (M:codeIn K C c=μ) (S:al N T a)
  (len:∀d H Q E,G d H Q E->ο d=ο T)
  (j:∀(A:bU) (O:FA Env) (s:θ) (H:Hp) (d:FA V) (Q:VK) (E:XK),bX k (A.deeper$ envOfC c a (-s) f C)->G d H Q E->
   ∃t,nZ (gA U P w K Y B N c a f C A O s H E) h t/\t { nx:=λ_ i=>Q .non i,rt:=Q } (gX N d) H):
  ai P w K Y B U (k+1) f (ua name c p h a dV kV L pm an C ct) T G:=by
 erw[len,λA O s H a0 us d Q E R z hb r D=>?_];let hl:=len _ _ _ _ D;let KX:K.In s.heap:=z.mod.kin.keeps λb o e=>(z.bs b o e).1;let X:s.heap.NoLimit:=z.mod.nolimit.keeps λb o e=>(z.bs b o e).1;let l:∀y∈T.zip us,a.names.lookup y.1=δ .local∨(a.names.lookup y.1=δ .cell/\((cellsFrom (-s+1) a.names []).lookup y.1).isSome=μ):=λ#[n,v] hy=>by
  rcases S.par n (V1 hy).1 with q |q
  .rwa[.inl q]
  .rwa[.inr #[q,vr _ _ _$ .inl q]]
 erw[codeAny_call_function R.depth (KX _ _ lk) Z S.co S.gen Z (PySem.W.codeRec_of KX M)$ hb _ _ _ _ ?_];erw[wpAny_newFunctionEnv_cells S.kind l λe1 he s1 x=>?_];subst he;erw[X.keeps x.toInCall.keep,codeAny_func ?_];let(t,ht,hq):=j A O s H d Q E (R.deeper _) D;let I:aq (gA U P w K Y B N c a f C A O s H E) [] (gX N d) H s1:=vt S R.hd z hl r x;erw[Ti (ht [] s1 (gX N d) H _ I hq) (λfl s' m=>?_) λe s' m=>m];let F:∀{g:St} {i:Hp} {v:V} {u:ζ},aq (gA U P w K Y B N c a f C A O s H E) [] g i s'->aB v u->Q v i->CE O P w H s Q u s':=
  λ{g i v u} J rv q=>#[v,i,J.os,J.bare,J.base,J.hok,rv,q]
 cases fl with
 |ret u=>let(v,g,i,J,rv,q):=m;rwa[F J rv q]
 |next=>let(g,i,J,q):=m;rwa[F (v:=V.non) (u:=Ξ) J Z q]
 |brk |cont=>let(_,_,_,q):=m;rwa[False.elim q]
section
variable {X:Cx}{x:ρ}{p pos:Pos}{e:dr}{es:FA dr}{t:TA}{id T:String}{r:FA V->Hp->VK->Prop}
def NO(r:FA V->Hp->VK->Prop)(t:TA):TE:=λa H Q=>t a H λv h=>r v h Q
def jJ(d:dy X (.builtin id) r)(f:Gl X x)(g:X.mg x=ι)(i:bootBuiltins x=δ (.builtin id))(j:PA X (e::es) t)(k:↥(x≠"__name__"))(a:↥((x==("__debug__":ρ))=ξ))
  (l:↥(Ψ (e::es) X.env=(ξ,eval e X.env)::Ψ es X.env)) (b:↥((fz pos$ Ψ es X.env).any (·.1)=ξ)):PE X (.Call (.Name x p) (e::es) [] pos) (NO r t):=by
 intro P s c H Q I h;erw[S0$ zH I f g i ?_ k a];rwa[PyProof.Rows.callWith_builtin1 (aS (j pos P s c H _ I h) λu S #[v,m,n,R,q]=>d P S c m v u Q n R q) l b]
def jI(d:dy X (.type T) r)(f:Gl X x)(g:X.mg x=ι)(i:bootBuiltins x=δ (.type T))(j:PA X (e::es) t)(k:↥(x≠"__name__"))(a:↥((x==("__debug__":ρ))=ξ))
  (l:↥(Ψ (e::es) X.env=(ξ,eval e X.env)::Ψ es X.env)) (b:↥((fz pos$ Ψ es X.env).any (·.1)=ξ)):PE X (.Call (.Name x p) (e::es) [] pos) (NO r t):=by
 intro P s c H Q I h;erw[S0$ zH I f g i ?_ k a];rwa[SO (aS (j pos P s c H _ I h) λu S #[v,m,n,R,q]=>d P S c m v u Q n R q) l b]
end
end _L
namespace HT
open PySem PyProof.Rows
noncomputable def lexLt:FA Int->FA Int->Bool
 | [],[]=>ξ
 | [],_::_=>μ
 |_::_,[]=>ξ
 |x::X,y::Y=>if x=y then lexLt X Y else decide (x < y)
def ZR(x y:Int)(X Y:FA Int):lexLt (x::X) (y::Y)=if x=y then lexLt X Y else decide (x < y):=rfl
def QX:lexLt [] []=ξ:=rfl
def QL(y:Int)(Y:FA Int):lexLt [] (y::Y)=μ:=rfl
def QM(x:Int)(X:FA Int):lexLt (x::X) []=ξ:=rfl
def xP(A:bU)(s:θ)(a:Int)(t:Tok)(c:Int)(u:Tok):∃e,SeqAt.EqAt A s (.int a t) (.int c u) e/\(e=μ↔a=c):=
 #[(a==c),SeqAt.EqAt.int_int a t c u,P9]
def Ar(A:bU)(s:θ)(a:Int)(t:Tok)(c:Int)(u:Tok)(p:Δ)(w:cv)(E:ζ->θ->Prop)(Q:ζ->θ->Prop)(h:Q (.bool$ decide$ a < c) s):
  π (χ p w) A (richCompare .Lt (.int a t)$ .int c u) Q E s:=
 (PyProof.Rows.lt_int h:π (χ p w) A (compareOp .Lt (.int a t)$ .int c u) Q E s)
section
open PySem.SeqAt
open PySem.AutoSeq1 (wpAny_loadPart')
open PySem.MeetsSeq PySem.MeetsSeq2 PySem.MeetsSeq3
def QY(l b:η)(I i:Array ζ)(n U:Nat)(X G:FC η)(Y S:Array (FC ζ))(E M:FA Int)(O:IntsAre I.toList E)(P:IntsAre i.toList M):
  Meets (dw.«tuple.__lt__» #[[.ref l,.ref b],[]])
   (λ_ R s=>s.heap.get? l=δ { cls:=.type "tuple",dict:=X,data:=.seq I n,slots:=Y }/\s.heap.get? b=δ { cls:=.type "tuple",dict:=G,data:=.seq i U,slots:=S }/\
    R (.ok$ .ret$ .bool$ lexLt E M) s):=
 .of_wp λp w A R s h=>by
  let(F,g,d,T,os):=s;let(hl,hb,h):=h;let f2:=WM;let z1:I.size=ο E:=by rw[<- O.length];simp
  let z2:i.size=ο M:=by rw[<- P.length];simp
  wp_walk using wpAny_loadPart' hl,wpAny_loadPart' hb,wpAny_forIn_list _ (λr b J=>b.1=ι/\J=#[F,g,d,T,os]/\∃(V W:FA ζ) (N m:FA Int),r=V.zip W/\
   IntsAre V N/\IntsAre W m/\ο N+i.size=ο m+I.size/\R (.ok$ .ret$ .bool$ lexLt N m) #[F,g,d,T,os]) _
  case turn=>
   rintro ⟨y,x⟩ r b J ⟨v,rfl,V,W,N,m,f,z,j,H,k⟩;cases z with
   |nil=>rw[List.zip_nil_left]at f;cases f
   |cons a t C=>
    cases j with
    |nil=>rw[List.zip_nil_right]at f;cases f
    |cons c u D=>
     rw[List.zip_cons_cons]at f;injection f with K B;injection K with hy hx;subst hy hx;rw[ZR]at k;simp only[So]at H;let(e,he,o):=xP A.in1 #[F,g,d,T,os] a t c u;apply he p w _ _ ?_;cases e with
     |true=>rw[RV$ o.mp Z]at k;wp_walk;rwa[221111,B,C,D,P',k]
     |false=>rw[RU (λq=>absurd (o.mpr q) RZ)]at k;let L:=Ar A.in1 #[F,g,d,T,os] a t c u p w;wp_walk using L;rwa[12,(k:)]
  case fin=>
   rintro ⟨b1,b2⟩ J ⟨v,rfl,V,W,N,m,f,z,j,H,k⟩;simp only at v;subst v;let Q:lexLt N m=decide (I.size < i.size):=by
    cases z with
    |nil=>
     cases j with
     |nil=>simp only[UY]at H;rw[QX];exact(RW P').symm
     |cons c u hw=>simp only[UY,So]at H;rw[QL];exact(R0 P').symm
    |cons a t Q=>
     cases j with
     |nil=>simp only[UY,So]at H;rw[QM];exact(RW P').symm
     |cons c u hw=>rw[List.zip_cons_cons]at f;cases f
   rw[Q]at k;wp_walk;rwa[12,by simpa [Builtin.Tuple.tupleCompareSizes] using k]
  case h=>
   rwa[22,I.toList,i.toList,E,M,Z,O,P,P',h]
end
section
#print v
def lt_tupInts{Q:ζ->θ->Prop}(j:IsTup s.heap l I)(k:IsTup s.heap b i)(o:IntsAre I.toList N)(p:IntsAre i.toList m)
  (q:A.units < cLine) (h:Q (.bool$ lexLt N m) s):!A (compareOp .Lt (.ref l)$ .ref b) Q E s:=by
 obtain⟨⟨r,t,D,u⟩,e,f,n,g⟩:=id j;obtain⟨⟨C,d,data2,S⟩,H,a,v,c⟩:=id k;simp only at f g a c;subst f g a c;exact richCompare_meets_room (op:=.Lt) #[_,e,Z] #[_,H,Z] PySem.F.slot_tuple_lt PySem.F.entry_tuple_lt (PySem.F.args_tuple_lt_2 _ _) (QY l b I i n v t d u S N m o p)
  #[e,H,show ms (lexLt N m)≠Value.notImplemented/\Q (.bool$ lexLt N m) s from #[(λx=>nomatch x),h]] q
def cat_tup{v W:FA ζ}{Q:ζ->θ->Prop}(m:IsTup s.heap t v.toArray)(o:IsTup s.heap b W.toArray)(i:v≠[])
  (p:W=[]->Q (.ref t) s) (q:W≠[]->Q (.ref (-s)) (s<|s.heap.push ("tuple"<|.seq (v++W).toArray)))
  (g:ο v+ο W<=υ):!A (binaryOp .Add (.ref t)$ .ref b) Q E s:=by
 obtain⟨⟨cls,D,data,j⟩,c,k,n,l⟩:=id m;obtain⟨⟨C,d,data2,S⟩,h,H,N,a⟩:=id o;simp only at k l H a;subst k l H a;let e:v.toArray++W.toArray=(v++W).toArray:=by simp
 by_cases f:W=[]
 .exact concat_meets #[_,c,Z] #[_,h,Z] Z' seq_tuple_add VG Vx (Vu _ _)
   (tuple_addW1 t b v.toArray W.toArray n N D d j S (i:) (by simp [f])) #[c,h,p f]
 .refine concat_meets #[_,c,Z] #[_,h,Z] Z' seq_tuple_add VG Vx (Vu _ _)
   (tuple_addW2 t b v.toArray W.toArray n N D d j S (i:) (f:) (by rw[RS,RS];rwa[g])) #[c,h,?_]
  rw[e];rwa[q f]
noncomputable def sIx(n d:Nat):FC Int->Nat
 |none=>d
 |some v=>if v < 0 then (v+(n:Int)).toNat else min v.toNat n
def sIx_none(n d:Nat):sIx n d ι=d:=rfl
def sIx_nat(n d k:Nat):sIx n d (δ (k:Int))=min k n:=by show(if (k:Int) < 0 then ((k:Int)+(n:Int)).toNat else min (k:Int).toNat n)=min k n;rw[RU P',SJ]
def IG(n d:Nat)(H:d<=n)(o:FC Int):sIx n d o<=n:=by
 cases o with
 |none=>rwa[H]
 |some v=>
  show(if v < 0 then (v+(n:Int)).toNat else min v.toNat n)<=n;by_cases h:v < 0
  .rw[RV h];omega
  .rw[RU h];rwa[Nat.min_le_right _ _]
def rG(v:Int)(n d:Nat):(if v < 0 then max (v+(n:Int)) 0 else min v (n:Int))=((sIx n d (δ v):Nat):Int):=by
 show(if v < 0 then max (v+(n:Int)) 0 else min v (n:Int))=(((if v < 0 then (v+(n:Int)).toNat else min v.toNat n):Nat):Int);by_cases h:v < 0
 .simp only[RV h];omega
 .simp only[RU h];omega
def ZS(lo h:FC Int)(n:Nat):kz lo h 1 (n:Int)=(((sIx n 0 lo:Nat):Int),((sIx n n h:Nat):Int)):=by
 let H:¬((1:Int) < 0):=P'
 unfold kz;simp only[H,Te];erw[Prod.ext ?_ ?_]
 .cases lo with
  |none=>rfl
  |some v=>rwa[rG v n 0]
 .cases h with
  |none=>rfl
  |some v=>rwa[rG v n n]
def ZT(i j:Nat):ib (i:Int) (j:Int) 1=j - i:=by
 unfold ib;let h:(1:Int) > 0:=P'
 simp only[h,Vm,Int.ediv_one];split<;>omega
def Qz{Q:FC Int->θ->Prop}(p:IsPart v o)(h:Q o s):!A (Builtin.Slice.slicePartIndex v) Q E s:=by
 cases p with
 |none=>rwa[slicePart_none h]
 |int i t=>rwa[slicePart_int h]
def sliceApplied_gen{lo:FC Int}{Q:Int×Int×Nat->θ->Prop}(d:s.heap.IsSliceOf e v c .none)(p:IsPart v lo)(P:IsPart c b)
  (h:Q (((sIx n 0 lo:Nat):Int),1,sIx n n b - sIx n 0 lo) s):!A (ri (.ref e)$ pure (n:Int)) Q E s:=by
 let(os,H,f,a):=id d;unfold ri Builtin.Slice.sliceFields;apply RG$ Ss H a (x:=v) Z$ RG$ Ss H a (x:=c) Z$ RG$ Ss H a (x:=.none) Z$ RM ?_;apply slicePart_none ?_;show !_ (if ((1:Int)==0)=μ then _ else _) _ _ s;rw[RU Ra];apply Qz p$ RG$ Qz P$ RG$ RM ?_;show !_ (match kz lo b 1 (n:Int) with | (lo,b)=>pure (lo,(1:Int),ib lo b 1)) _ _ s;rw[ZS lo b n];show !_ (pure (((sIx n 0 lo:Nat):Int),(1:Int),ib ((sIx n 0 lo:Nat):Int) ((sIx n n b:Nat):Int) 1)) _ _ s;rw[ZT];rwa[RM h]
def Ak(X:Array ζ)(i k:Nat):((dg k).filterMap λ(m:Nat)=>X[((i:Int)+(m:Int)*1).toNat]?).toArray=((X.toList.drop i).take k).toArray:=by
 let e:(λ(m:Nat)=>X[((i:Int)+(m:Int)*1).toNat]?)=λm=>X[i+m]?:=by
  funext m;let:((i:Int)+(m:Int)*1).toNat=i+m:=P'
  rw[this]
 rw[e];let:=pick_run X i k;rw[List.filterMap_map]at this;let a:((λx=>X[x]?) ∘ λx=>i+x)=λm=>X[i+m]?:=rfl;rw[a]at this;rw[this]
def getItem_tuple_cut{lo:FC Int}{Q:ζ->θ->Prop}(ht:IsTup s.heap t items)(hs:s.heap.IsSliceOf sl vl vu .none)(pl:IsPart vl lo)(pu:IsPart vu hi)
  (hw:¬(sIx items.size 0 lo=0/\sIx items.size items.size hi=items.size))
  (h:Q (.ref (-s)) (s<|s.heap.push ("tuple"<|.seq ((items.toList.drop$ sIx items.size 0 lo).take$ sIx items.size items.size hi - sIx items.size 0 lo).toArray)))
  (hsz:items.size<=υ):!A (getItem (.ref t)$ .ref sl) Q E s:=by
 let htake:sizeOk (.seq ((items.toList.drop$ sIx items.size 0 lo).take$ sIx items.size items.size hi - sIx items.size 0 lo).toArray):=by show((items.toList.drop$ sIx items.size 0 lo).take$ sIx items.size items.size hi - sIx items.size 0 lo).toArray.size<=υ;rw[RS,Se,Td,Sb];rwa[N09]
 let hj:sIx items.size items.size hi<=items.size:=IG _ _ (RO _) hi;let(os,hos,hcs,hds):=id hs;let hTs:s.TypeIs (.ref sl) "slice":=#[os,hos,hcs];unfold getItem;try with_reducible erw[Sj ?_]
 first |refine RG (RM ?_) |skip
 apply WN ht.typeIs Ra ?_;refine RG (SD (name:=Str.ofString "__getitem__") ht.typeIs Ue
  (Sv Ue ht.typeIs entry_tuple_getitem ?_$ args_tuple_getitem _ _))
 show !_ (rm (.ref t) >>= _) _ _ s;apply tupleItemsOf_ ht ?_;apply Ud hTs ?_;rw[RV Ra];apply sliceApplied_gen hs pl pu ?_;let hno:¬((((sIx items.size 0 lo:Nat):Int)==0&&(1:Int)==1&&(sIx items.size items.size hi - sIx items.size 0 lo)==items.size)=μ):=by intro q;rw[Tp,Tp]at q;let q1:((sIx items.size 0 lo:Nat):Int)=0:=eq_of_beq q.1.1;let q2:sIx items.size items.size hi - sIx items.size 0 lo=items.size:=eq_of_beq q.2;rwa[hw #[P',N09]]
 show !_ (if (((sIx items.size 0 lo:Nat):Int)==0&&(1:Int)==1&&(sIx items.size items.size hi - sIx items.size 0 lo)==items.size)=μ then _ else _) _ _ s;rw[RU hno,Ak];first
  |exact RG (m:=eT _) (SE (RM #[12,RM h]) htake)
  |exact RG (m:=eT _) (SE (RG (RM (RM #[12,RM h]))) htake)
  |exact RG (RG (m:=eT _) (SE (RM (RM #[12,RM h])) htake))
  |exact RG (RG (m:=eT _) (SE (RM #[12,RM h]) htake))
end
end HT
namespace _L
open PySem PySem.Spec PyProof.Rows
abbrev TO:=St->Hp->(FC Int->Hp->Prop)->Prop
def PO(X:Cx)(e:FC dr)(t:TO):Prop:=
 ∀(p:FA (η×gb)) (s:θ) (a:St) (H:Hp) (Q:FC Int->Hp->Prop),aq X p a H s->t a H Q->
  !X (evalPart e X.env) (λu S=>∃o h,aq X p a h S/\IsPart u o/\Q o h) X.xe s
def nP:TO:=λ_ H Q=>Q ι H
inductive Bu(Q:FC Int->Hp->Prop)(x:V)(a:Hp):Prop
 |mk(i:_)(_:x= .int i)(_:Q (δ i) a)
def oV(t:TE):TO:=λa H Q=>t a H (Bu Q)
def QA{N:FA Int}:∀{u:FA ζ},aw (N.map Da) u->IntsAre u N:=by
 induction N with
 |nil=>intro u r;rw[List.map_nil]at r;cases r;rwa[.nil]
 |cons n N i=>
  intro u r;rw[SN]at r;cases r with
  |cons R a=>let(t,e):=R;subst e;rwa[.cons n t$ i a]
section
variable {X:Cx}{e:dr}{te:TE}{lo hi:FC dr}{tl th:TO}{pos p2:Pos}
def jS:PO X ι nP:=by intro p s a H Q I h;rw[evalPart_none];rwa[RM #[ι,H,I,.none,h]]
def jD(h:PE X e te):PO X (δ e) (oV te):=by intro p s a H Q I b;rw[evalPart_some];erw[aS (h p s a H _ I b) λu S z=>?_];let(x,c,d,r,f):=z;let(i,rfl,q):=f;let(t,rfl):=r;rwa[δ i,c,d,.int i t,q]
def NH(X:Cx)(r:V->FC Int->FC Int->Hp->VK->Prop):Prop:=
 ∀(p:FA (η×gb)) (s:θ) (a:St) (H:Hp) (x:V) (v b c:ζ) (lo hi:FC Int) (S:η) (Q:VK),aq X p a H s->aB x v->s.heap.IsSliceOf S b c .none->IsPart b lo->IsPart c hi->r x lo hi H Q->
  ∃T id,typeLookup (.type T) "__getitem__"=pure (δ$ .builtin id)/\s.TypeIs v T/\!X (getItem v$ .ref S) (EP X p a Q) X.xe s
def NP(r:V->FC Int->FC Int->Hp->VK->Prop)(te:TE)(tl th:TO):TE:=λa H Q=>te a H λx h=>tl a h λl b=>th a b λu c=>r x l u c Q
def jF{r:V->FC Int->FC Int->Hp->VK->Prop}(g:NH X r)(i:PE X e te)(j:PO X lo tl)(k:PO X hi th):PE X (.Subscript e (.Slice lo hi ι p2) pos) (NP r te tl th):=by intro p s a H Q I h;erw[Subscript_$ aS (i p s a H _ I h) λv m z=>?_];let(x,n,o,R,t):=z;erw[wpAny_Slice$ aS (j p m a n _ o t) λc y #[l,B,C,P,D]=>aS (k p y a B _ C D) λd S z=>?_];let(u,f,E,F,G):=z;rw[evalPart_none];erw[RM ?_];let J:aq X p a f (S<|S.heap.push ("slice"<|.fields (ε [c,d,.none]))):=E.kept (t':=S.toks) λb O q=>RL _ q;let(T,id,K,L,M):=g p (S<|S.heap.push ("slice"<|.fields (ε [c,d,.none]))) a f x v c d l u (-S) Q J R (VP ..) P F G;show !X (subscriptTail e (.Slice lo hi ι p2) v$ .ref (-S)) (EP X p a Q) X.xe (S<|S.heap.push ("slice"<|.fields (ε [c,d,.none])));rwa[tail_any (ops:=[.ref (-S),v]) L K M (by with_unfolding_all rfl)]
def aN(x:FA V)(lo hi:FC Int):FA V:=(x.drop$ HT.sIx x.length 0 lo).take (HT.sIx x.length x.length hi - HT.sIx x.length 0 lo)
def zw(x:FA V)(lo hi:FC Int):(aN x lo hi).length<=ο x:=by unfold aN;rw[Se,Td];omega
inductive M1(K:γ)(x:V)(c b:FC Int)(H:Hp)(Q:VK):Prop
 |mk(a d:_)(_:x= .ref a)(_:aC K H a d)(_:¬(HT.sIx d.length 0 c=0/\HT.sIx d.length d.length b=ο d))(_:∀p,H p=ι->Q (.ref p) (af H p (.tup (aN d c b))))
def IV:NH X (M1 X.K):=by
 intro p s n H x v V t lo hi S Q I R j P k h;let(a,d,rfl,l,m,q):=h;cases R;let(i,r,f,g):=I.tuple l;let c:i.toArray.size=ο d:=by rw[RS];rwa[r.length.symm]
 erw["tuple",_,PyProof.Rows.slot_tuple_getitem.lookup,f.typeIs,?_];erw[HT.getItem_tuple_cut f j P k (by rw[c];rwa[m]) ?_ (by rw[c];rwa[g])];rw[c];erw[.ref (-s),_,I.laid (t':=s.toks) (o:=.tup (aN d lo hi)) (λb O q=>RL _ q) (RO _) ?_,Z,q _$ I.hok.fresh$ RO _];rwa[Sf (zw d lo hi) g,_,(r.drop$ HT.sIx d.length 0 lo).take$ HT.sIx d.length d.length hi - HT.sIx d.length 0 lo,IsTup.new _ _]
inductive Fh(K:γ)(x y:V)(H:Hp)(Q:VK):Prop
 |mk(a b c d:_)(_:x= .ref a)(_:y= .ref b)(_:aC K H a c)(_:aC K H b d)(_:c≠[])(_:ο c+ο d<=υ)(_:d=[]->Q (.ref a) H)(_:d≠[]->∀p,H p=ι->Q (.ref p) (af H p (.tup (c++d))))
def aw.nil_iff(r:aw x u):u=[]↔x=[]:=by
 cases r with
 |nil |cons _ _=>simp
def Ds:gu X (binaryOp .Add) (Fh X.K):=by intro p s A H x y v u Q I d f h;let(a,b,g,Y,rfl,rfl,j,k,l,c,m,n):=h;cases d;cases f;let(t,R,P,_):=I.tuple j;let(i,r,p2,_):=I.tuple k;erw[HT.cat_tup P p2 (λz=>l (R.nil_iff.mp z)) (λz=>#[.ref a,H,I,Z,m$ r.nil_iff.mp z]) (λz=>?_) (by rw[<- R.length,<- r.length];rwa[c])];erw[.ref (-s),_,I.laid (t':=s.toks) (o:=.tup (g++Y)) (λb O q=>RL _ q) (RO _) ?_,Z,n (λw=>z (r.nil_iff.mpr w)) _$ I.hok.fresh$ RO _];rwa[by rw[RN];rwa[c],_,R.append r,IsTup.new _ _]
end
noncomputable def on(n:Nat)(i:Int):FC Nat:=if 0<=i then (if i < n then δ i.toNat else ι) else if -(n:Int)<=i then δ (i+n).toNat else ι
def dQ{a:Type}(x:FA a)(i:Int):FC a:=(on x.length i).bind λj=>x[j]?
def sI(h:on n i=δ j):seqIndex? i n=δ j/\j < n/\ -(n:Int)<=i/\i < n:=by
 unfold on at h;by_cases a:0<=i
 .rw[RV a]at h;by_cases H:i < n
  .rw[RV H]at h;let e:i.toNat=j:=SK h;rwa[by rw[seqIndex_of a H,e],P',P',H]
  .rw[RU H]at h;cases h
 .rw[RU a]at h;by_cases H: -(n:Int)<=i
  .rw[RV H]at h;let e:(i+n).toNat=j:=SK h;rwa[by rw[seqIndex_neg P' H,e],P',H,P']
  .rw[RU H]at h;cases h
def X5{a:Type}{x:FA a}{v:a}(h:dQ x i=δ v):∃j,seqIndex? i (ο x)=δ j/\x[j]?=δ v/\j < ο x/\ -(x.length:Int)<=i/\i < ο x:=by
 unfold dQ at h;cases e:on x.length i with
 |none=>rw[e]at h;cases h
 |some j=>rw[e]at h;let(H,b,c,d):=sI e;rwa[j,H,h,b,c,d]
def jO{a:Type}{x:FA a}{j:Nat}{v:a}(h:x[j]?=δ v):dQ x (j:Int)=δ v:=by
 let H:j < ο x:=(ν.mp h).1;let e:on x.length (j:Int)=δ j:=by unfold on;rw[RV P',RV P'];simp
 unfold dQ;rw[e];rwa[h]
def xq{a:Type}(x:FA a)(v:a):dQ (x++[v]) (-1)=δ v:=by
 let h:(x++[v]).length=ο x+1:=by simp
 let e:on (x++[v]).length (-1)=δ x.length:=by unfold on;rw[h,RU Ra,RV P'];congr 1;omega
 unfold dQ;rw[e];show(x++[v])[x.length]?=δ v;simp
def Ci(b:dr):Prop:=∀o i,subscripted b ξ o i=operate [o,i] (getItem o i)
def NF(X:Cx)(r:R2):Prop:=
 ∀(a S:dr) (p:FA (η×gb)) (s:θ) (b:St) (H:Hp) (x y:V) (v u:ζ) (Q:VK),aq X p b H s->aB x v->aB y u->r x y H Q->
  subscripted S ξ v u=operate [v,u] (getItem v u)->!X (subscriptTail a S v u) (EP X p b Q) X.xe s
def N5(X:Cx)(id:String)(r:V->FA V->Hp->VK->Prop):Prop:=
 ∀(p:FA (η×gb)) (s:θ) (a:St) (H:Hp) (x:V) (b:FA V) (v:ζ) (u:FA ζ) (Q:VK),aq X p a H s->aB x v->aw b u->r x b H Q->
  !X (call (.builtin id) (v::u)) (EP X p a Q) X.xe s
section
variable {X:Cx}{a b:dr}{ta tb:TE}{pos:Pos}
def jv{r:R2}(c:NF X r)(d:PE X a ta)(e:PE X b tb)(f:Ci b):PE X (.Subscript a b pos) (eW r ta tb):=by intro p s g H Q I h;rwa[Subscript_$ FV d e I h λv u S x y i j R k q=>c a b p S g i x y v u Q j R k q (f _ _)]
inductive mf(K:γ)(x y:V)(H:Hp)(Q:VK):Prop
 |mk(p a i v:_)(_:x= .ref p)(_:y= .int i)(_:aE K H p a)(_:dQ a i=δ v)(_:Q v H)
inductive dY(K:γ)(x y:V)(H:Hp)(Q:VK):Prop
 |mk(p a i v:_)(_:x= .ref p)(_:y= .int i)(_:aC K H p a)(_:dQ a i=δ v)(_:Q v H)
inductive DK(x y:V)(H:Hp)(Q:VK):Prop
 |mk(z i c:_)(_:x= .str z)(_:y= .int i)(_:z.length<=υ)(_:dQ z.cps.toList i=δ c)(_:Q (.str #[(ε [c])]) H)
def jw:NF X (mf X.K):=by
 intro V S P s k H x y v u Q I n o h l;let(p,L,i,z,rfl,rfl,A,B,q):=h;cases n;let(t,rfl):=o;let(d,r,e,M):=I.list A;let(j,c,C,N,D,F):=X5 B;let(w,E,R):=r.get C;let G:=r.length;let O:=fc;let f:EP X P k Q w s:=#[z,H,I,R,q];by_cases m:0<=i
 .let g:i.toNat=j:=by rw[seqIndex_of m F]at c;exact SK c
  rwa[item_listR e.isList m P' (by rw[g];simpa using E) f l]
 .let g:(i+(d.toArray.size:Int)).toNat=j:=by rw[seqIndex_neg P' D]at c;rw[RS,<- G];exact SK c
  exact subscriptTail_builtinR (x:=w) e.isList.typeIs slot_list_getitem.lookup
   (wpAny_getItem_list_neg (Q:=λr J=>r=w/\EP X P k Q r J) e.isList P' (by rw[RS]<;>omega) P' (by rw[g];simpa using E) #[Z,f]) l
def jG:NF X (dY X.K):=by
 intro V S P s c H x y v u Q I e g h k;let(p,D,i,z,rfl,rfl,l,m,q):=h;cases e;let(t,rfl):=g;let(n,r,d,F):=I.tuple l;let(j,o,A,G,J,L):=X5 m;let(w,E,R):=r.get A;let B:=r.length;let M:=fc;let f:EP X P c Q w s:=#[z,H,I,R,q];exact subscriptTail_builtinR (x:=w) d.typeIs slot_tuple_getitem.lookup
  (getItem_tuple (j:=j) (Q:=λr C=>r=w/\EP X P c Q r C) d P' P' (by rw[RS,<- B];rwa[o]) (E:) #[Z,f]) k
def Qb:NF X DK:=by
 intro V S p s o H x y v u Q I r R h e;let(z,i,c,rfl,rfl,w,f,q):=h;let(t,rfl):=r;let(T,rfl):=R;let(j,d,g,A,k,l):=X5 f;let m:ο z.cps.toList=z.length:=by simp [Str.length]
 rw[m]at d k l;let B:=fc;exact tail_any (typeIs_str s z t) slot_str_getitem.lookup (getItem_str (c:=c) (by
  let E:decide (i < -(2 ^ 63:Int))=ξ:=RW P';let n:decide (i≥2 ^ 63)=ξ:=RW P';rw[E,n,xb]) (by rw[d];simpa using g) #[.str #[(ε [c])],H,I.tok _,#[12],q]) e
def ZU(i:FA ζ)(n j:Nat)(u:ζ):Ω (·.setIfInBounds j u) ("list"<|.seq i.toArray n)=("list"<|.seq (i.set j u).toArray n):=by simp [Ω]
def aq.lst(I:aq X c d H s)(h:H p=x⁻¹):
  ∃(i:FA ζ) (n:Nat),aw x i/\s.heap.get? p=δ ("list"<|.seq i.toArray n)/\ο x<=υ:=by
 let(z,i,n,r,e):=I.hok p _ h;rwa[i,n,r,e,z]
def aq.lstUpd{c i:FA ζ}{f:gb->gb}(I:aq X d j H s)(h:H p=o⁻¹)
  (k:s.heap.get? p=δ ("list"<|.seq c.toArray n)) (g:f ("list"<|.seq c.toArray n)=("list"<|.seq i.toArray N)) (r:aw y i) (l:ο y<=υ) (t:Nat):
  aq X d j (af H p$ .lst y) { s with heap:=s.heap.update p f,toks:=t }:=by
 let e:(s.heap.update p f).get? p=δ ("list"<|.seq i.toArray N):=by rw[Heap.get?_update_self f k (by rw[g]<;>rfl),g]
 erw[I.write (x:=p) (e:=p) (by rw[h];trivial) (.inl Z) (λb u m q=>(Heap.get?_update_other _ _$ Ne.symm m).trans q) #[_,e] ?_];rwa[l,i,N,r,e]
inductive tP(o i v:V)(H:Hp)(Q:Hp->Prop):Prop
 |mk(p a k j:_)(_:o= .ref p)(_:i= .int k)(_:H p=a⁻¹)(_:on a.length k=δ j)(_:Q (af H p (.lst (a.set j v))))
def zN:LM X tP:=by
 intro P s z H o i v O F u Q I R A B h;let(p,C,k,j,rfl,rfl,l,D,q):=h;cases R;let(t,rfl):=A;let(c,n,r,e,E):=I.lst l;let(d,G,m,w):=sI D;let f:=r.length;let J:=fc;let x:aq X P z (af H p$ .lst$ C.set j v) (s<|s.heap.update p (Ω (·.setIfInBounds j u))):=
  I.lstUpd l e (ZU c n j u) (r.set B j) (by rw[V2];rwa[E]) s.toks
 by_cases y:0<=k
 .let g:k.toNat=j:=by rw[seqIndex_of y w]at d;exact SK d
  rwa[PySem.W.ki_setAt e y P' (by rw[RS,<- f];rwa[w]) (by rw[g];rwa[_,x,q])]
 .let g:(k+(c.toArray.size:Int)).toNat=j:=by rw[seqIndex_neg P' m]at d;rw[RS,<- f];exact SK d
  rwa[PySem.W.ki_setBack e P' (by rw[RS,<- f];rwa[m]) P' (by rw[g];rwa[_,x,q])]
def Yf(lo H:FC Int)(n:Nat):(sliceBounds lo H ι n).1=((HT.sIx n 0 lo:Nat):Int)/\(sliceBounds lo H ι n).2.1=((HT.sIx n n H:Nat):Int)/\(sliceBounds lo H ι n).2.2=1:=by
 erw[?_,?_,Z]
 .cases lo with
  |none=>simp [sliceBounds,HT.sIx]
  |some i=>
   simp only[sliceBounds,HT.sIx,Wt,show(1:Int) > 0 by decide,Vm];by_cases h:i < 0
   .simp only[h,Vm]<;>omega
   .simp only[h,Te]<;>omega
 .cases H with
  |none=>simp [sliceBounds,HT.sIx]
  |some i=>
   simp only[sliceBounds,HT.sIx,Wt,show(1:Int) > 0 by decide,Vm];by_cases h:i < 0
   .simp only[h,Vm]<;>omega
   .simp only[h,Te]<;>omega
def Jf(i:FA ζ)(lo h:FC Int):slicePick i.toArray lo h ι=((i.drop$ HT.sIx i.length 0 lo).take$ HT.sIx i.length i.length h - HT.sIx i.length 0 lo).toArray:=by let(H,c,d):=Yf lo h i.toArray.size;unfold slicePick;rw[H,c,d];simp only[sliceRange_one,pick_run,RS]<;>rfl
inductive DL(K:γ)(x:V)(c b:FC Int)(H:Hp)(Q:VK):Prop
 |mk(a d:_)(_:x= .ref a)(_:aE K H a d)(_:∀p,H p=ι->Q (.ref p) (af H p (.lst (aN d c b))))
def kL:NH X (DL X.K):=by intro p s m H x v V n lo e S Q I R g P i h;let(a,c,rfl,j,q):=h;cases R;let(k,r,f,l):=I.list j;let d:=r.length;erw["list",_,slot_list_getitem.lookup,f.isList.typeIs,?_];erw[wpAny_getItem_list_slice f.isList g P i .none P9 ?_ (by rw[RS]<;>omega)];rw[Jf,<- d];erw[.ref (-s),_,I.laid (t':=s.toks) (o:=.lst (aN c lo e)) (λb O q=>RL _ q) (RO _) ?_,Z,q _$ I.hok.fresh$ RO _];rwa[Sf (zw c lo e) l,_,0,(r.drop$ HT.sIx c.length 0 lo).take$ HT.sIx c.length c.length e - HT.sIx c.length 0 lo,RQ _ Z]
noncomputable def dB:V->Bool
 | .non | .bl _ | .int _ | .str _=>μ
 |_=>ξ
noncomputable def nW:V->V->Bool
 | .non,.non=>μ
 | .bl a,.bl b=>a==b
 | .bl a,.int b=>(if a then 1 else 0)==b
 | .int a,.bl b=>a==(if b then 1 else 0)
 | .int a,.int b | .str a,.str b=>a==b
 |_,_=>ξ
def Zx{A:bU}{s:θ}(R:aB y u)(r:aB x v)(F:dB y=μ)(f:dB x=μ):SeqAt.EqAt A s u v (nW y x):=by
 cases y with
 |non=>
  cases R;cases x with
  |non=>cases r;rwa[SeqAt.EqAt.same _]
  |bl b=>cases r;rwa[SeqAt.EqAt.none_bool b]
  |int b=>let(t,rfl):=r;rwa[SeqAt.EqAt.none_int b t]
  |str b=>let(t,rfl):=r;rwa[SeqAt.EqAt.none_str b t]
  |_=>rwa[absurd (show ξ=μ from f) RZ]
 |bl a=>
  cases R;cases x with
  |non=>cases r;rwa[SeqAt.EqAt.bool_none a]
  |bl b=>cases r;rwa[SeqAt.EqAt.bool_bool a b]
  |int b=>let(t,rfl):=r;rwa[SeqAt.EqAt.bool_int a b t]
  |str b=>let(t,rfl):=r;rwa[SeqAt.EqAt.bool_str a b t]
  |_=>rwa[absurd (show ξ=μ from f) RZ]
 |int a=>
  let(T,rfl):=R;cases x with
  |non=>cases r;rwa[SeqAt.EqAt.int_none a T]
  |bl b=>cases r;rwa[SeqAt.EqAt.int_bool a T b]
  |int b=>let(t,rfl):=r;rwa[SeqAt.EqAt.int_int a T b t]
  |str b=>let(t,rfl):=r;rwa[SeqAt.EqAt.int_str a T b t]
  |_=>rwa[absurd (show ξ=μ from f) RZ]
 |str a=>
  let(T,rfl):=R;cases x with
  |non=>cases r;rwa[SeqAt.EqAt.str_none a T]
  |bl b=>cases r;rwa[SeqAt.EqAt.str_bool a T b]
  |int b=>let(t,rfl):=r;rwa[SeqAt.EqAt.str_int a T b t]
  |str b=>let(t,rfl):=r;rwa[SeqAt.EqAt.str_str a T b t]
  |_=>rwa[absurd (show ξ=μ from f) RZ]
 |_=>rwa[absurd (show ξ=μ from F) RZ]
def pK(x:V)(u:ζ):Bool:=match u with
 | .none=>nW .non x
 | .bool b=>nW (.bl b) x
 | .int i _=>nW (.int i) x
 | .str z _=>nW (.str z) x
 |_=>ξ
def xR(r:aB y u)(f:dB y=μ):pK x u=nW y x:=by
 cases y with
 |non |bl b=>cases r;rfl
 |int i |str z=>let(t,rfl):=r;rfl
 |_=>rwa[absurd (show ξ=μ from f) RZ]
theorem Jx:∀{c:FA V} {U:FA ζ},aw c U->c.all dB=μ->U.any (pK x)=c.any λy=>nW y x
 |_,_,.nil,_=>rfl
 |y::c,u::U,.cons r t,f=>by rw[xm,Tp]at f;rw[VB,VB,xR r f.1,Jx t f.2]
theorem qO(R:aB x v)(F:dB x=μ){c:FA V}{U:FA ζ}(h:aw c U)(f:c.all dB=μ):∀u∈U,SeqAt.EqAt A s u v (pK x u):=by
 induction h with
 |nil=>intro u hu;cases hu
 |cons r t g=>
  rw[xm,Tp]at f;intro d hu;rcases ω.mp hu with rfl |hu
  .rw[xR r f.1];rwa[Zx r R f.1 F]
  .rwa[g f.2 d hu]
def sG(x:V)(c:FA V):Bool:=c.any λy=>nW y x
inductive MX(K:γ)(a:Bool)(x y:V)(H:Hp)(Q:VK):Prop
 |mk(p b:_)(_:y= .ref p)(_:aE K H p b∨aC K H p b)(_:dB x=μ)(_:b.all dB=μ)(_:Q (.bl (if a then !sG x b else sG x b)) H)
def zG:gu X (compareOp .In) (MX X.K ξ):=by
 intro d s j H x y v u Q I R e h;let(p,k,rfl,hq,F,f,q):=h;cases e;rcases hq with hq |hq
 .let(i,r,P,g):=I.list hq;erw[SeqAt.in_listAt (pK x) P.isList (λw c=>qO R F r f w (c:)) #[.bl _,H,I,Z,?_]];rw[show i.toArray.any (pK x)=i.any (pK x) by simp,Jx r f];rwa[q]
 .let(i,r,P,g):=I.tuple hq;erw[SeqAt.in_tupleAt (pK x) P (λw c=>qO R F r f w (c:)) #[.bl _,H,I,Z,?_]];rw[show i.toArray.any (pK x)=i.any (pK x) by simp,Jx r f];rwa[q]
def JO:gu X (compareOp .NotIn) (MX X.K μ):=by
 intro d s j H x y v u Q I R e h;let(p,k,rfl,hq,F,f,q):=h;cases e;rcases hq with hq |hq
 .let(i,r,P,g):=I.list hq;erw[SeqAt.notIn_listAt (pK x) P.isList (λw c=>qO R F r f w (c:)) #[.bl _,H,I,Z,?_]];rw[show i.toArray.any (pK x)=i.any (pK x) by simp,Jx r f];rwa[q]
 .let(i,r,P,g):=I.tuple hq;erw[SeqAt.notIn_tupleAt (pK x) P (λw c=>qO R F r f w (c:)) #[.bl _,H,I,Z,?_]];rw[show i.toArray.any (pK x)=i.any (pK x) by simp,Jx r f];rwa[q]
inductive zV(K:γ)(a:FA V)(H:Hp)(Q:VK):Prop
 |mk(p b:_)(_:a=[.ref p])(_:aE K H p b∨aC K H p b)(_:Q (.int b.length) H)
def jN:dy X (.builtin "len") (zV X.K):=by
 intro d s g H x U Q I r h;let(p,y,rfl,hq,q):=h;let(u,rfl,e):=eG r;cases e;let j:=fc;rcases hq with hq |hq
 .let(i,R,P,f):=I.list hq;let c:=R.length;rwa[Calls.call_len_list P.isList (by simp only[RS]<;>omega) #[.int y.length,H,I.tok _,#[s.toks+1,by rw[RS,c]],q]]
 .let(i,R,P,f):=I.tuple hq;let c:=R.length;rwa[len_tuple P (by simp only[RS]<;>omega) #[.int y.length,H,I.tok _,#[s.toks+1,by rw[RS,c]],q]]
inductive qX(K:γ)(a:FA V)(H:Hp)(Q:VK):Prop
 |mk(p b:_)(_:a=[.ref p])(_:aE K H p b∨aC K H p b)(_:∀l,H l=ι->Q (.ref l) (af H l (.lst b)))
def JP:dy X (.type "list") (qX X.K):=by
 intro P s v H z U Q I r h;let(p,y,rfl,hq,q):=h;let(u,rfl,x):=eG r;cases x;let f:∀(i:FA ζ),aw y i->ο y<=υ->∀(c:df) (C:Nat),(∀b O,s.heap.get? b=δ O->c.get? b=δ O)->
   c.get? (-s)=δ { cls:=.type "list",dict:=ι,data:=.seq i.toArray C,slots:=(ε []) }->EP X P v Q (.ref (-s)) (s<|c):=λi R d c C k e=>
  #[.ref (-s),_,I.laid (t':=s.toks) k (RO _) (show aK X.prog X.w _ c _ (.lst y) from #[d,i,C,R,e]),Z,q _$ I.hok.fresh$ RO _]
 rcases hq with hq |hq
 .let(i,R,j,d):=I.list hq;let g:=R.length;let(o,l,m,n,t):=j.isList;rwa[call_list_seq p (.inl Z) l m t (λc C k e=>f i R d c C k e) (by simp only[RS]<;>omega)]
 .let(i,R,j,d):=I.tuple hq;let g:=R.length;let(o,l,m,n,t):=j;rwa[call_list_seq p (.inr Z) l m t (λc C k e=>f i R d c C k e) (by simp only[RS]<;>omega)]
inductive zd(K:γ)(a:FA V)(H:Hp)(Q:VK):Prop
 |mk(p b:_)(_:a=[.ref p])(_:(aE K H p b/\∀l,H l=ι->Q (.ref l) (af H l (.tup b)))∨(aC K H p b/\Q (.ref p) H))
def jL:dy X (.type "tuple") (zd X.K):=by
 intro P s g H x U Q I r h;let(p,y,rfl,h):=h;let(u,rfl,m):=eG r;cases m;rcases h with ⟨d,q⟩ | ⟨d,q⟩
 .let(i,R,f,j):=I.list d;let k:=R.length;erw[call_tuple_list f.isList (λc n=>?_) (by simp only[RS]<;>omega)];let l:aq X P g H (s<|c):=I.kept (t':=s.toks) n;let t:aq X P g (af H c.objs.size$ .tup y) (s<|c.push ("tuple"<|.seq i.toArray)):=
   l.laid (t':=s.toks) (λb o e=>RL _ e) (RO _) (show aK X.prog X.w _ _ _ (.tup y) from #[j,i,R,IsTup.new _ _])
  rwa[.ref c.objs.size,_,t,Z,q _$ l.hok.fresh$ RO _]
 .let(i,R,f,j):=I.tuple d;rwa[call_tuple_same f #[.ref p,H,I,Z,q]]
def OS(K:γ)(T:String)(x:V)(H:Hp):Prop:=match x with
 | .str _=>T="str"
 | .int _=>T="int"
 | .ref p=>(T="list"/\∃c,aE K H p c)∨(T="tuple"/\∃o,K.lookup p=δ o/\o.cls= .type "tuple"/\o.dict=ι)∨
   (T="dict"/\((∃k,H p=δ (.dK k))∨∃k,H p=δ (.dT k)))∨(T="set"/\∃S n,H p=δ (.set S n))
 |_=>False
def BE(I:aq X j u H s)(r:aB x v)(d:OS X.K T x H):
  s.TypeIs v T/\∀a,v= .ref a->∃O,s.heap.get? a=δ O/\O.dict=ι:=by
 cases x with
 |str z=>let(t,rfl):=r;cases (show T="str" from d);rwa[typeIs_str s z t,λ_ e=>nomatch e]
 |int i=>let(t,rfl):=r;cases (show T="int" from d);rwa[typeIs_int s i t,λ_ e=>nomatch e]
 |ref p=>
  cases r;rcases d with ⟨rfl,w,l⟩ | ⟨rfl,o,h,m,f⟩ | ⟨rfl,h⟩ | ⟨rfl,S,n,h⟩
  .let(q,_,P,_):=I.list l;erw[P.isList.typeIs,λa e=>?_];cases e;let(o,n,e,c,f,_):=P;rwa[o,e,f]
  .erw[#[#[o,I.kIn p o h,m],λa e=>?_]];cases e;rwa[o,I.kIn _ o h,f]
  .let z:∃o,s.heap.get? p=δ o/\o.ExactDict:=by
    rcases h with ⟨k,h⟩ | ⟨k,h⟩
    .let(_,_,_,_,o,_,_,e,E,_):=I.hok p _ h;rwa[o,e,E]
    .let(_,_,_,_,o,_,_,e,E,_):=I.hok p _ h;rwa[o,e,E]
   let(o,e,E):=z;erw[#[o,e,E.1],λa g=>?_];cases g;rwa[o,e,E.2.1]
  .let(o,_,_,_,e,E,_):=I.hok p _ h;erw[#[o,e,E.1],λa g=>?_];cases g;rwa[o,e,E.2.1]
 |_=>rwa[False.elim d]
def OL(K:γ)(T:String)(r:V->FA V->Hp->VK->Prop)(t:TE):TE:=λc H Q=>t c H λx h=>OS K T x h/\r x [] h Q
def OK(K:γ)(T:String)(r:V->FA V->Hp->VK->Prop)(d:TE)(t:TA):TE:=λc H Q=>d c H λx h=>OS K T x h/\t c h λe f=>r x e f Q
variable {o e:dr}{es:FA dr}{to:TE}{t:TA}{name:ρ}{apos cpos:Pos}{T id:String}{r:V->FA V->Hp->VK->Prop}
def Iq(P:PlainAttrs T)(S:Slot T name id)(f:typeOf (.builtin id)=pure (.type "method_descriptor"))(j:N5 X id r)(k:PE X o to)
  (c:↥(attributeBase o name X.env (eval o X.env)=eval o X.env)) (d:↥((apos.endLine==cpos.line)=μ)):PE X (.Call (.Attribute o name apos) [] [] cpos) (OL X.K T r to):=by
 intro p s g H Q I h;erw[wpAny_Call_method0_late c d$ aS (k p s g H _ I h) λv l z=>?_];let(x,m,i,R,n,q):=z;let(u,w):=BE i R n;rwa[T,id,P,S,f,u,w,VW Z$ PySem.evalArgs_none$ j p l g m x [] v [] Q i R .nil q]
def j9(P:PlainAttrs T)(S:Slot T name id)(i:typeOf (.builtin id)=pure (.type "method_descriptor"))(m:N5 X id r)(n:PE X o to)(q:PA X (e::es) t)
  (d:↥(attributeBase o name X.env (eval o X.env)=eval o X.env))
  (g:↥(((fz cpos$ Ψ (e::es) X.env).all (λx=>!x.1)&&(backToKw cpos$ keywordEach [] X.env).all (λx=>x.1.isSome)
   &&decide ((e::es).length+([]:FA Keyword).length+(if ([]:FA Keyword).isEmpty then 0 else 1) < 30))=μ))
  (f:↥((apos.endLine==cpos.line)=μ)) (u:↥(Ψ (e::es) X.env=(ξ,eval e X.env)::Ψ es X.env)) (c:↥((fz cpos$ Ψ es X.env).any (·.1)=ξ)):
  PE X (.Call (.Attribute o name apos) (e::es) [] cpos) (OK X.K T r to t):=by
 intro p s j H Q I h;erw[wpAny_Call_method_late d g f Z$ aS (n p s j H _ I h) λv w z=>?_];let(x,y,k,R,A,B):=z;let(C,D):=BE k R A;erw[T,id,P,S,i,C,D,?_];let l:=q cpos p w j y _ k B;rw[u]at l ⊢;erw[VW (by show(ξ||(fz cpos$ Ψ es X.env).any (·.1))=ξ;rw[c]<;>rfl)$ Calls.evalArgs_plain ?_];rwa[aS l λU E #[F,G,J,L,M]=>m p E j G x F v U Q J R L M]
end
def LH(X:Cx)(id:String)(r:V->FA V->Hp->VK->Prop):Prop:=
 ∀(p:FA (η×gb)) (s:θ) (a:St) (H:Hp) (x:V) (b:FA V) (v:ζ) (u:FA ζ) (Q:VK),aq X p a H s->aB x v->aw b u->r x b H Q->
  !X (call (.builtin id) (v::u)) (EP X p a Q) X.xe s
def aw.one{x:V}{U:FA ζ}(h:aw [x] U):∃u,U=[u]/\aB x u:=by
 cases h with
 |cons r t=>cases t;rwa[12,r]
def aw.zero:∀{u:FA ζ},aw [] u->u=[]
 |_,.nil=>rfl
def aw.dropLast(h:aw x u):aw x.dropLast u.dropLast:=by
 induction h with
 |nil=>rwa[.nil]
 |cons r t i=>
  cases t with
  |nil=>rwa[.nil]
  |cons q T=>rwa[.cons r i]
def aw.reverse(h:aw x u):aw x.reverse u.reverse:=by
 induction h with
 |nil=>rwa[.nil]
 |cons r t i=>rw[UB,UB];rwa[aw.append i (.cons r .nil)]
def ZV{c:Type}(l:FA c):l.eraseIdx (ο l - 1)=l.dropLast:=by
 induction l with
 |nil=>rfl
 |cons a r i=>
  cases r with
  |nil=>rfl
  |cons b r=>
   let e:(a::b::r).length - 1=((b::r).length - 1)+1:=by let h:(a::b::r).length=ο r+2:=rfl;let H:(b::r).length=ο r+1:=rfl;omega
   rw[e,List.eraseIdx_cons_succ,i];all_goals rfl
section
variable {X:Cx}{pins:FA (η×gb)}{σ:St}{H:Hp}{s:θ}{l b:η}{xs ys zs:FA V}
def aq.lset{i its':FA ζ}{f:Array ζ->Array ζ}{t':Nat}(I:aq X pins σ H s)(h:H l=xs⁻¹)
  (e:s.heap.get? l=δ ("list"<|.seq i.toArray n)) (a:f i.toArray=its'.toArray) (c:aw ys its') (d:ο ys<=υ):
  aq X pins σ (af H l$ .lst ys) { s with heap:=s.heap.update l (Ω f),toks:=t' }:=by
 let q:=PySem.IsL.update e f;rw[a]at q;erw[I.write (x:=l) (e:=l) (by rw[h];rwa[trivial]) (.inl Z) (λB u g j=>(Sl s.heap (Ω f)$ Sx g).trans j) #[_,q] ?_];rwa[d,its',_,c,q]
def aq.lnew{t':Nat}(I:aq X pins σ H s)(h:aw ys i)(a:ο ys<=υ):
  aq X pins σ (af H (-s)$ .lst ys) { s with heap:=s.heap.push ("list"<|.seq i.toArray),toks:=t' }:=
 I.laid (λ_ _ q=>RL _ q) (RO _) #[a,i,0,h,RQ _ Z]
def aq.fresh(I:aq X pins σ H s):H (-s)=ι:=I.hok.fresh (RO _)
def aq.lstM(I:aq X pins σ H s)(h:H l=xs⁻¹):ο xs<=υ/\∃(i:FA ζ) (n:Nat),aw xs i/\ο xs=ο i/\s.heap.get? l=δ ("list"<|.seq i.toArray n):=by let(z,i,n,r,e):=I.hok l _ h;rwa[z,i,n,r,r.length,e]
def gE(h:n<=υ):fR n=ξ:=by unfold fR;rwa[RW P']
end
section
variable {X:Cx}
inductive mM(x:V)(a:FA V)(H:Hp)(Q:VK):Prop
 |mk(l b y:_)(_:x= .ref l)(_:a=[y])(_:H l=b⁻¹)(_:ο b < υ)(_:Q .non (af H l (.lst (b++[y]))))
def jR:LH X "list.append" mM:=by intro p s d H x V v U Q I R b h;let(l,f,y,rfl,rfl,a,g,q):=h;cases R;let(u,rfl,c):=b.one;let(z,i,n,r,j,e):=I.lstM a;erw[WH F.slot_list_append #[_,e,Z] F.entry_list_append (F.args_list_append_2 _ _) (PySem.list_append l i.toArray n u (by rw[RS];omega)) #[e,?_]];erw[.non,_,I.lset (its':=i++[u]) a e P9 (r.append$ .cons c .nil) ?_,Z,q];rw[RN,Uy];omega
inductive tO(x:V)(a:FA V)(H:Hp)(Q:VK):Prop
 |mk(l b c d:_)(_:x= .ref l)(_:a=[.ref b])(_:H l=c⁻¹)(_:H b=d⁻¹)(_:ο c+ο d<=υ)(_:Q .non (af H l (.lst (c++d))))
def qt:LH X "list.extend" tO:=by
 intro p s t H x V v U Q I R g h;let(l,b,w,y,rfl,rfl,f,j,A,q):=h;cases R;let(u,rfl,k):=g.one;cases k;let(z,a,n,r,B,e):=I.lstM f;let(C,i,N,m,o,E):=I.lstM j;let d:a.toArray.size+i.toArray.size<=υ:=by rw[RS,RS];omega
 let c:¬(!a.toArray.isEmpty&&fR (a.toArray.size+i.toArray.size))=μ:=by rw[gE d,Wa];rwa[RZ]
 refine WH F.slot_list_extend #[_,e,Z] F.entry_list_extend (F.args_list_extend_2 _ _)
  (AutoSeq1.list_extend_list_list_0 l a.toArray n b i.toArray N c (by rw[RS];omega) P') #[e,E,?_]
 erw[.non,_,I.lset (its':=a++i) f e P9 (r.append m) ?_,Z,q];rw[RN];rwa[N09]
inductive M0(x:V)(a:FA V)(H:Hp)(Q:VK):Prop
 |mk(l b y:_)(_:x= .ref l)(_:a=[])(_:H l=b⁻¹)(_:b[ο b - 1]?=δ y)(_:Q y (af H l (.lst b.dropLast)))
def G8:LH X "list.pop" M0:=by
 intro p s m H x V v U Q I R d h;let(l,o,y,rfl,rfl,c,f,q):=h;cases R;let a:=d.zero;subst a;let(z,i,n,r,g,e):=I.lstM c;let(u,j,k):=r.get f;let b:i.toArray[i.toArray.size - 1]?=δ u:=by show i.toArray[ο i - 1]?=δ u;rw[<- TR,<- g];rwa[j]
 erw[WH F.slot_list_pop #[_,e,Z] F.entry_list_pop (F.args_list_pop_1 _) (MeetsSeq.list_pop_last l i.toArray n u b (by rw[RS];omega)) #[e,?_]];erw[y,_,I.lset (its':=i.dropLast) c e ?_ r.dropLast ?_,k,q]
 .show i.toArray.eraseIdxIfInBounds (i.toArray.size - 1)=i.dropLast.toArray;rw[RS,List.eraseIdxIfInBounds_toArray,ZV]
 .rw[List.length_dropLast];omega
inductive DJ(x y:V)(H:Hp)(Q:VK):Prop
 |mk(l b a c:_)(_:x= .ref l)(_:y= .ref b)(_:H l=a⁻¹)(_:H b=c⁻¹)(_:ο a+ο c<=υ)(_:∀p,H p=ι->Q (.ref p) (af H p (.lst (a++c))))
def zq:gu X (binaryOp .Add) DJ:=by
 intro p s m H x y v u Q I R c h;let(l,b,o,t,rfl,rfl,d,f,w,q):=h;cases R;cases c;let(z,a,n,r,A,e):=I.lstM d;let(B,i,N,g,j,E):=I.lstM f;erw[PySem.P.add_list e E ?_ (by rw[RS,RS];omega)];let k:a.toArray++i.toArray=(a++i).toArray:=by simp
 rw[k];rwa[.ref _,_,I.lnew (t':=s.toks) (r.append g) (by rw[RN];omega),Z,q _ I.fresh]
end
section
#print v
def wL(i I : FA ζ)(a c : Nat) : i.toArray.extract 0 a ++ I.toArray ++ i.toArray.extract c i.toArray.size = (i.take a ++ I ++ i.drop c).toArray := by
  apply Array.toList_inj.mp;first
    | (simp
       rwa[Tk P9])
    | simp [Tk]
    | simp
def ZW{a c n:Nat}(hac:a<=c)(hc:c<=n):sliceBounds (δ (a:Int)) (δ (c:Int)) ι n=((a:Int),(c:Int),1):=by
 simp only[sliceBounds,Wt];let h1:¬((a:Int) < 0):=P'
 let h2:¬((c:Int) < 0):=P'
 simp only[h1,h2,Te,show(1:Int) > 0 by decide,Vm];congr 1
 .omega
 .congr 1;omega
set_option maxRecDepth 100000 in
def QZ{a c : Nat}{Q : Unit -> θ -> Prop}
    (e : s.heap.get? l = δ { cls := .type "list", data := .seq i n }) (y : s.heap.get? b = δ { cls := .type "list", data := .seq N I }) (q : l ≠ b)
    (C : s.heap.IsSliceOf p z B .none) (P : IsPart z (δ (a : Int))) (D : IsPart B (δ (c : Int))) (r : a <= c) (F : c <= i.size)
    (f : i.size + N.size <= υ) (h : Q () { s with heap := s.heap.update l (Ω λX => X.extract 0 a ++ N ++ X.extract c X.size) }) :
    !A (setItem (.ref l) (.ref p)$ .ref b) Q E s := by
  let t : s.heap.IsList l i := PySem.IsL.isList e;let G : s.heap.IsList b N := PySem.IsL.isList y;obtain ⟨os, d, u, g⟩ := id C;let k : s.TypeIs (.ref p) "slice" := #[os, d, u];let j : ¬ ((rawPart ι == rawInt 0) = μ) := RZ;let H : fx (.ref l) (.ref b) = ξ := by unfold fx;rwa[beq_eq_false_iff_ne.mpr q]
  let o : (max (a : Int) (c : Int)).toNat = c := by omega
  let v : ((λX : Array ζ => X.extract 0 a ++ N ++ X.extract c X.size) i).size <= υ + 1 := by simp only [Ws, Array.size_extract];omega
  unfold setItem;try with_reducible erw[Sj ?_]
  first | refine RG (RM ?_) | skip
  apply WN t.typeIs Ra ?_;refine RG (SD (name := Str.ofString "__setitem__") t.typeIs slot_list_setitem
    (Sv slot_list_setitem t.typeIs entry_list_setitem ?_$ args_list_setitem _ _ _))
  show !_ (ro (.ref p) >>= _) _ _ s;erw[RG ?_];unfold ro;apply T7 k slice_no_index ?_;simp only [Option.isNone_none, Vm];erw[RM ?_];show !_ (typeOf (.ref p) >>= _) _ _ s;apply Ud k ?_;first
    | rw [RU Ra]
    | erw[VZ Ra ?_]
  rw [listSliceParts_eq];apply RG$ Ss d g (x := .none) Z$ RG$ wpAny_listPart .none ?_;rw [RU j];apply Ss d g (x := z) Z$ RG$ wpAny_listPart P ?_;apply Ss d g (x := B) Z$ RG$ wpAny_listPart D$ RM ?_;first
    | simp only [H, R8, Te]
    | erw[VZ H ?_]
    | (dsimp only
       rw [RU (by rw [H]; rwa[RZ])])
  erw[RG (m := sr (.ref b) "must assign iterable to extended slice") ?_];unfold sr;apply Ud G.typeIs ?_;first
    | erw[PySem.W.KFB.if_so Ra ?_]
    | rw [RV Ra]
    | simp only [Wo, Bool.true_or, Vm]
  unfold Builtin.List.listItems;apply Th y Z$ RM ?_;apply RG$ Th e Z$ RM ?_;apply Vn ((sliceIndices_raw (δ (a : Int)) (δ (c : Int)) ι i.size P9).trans$ SQ (pure : Int × Int × Int -> Sem (Int × Int × Int))$ ZW r F) ?_;show !_ (if ((1 : Int) == 1) = μ then _ else _) _ _ s;rw [RV Ra];apply Uj ?_;first
    | simp only [gE f, R8, Te]
    | erw[VZ (gE f) ?_]
  first | refine RG (RM ?_) | skip
  show !_ (updateSeq l (λX => X.extract 0 ((a : Int)).toNat ++ N ++ X.extract (max (a : Int) (c : Int)).toNat X.size) >>= _) _ _ s;rw [o, SJ];apply Wg (hz := Sf (UN _ _) f) (_hz' := v) e Z ?_;apply wpAny_letGo ?_;first
    | rwa[RG (RM (RM #[.none, Z, RM h]))]
    | rwa[RM #[.none, Z, RM h]]
end
section
variable {X:Cx}
def wJ{Q:Unit->θ->Prop}(I:aq X p o H s)
  (k:H l=x⁻¹) (q:H b=y⁻¹) (f:l≠b) (t:s.heap.IsSliceOf u v B .none) (R:aB (.int a) v) (D:aB (.int c) B) (m:0<=a) (g:a<=c) (J:c<=ο x)
  (K:ο x+ο y<=υ) (h:∀S,aq X p o (af H l$ .lst$ x.take a.toNat++y++x.drop c.toNat) S->Q () S):
  !X (setItem (.ref l) (.ref u)$ .ref b) Q X.xe s:=by
 let(T,rfl):=R;let(L,rfl):=D;let(z,d,n,r,M,e):=I.lstM k;let(N,i,O,E,F,G):=I.lstM q;let(j,rfl):=Int.eq_ofNat_of_zero_le m;let(C,rfl):=Int.eq_ofNat_of_zero_le (Int.le_trans m g);simp only[SJ]at h;erw[QZ (a:=j) (c:=C) e G f t (.int _ _) (.int _ _) P' (by rw[RS];omega) (by rw[RS,RS];omega)$ h _ ?_];erw[I.lset (its':=d.take j++i++d.drop C) (t':=s.toks) k e ?_ (aw.append (aw.append (r.take _) E)$ r.drop _) ?_]
 .rwa[wL d i j C]
 .rw[RN,RN,Se,Td];omega
end
end _L
namespace Att
open PySem PySem.W PySem.Calls PyProof.Rows
def Ku{P:Params}:∀(N:FA Int) (v:FA ζ),WellAll P h v (N.map WData.int)->IntsAre v N:=by
 intro N;induction N with
 |nil=>intro v w;rw[List.map_nil]at w;cases w;rwa[.nil]
 |cons n N i=>
  intro v w;rw[SN]at w;cases w with
  |cons a b=>cases a;rwa[.cons _ _$ i _ b]
def wI{l:OpenLaw}(k:l.most=δ n){P:Params}
  (H:l.row.toRowW.claim.pre args=μ) (g:WellAll P h v args):
  ∃a V N,v=[Φ a]/\args=[WData.list$ N.map WData.int]/\h.get? a=δ ("list"<|.seq V.toArray)/\IntsAre V N/\ο N<=n:=by
 let i:WShape.hasAll [] args [.list .int]=μ:=(pre_splitW H).1;let j:l.pre.holds [] { args:=args }=μ:=(pre_splitW H).2;let(d,r,rfl,m,o):=hasAllW_cons i;obtain rfl:=hasAllW_nil o;let(x,rfl,p):=hasW_list m;let(N,rfl):=items_int p;let b:ο N<=n:=by
  unfold OpenLaw.pre at j;let e:(WTm.not$ .lt (.lit$ .int (n:Int))$ .len$ .arg 0).holds [] { args:=[.list$ N.map .int] }=μ:=by let e:=(holds_andW j).1;rw[k]at e;rwa[e]
  let f:=condW_of e (w_not$ w_lt w_lit$ w_len_list$ w_arg Z);rw[RJ]at f;erw[VV λq=>?_];let Q:(n:Int) < ((N.length:Nat):Int):=by rwa[N09]
  first
   | (rw[R0 Q]at f;rwa[absurd f Ra])
   | (simp at f;omega)
 cases g with
 |cons w W=>
  cases W;cases w with
  |list s c=>rwa[11,N,22,s,Ku N _ c,b]
def wq(l:OpenLaw)(args:FA WData):l.row.toRowW.claim.post args (.bool μ) args=μ:=
 postW_of (r:=l.row.toRowW) (X:=(μ==μ))
  (show WShape.has [] (.bool μ) .bool=μ by first |rfl |decide |simp [WShape.has,WShape.arms,WShape.armsAll])
  (show(WTm.eq .res$ .lit$ .bool μ).value [] { args:=args,res:=δ (.bool μ),after:=args }=δ (.bool$ μ==μ) from w_eq_bool (w_res Z) w_lit) Z
def attach_call{l:OpenLaw}{y:cv->df->Prop}{d:DefRec}
  (x:l.most=δ n) (g:d.params.defaults=[])
  (call:∀(w:cv) (S s:θ) (m M:ρ->FC ζ) (F:η) (o:gb) (p C D:ζ) (a:η) (v:FA ζ) (N:FA Int),
   Ground q L [] z w S m M s.heap->y w s.heap->
   s.heap.get? F=δ o->o.data= .func (docDef d.name d.params d.body d.scope p C D)->s.heap.CodeRec C d.name->m d.name=↑F->
   s.heap.get? a=δ ("list"<|.seq v.toArray)->IntsAre v N->ο N<=n->s.gens=(ε [])->
   iu (χ l.prog w) callerA (.call (.ref F) #[[.ref a],[]]) (λr e=>r= .ok (.ret$ .bool μ)/\OldK s.heap e.heap/\e.os=s.os/\AllBare e.gens) s):
  WalkO q L z y l.row.toRowW d [] (λf v=>PySem.call f v):=by
 intro w S s m M G Y F o p C D B kV E I i t j J A V W H u K k O;obtain rfl:B= .none:=Dflts.none t g;obtain rfl:kV= .none:=Dflts.noKw t;let(a,v,N,rfl,rfl,b,h,c):=wI x H k;erw[enter_call$ UV (call w S s m M F o p C D a v N G Y E (fd_plain I) i j b h c J) λr e P=>?_];let(rfl,Q,R,T):=P;rwa[.inl #[.bool μ,.bool μ,[],Z,λ_=>Z,.bool μ,wq l _,λ_=>#[du,λ_ U=>(nomatch U)]],Q,R,T]
end Att
namespace _L
open PySem PySem.Spec PyProof.Rows
theorem Xn{v:FA ζ}{N:FA Int}(h:IntsAre v N):aw (N.map Da) v:=by
 induction h with
 |nil=>rwa[.nil]
 |cons n t _ f=>rwa[.cons #[t,Z] f]
def FK(H:Hp):Prop:=∀b,H b=ι∨∃o x,H b=δ (.frz o$ .lst x)
def yp{P:Δ}{K:γ}{S:θ}{i:FA ζ}
  (Y:K.In S.heap) (l:S.heap.Ns ab M) (c:S.heap.Ns builtinsNs mb) (Q:∀x:ρ,x≠"__name__"->mb x=bootBuiltins x) (p:S.heap.NoLimit) (hg:S.gens=(ε []))
  (J:S.heap.get? a=δ ("list"<|.seq i.toArray)) (hi:IntsAre i O) (hl:ο O<=υ) (hr:bX k callerA)
  (F:∀f:df,K.In f->f.Ns ab M->ai P w K M f CX k fa fd [x] sp) (j:∀(s:θ) (u:ζ),BindsTo s fd #[[u],[]] [(x,u)])
  (R:∀H:Hp,FK H->aE K H a (O.map Da)->sp [.ref a] H (λv _=>v= .bl μ) λ_ _ _=>False)
  (T:∀H e g,CX [] H S (λ_ _ _=>False) e g->False):
  iu (χ P w) callerA (.call (.ref fa) #[[.ref a],[]]) (λr g=>r= .ok (.ret$ .bool μ)/\OldK S.heap g.heap/\g.os=S.os/\AllBare g.gens) S:=by
 let rv:=Xn hi;let L:=hi.length;let C:∀H:Hp,FK H->aE K H a (O.map Da)->fQ P w H S.heap->(∀b,H b≠ι->b=a)->(H a≠ι->K.lookup a=ι)->
   iu (χ P w) callerA (.call (.ref fa) #[[.ref a],[]]) (λr g=>r= .ok (.ret$ .bool μ)/\OldK S.heap g.heap/\g.os=S.os/\AllBare g.gens) S:=by
  intro H hO hS t hA hK;let B:∀{b:η} {o:gb},S.heap.get? b=δ o->H b=ι->(mH S.heap H).get? b=δ o:=λe n=>yc e n;let U:∀{b:η} {o:gb} {E:Array DictEntry} {y:Nat},S.heap.get? b=δ o->o.data= .dict E y->H b=ι:=λ{b o E y} e d=>by
   cases q:H b with
   |none=>rfl
   |some u=>have W:b=a:=hA b (by rw[q];simp);subst W;rw[J]at e;cases e;let d':Data.seq i.toArray _=Data.dict E y:=d;cases d'
  let N:∀{b:η} {m:ρ->FC ζ},S.heap.Ns b m->(mH S.heap H).Ns b m:=λ{b m} #[o,E,y,e,d,r]=>#[o,E,y,B e$ U e d,d,r];let A:K.In (mH S.heap H):=λb o e=>B (Y b o e) (by
   cases q:H b with
   |none=>rfl
   |some u=>
    let W:b=a:=hA b (by rw[q];simp);subst W;rw[hK (by rw[q];simp)]at e;cases e)
  let hM:Mod K M (mH S.heap H):=#[A,N l,#[mb,N c,Q],let #[mc,h1,h2]:=p;#[mc,N h1,h2]];let e0:pi P w K M (mH S.heap H) callerA [] S H:=#[Z,hM,λb o e=>C3 e,Wz$ vq _ _,trivial,λb c=>absurd (show b∈([]:FA η) from c) P9,t,.of_eq hg];erw[UV ((F _ A$ N l).run callerA [] S H #[[.ref a],[]] [.ref a] [.ref a] _ _ hr e0 (j S$ .ref a) (.cons Z .nil) (R H hO hS)) λr g h=>?_];cases r with
  |error e=>exact(T H e g h).elim
  |ok fl=>
   cases fl with
   |next |brk |cont=>rwa[False.elim h]
   |ret u=>
    let(v,H',os,D,un,G,r',q):=h;let q':v= .bl μ:=q;subst q';obtain rfl:u=ms μ:=r';erw[Z,OldK.of_keep λb o e=>?_,os,D];cases q:H b with
    |none=>rwa[un.keep b o e q (by intro z;rwa[absurd (show b∈([]:FA η) from z) P9]) P9]
    |some u=>
     rcases hO b with z | ⟨ob,xs,z⟩
     .rw[q]at z;cases z
     .let z2:=un.frzs b ob _ z;let(e1,_):=t b _ z;let(e2,_):=G b _ z2;rw[e]at e1;cases e1;rwa[e2]
 cases X:K.lookup a with
 |some o=>have e:=Y a o X;rw[J]at e;cases e;erw[C (λ_=>ι) (λ_=>.inl Z) (.inr #[_,i.toArray,_,X,222,by rw[RS,L];rwa[hl],(rv:)]) (λb u z=>by let I:(ι:FC HO)=δ u:=z;cases I) (λb z=>absurd Z z) λz=>absurd Z z]
 |none=>
  erw[C (λb=>if b=a then δ (.frz ("list"<|.seq i.toArray)$ .lst$ O.map Da) else ι) (λb=>?_) (.inl$ .inr #[("list"<|.seq i.toArray),RV Z]) (λb u z=>?_) (λb z=>?_) λ_=>X]
  .by_cases c:b=a
   .rwa[.inr #[11,RV c]]
   .rwa[.inl$ RU c]
  .by_cases c:b=a
   .let I:=(RV c).symm.trans z;cases I;subst c;rwa[J,by rw[RJ];rwa[hl],i,_,rv,J]
   .let I:=(RU c).symm.trans z;cases I
  .by_cases c:b=a
   .rwa[c]
   .rwa[absurd (RU c) z]
def En{l:ti}{n k:Nat}{E:cv->df->Prop}{d:DefRec}{K:Params->γ}{CX:cv->uV}{sp:cv->Sp}{x:ρ}
  (O:l.most=δ n) (r:n<=υ) (t:d.params.defaults=[]) (P:bX k callerA)
  (Q:∀(w:cv) (h:df),E w h->(K w.params).In h)
  (F:∀(w:cv) (m:ρ->FC ζ) (p:η) (h:df),(K w.params).In h->h.Ns ab m->m d.name=↑p->
   ∃y:dN,(∀(s:θ) (u:ζ),BindsTo s y #[[u],[]] [(x,u)])/\
    ∀B:df,(K w.params).In B->B.Ns ab m->ai l.prog w (K w.params) m B (CX w) k p y [x] (sp w))
  (z:∀(w:cv) (H:Hp) (a:η) (N:FA Int),ο N<=n->FK H->aE (K w.params) H a (N.map Da)->sp w [.ref a] H (λv _=>v= .bl μ) λ_ _ _=>False)
  (A:∀(w:cv) (H:Hp) (s:θ) (e:ζ) (C:θ),CX w [] H s (λ_ _ _=>False) e C->False):
  PySem.W.WalkO q L XP E l.row.toRowW d [] (λf I=>PySem.call f I):=by
 erw[Att.attach_call O t λw J S m mb p o pm cd R a I N G Y ho hd U D j i c X=>?_];let M:=Q w _ Y;let(y,hb,hF):=F w m p _ M G.T.g D;rwa[yp M G.T.g G.T.b G.T.builtins G.T.nolimit X j i (Sf c r) P hF hb (λH hO hS=>z w H a N c hO hS) λH e C=>A w H S e C]
noncomputable def bH(s:de)(j:Nat):de:=match s with
 | .ClassDef _ _ _ b _ _ _ _ _ _ _=>b.getD j (.Pass #[0,0,0,0])
 |_=>.Pass #[0,0,0,0]
noncomputable def bZ(s:de):Arguments:=match s with
 | .FunctionDef _ a _ _ _ _ _ _ _ _=>a
 |_=>{ posonlyargs:=[],args:=[],vararg:=ι,kwonlyargs:=[],kw_defaults:=[],kwarg:=ι,defaults:=[] }
noncomputable def bG(s:de):FA de:=match s with
 | .FunctionDef _ _ b _ _ _ _ _ _ _=>b
 |_=>[]
noncomputable def ae(s:de):gO:=match s with
 | .FunctionDef _ _ _ _ _ _ S _ _ _=>S
 |_=>{ kind:=.function,names:=[],isGenerator:=ξ,isCoroutine:=ξ }
abbrev ay:uV:=λ_ _ _ _ _ _=>False
abbrev E0:XK:=λ_ _ _=>False
def bg{X:Cx}:dE ay X E0:=λ_ _ _ _ _ _ _ h=>h.elim
structure aM(K:γ)(x qual:ρ)(st:de)(f:η)(fd:dN):Prop where
 ex:∃(oc:ζ) (od:FC η) (kV doc pm:ζ) (an:FC η) (cdv ct:ζ) (osl:Array (FC ζ)),
  fd=ua x qual (bZ st) (bG st) (ae st) .none kV doc pm an cdv ct/\K.lookup f=δ #[oc,od,.func fd,osl]/\codeIn K cdv qual=μ
 kp:ii K (.ref f)=μ
section
variable {P:Δ}{w:cv}{K:γ}{mg:ρ->FC ζ}{base:df}
abbrev Fr(K:γ)(x:ρ):=aM K x x
def aM.ok{st:de}{d:Sp}(F:aM K x a st f i)(S:al N p (ae st))
  (b:∀(c:ζ) (A:bU) (o:FA Env) (s:θ) (H:Hp) (v:FA V) (Q:VK) (E:XK),bX k (A.deeper$ envOfC a (ae st) (-s) f c)->d v H Q E->
   let X:=gA ay P w K mg base N a (ae st) f c A o s H E;∃t,nZ X.nox (bG st) t/\t { nx:=λ_ j=>Q .non j,rt:=Q } (gX N v) H)(len:∀v H Q E,d v H Q E->ο v=ο p:=by rintro _ _ _ _⟨⟩;subst_vars;rfl):ai P w K mg base ay (k+1) f i p d:=by
 let(m,n,kV,D,r,u,c,C,O,rfl,lk,e):=F.ex;erw[EO lk e S len λA o s H v Q E l g=>?_];let(t,h,q):=b c A o s H v Q E l g;rwa[t,h.nox,q]
def aM.binds{st:de}{p:FA ρ}(F:aM K x q st f b)
  (h:∀(kV d a:ζ) (A:FC η) (c C:ζ) (u:FA ζ),ο u=ο p->bindArgs (ua x q (bZ st) (bG st) (ae st) .none kV d a A c C) #[u,[]]=pure (p.zip u)):ax K b p []:=by
 let(O,e,kV,d,a,A,c,C,o,rfl,lk,H):=F.ex;rwa[.all$ h kV d a A c C]
def xZ{st:de}{kV:ζ}(l:K.lookup f=δ #[O,e,.func$ ua x q (bZ st) (bG st) (ae st) .none kV d p a C b,o])
  (c:codeIn K C q=μ) (k:ii K (.ref f)=μ):aM K x q st f (ua x q (bZ st) (bG st) (ae st) .none kV d p a C b):=#[#[O,e,kV,d,p,a,C,b,o,Z,l,c],k]
end
def zh(h:bX k A):A.units+1 < cLine:=TZ (Nat.add_le_add_left (Ra:1<=64) _) h.units
section
variable {X:Cx}
def pv(i:Nat){x:ρ}{p:Pos}(H:↥(X.N[i]?=δ x))(a:NK X.env.scope x:=by first |exact Θ Z |exact ge (Θ Z) |exact ge$ ge Z)(b:↥((x==("__debug__":ρ))=ξ))
  (h:↥((x==("__classdict__":ρ))=ξ)):PE X (.Name x p) (ba i):=Iu H a b h
end
def pM{A B:Prop}(h:B):if ξ=μ then A else B:=by rw[RU RZ];rwa[h]
def yj{A B:Prop}(h:A):if μ=μ then A else B:=by rw[RV Z];rwa[h]
def cf{c A B:Prop}[Decidable c](H:c->A)(a:¬c->B):if c then A else B:=by
 by_cases h:c
 .rw[RV h];rwa[H h]
 .rw[RU h];rwa[a h]
def aa(H h:Hp):Prop:=∀b o,H b=δ o->h b=δ o
def aa.refl(H:Hp):aa H H:=λ_ _ h=>h
def aa.trans(a:aa H d)(b:aa d e):aa H e:=λc o h=>b c o (a c o h)
def aa.free(e:aa H a)(h:a l=Option.none):H l=Option.none:=by
 cases q:H l with
 |none=>rfl
 |some o=>rw[e l o q]at h;cases h
def aa.seq{K:γ}(e:aa H b)(h:aE K H a x):aE K b a x:=by
 rcases h with (h | ⟨o,h⟩) |h
 .rwa[.inl$ .inl$ e _ _ h]
 .rwa[.inl$ .inr #[o,e _ _ h]]
 .rwa[.inr h]
section
variable {prog:Δ}{w:cv}{A:bU}{R:Result->θ->Prop}{s:θ}
abbrev EA:ζ->θ->Prop:=λ_ _=>False
def va{iter:dr}(I:Nat->θ->Prop)
  (T:∀n s,I n s->!A (pyNext B) (λr S=>match r with
   |none=>R (.ok .next) S
   |some v=>!A (letOwnedTupleGo t B v) (λ_ b=>!A (assign t e v) (λ_ d=>
     !A (forIn l μ λc r=>if r=μ then do let o <- isTrue c e (eval c e);pure (ForInStep.yield o) else pure (ForInStep.yield r)) (λo a=>
      if o=μ then !A (eval E e) (λx g=>
       !A (call (.builtin "list.append") [p,x]) (λ_ i=>∃m,m < n/\I m i) EA g) EA a
      else ∃m,m < n/\I m a) EA d) EA b) EA S) EA s)
  (n:Nat) (h:I n s):
  iu (χ prog w) A (.compLoop (.ListComp E [#[t,iter,l,0]] k C) 0 B p e) R s:=by
 erw[codeAny_loop Z I (λn s D=>?_) n h];show π _ A ((compTurn (.ListComp E [#[t,iter,l,0]] k C) 0 B p e).onRaise (λx=>do noteFrame x e;theTreesLotGoes x)) _ _ s;erw[wpAny_noted ?_];rw[compTurn_list];apply UF$ RG$ Ti (T n s D) (λr S H=>?_) λ_ _ f=>f.elim;cases r with
 |none=>rwa[RM H]
 |some v=>
  apply Ti H (λ_ b q=>?_) λ_ _ f=>f.elim;apply Ti q (λ_ d u=>RG (Ti u (λo a j=>?_) λ_ _ f=>f.elim)) λ_ _ f=>f.elim;cases o with
  |false=>rwa[RM #[Z,j]]
  |true=>rwa[RG$ RG$ Ti j (λx g y=>RG (Ti y (λ_ i z=>RM (RM #[Z,z])) λ_ _ f=>f.elim)) λ_ _ f=>f.elim]
end
noncomputable def bj(X:Cx)(s:gO)(M:FA ρ)(c:FA (ρ×η))(C:η)(f:FA η)(S:θ)(H:Hp):Cx where
 prog:=X.prog
 w:=X.w
 K:=X.K
 mg:=X.mg
 base:=X.base
 A:=X.A
 N:=M
 s₀:=S
 H₀:=H
 env:=compEnvC s c C X.env
 outer:=X.stack
 stack:=X.stack
 ex:=f
 fn:=λ_=>ξ
 calm:=X.calm
 pn:=[]
 xe:=λ_ _=>False
noncomputable def Lu(n:Nat)(I:FA Nat)(a:St):St:=fJ n ι++I.map λi=>(a[i]?).getD ι
structure a5(N:FA ρ)(sc scope:gO)(M:FA ρ)(nT:Nat)(ix:FA Nat):Prop where
 cell:∀y∈scope.names,y.2≠ .cell
 kind:scope.kind= .function
 loc:∀y∈scope.names,y.2= .local->scope.names.lookup y.1=δ .local
 fre:∀y∈scope.names,y.2= .free->sc.names.lookup y.1=δ .cell
 nms:M.drop nT=ix.map λi=>N.getD i Str.empty
 len:ο M=nT+ο ix
 vis:∀i∈ix,scope.names.lookup (N.getD i Str.empty)=δ .free
theorem JQ{E:Env}(c:E.scope.kind= .function):∀{N:FA (ρ×NameKind)} {y:ρ},N.lookup y=δ .free->E.kindOf y=δ .cell->
  (N.map λ(n,k)=>if (k==NameKind.free&&E.scope.kind== .function&&E.kindOf n==δ .cell) then (n,NameKind.cell) else (n,k)).lookup y=δ .cell
 | [],_,h,_=>by simp at h
 | (n,k)::r,y,h,b=>by
  let i:=@JQ E c r y;show hG y ((if (k==NameKind.free&&E.scope.kind== .function&&E.kindOf n==δ .cell)=μ then (n,NameKind.cell) else (n,k))::_)=_;cases H:y==n with
  |true=>
   simp only[To,H]at h;cases h;let e:y=n:=by simpa using H
   subst e;rw[RV (by rw[c,b];rfl)];simp [To]
  |false=>
   simp only[To,H]at h;by_cases a:(k==NameKind.free&&E.scope.kind== .function&&E.kindOf n==δ .cell)=μ
   .rw[RV a];simp only[To,H];rwa[i h b]
   .rw[RU a];simp only[To,H];rwa[i h b]
theorem QB{E:Env}:∀{N:FA (ρ×NameKind)} {y:ρ} {K:NameKind},
  (N.map λ(n,k)=>if (k==NameKind.free&&E.scope.kind== .function&&E.kindOf n==δ .cell) then (n,NameKind.cell) else (n,k)).lookup y=δ K->
  ∃k,N.lookup y=δ k/\(K=k∨k= .free)
 | [],_,_,h=>by simp at h
 | (n,k)::r,y,K,h=>by
  let i:=@QB E r y K;let h:hG y ((if (k==NameKind.free&&E.scope.kind== .function&&E.kindOf n==δ .cell)=μ then (n,NameKind.cell) else (n,k))::_)=δ K:=h;cases a:y==n with
  |true=>
   erw[k,by simp only[To,a],?_];by_cases H:(k==NameKind.free&&E.scope.kind== .function&&E.kindOf n==δ .cell)=μ
   .right;simp only[Tp]at H;simpa using H.1.1
   .rw[RU H]at h;simp only[To,a]at h;left;exact(SK h).symm
  |false=>
   let b:hG y (r.map λ(n,k)=>if (k==NameKind.free&&E.scope.kind== .function&&E.kindOf n==δ .cell) then (n,NameKind.cell) else (n,k))=δ K:=by
    by_cases H:(k==NameKind.free&&E.scope.kind== .function&&E.kindOf n==δ .cell)=μ
    .rw[RV H]at h;simp only[To,a]at h;rwa[h]
    .rw[RU H]at h;simp only[To,a]at h;rwa[h]
   let(c,e,q):=i b;rwa[c,by simp only[To,a];rwa[e],q]
noncomputable def aY(e:Env):FA (ρ×NameKind)->FA (ρ×η)->FA (ρ×η)
 | [],a=>a
 | (n,k)::r,a=>if k== .free then aY e r ((n,(e.cells.lookup n).getD 0)::a) else aY e r a
theorem qE{E:Env}:∀{N:FA (ρ×NameKind)} {acc:FA (ρ×η)},(∀y∈N,y.2= .free->∃c,E.cells.lookup y.1=δ c)->(∀x c,acc.lookup x=δ c->E.cells.lookup x=δ c)->
  ∀x c,(aY E N acc).lookup x=δ c->E.cells.lookup x=δ c
 | [],_,_,b,x,c,h=>b x c h
 | (n,k)::r,acc,f,b,x,c,h=>by
  unfold aY at h;by_cases g:(k==NameKind.free)=μ
  .rw[RV g]at h;erw[qE (λy H=>f y (Sd _ H)) (λX j a=>?_) x c h];let(C,d):=f (n,k) Sa (g:);let d:E.cells.lookup n=δ C:=d;simp only[To]at a;cases i:X==n with
   |true=>
    rw[i]at a;let e:X=n:=by simpa using i
    subst e;rw[d]at a;rw[d];rwa[a]
   |false=>rw[i]at a;rwa[b _ _ a]
  .rw[RU g]at h;rwa[qE (λy H=>f y (Sd _ H)) b x c h]
theorem qY:∀{a:FA (ρ×η)},(∃c,(x,c)∈a)->∃c,a.lookup x=δ c
 | [],h=>by let(_,h):=h;cases h
 | (n,c)::r,h=>by
  simp only[To];cases H:x==n with
  |true=>rwa[c,Z]
  |false=>
   let(C,h):=h;rcases ω.mp h with e |h
   .injection e with E _;subst E;simp at H
   .rwa[qY #[C,h]]
theorem Jp:∀{N:FA (ρ×NameKind)} {a:FA (ρ×η)},((∃c,(x,c)∈a)∨(x,NameKind.free)∈N)->∃c,(x,c)∈aY E N a
 | [],_,h=>by
  rcases h with h |h
  .rwa[h]
  .cases h
 | (n,k)::r,a,h=>by
  unfold aY;by_cases H:(k==NameKind.free)=μ
  .rw[RV H];erw[Jp ?_];rcases h with ⟨c,h⟩ |h
   .rwa[.inl #[c,Sd _ h]]
   .rcases ω.mp h with e |h
    .injection e with b _;subst b;rwa[.inl #[_,Sa]]
    .rwa[.inr h]
  .rw[RU H];erw[Jp ?_];rcases h with h |h
   .rwa[.inl h]
   .rcases ω.mp h with e |h
    .injection e with _ d;subst d;rwa[absurd Z H]
    .rwa[.inr h]
theorem Jg{e:Env}:∀(N:FA (ρ×NameKind)) (A:FA (ρ×η)),(∀y∈N,y.2= .free->∃c,e.cells.lookup y.1=δ c)->
  (forIn N A (λx r=>match x with | (name,K)=>if (K==NameKind.free)=μ then (do let a <- cellOf e name;pure (ForInStep.yield ((name,a)::r))) else pure (ForInStep.yield r)):Sem (List$ ρ×η))=pure (aY e N A)
 | [],A,_=>rfl
 | (n,k)::r,A,b=>by
  let i:=λA=>Jg r A λy H=>b y (Sd _ H);rw[Uu];unfold aY;by_cases h:(k==NameKind.free)=μ
  .let(C,E):=b (n,k) Sa (h:);let E:e.cells.lookup n=δ C:=E;let d:cellOf e n=pure C:=by unfold cellOf;rw[E]
   rw[RV h];simp only[h,Vm,d,E];rwa[i _]
  .rw[RU h];simp only[h];rwa[i _]
def Jh{e:Env}{S:gO}(H:∀y∈S.names,y.2= .free->∃c,e.cells.lookup y.1=δ c):closureFor S e=pure (aY e S.names []):=by let h:=Jg S.names [] H;rwa[SQ (λt:Sem (List$ ρ×η)=>t >>= λs=>pure s) h]
section
variable {X:Cx}{pins:FA (η×gb)}{σ:St}{H:Hp}{s:θ}
def JG(I:aq X pins σ H s)(S:a5 X.N X.env.scope a M n i):∀y∈a.names,y.2= .free->∃c,X.env.cells.lookup y.1=δ c:=
 λy h e=>I.ok.has y.1 (.inl$ S.fre y h e)
def xz{g:df}(I:aq X pins σ H s)(F:∀b∈Y,gw X pins H b)(P:∀b∈Y,b < -s)
  (S:a5 X.N X.env.scope a M n G) (Q:-s<=C) (O:∀b o,s.heap.get? b=δ o->g.get? b=δ o) (R:g.Ns C m):
  aq (bj X a M (aY X.env a.names []) C Y s H) [] (Lu n G σ) H { s with heap:=g,toks:=tk }:=by
 let sub:∀x c,(aY X.env a.names []).lookup x=δ c->X.env.cells.lookup x=δ c:=qE (JG I S) (λx c h=>by simp at h);let j:∀x,a.names.lookup x=δ .free->∃c,(aY X.env a.names []).lookup x=δ c:=λx e=>qY (Jp$ .inr$ TM e);let hex:∀x K,(relabel a X.env).names.lookup x=δ K->(K= .cell∨K= .free)->a.names.lookup x=δ .free:=λx K e A=>by
  let(k,t,q):=QB e;rcases q with q |q
  .rcases A with z |z
   .rwa[absurd (q.symm.trans z)$ S.cell (x,k)$ TM t]
   .rw[t,<- q,z]
  .rw[t,q]
 refine#[#[I.ok.mod,S.kind,I.ok.glob,I.ok.blt,Q,λx y c h1 h2=>I.ok.inj x y c (sub x c h1) (sub y c h2),λx hx=>?_,λx c hx=>?_,I.ok.hd,I.ok.frames,.inl Z,λb w=>#[λz=>?_,λx c e=>?_],I.bs,Sf I.ok.bsz I.sz,λb o e w=>?_,λb w hz=>?_,I.stack,I.stkFree],
  rfl,I.bare,Un.kept O,#[m,R,λk y v t E _=>?_],λx c e=>?_,I.hok.fresh Q,λx c e=>I.freeC x c (sub x c e),λp hp=>absurd (show p∈([]:FA (η×gb)) from hp) P9,I.hok.kept O,?_]
 .rcases hx with hx |hx
  .rwa[j x$ hex x _ hx$ .inl Z]
  .rwa[j x$ hex x _ hx$ .inr Z]
 .rwa[absurd (show ξ=μ from hx) Ra]
 .let z':b=C:=z;let:=P b w;rw[z']at this;rwa[absurd this$ Nat.not_lt.mpr Q]
 .exact(F b w).2.2.2.2.1 x c (sub x c e)
 .rcases(F b w).2.2.2.1 with z |z
  .rwa[I.ok.noex b o e z]
  .rwa[absurd (Si (RT e)$ Sf I.ok.bsz z)$ Tf _]
 .rcases ω.mp (I.stkSub b hz) with z |z
  .exact(F b w).2.1 z
  .exact(F b w).2.2.1 z
 .let E:(Lu n G σ)[k]?=δ (δ v):=E;let t:M[k]?=δ y:=t;unfold Lu at E;by_cases A:k < n
  .rw[Ui (A:),List.getElem?_replicate]at E;simp [A]at E
  .let B:n<=k:=VV A;rw[Uc (B:),Va,RX]at E;cases J:G[k - n]? with
   |none=>rw[J]at E;cases E
   |some i=>
    rw[J]at E;let L:(σ[i]?).getD ι=δ v:=SK E;let V:σ[i]?=δ (δ v):=by
     cases W:σ[i]? with
     |none=>rw[W]at L;cases L
     |some o=>rw[W]at L;rwa[SQ δ L]
    let hi:i < ο X.N:=by rw[<- I.len];exact(ν.mp V).1
    let e7:y=X.N.getD i Str.empty:=by
     let q:(M.drop n)[k - n]?=δ y:=by rw[Vr];rw[Nat.add_sub_cancel' B];rwa[t]
     rw[S.nms,RX,J]at q;exact(SK q).symm
    let e8:X.N[i]?=δ y:=by rw[e7,RI hi,RY,RI hi];rfl
    let d:a.names.lookup y=δ .free:=by rw[e7];rwa[S.vis i$ Sc J]
    let f:X.env.scope.names.lookup y=δ .cell:=S.fre (y,.free) (TM d) Z;let(m',_,hl):=I.loc;let(u,r,l):=hl i y v e8 V (.inr$ .inl f);erw[u,r,?_];rcases l with ⟨l,_⟩ | ⟨_,c,ec,o,T,U⟩
    .let l:X.env.scope.names.lookup y=δ .local:=l;rw[f]at l;cases l
    .let(c',D):=j y d;let q:=sub y c' D;rw[ec]at q;cases q;rwa[.inr #[.inl$ JQ I.ok.kind d f,c,D,o,O _ _ T,U]]
 .let(v,o,T,U):=I.cell x c (sub x c e);rwa[v,o,O _ _ T,U]
 .show(Lu n G σ).length=ο M;rw[S.len];simp [Lu]
def aq.track(I:aq X pins σ H s)(f:gw X pins H D)(G:X.s₀.heap.objs.size<=D)(a:aK X.prog X.w (af H D o) s.heap D o):aq X pins σ (af H D o) s:=by
 let n:=f.1;let N:∀b u,H b=δ u->b≠D:=λb u e=>jk e n;erw[I.ok,I.os,I.bare,#[I.base.keep,I.base.slot,λb O e q i=>?_,I.base.there,λb d e=>?_,λb O u e=>?_,λb P e=>?_],I.loc,I.cell,?_,λx c e=>?_,λp h=>?_,λb u e=>?_,I.len]
 .rw[jh$ R6$ Si (RT e) G];rwa[I.base.free b O e q i]
 .let q:=I.base.tups b d e;rw[jh$ N _ _ q];rwa[q]
 .let q:=I.base.frzs b O u e;rw[jh$ N _ _ q];rwa[q]
 .let(m,q):=I.base.tbls b P e;rwa[m,by rw[jh$ N _ _ q];rwa[q]]
 .rw[jh$ Sx f.2.1];rwa[I.free]
 .rw[jh$ f.2.2.2.2.1 x c e];rwa[I.freeC x c e]
 .let(e,q,r):=I.pin p h;rwa[e,by rw[jh$ f.2.2.2.2.2 p h];rwa[q],r]
 .by_cases g:b=D
  .subst g;rw[jc]at e;cases e;rwa[a]
  .rw[jh g]at e;exact(I.hok b u e).stay (λ_ _ _ q=>q) (λc q=>by rw[jh$ N _ _ q];rwa[q]) λc d q=>by rw[jh$ N _ _ q];rwa[q]
noncomputable abbrev me(u:FA ζ):gb:=("list"<|.seq u.toArray u.length)
def vJ(u:FA ζ)(y:ζ):(("list"<|.seq (u.toArray.push y) (ο u+1)):gb)=me (u++[y]):=by show(("list"<|.seq (u.toArray.push y) (ο u+1)):gb)=("list"<|.seq (u++[y]).toArray (u++[y]).length);rw[RN,Uy,List.push_toArray]
def PF(X:Cx)(i:FA dr)(t:TT):Prop:=
 ∀(pins:FA (η×gb)) (s:θ) (σ:St) (H:Hp) (Q:Bool->Hp->Prop),aq X pins σ H s->t σ H Q->
  !X (forIn i μ λc r=>if r=μ then do let o <- isTrue c X.env (eval c X.env);pure (ForInStep.yield o) else pure (ForInStep.yield r)) (TP X pins σ Q) X.xe s
def nO:TT:=λ_ H Q=>Q μ H
def kG:PF X [] nO:=λ_ _ _ H _ I h=>wpAny_tests_nil #[H,I,h]
def Zy{c:dr}{t:TT}(h:PT X c t):PF X [c] t:=λpins s σ H Q I q=>wpAny_tests_one (h pins s σ H Q I q)
noncomputable def tY(I:FA Nat)(σ:St):St:=I.map λi=>(σ[i]?).getD ι
def eQ(J:It)(n:Nat)(t:St)(g:TG)(j:TT)(k:TE)(Q:FA V->Hp->Prop)(H:Hp):Prop:=
 ∃W:Nat->Nat->FA V->Hp->Prop,(∃m,W 0 m [] H)/\∀i m Y H,W i m Y H->
  (J.stop i H/\Q Y H)∨(J.go i H/\ο Y < υ/\∃N:FA V->Hp->Prop,(∀c h,N c h->∃M,M < m/\W (i+1) M c h)/\
   ∀x d (e:St),ο e=n->J.yld i H x d->g x (e++t) d λa h=>(∃T:St,ο T=n/\a=T++t)/\j a h λb f=>if b=μ then k a f λy l=>N (Y++[y]) l else N Y f)
def QC{iter:dr}
  {RR:ζ->η->Result->θ->Prop}
  (I:aq X pins σ H s) (hc:X.calm=μ) (T:oh X.prog X.w X.K tg J k it tn) (st:tn 0 s.heap) (hf:∀b∈k,gw X pins H b) (S:a5 X.N X.env.scope scope M nT ix)
  (hg:∀cl C k s H,PG (bj X scope M cl C k s H) tg g) (hi:∀cl C k s H,PF (bj X scope M cl C k s H) i0 tt) (he:∀cl C k s H,PE (bj X scope M cl C k s H) e0 te)
  (h:eQ J nT (tY ix σ) g tt te Qf H)
  (h':∀D C Y m t G,(∀b o u,H b=δ (.frz o u)->t b=δ (.frz o u))->t D=ι->aq X pins σ (af t D$ .lst Y) G->gw X pins (af t D$ .lst Y) C->G.heap.Ns C m->Qf Y t->RR (.ref D) C (.ok .next) G):
  !X (newList []) (λacc B=>!X (newFunctionEnv scope X.env.globals (aY X.env scope.names []) [] X.env.qual ι .none$ δ X.env) (λc0 s0=>
   iu (χ X.prog X.w) X.A (.compStart (.ListComp e0 [#[tg,iter,i0,0]] scope p1) 0 (.ref it) acc { c0 with scope:=relabel scope X.env }) (RR acc c0.locals) s0) E B) E s:=by
 obtain⟨W,⟨m0,w0⟩,t1⟩:=h;let h3:∀b∈k,b < -s:=λb a=>by let(o,e,_):=T.obj 0 _ st b a;rwa[RT e]
 erw[SE$ wpAny_newFunctionEnv S.cell (by intro y hy;simp at hy) (λF l f=>?_) S.kind];dsimp only at l f ⊢;generalize h4:s.heap.push { cls:=.type "list",dict:=ι,data:=.seq ([]:FA ζ).toArray }=H2 at l f ⊢;let hC:H2.objs.size=-s+1:=by rw[<- h4,SW]
 let P:-s≠H2.objs.size:=by rw[hC];rwa[R6$ Tz _]
 let h0:-s<=H2.objs.size:=by rw[hC];rwa[SY _]
 let b0:∀b,b < -s->b≠H2.objs.size/\b≠-s:=λb a=>#[by rw[hC];rwa[R6$ T3 a],R6 a];let o0:∀b o,s.heap.get? b=δ o->F.get? b=δ o:=λb o e=>f.extBut b o (b0 b$ RT e).1 (RL _$ h4▸RL _ e);let h5:F.get? (-s)=δ (me []):=f.extBut _ _ P (RL _$ h4▸RQ _ Z);let a0:H (-s)=ι:=I.hok.fresh (RO _);let h6:-s∉ij X.stack:=λa=>(ω.mp$ I.stkSub _ a).elim (λe=>absurd I.lt (by rw[<- e];rwa[Tf _])) (I.nofs$ RO _);generalize hD:-s=D at*;generalize b2:H2.objs.size=C at*;let J0:∀tk,aq (bj X scope M (aY X.env scope.names []) C k s H) [] (Lu nT ix σ) H { s with heap:=F,toks:=tk }:=λtk=>xz I hf (by rw[hD];rwa[h3]) S (by rw[hD];rwa[h0]) o0 l;let c1:∀x c,(aY X.env scope.names []).lookup x=δ c->c≠D:=λx c e z=>by let sub:=qE (JG I S) (acc:=[]) (λx c h=>by simp at h) x c e;let(v,o,ho,_):=I.cell x c sub;let:=RT ho;rw[z,hD]at this;rwa[Tf _ this]
 let p0:∀{σ0:St} {t:Hp} {G:θ} {U:FA ζ},aq (bj X scope M (aY X.env scope.names []) C k s H) [] σ0 t G->G.heap.get? D=δ (me U)->t D=ι->
   aq (bj X scope M (aY X.env scope.names []) C k s H) [(D,me U)] σ0 t G:=λ{σ0 t G U} I' e n=>I'.pins_of λp hp=>by
  let ep:p=(D,me U):=by simpa using hp
  subst ep;rwa[e,n,P,h6,λv z=>by cases z]
 let L:∀{t:Hp} {U:FA ζ},(∀b∈k,t b=ι)->∀b∈k,gw (bj X scope M (aY X.env scope.names []) C k s H) [(D,me U)] t b:=λ{t U} hn b a=>
  #[hn b a,((J0 0).ok.exf b a).1,(J0 0).ok.exfs b a,.inl a,((J0 0).ok.exf b a).2,λp hp z=>by
   let ep:p=(D,me U):=by simpa [bj] using hp
   rw[ep]at z;let:=h3 b a;rw[<- z]at this;rwa[Tf _ this]]
 let l0:∀B:θ,(∃tk,B={ s with heap:=F,toks:=tk })->
   iu (χ X.prog X.w) X.A (.compLoop (.ListComp e0 [#[tg,iter,i0,0]] scope p1) 0 (.ref it) (.ref D)$ compEnvC scope (aY X.env scope.names []) C X.env) (RR (.ref D) C) B:=by
  rintro B ⟨tk,rfl⟩;refine va (λn G=>∃i Y U ts t,ο ts=nT/\aq (bj X scope M (aY X.env scope.names []) C k s H) [(D,me U)] (ts++tY ix σ) t G/\aw Y U/\ο Y<=υ/\tn i G.heap/\(∀b∈k,t b=ι)/\W i n Y t) ?_ m0
   #[0,[],[],fJ nT ι,H,Va,p0 (J0 tk) h5 a0,.nil,R4 _,T.keep _ _ _ st λb a o e=>o0 b o e,λb a=>(hf b a).1,w0]
  rintro n s1 ⟨i,Y,U,ts,Q,a1,I1,rv,hz,s7,f0,w1⟩;rcases t1 i n Y Q w1 with ⟨stop,q⟩ | ⟨go,a2,N,hN,step⟩
  .erw[aS (T.done (bj X scope M (aY X.env scope.names []) C k s H) Z Z Z hc i _ s1 _ Q EA I1 (L f0) s7 stop) λr s2 j=>?_];let(hr,I2):=j;subst hr;let IO:aq X pins σ Q s2:=I.call' (ch:=k) I2.os I2.base I2.hok I2.bare λb a=>#[(hf b a).2.2.2.1,(hf b a).2.1,(hf b a).2.2.2.2.1,(hf b a).2.2.2.2.2];let pD:=I2.pin (D,me U) (by simp [bj]);let h8:Q D=ι:=pD.2.1;let fD:gw X pins Q D:=by rw[<- hD];exact I.fpOk (RO _) (by rw[hD];exact h8)
   let IT:aq X pins σ (af Q D$ .lst Y) s2:=IO.track fD (by rw[<- hD];rwa[I.sz]) #[hz,U,U.length,rv,pD.1];let(mC,a3,_):=I2.loc;let a4:Q C=ι:=I2.free;rwa[h' D C Y mC Q s2 I2.base.frzs h8 IT (I.fpOk (by rw[hD];rwa[h0]) (by rw[jh$ Sx P];rwa[a4])) a3 q]
  .erw[aS (T.item (bj X scope M (aY X.env scope.names []) C k s H) Z Z Z hc i _ s1 _ Q EA I1 (L f0) s7 go) λr s2 j=>?_];let(u,hr,h2):=j;subst hr;erw[aS h2 λ_ s3 j=>?_];let(x,H3,I3,r3,y3,O,f1):=j;let a':=I3.pinned (L f1) (T.obj _ _ O);erw[aS (hg _ _ _ _ _ _ s3 _ H3 x u _ a' r3$ step x H3 ts a1 y3) λ_ s4 j=>?_];obtain⟨σ1,H4,I4,⟨t0,h1,e4⟩,q4⟩:=j;subst e4;erw[aS (hi _ _ _ _ _ _ s4 _ H4 _ I4 q4) λb s5 j=>?_];let(H5,I5,q5):=j;cases b with
   |false=>obtain⟨m',hm,w'⟩:∃m',m' < n/\W (i+1) m' Y H5:=hN _ _ q5;erw[m',hm,i+1,Y,U,t0,H5,h1,I5.unpinned,rv,hz,T.keep _ _ _ O λb a o e=>(I5.pin (b,o)$ R3 _$ R3 _$ zr a e).1,λb a=>?_,w'];let(o,e,d):=T.obj _ _ O b a;exact(I5.pin (b,o)$ R3 _$ R3 _$ zr a e).2.1
   |true=>
    erw[aS (he _ _ _ _ _ _ s5 _ H5 _ I5 q5) λv s6 j=>?_];let(y,H6,I6,r6,q6):=j;let(m',hm,w'):=hN _ _ q6;let pD:=I6.pin (D,me U) (R3 _$ Sr _ Sa);let hl:=rv.length;let R:∀b∈k,∀o,s3.heap.get? b=δ o->s6.heap.get? b=δ o:=λb a o e=>(I6.pin (b,o)$ R3 _$ R3 _$ zr a e).1;let V:∀b∈k,H6 b=ι:=λb a=>by let(o,e,d):=T.obj _ _ O b a;exact(I6.pin (b,o)$ R3 _$ R3 _$ zr a e).2.1
    erw[append_at (hsz:=by rw[RS,<- hl];rwa[hz]) pD.1 λh7 sb b1=>?_];let I7:aq (bj X scope M (aY X.env scope.names []) C k s H) [] (t0++tY ix σ) H6 (s6<|h7):=
     (I6.pins_of (pins':=[]) λp hp=>absurd hp P9).turned (t':=s6.toks) (it:=D) (λb o a e=>(sb.2 b a).trans e) pD.2.1 P (.inr (by show -s<=D;rw[hD];rwa[RO _])) c1 λp hp=>absurd (show p∈([]:FA (η×gb)) from hp) P9
    refine#[m',hm,i+1,Y++[y],U++[v],t0,H6,h1,p0 I7 (b1.trans$ SQ δ$ vJ U v) pD.2.1,rv.append$ .cons r6 .nil,by rw[RN,Uy];exact a2,
     T.keep _ _ _ (T.keep _ _ _ O R) λb a o e=>(sb.2 b λz=>?_).trans e,V,w']
    let:=h3 b a;rw[z]at this;rwa[Tf _ this]
 rwa[codeAny_compStart_list (l0 _ #[12])$ T.self _ 0 _ _ _ (T.keep _ _ _ st λb a o e=>o0 b o e)$ l0 _ #[12]]
def Bp(w:TI)(n:Nat)(i:FA Nat)(g:TG)(t:TT)(T:TE):TE:=λσ H Q=>w σ H λJ a=>eQ J n (tY i σ) g t T (λy h=>∀p,h p=ι->Q (.ref p) (af h p$ .lst y)) a
def km{t E iter:dr}{i:FA dr}{a:gO}{p:Pos}{M:FA ρ}{k:Nat}{l:FA Nat}{W:TI}{g:TG}{r:TT}{u:TE}(v:X.calm=μ)(y:PI X t iter W)(S:a5 X.N X.env.scope a M k l)
  (z:∀c C f s H,PG (bj X a M c C f s H) t g) (B:∀c C f s H,PF (bj X a M c C f s H) i r) (G:∀c C f s H,PE (bj X a M c C f s H) E u)
  (K:autoParam (∀x,foldedSetIterable iter X.env x=pure x) FO._auto_1):
  PE X (.ListComp E [#[t,iter,i,0]] a p) (Bp W k l g r u):=by
 intro pins s σ H Q I h;rw[eval_ListComp];erw[wpAny_comprehension_free (use:=ι) Z K (Jh$ JG I S) S.kind S.loc$ aS (y pins s σ H _ I h) λxv s1 L=>aS L λO s2 P=>?_];let(it,f,tn,J,H2,e,U,T,d,V,R):=P;subst e;erw[QC (RR:=λj C=>compPost (χ X.prog X.w) X.A X.xe ι (EP X pins σ Q) j C) U v T d V S z B G R ?_];intro D C ys m H' Y _ n I' F ns q;rwa[m,ns,λh' sb=>#[.ref D,_,I'.turned (t':=Y.toks) (λb o hb e=>(sb.2 b hb).trans e) F.1 F.2.1 F.2.2.2.1 F.2.2.2.2.1 F.2.2.2.2.2,Z,q D n]]
def Jy{t E iter:dr}{d:FA dr}{c:gO}{p P f:Pos}{y:ρ}{i:Nat}{M:FA ρ}{U:Nat}{V:FA Nat}{W:TI}{g:TG}{Y:TT}{te:TE}(hN:X.N.Nodup)(hy:X.N[i]?=δ y)(hx:wZ X.env.scope y)
  (hc:X.calm=μ) (hI:PI X t iter W) (S:a5 X.N X.env.scope c M U V)
  (hg:∀l C j s H,PG (bj X c M l C j s H) t g) (hi:∀l C j s H,PF (bj X c M l C j s H) d Y) (he:∀l C j s H,PE (bj X c M l C j s H) E te)
  (r:↥(swapsWith (.ListComp E [#[t,iter,d,0]] c p) (δ$ .Name y P) f.line X.env=pure μ))
  (hf:autoParam (X.fn y=μ∨X.env.scope.names.lookup y=δ .local) Wx._auto_1)
  (hs:autoParam (∀x,foldedSetIterable iter X.env x=pure x) FO._auto_1):
  PS X (.Assign [.Name y P] (.ListComp E [#[t,iter,d,0]] c p) f) (λD σ H=>Bp W U V g Y te σ H λv H1=>D.nx (σ.set i$ δ v) H1):=by
 intro pins s σ H D I h;rw[exec_Assign_Name_used _ _ _ _ r];apply UF$ RG ?_;show π _ X.A (do let _ <- comprehension (.ListComp E [#[t,iter,d,0]] c p) c X.env _ (newList []) ξ (eval iter X.env) (δ$ assign (.Name y P) X.env)) _ _ s;refine RG (aS (wpAny_comprehension_free (use:=δ (assign (.Name y P) X.env)) (Q:=λ_ k=>SP X pins D .next k) Z hs (Jh$ JG I S) S.kind S.loc
  (aS (hI pins s σ H _ I h) λxv s1 h1=>aS h1 λi0 s2 h2=>?_)) λ_ k hq=>RM (RM hq))
 let(it,j,tn,J,H2,e,I2,T,u,f2,R):=h2;subst e;erw[QC (RR:=λB C=>compPost (χ X.prog X.w) X.A X.xe (δ$ assign (.Name y P) X.env) (λ_ k=>SP X pins D .next k) B C) I2 hc T u f2 S hg hi he R ?_];intro Dd C ys m H' k _ n I' F ns q;show π _ X.A (assign (.Name y P) X.env$ .ref Dd) _ _ k;erw[wpAny_assign_Name$ Xh I' hN hy hx (v:=.ref Dd) Z (λG K hh=>?_) hf];let(a,sb,ha):=hh;let L:C≠a:=by
  rcases ha with z |z
  .rw[z];rwa[F.2.1]
  .rwa[Sx$ F.2.2.2.2.1 _ _ z]
 rwa[m,ns.sameBut sb L,λh' O=>#[11,K.turned (t':=G.toks) (λb o hb e=>(O.2 b hb).trans e) F.1 F.2.1 F.2.2.2.1 F.2.2.2.2.1 F.2.2.2.2.2,q Dd n]]
end
section
variable {X:Cx}
def Lx(i j:Int):Prop:=0 < j/\j<=1000000000000000000
def Qn:gu X (binaryOp .FloorDiv) (rI Lx λi j=>.int (i / j)):=NN λi j _ _ _ _ _ h q=>by
 let b:(0:Int) < j:=h.1;let c:j<=1000000000000000000:=h.2;erw[floordiv_int P' (by rw[Int.fdiv_eq_ediv_of_nonneg i P'];rwa[q])$ .inl$ PyProof.noPylong_of_log2 ?_];let H:j.natAbs≠0:=P'
 let a:j.natAbs < 2 ^ 60:=by rwa[N09]
 let d:j.natAbs.log2 < 60:=(Nat.log2_lt H).mpr a;omega
noncomputable def Oe:V->FC ζ
 | .ty n=>δ (.type n)
 | .ref a=>↑a
 |_=>ι
inductive qg(K:γ)(a:FA V)(H:Hp)(Q:VK):Prop
 |mk(x y c t b:_)(_:a=[x,y])(_:Oe y=δ c)(_:ig K H x t)(_:kitOne K t c=δ b)(_:Q (.bl b) H)
def Zf:dy X (.builtin "isinstance") (qg X.K):=by
 intro p s g H i U Q I r h;let(x,y,c,t,b,rfl,d,ty,e,q):=h;let(u,w,rfl,f,R):=Nx r;let E:w=c:=by
  cases y with
  |ty n |ref a=>rwa[Eq.trans R (SK d)]
  |_=>cases d
 subst E;rwa[vw I f ty e λT=>#[.bl b,H,I.tok T,Z,q]]
theorem Km:∀{B:FA Bool} {U:FA ζ},aw (B.map V.bl) U->LSm.BoolsAre U B
 | [],_,.nil=>.nil
 |b::r,_,.cons (b:=u) h t=>by let e:u=ms b:=h;subst e;rwa[.cons b$ Km t]
inductive QD(K:γ)(b:FA V)(H:Hp)(Q:VK):Prop
 |mk(p:η)(a:FA Bool)(_:b=[.ref p])(_:aE K H p (a.map V.bl))(_:Q (.bl (a.all id)) H)
def xu(j:X.calm=μ):dy X (.builtin "all") (QD X.K):=by
 intro P s w H x U Q I r h;let(p,B,rfl,k,q):=h;let(u,rfl,R):=eG r;cases R;let(a,l,m,y):=I.list k;let f:=Km l;let c:=m.isList;let d:p < -s:=by let(_,e,_):=c;rwa[RT e]
 erw[call_all_walk$ Ve c ?_];refine#[-s,[-s,p],[-s],a.toArray.size,11,λi=>(B[i]?).getD μ,Z,Walks.list (A:=X.A.in1) (I.ok.hd j) _ p (R6 d) a.toArray,
  #[#[_,RQ _ Z,22],c.push _],λi v S z E n g=>?_,λC t o=>?_]
 .let(b,e,rfl):=f.get i v (n:);simp only[e,Option.getD_some]at g;rwa[UJ g]
 .let e:((dg a.toArray.size).all λi=>(B[i]?).getD μ)=B.all id:=by rw[RS,f.length];exact LSm.range_all B
  rw[e];rwa[.bl _,H,I.kept (t':=t)$ LSm.kept_iter o,Z,q]
theorem qF:∀{Y:FA ρ} {U:FA ζ},aw (Y.map Cv) U->StrsAre U Y
 | [],_,.nil=>.nil
 |y::r,_,.cons (b:=u) h t=>by obtain⟨T,e⟩:∃T,u=jq y T:=h;subst e;rwa[.cons y T$ qF t]
inductive Xo(K:γ)(x:V)(a:FA V)(H:Hp)(Q:VK):Prop
 |mk(z:ρ)(p:η)(b:FA ρ)(_:x= .str z)(_:a=[.ref p])(_:aE K H p (b.map Cv))(_:z.length<=16)(_:(b.map (·.length)).sum+ο b<=1048576)(_:Q (.str (Txt.join z b)) H)
def X6:N5 X "str.join" (Xo X.K):=by intro P s j H x l v U Q I r R h;let(z,p,y,rfl,rfl,a,b,c,q):=h;let(u,rfl,d):=eG R;cases d;let(t,rfl):=r;let(i,e,f,g):=I.list a;rwa[join_listW f.isList (qF e:) b c λT k=>#[.str _,H,I.tok k,#[12],q]]
noncomputable def xF:dr->FC V
 | .Constant (.str x) _ _=>δ (.str x)
 | .Constant (.int i) _ _=>δ (.int i)
 |_=>ι
def Ir(h:xF e=δ v):PE X e (tC v):=by
 cases e with
 |Constant c j p=>
  cases c with
  |str x=>cases h;rwa[jl]
  |int i=>cases h;rwa[jf]
  |_=>cases h
 |_=>cases h
def Bk(h:xF e=δ v):Ψ (e::a) E=(ξ,eval e E)::Ψ a E:=by
 cases e with
 |Constant c j p=>rfl
 |_=>cases h
def yi(e:dr):Bool:=(xF e).isSome
def xE(e:dr):V:=(xF e).getD .non
theorem X7:∀{E:FA dr},E.all yi=μ->PA X E (λ_ H Q=>Q (E.map xE) H)
 | [],_=>jb
 |e::E,h=>by
  rw[xm,Tp]at h;let(v,a):=mI.mp (show(xF e).isSome=μ from h.1);let b:xE e=v:=by unfold xE;rw[a];rfl
  rw[SN,b];rwa[ja (Ir a) (X7 h.2)$ Bk a]
def vj{E:FA dr}(h:E.all yi=μ):(E.map xE).all dB=μ:=by
 rw[Vd]at h ⊢;intro v H;let(e,a,rfl):=β.mp H;let q:=h e a;unfold yi at q;unfold xE;cases e with
 |Constant c j p=>
  cases c with
  |str x |int i=>rfl
  |_=>rwa[absurd q RZ]
 |_=>rwa[absurd q RZ]
def Nr(t:TS):TS:=λD b H=>∃R:St->Hp->Prop,t { D with nx:=R } b H/\∀a h,R a h->D.nx a h
def kf{st:de}{t:TS}(h:PS X st t):PS X st (Nr t):=by
 intro p s b H D I c;let(R,d,e):=c;erw[aS (h p s b H _ I d) λf S q=>?_];cases f with
 |next=>let(a,g,i,q):=q;rwa[a,g,i,e _ _ q]
 |brk |cont |ret v=>rwa[q]
def vE{t:St}(h:ο t=1):∃v,t=[v]:=by
 cases t with
 |nil=>cases h
 |cons v r=>
  cases r with
  |nil=>rwa[v,Z]
  |cons _ _=>cases h
def Zg{lo:Int}{t:TE}{Q:FA V->Hp->Prop}(Pv:Nat->FA V->Hp->Prop)(g:Pv 0 [] H)(j:n<=υ)(b:∀i Y h,Pv i Y h->ο Y<=i)
  (k:∀i Y h,i < n->Pv i Y h->t (δ (.int$ lo+i)::c) h λy d=>Pv (i+1) (Y++[y]) d) (l:∀Y h,Pv n Y h->Q Y h):
  eQ (BS lo n) 1 c (bo 0) nO t Q H:=by
 erw[λi m Y h=>m=n - i/\i<=n/\Pv i Y h,#[n,P9,R4 _,g],?_];rintro i m Y h ⟨rfl,q,p⟩;by_cases a:i < n
 .erw[.inr #[a,TZ (b i Y h p)$ Si a j,Pv$ i+1,λo d P=>#[n - (i+1),N09,Z,a,P],λx d T f y=>?_]];let(e,y):=y;subst e y;let(v,rfl):=vE f;rwa[#[[δ _],22],k i Y _ a p]
 .let e:i=n:=by omega
  subst e;rwa[.inl #[RO _,l Y h p]]
end
section
variable {κ:Type}[DecidableEq κ]
noncomputable def bV(K:FA (κ×V))(k:κ):FC V:=(K.find? λa=>decide (a.1=k)).map (·.2)
noncomputable def a6(K:FA (κ×V))(k:κ)(v:V):FA (κ×V):=
 if (K.any λa=>decide (a.1=k))=μ then K.map (λa=>if a.1=k then (a.1,v) else a) else K++[(k,v)]
noncomputable def mn(K:FA (κ×V))(k:κ):FA (κ×V):=K.filter λa=>decide (a.1≠k)
def ky{p:κ×V}(e:p.1=k):bV (p::r) k=δ p.2:=by simp [bV,UZ,e]
def ki{p:κ×V}(e:¬p.1=k):bV (p::r) k=bV r k:=by simp [bV,UZ,e]
theorem qP(k:κ):∀K:FA (κ×V),(K.any λa=>decide (a.1=k))=(bV K k).isSome
 | []=>rfl
 |p::r=>by
  rw[VB];by_cases e:p.1=k
  .simp only[ky e,R0 e,Bool.true_or,Option.isSome_some]
  .rw[ki e,RW e,Bool.false_or];rwa[qP k r]
theorem YE(k j:κ)(y:V):∀K:FA (κ×V),bV (K.map λa=>if a.1=k then (a.1,y) else a) j=(bV K j).map λx=>if j=k then y else x
 | []=>rfl
 |p::r=>by
  let i:=YE k j y r;rw[SN];by_cases h:p.1=k
  .rw[RV h];by_cases e:p.1=j
   .rw[ky (p:=(p.1,y)) e,ky e,VU,RV$ e.symm.trans h]
   .rw[ki (p:=(p.1,y)) e,ki e,i]
  .rw[RU h];by_cases e:p.1=j
   .rw[ky (p:=p) e,ky e,VU,RU (λz=>h (e.trans z))]
   .rw[ki (p:=p) e,ki e,i]
theorem Xp(k j:κ)(y:V):∀K:FA (κ×V),bV K k=ι->bV (K++[(k,y)]) j=if j=k then δ y else bV K j
 | [],_=>by
  by_cases e:k=j
  .rw[RV e.symm];rwa[ky (p:=(k,y)) e]
  .rw[RU (λz=>e z.symm)];rwa[ki (p:=(k,y)) e]
 |p::r,h=>by
  rw[List.cons_append];let H:¬p.1=k:=λz=>by rw[ky z]at h;cases h
  rw[ki H]at h;let i:=Xp k j y r h;by_cases e:p.1=j
  .rw[ky e,ky e,RU (λz=>H (e.trans z))]
  .rw[ki e,ki e,i]
def BG(K:FA (κ×V))(k j:κ)(y:V):bV (a6 K k y) j=if j=k then δ y else bV K j:=by
 unfold a6;by_cases a:(K.any λb=>decide (b.1=k))=μ
 .rw[RV a,YE];rw[qP]at a;by_cases e:j=k
  .let(x,h):=mI.mp a;rw[RV e,e,h,VU,RV Z]
  .rw[RU e];cases bV K j with
   |none=>rfl
   |some x=>rw[VU,RU e]
 .rw[RU a];erw[Xp k j y K ?_];rw[qP]at a;cases q:bV K k with
  |none=>rfl
  |some x=>rw[q]at a;exact(a Z).elim
def qW(K:FA (κ×V))(k:κ)(v:V):(a6 K k v).length<=ο K+1:=by
 unfold a6;split
 .rw[RJ];omega
 .rw[RN,So,UY];omega
def eN.isSome_eq(r:eN o u):o.isSome=u.isSome:=by
 cases o with
 |none=>cases u with
  |none=>rfl
  |some _=>exact(show False from r).elim
 |some _=>cases u with
  |none=>exact(show False from r).elim
  |some _=>rfl
def eN.getD(r:eN o u)(R:aB d D):aB (o.getD d) (u.getD D):=by
 cases o with
 |none=>cases u with
  |none=>rwa[R]
  |some _=>exact(show False from r).elim
 |some _=>cases u with
  |none=>exact(show False from r).elim
  |some _=>rwa[r]
def KV.val(r:KV a v)(k:κ):eN (bV a k) (valueAt v k):=by
 unfold KV at r;induction r with
 |nil=>rwa[True.intro]
 | @cons p q P Q h t i=>
  let(H,c):=h;by_cases e:p.1=k
  .let E:q.1=k:=H.symm.trans e;let b:valueAt (q::Q) k=δ q.2:=by simp [valueAt,UZ,E]
   rw[ky e,b];rwa[c]
  .let E:¬q.1=k:=λz=>e (H.trans z);let b:valueAt (q::Q) k=valueAt Q k:=by simp [valueAt,UZ,E]
   rw[ki e,b];rwa[i]
def KV.any(r:KV a v)(k:κ):(a.any λK=>decide (K.1=k))=v.any λK=>decide (K.1=k):=by
 unfold KV at r;induction r with
 |nil=>rfl
 |cons h t i=>rw[VB,VB,i,h.1]
def KV.repl(r:KV a v)(k:κ)(R:aB y u):
  KV (a.map λK=>if K.1=k then (K.1,y) else K) (v.map λK=>if K.1=k then (K.1,u) else K):=by
 unfold KV at r ⊢;induction r with
 |nil=>rwa[.nil]
 | @cons p q P Q h t i=>
  rw[SN,SN];erw[.cons ?_ i];let(H,b):=h;by_cases e:p.1=k
  .rw[RV e,RV$ H.symm.trans e];rwa[H,R]
  .rw[RU e,RU (λz=>e (H.trans z))];rwa[H,b]
def KV.put(r:KV a v)(k:κ)(R:aB y u):KV (a6 a k y) (stored v k u):=by
 unfold a6 stored;rw[r.any k];by_cases e:(v.any λK=>decide (K.1=k))=μ
 .rw[RV e,RV e];rwa[r.repl k R]
 .rw[RU e,RU e];rwa[Paired.snoc r #[Z,R]]
def KV.drop(r:KV c v)(k:κ):KV (mn c k) (without v k):=by
 unfold KV at r ⊢;unfold mn without;induction r with
 |nil=>rwa[.nil]
 | @cons p q P Q h t i=>
  let(H,d):=h;rw[List.filter_cons,List.filter_cons];by_cases e:p.1=k
  .let a:¬decide (p.1≠k)=μ:=by simp [e]
   let b:¬decide (q.1≠k)=μ:=by simp [H.symm.trans e]
   rw[RU a,RU b];rwa[i]
  .let E:¬q.1=k:=λz=>e (H.trans z);let a:decide (p.1≠k)=μ:=by simp [e]
   let b:decide (q.1≠k)=μ:=by simp [E]
   rw[RV a,RV b];rwa[.cons #[H,d] i]
def KV.length(r:KV k v):ο k=ο v:=Paired.length r
def YF(K:FA (κ×V))(k:κ):(mn K k).length<=ο K:=Vb _ _
end
def KQ{P:Δ}(r:aB (kV k) u):(aP P w).is k u=μ:=by
 cases k with
 |inl i=>let(t,e):=(show ∃t,u=gs i t from r);subst e;rwa[Zd P w i t]
 |inr x=>let(t,e):=(show ∃t,u=jq x t from r);subst e;rwa[Ze P w x t]
theorem Xq{P:Δ}:∀{K:FA a9} {u:FA ζ},aw (K.map kV) u->ItemsAre (aP P w) K u
 | [],_,r=>by rw[List.map_nil]at r;cases r;rwa[.nil]
 |k::K,_,r=>by
  rw[SN]at r;cases r with
  |cons h t=>rwa[.cons (KQ h) (Xq t)]
abbrev KT(H:Hp):FA (FA a9×V)->FA (FA a9×η×ζ)->Prop:=Paired λp q=>p.1=q.1/\H q.2.1= ~~~(p.1.map kV)/\aB p.2 q.2.2
def KT.val(r:KT H a x)(k:FA a9):eN (bV a k) ((atKey x k).map (·.2)):=by
 induction r with
 |nil=>rwa[True.intro]
 | @cons p q P Q h t i=>
  let(c,_,d):=h;by_cases e:p.1=k
  .let E:q.1=k:=c.symm.trans e;let b:atKey (q::Q) k=δ q.2:=by simp [atKey,UZ,E]
   rw[ky e,b];rwa[d]
  .let E:¬q.1=k:=λz=>e (c.trans z);let b:atKey (q::Q) k=atKey Q k:=by simp [atKey,UZ,E]
   rw[ki e,b];rwa[i]
def KT.repl(r:KT H b x)(k:FA a9)(R:aB y u):
  KT H (b.map λK=>if K.1=k then (K.1,y) else K) (x.map$ putAt k u):=by
 induction r with
 |nil=>rwa[.nil]
 | @cons p q P Q h t i=>
  rw[SN,SN];erw[.cons ?_ i];let(a,c,d):=h;unfold putAt;by_cases e:p.1=k
  .rw[RV e,RV$ a.symm.trans e];rwa[a,c,R]
  .rw[RU e,RU (λz=>e (a.trans z))];rwa[a,c,d]
def KT.put(r:KT H a x)(k:FA a9)(h:H b= ~~~(k.map kV))(R:aB y u):
  KT H (a6 a k y) (storedH x k b u):=by
 let e:(a.any λK=>decide (K.1=k))=(atKey x k).isSome:=by rw[qP,(r.val k).isSome_eq,Option.isSome_map]
 unfold a6 storedH;rw[e];by_cases q:(atKey x k).isSome=μ
 .rw[RV q,RV q];rwa[r.repl k R]
 .rw[RU q,RU q];rwa[Paired.snoc r #[Z,h,R]]
def KT.keeps{h:Hp}(r:KT H k x)(a:∀b y,H b= ~~~y->h b= ~~~y):KT h k x:=
 Paired.mapP r λ_ _ z=>#[z.1,a _ _ z.2.1,z.2.2]
section
variable {P:Δ}{w:cv}{H:Hp}{h:df}{a:η}
def Fi(o:fQ P w H h)(e:Rd H a u):aK P w H h a u:=e.ok o
def KR(o:fQ P w H h)(e:Rd H a (.dK k)):ο k<=υ/\(a==sysModules)=ξ/\∃v,KV k v/\h.DictOf (aP P w) a v:=
 show aK P w H h a (.dK k) from Fi o e
def EE(o:fQ P w H h)(e:H a=δ (.dK k)):ο k<=υ/\(a==sysModules)=ξ/\∃v,KV k v/\h.DictOf (aP P w) a v:=KR o (.inl e)
def Qc{k:FA a9}(O:fQ P w H h)(e:H a= ~~~(k.map kV)):(tupleKind$ aP P w).is h k a:=by let(_,i,r,o,b,c,n,d):=(show aK P w H h a (.tup$ k.map kV) from O a _ e);rwa[o,i.toArray,n,b,c,d,(Xq r:)]
def Xe(O:fQ P w H h)(e:Rd H a (.dT k)):ο k<=υ/\(a==sysModules)=ξ/\
  ∃X,KT H k X/\h.DictOfH (tupleKind$ aP P w) a X:=by
 let(z,y,X,r,o,E,c,d,f,g,i,j):=(show aK P w H h a (.dT k) from Fi O e);erw[z,y,X,r,o,E,c,d,f,g,i,λx hx=>?_,j];let all:∀{l:FA (FA a9×V)} {m:FA (FA a9×η×ζ)},KT H l m->∀x∈m,(tupleKind$ aP P w).is h x.1 x.2.1:=by
  intro l m q;induction q with
  |nil=>intro x hx;rwa[nomatch hx]
  | @cons p q n Q b t I=>
   intro x hx;rcases ω.mp hx with e |hx
   .subst e;rwa[Qc O (by rw[<- b.1];rwa[b.2.1])]
   .rwa[I x hx]
 rwa[all r x hx]
def Mh(o:fQ P w H h)(e:H a=δ (.dT k)):ο k<=υ/\(a==sysModules)=ξ/\
  ∃x,KT H k x/\h.DictOfH (tupleKind$ aP P w) a x:=Xe o (.inl e)
end
def gg(H:Hp)(a:η)(y:V)(r:FC V):Prop:=
 (∃K k,Rd H a (.dK K)/\y=kV k/\r=bV K k)∨∃K k b,Rd H a (.dT K)/\y= .ref b/\H b= ~~~(k.map kV)/\r=bV K k
def iU(H:Hp)(a:η)(y v:V)(h:Hp):Prop:=
 (∃K k,H a=δ (.dK K)/\y=kV k/\ο K < υ/\h=af H a (.dK$ a6 K k v))∨
 ∃K k b,H a=δ (.dT K)/\y= .ref b/\H b= ~~~(k.map kV)/\ο K < υ/\h=af H a (.dT$ a6 K k v)
def gg.k{H:Hp}{k:a9}(e:H a=δ (.dK b)):gg H a (kV k) (bV b k):=.inl #[b,k,.inl e,22]
def iU.k{H:Hp}{k:a9}(e:H a=δ (.dK b))(h:ο b < υ):iU H a (kV k) v (af H a$ .dK$ a6 b k v):=.inl #[b,k,e,Z,h,Z]
def iU.t{H:Hp}{b:η}{k:FA a9}(e:H a=δ (.dT c))(E:H b= ~~~(k.map kV))(h:ο c < υ):
  iU H a (.ref b) v (af H a$ .dT$ a6 c k v):=.inr #[c,k,b,e,Z,E,h,Z]
section
variable {X:Cx}{pins:FA (η×gb)}{σ:St}{H:Hp}{s:θ}{a:η}{y v:V}{u r:ζ}{o:FC V}{A:bU}{E:ζ->θ->Prop}
def aq.big(I:aq X pins σ H s):sysModules < -s:=by let h:ab < -s:=(I.mod.glob.keeps I.bk).lt;rwa[Nat.lt_trans Ra h]
def vb{Q:ζ->θ->Prop}(m:A.units+1 < cLine)(I:aq X pins σ H s)(g:gg H a y (δ v))(j:aB y u)(h:∀W S,aq X pins σ H S->aB v W->Q W S):
  π (χ X.prog X.w) A (getItem (.ref a) u) Q E s:=by
 rcases g with ⟨K,k,e,d,l⟩ | ⟨K,k,b,e,d,n,l⟩
 .subst d;let(z,q,t,R,D):=KR I.hok e;let(W,f,c):=eN.some_of (v:=v) (o:=valueAt t k) (by rw[l];rwa[R.val k]);rwa[wpAny_getItem_of (KQ j) D.mapOf f$ h W _ (I.tok _) c]
 .subst d;cases (show u=Φ b from j);let(z,q,x,R,D):=Xe I.hok e;let(W,f,c):=eN.some_of (v:=v) (o:=(atKey x k).map (·.2)) (by rw[l];rwa[R.val k]);let(p,B,i):=cJ.mp f;erw[wpAny_getItem_heap (VC m) (Qc I.hok n) D B ?_];rw[i];rwa[h W _ (I.tok _) c]
def Oj{Q:ζ->θ->Prop}(i:A.units+1 < cLine)(I:aq X pins σ H s)(g:gg H a y o)(f:aB y u)(h:∀S,aq X pins σ H S->Q (.bool o.isSome) S):
  π (χ X.prog X.w) A (compareOp .In u$ .ref a) Q E s:=by
 rcases g with ⟨K,k,e,c,l⟩ | ⟨K,k,b,e,c,j,l⟩
 .subst c;let(z,d,m,R,D):=KR I.hok e;erw[wpAny_in_of (KQ f) d D.mapOf ?_];rw[<- (R.val k).isSome_eq,<- l];rwa[h _$ I.tok _]
 .subst c;cases (show u=Φ b from f);let(z,d,x,R,D):=Xe I.hok e;erw[wpAny_in_heap (VC i) (Qc I.hok j) d D ?_];let q:=(R.val k).isSome_eq;rw[Option.isSome_map]at q;rw[<- q,<- l];rwa[h _$ I.tok _]
def X8(I:aq X pins σ H s)(m:LI (H a))(c:eC a s.heap h)(d:∃q,h.get? a=δ q)(n:aK X.prog X.w (af H a O) h a O):
  aq X pins σ (af H a O) { s with heap:=h,toks:=t }:=
 I.write (x:=a) (e:=a) m (.inl Z) (λb q f z=>(c.2 b f).trans z) d n
def XJ{P:Δ}{h:df}{k:FA (a9×V)}(z:ο k<=υ)(c:(a==sysModules)=ξ)(R:KV k b)(d:h.DictOf (aP P w) a b):
  aK P w e h a (.dK k):=#[z,c,b,R,d]
def ve{Q:Unit->θ->Prop}(J:A.units+1 < cLine)(I:aq X pins σ H s)(g:iU H a y v L)(x:aB y u)(B:aB v r)(h:∀S,aq X pins σ L S->Q () S):
  π (χ X.prog X.w) A (setItem (.ref a) u r) Q E s:=by
 rcases g with ⟨K,k,e,i,l,j⟩ | ⟨K,k,b,e,i,C,l,j⟩
 .subst i j;let(z,m,M,R,D):=EE I.hok e;let n:ο M<=υ:=by rw[<- R.length];exact z
  let p:(a6 K k v).length<=υ:=by let:=qW K k v;omega
  erw[wpAny_setItem_pairs (hsz:=n) (KQ x) D λF d t=>h _ ?_];let N:∃q,F.get? a=δ q:=let #[q,11,f,_]:=d;#[q,f]
  rwa[X8 I (by rw[e];rwa[True.intro]) t N$ XJ p m (R.put k B) d]
 .subst i j;cases (show u=Φ b from x);let(z,m,O,R,D):=Mh I.hok e;let n:ο O<=υ:=by rw[<- Paired.length R];exact z
  let p:(a6 K k v).length<=υ:=by let:=qW K k v;omega
  erw[wpAny_setItem_heap (hsz:=n) (VC J) (Qc I.hok C) D λF d t=>h _ ?_];let(q,P,T,f,U,W,Y,_,h5):=d;erw[X8 I (by rw[e];rwa[True.intro]) t #[q,f] #[p,m,_,(R.put k C B).keeps λc ys G=>?_,q,P,T,f,U,W,Y,h5]];rw[jh$ jQ G e (λz=>nomatch z)];rwa[G]
end
section
variable {X:Cx}{pins:FA (η×gb)}{σ:St}{H:Hp}{s:θ}{a:η}{kvs:FA (a9×V)}{k:a9}{u:ζ}{A:bU}{E:ζ->θ->Prop}
def Mc{Q:ζ->θ->Prop}(I:aq X pins σ H s)(e:H a=δ (.dK kvs))(R:aB (kV k) u)(l:bV kvs k=δ v)(c:m=[]∨∃x,m=[x])
  (h:∀W S,aq X pins σ (af H a$ .dK$ mn kvs k) S->aB v W->Q W S):π (χ X.prog X.w) A (call (.builtin "dict.pop") (.ref a::u::m)) Q E s:=by
 let(z,g,f,r,D):=EE I.hok e;let(W,j,b):=eN.some_of (v:=v) (o:=valueAt f k) (by rw[<- l];rwa[r.val k]);let n:(keyPart u).isSome=μ:=by
  cases k with
  |inl i=>let(t,q):=(show ∃t,u=gs i t from R);subst q;rfl
  |inr x=>let(t,q):=(show ∃t,u=jq x t from R);subst q;rfl
 let p:argsOk "dict.pop" #[.ref a::u::m,[]]:=by
  rcases c with q | ⟨x,q⟩
  .subst q;rwa[PySem.F.args_dict_pop_2 _ _]
  .subst q;rwa[PySem.F.args_dict_pop_3 _ _ _]
 refine call_meetsIn xD D.typeIs PySem.F.entry_dict_pop p (meets_dict_pop_there (aP X.prog X.w) a (KQ R) m c n)
  #[f,W,D,by rw[<- r.length];rwa[z],j,λy d B=>h W _ ?_ b]
 let C:∃q,y.get? a=δ q:=let #[q,11,G,_]:=d;#[q,G]
 rwa[X8 I (by rw[e];rwa[True.intro]) B C$ XJ (Sf (YF kvs k) z) g (r.drop k) d]
end
def LJ(i:dr):Prop:=∀o I,subscripted i ξ o I=operate [o,I] (getItem o I)
def Eg{id:String}
  (k:typeLookup (.type T) "__getitem__"=pure (δ$ .builtin id)) (l:LJ a)
  (h:π (χ p w) A (eval v e) (λo b=>π (χ p w) A (eval a e) (λi S=>S.TypeIs o T/\π (χ p w) A (getItem o i) Q E S) E b) E s):
  π (χ p w) A (eval (.Subscript v a m) e) Q E s:=by
 erw[Subscript_$ Ti h (λo b d=>Ti d (λi S H=>?_) λ_ _ x=>x) λ_ _ x=>x];let(j,H):=H;unfold subscriptTail;erw[RG ?_];rw[getitemInPython_of_ne j.not_modules];apply T7 j k ?_;let f:π (χ p w) A (subscripted a ξ o i) (λr c=>π (χ p w) A (letTemporaryGo v o r >>= λ_=>pure r) Q E c) E S:=by rw[l o i];rwa[wpAny_operating$ Ti H (λr c g=>RG (wpAny_letTemporaryGo$ RM g)) λ_ _ x=>x]
 first
  |exact RM (RG f)
  |exact RG (RM (RG f))
  |exact RG f
def Zh{X:Cx}(I:aq X p c H s)(g:gg H a y o):s.TypeIs (.ref a) "dict":=by
 rcases g with ⟨K,k,e,_,_⟩ | ⟨K,k,b,e,_,_,_⟩
 .let(_,_,v,_,d):=KR I.hok e;rwa[d.typeIs]
 .let(_,_,x,_,d):=Xe I.hok e;rwa[d.typeIs]
inductive Bq(Q:VK)(x y:V)(b:Hp):Prop
 |mk(a v:_)(_:x= .ref a)(_:gg b a y (δ v))(_:Q v b)
def Np(t T:TE):TE:=λa H Q=>t a H λx h=>T a h (Bq Q x)
inductive Fv(Q:VK)(y x:V)(b:Hp):Prop
 |mk(a o:_)(_:x= .ref a)(_:gg b a y o)(_:Q (.bl o.isSome) b)
def OM(t T:TE):TE:=λa H Q=>t a H λy h=>T a h (Fv Q y)
inductive Av(D:a8)(d:St)(v x y:V)(b:Hp):Prop
 |mk(a c:_)(_:x= .ref a)(_:iU b a y v c)(_:D.nx d c)
def tV(t T b:TE):TS:=λD a H=>b a H λv h=>t a h λx c=>T a c (Av D a v x)
section
variable {X:Cx}{o i e value:dr}{pos pos' tpos:Pos}{td ty tv:TE}
def q8(d:X.A.units+1 < cLine)(f:PE X o td)(j:PE X i ty)(k:LJ i):PE X (.Subscript o i pos) (Np td ty):=by intro p s b H Q I h;erw[Eg PySem.F.slot_dict_getitem.lookup k$ aS (f p s b H _ I h) λu S #[x,l,m,R,q]=>aS (j p S b l _ m q) λC D z=>?_];let(y,n,c,t,a,v,E,g,w):=z;subst E;obtain rfl:u=Φ a:=R;rwa[Zh c g,vb d c g t λW G B r=>#[v,n,B,r,w]]
def Io(c:X.A.units+1 < cLine)(d:PE X i ty)(f:PE X o td):PC X .In i o (OM ty td):=by intro p s b H Q I h;erw[aS (d p s b H _ I h) λv S #[y,j,k,r,q]=>aS (f p S b j _ k q) λu w z=>?_];let(x,l,m,R,a,O,E,g,n):=z;subst E;obtain rfl:u=Φ a:=R;rwa[Oj c m g r λB t=>#[.bl O.isSome,l,t,Z,n]]
def qB(c:X.A.units+1 < cLine)(d:PE X o td)(f:PE X i ty)(j:PE X value tv)(k:swapsWith value (δ$ .Subscript o i pos') pos.line X.env=pure ξ):
  PS X (.Assign [.Subscript o i pos'] value pos) (tV td ty tv):=by
 intro p s b H D I h;erw[wpAny_Assign_Subscript (aS (j p s b H _ I h) λr S #[v,l,m,R,q]=>aS (d p S b l _ m q) λu n #[x,t,w,B,Q]=>aS (f p n b t _ w Q) λL M z=>?_) k];let(y,N,C,E,a,F,G,g,J):=z;subst G;obtain rfl:u=Φ a:=B;rwa[ve c C g E R λO K=>#[b,F,K,J]]
end
def xJ{P:Δ}(h:df)(a:sysModules < h.objs.size):aK P w H (h.push ("dict"<|.dict (ε []))) h.objs.size (.dK []):=
 #[R4 _,beq_eq_false_iff_ne.mpr$ Sx$ R6 a,[],.nil,Heap.DictOf.new h]
def xN{P:Δ}(h:df)(a:sysModules < h.objs.size):aK P w H (h.push ("dict"<|.dict (ε []))) h.objs.size (.dT []):=
 #[R4 _,beq_eq_false_iff_ne.mpr$ Sx$ R6 a,[],.nil,_,(ε []),0,RQ _ Z,#[222],22,Vp]
def I8:TE:=λ_ H Q=>∀p,H p=ι->Q (.ref p) (af H p$ .dK [])
def I9:TE:=λ_ H Q=>∀p,H p=ι->Q (.ref p) (af H p$ .dT [])
section
variable {X:Cx}{pos:Pos}
def YG:PE X (.Dict [] [] pos) I8:=λp s b H Q I h=>
 wpAny_Dict_empty #[.ref (-s),_,I.laid (a:=-s) (o:=.dK []) (t':=s.toks) (λ_ _ q=>RL _ q) (RO _)$ xJ s.heap I.big,Z,h _$ I.hok.fresh$ RO _]
def Ab:PE X (.Dict [] [] pos) I9:=λp s b H Q I h=>
 wpAny_Dict_empty #[.ref (-s),_,I.laid (a:=-s) (o:=.dT []) (t':=s.toks) (λ_ _ q=>RL _ q) (RO _)$ xN s.heap I.big,Z,h _$ I.hok.fresh$ RO _]
end
def dF(k m:FA (a9×V)):FA (a9×V):=m.foldl (λa K=>a6 a K.1 K.2) k
def KV.merge:∀{m:FA (a9×V)} {R:FA (a9×ζ)} {k:FA (a9×V)} {v:FA (a9×ζ)},KV m R->KV k v->KV (dF k m) (merged v R):=by
 intro m R k v r;unfold KV at r;induction r generalizing k v with
 |nil=>intro q;rwa[q]
 | @cons p q P Q h t i=>
  intro a;let e:KV (a6 k p.1 p.2) (stored v q.1 q.2):=by let:=a.put p.1 h.2;rw[<- h.1];rwa[this]
  rwa[i e]
theorem Ji:∀(m k:FA (a9×V)),(dF k m).length<=ο k+ο m
 | [],k=>by show ο k<=ο k+0;omega
 |p::r,k=>by let h:=Ji r (a6 k p.1 p.2);let H:=qW k p.1 p.2;show(dF (a6 k p.1 p.2) r).length<=_;rw[So];omega
structure M2(X:Cx)(o:dr)(m:ρ)(apos:Pos)(e f:dr)(cpos:Pos):Prop where
 base:attributeBase o m X.env (eval o X.env)=eval o X.env
 few:((fz cpos$ Ψ [e,f] X.env).all (λx=>!x.1)&&(backToKw cpos$ keywordEach [] X.env).all (λx=>x.1.isSome)
  &&decide (([e,f]:FA dr).length+([]:FA Keyword).length+(if ([]:FA Keyword).isEmpty then 0 else 1) < 30))=μ
 line:(apos.endLine==cpos.line)=μ
 trees:fz cpos (Ψ [e,f] X.env)=[(ξ,eval e X.env),(ξ,eval f X.env)]
def O2(H:Hp)(a:η):Prop:=(∃k,Rd H a$ .dK k)∨∃k,Rd H a (.dT k)
def GH{X:Cx}(I:aq X p g H s)(d:O2 H a):
  s.TypeIs (.ref a) "dict"/\(∀b,Φ a= .ref b->∃o,s.heap.get? b=δ o/\o.dict=ι)/\(a==sysModules)=ξ:=by
 rcases d with ⟨k,e⟩ | ⟨k,e⟩
 .let(_,h,v,_,D):=KR I.hok e;erw[D.typeIs,λb q=>?_,h];cases q;let(o,_,_,c,f,_):=D;rwa[o,c,f.2.1]
 .let(_,h,x,_,D):=Xe I.hok e;erw[D.typeIs,λb q=>?_,h];cases q;let(o,_,_,c,f,_):=D;rwa[o,c,f.2.1]
section
variable {X:Cx}{pins:FA (η×gb)}{σ:St}{H:Hp}{s:θ}{a:η}{y d:V}{u r:ζ}{o:FC V}{A:bU}{E:ζ->θ->Prop}
def Gf{Q:ζ->θ->Prop}(m:A.units+1 < cLine)(I:aq X pins σ H s)(g:gg H a y o)(i:aB y u)(j:aB d r)(h:∀W S,aq X pins σ H S->aB (o.getD d) W->Q W S):
  π (χ X.prog X.w) A (call (.builtin "dict.get") [.ref a,u,r]) Q E s:=by
 rcases g with ⟨K,k,e,c,l⟩ | ⟨K,k,b,e,c,n,l⟩
 .subst c;let(z,f,v,R,D):=KR I.hok e;erw[call_meetsIn VT D.typeIs wf (WW _ _ _) (meets_dict_get_default (aP X.prog X.w) a (KQ i) f r) #[_,D.mapOf,h _ _ (I.tok _) ?_]];rw[l];exact(R.val k).getD j
 .subst c;cases (show u=Φ b from i);let(z,f,x,R,D):=Xe I.hok e;erw[call_meetsIn VT D.typeIs wf (WW _ _ _) (meetsH_dict_get_default (tupleKind$ aP X.prog X.w) a b f r) #[VC m,k,x,Qc I.hok n,D,h _ _ (I.tok _) ?_]];rw[l];exact(R.val k).getD j
end
inductive uO(d c:TE)(e:St)(Q:VK)(x:V)(b:Hp):Prop
 |mk(a:_)(_:x= .ref a)(_:O2 b a)(_:d e b λy H2=>c e H2 λz H3=>∃o,gg H3 a y o/\Q (o.getD z) H3)
def I0(t T b:TE):TE:=λa H Q=>t a H (uO T b a Q)
section
variable {X:Cx}{o e f:dr}{apos cpos:Pos}{td ty tx:TE}
def JH(j:X.A.units+1 < cLine)(k:PE X o td)(l:PE X e ty)(n:PE X f tx)(m:M2 X o "get" apos e f cpos):PE X (.Call (.Attribute o "get" apos) [e,f] [] cpos) (I0 td ty tx):=by
 intro p s b H Q I h;erw[wpAny_Call_method m.base m.few m.line WU VT PySem.F.type_dict_get$ aS (k p s b H _ I h) λu S c=>?_];let(x,q,i,R,a,E,d,t):=c;subst E;obtain rfl:u=Φ a:=R;let(T,v,_):=GH i d;erw[T,v,?_];rw[m.trees];refine VW Z (Calls.evalArgs_plain (Ub (aS (l p S b q _ i t) λO w #[y,B,C,D,G]=>
  Ub (aS (n p w b B _ C G) λP U #[z,J,K,L,V,g,M]=>Uz ?_))))
 rwa[Gf j K g D L λW Y N r=>#[_,J,N,r,M]]
end
section
variable {X:Cx}{pins:FA (η×gb)}{σ:St}{H:Hp}{s:θ}{a:η}{kvs:FA (a9×V)}{A:bU}{E:ζ->θ->Prop}
def xH{Q:ζ->θ->Prop}(I:aq X pins σ H s)(e:Rd H a (.dK kvs))(h:∀p S,H p=ι->aq X pins σ (af H p$ .dK kvs) S->Q (.ref p) S):π (χ X.prog X.w) A (call (.type "dict") [.ref a]) Q E s:=by let(z,f,v,r,D):=KR I.hok e;erw[kt_call_dict f D (by rw[<- r.length];rwa[z]) λi d g=>?_];erw[h _ _ (I.hok.fresh$ RO _)$ I.laid (a:=-s) (o:=.dK kvs) (t':=s.toks) (λb q c=>?_) (RO _)$ XJ z (beq_eq_false_iff_ne.mpr$ Sx$ R6 I.big) r d];exact(g.2 b$ R6$ RT c).trans (RL _ c)
end
section
variable {X:Cx}{pins:FA (η×gb)}{σ:St}{H:Hp}{s:θ}
inductive Kn(c:FA V)(H:Hp)(Q:VK):Prop
 |mk(a b:_)(_:c=[.ref a])(_:H a=δ (.dK b))(_:∀p,H p=ι->Q (.ref p) (af H p (.dK b)))
def Xr:dy X (.type "dict") Kn:=by intro pins s σ H x U Q I r h;let(a,k,rfl,b,q):=h;let(u,rfl,R):=eG r;cases R;rwa[xH I (.inl b) λp S n i=>#[.ref p,_,i,Z,q p n]]
end
section
open PySem.W PySem.Calls Builtin Builtin.ObjectAttr
variable {prog:Δ}{w:cv}{A:bU}{E:ζ->θ->Prop}{s:θ}{K:γ}{x C:η}{ox:gb}{od:FC gb}{name:ρ}
structure xj(K:γ)(C:η):Prop where
 ga:findIn K (.ref C) "__getattribute__"=δ (δ$ .builtin "BaseException.__getattribute__")
 gh:findIn K (.ref C) "__getattr__"=δ ι
 sa:findIn K (.ref C) "__setattr__"=δ (δ$ .builtin "object.__setattr__")
 cl:findIn K (.ref C) "__class__"=δ (δ$ .builtin "object.__class__")
 gt:specialIn K (.builtin "object.__class__") "__get__"=δ (δ$ .builtin "getset_descriptor.__get__")
 tk:takesIn K (.builtin "object.__class__")=δ μ
 mb:mroIn K C (.type "BaseException")=δ μ
 mo:mroIn K C (.type "object")=δ μ
 hd:hasDictIn K C=μ
abbrev uY:FA ζ:=[.type "ValueError",.type "Exception",.type "BaseException",.type "object"]
end
section
open PySem.W PySem.Calls
variable {prog:Δ}{w:cv}{A:bU}{E:ζ->θ->Prop}{R:Result->θ->Prop}{K:γ}{h:df}{g:Array GenState}{d:Drawn}{t:Nat}{os:OsState}{C B:η}
def vh(q:excIn K C uY "ValueError.__new__"=μ):(∃p q N r f a s sub u c D k i j m o,K.lookup C=δ (excClassObj p q C N r f a s sub u c D k i j m o "ValueError.__new__")/\tailIn K uY f=μ/\nsOkIn K N=μ/\nsIn K N "__init__"=δ ι):=by
 unfold excIn at q;split at q
 .rename_i D z S F
  split at q
  .rename_i O f k i j m n o x y
   simp only[Tp,beq_iff_eq,Bool.not_eq_true']at q;obtain⟨⟨⟨⟨⟨rfl,rfl⟩,H⟩,G⟩,b⟩,e⟩:=q;let(p,r,M,I,Q,J,s,sub,u,c,L):=z;dsimp only at x H b e;subst x H;let v:S=(ε [k,i,j,m,δ$ .builtin "ValueError.__new__",o]):=by let⟨l⟩:=S;simp only at y;rw[y]
   subst v;rwa[p,Q,I,r,f,J,s,sub,u,c,D,k,i,j,m,o,F,G,b,e]
  .cases q
 .cases q
end
def aK.obj{P:Δ}{a:η}(x:aK P w H h a o):∃u,h.get? a=δ u:=by
 cases o with
 |lst X=>let(_,_,_,_,e):=x;rwa[_,e]
 |tup X=>let(_,_,_,o,e,_):=x;rwa[_,e]
 |dK k |dT k=>let(_,_,_,_,o,_,_,e,_):=x;rwa[_,e]
 |set S n=>let(o,_,_,_,e,_):=x;rwa[_,e]
 |ins C d F=>let(_,_,_,e,_):=x;rwa[_,e]
 |own y=>let(_,e):=x;rwa[_,e]
 |xd F=>obtain⟨_,⟨_,_,_,e,_⟩,_⟩:=x;rwa[_,e]
 |rng lo b=>let(_,_,_,e):=x;rwa[_,e]
 |frz O u=>let(e,_):=x;rwa[_,e]
 |tbl p |met f y=>rwa[_,(show h.get? a=δ _ from x)]
 |ext c=>obtain⟨_,⟨_,e⟩,_⟩:=x;rwa[_,e]
def aq.laidN{X:Cx}{h':df}{a:η}{o:HO}{t':Nat}(I:aq X p g H s)(k:∀b u,s.heap.get? b=δ u->h'.get? b=δ u)(d:s.heap.get? a=ι)(N:aK X.prog X.w (af H a o) h' a o):
  H a=ι/\aq X p g (af H a o) { s with heap:=h',toks:=t' }:=by
 let i:∀b u,s.heap.get? b=δ u->b≠a:=λb u q z=>by rw[z,d]at q;cases q
 let h:H a=ι:=by
  cases q:H a with
  |none=>rfl
  |some u=>let(U,e):=(I.hok a u q).obj;rw[d]at e;cases e
 erw[h,I.un ?_ ?_]
 .rwa[{ keep:=λb u q _ _ _=>k b u q,slot:=λb u q _ _ _=>#[u.slots,k b u q],free:=λb u q n _=>by rw[jh$ i b u q];rwa[n],there:=λb u q _=>#[u,k b u q],tups:=λb x q=>by rw[jh$ jk q h];rwa[q],frzs:=λb u x q=>by rw[jh$ jk q h];rwa[q],tbls:=λb P q=>#[(ε []),by rw[jh$ jk q h,q];simp] }]
 .intro b u e;by_cases f:b=a
  .subst f;rw[jc]at e;cases e;rwa[N]
  .rw[jh f]at e;exact(I.hok b u e).stay (λc v _ q=>k c v q) (λc q=>by rw[jh$ jk q h];rwa[q]) λc x q=>by rw[jh$ jk q h];rwa[q]
noncomputable def Ey(C:η)(d:FC η)(x:η):HO:=.ext λh=>∃o,h.get? x=δ o/\o.cls= .ref C/\notCls o=μ/\o.dict=d/\∃v,o.data= .fields v/\v[1]?=δ .none/\v[2]?=δ .none
def Go{P:Δ}{h:df}(e:h.get? x=δ o)(a:o.cls= .ref C)(b:notCls o=μ)(c:o.dict=d)(f:∃v,o.data= .fields v/\v[1]?=δ .none/\v[2]?=δ .none):aK P w H h x (Ey C d x):=
 #[#[o,e,a,b,c,f],#[o,e],λg i #[O,E,q] k=>#[O,k O E,q]]
def Ek(C:η):TE:=λa H Q=>∀x,H x=ι->Q (.ref x) (af H x$ Ey C ι x)
section
variable {X:Cx}{CX:uV}{k:Nat}{f C:η}{fd:dN}{ps:FA ρ}{sp:Sp}{E:XK}{x m g:ρ}{p pos pos':Pos}{e o value:dr}{es:FA dr}{ta tv:TE}{t:TA}
def Xs(M:excIn X.K C uY "ValueError.__new__"=μ)(l:ii X.K (.ref C)=μ)(n:Gl X x)(r:X.mg x=↑C)(c:↥((x==("__debug__":ρ))=ξ)):
  PE X (.Call (.Name x p) [] [] pos) (Ek C):=by
 intro P s D H Q I h;erw[S0$ zX I n r ?_ c];erw[V7 I.kIn l ?_];let(G,q,N,J,L,j,S,sub,O,u,R,U,V,Y,k3,k5,v,w,b,i):=vh M;let y:=I.kIn _ _ v;let(hp,g,d,T,os):=s;erw[wpAny_call_exc_subT PySem.F.excBase_ValueError (PySem.W.tail_of_in I.kIn w) y (.of_isNs$ PySem.W.isNs_of_in I.kIn b) (PySem.W.nsMap_none_of_in I.kIn b i) (λh' e m=>?_)$ R4 _];let(t,z,_,_):=m.there;let(A,B):=I.laidN (a:=e) (h':=h') (o:=Ey C ι e) (t':=T) m.keeps m.new (Go z Z Z Z #[1222]);rwa[.ref e,_,B,Z,h e A]
end
def aq.turnedN{X:Cx}{p:FA (η×gb)}{d:St}{H:Hp}{s:θ}{g:df}{t':Nat}{f:FA η}(I:aq X p d H s)(a:∀b∈f,gw X p H b)(k:∀b o,b∉f->s.heap.get? b=δ o->g.get? b=δ o):
  aq X p d H { s with heap:=g,toks:=t' }:=by
 let N:∀b u,H b=δ u->b∉f:=λb u e z=>by rw[(a b z).1]at e;cases e
 refine I.step (g':=s.gens) (d':=s.drawn) (ch:=f) (λb i=>?_) (λb o _ _ h e _=>k b o h e) (λb o _ _ h e _=>#[o.slots,k b o h e]) (λ_ _ _ _ n=>n)
  (λb o h e=>#[o,k b o h e]) (λ_ _ e=>e) (λ_ _ _ e=>e) (λb P e=>#[(ε []),by rw[e];simp]) (λm j=>?_) (λb u e=>?_) I.bare
 .let(A,F,B,l,t,w):=a b i;rwa[l,F,t,w]
 .let(o,E,x,y,r):=j;rwa[o,E,x,k _ o (λz=>(a _ z).2.1 Z) y,r]
 .erw[(I.hok b u e).stay (λc v h q=>k c v ?_ q) (λ_ q=>q) λ_ _ q=>q];rcases h with z |z
  .rw[z];rwa[N b u e]
  .rwa[N c _ z]
section
variable {M:Model}{A:bU}{E:ζ->θ->Prop}{s:θ}
structure dD(fl:ζ)(ij:FA η)(x:η)(ox:gb)(h h':df):Prop where
 ex:∃T oT ts,h.objs.size<=T/\h'.get? x=δ (fy (·.setIfInBounds 1 (.ref T)) ox)/\h'.get? T=δ oT/\oT.data= .fields ts/\ts[3]?=δ fl
 keep:∀b o,b∉ij->b≠x->h.get? b=δ o->h'.get? b=δ o
 slot:∀b o,b≠x->h.get? b=δ o->∃sl,h'.get? b=δ { o with slots:=sl }
def Xt{Q:Unit->θ->Prop}
  (t:A.frames=δ (d::O)) (F:s.heap.FunFrames G (d::O)) (N:d.frame=δ L)
  (I:s.heap.get? x=δ u) (v:u.data= .fields J) (w:1 < J.size)
  (h:∀K,dD (rawInt L) ((d::O).filterMap (·.frame)) x u s.heap K->Q () (s<|K)):
  π M A (do let a <- frameOf d;let p <- entryPlaceOf L q;let b <- EntryCells.newEntry f a .none (rawInt L) .none p;setField (.ref x) 1 b) Q E s:=by
 let y:x∉(d::O).filterMap (·.frame):=λP=>by let(_,o,r,z):=F.mem P;rw[I]at r;injection r with r;subst r;rwa[z J v]
 apply wpAny_frameOf_fun t F N λH c=>?_;apply wpAny_entryPlaceOf λp B=>?_;unfold EntryCells.newEntry newFields;apply SE ?_$ B.sizeOk5 _ _ _ _ _;let g:H.get? x=δ u:=(c.2.1 x y).trans I;let i:=RL (h:=H) { cls:=.type "traceback",dict:=ι,data:=.fields ([f,.ref L,.none,rawInt L,.none]++(if p.isEmpty then fJ 6 Ξ else p)).toArray } g;erw[SR i v w$ h _ ?_];let C:H.objs.size≠x:=Tc (RT g);let j:=Sy v (·.setIfInBounds 1 (Φ H.objs.size));let l:=SH (fy (·.setIfInBounds 1 (Φ H.objs.size))) i (Ta j);let k:∀b o,b≠x->H.get? b=δ o->((H.push { cls:=.type "traceback",dict:=ι,data:=.fields ([f,.ref L,.none,rawInt L,.none]++(if p.isEmpty then fJ 6 Ξ else p)).toArray }).update x$ fy (·.setIfInBounds 1 (Φ H.objs.size))).get? b=δ o:=λb o D e=>by rw[Sl _ _$ Sx D];rwa[RL _ e]
 let m:=(Sl (H.push { cls:=.type "traceback",dict:=ι,data:=.fields ([f,.ref L,.none,rawInt L,.none]++(if p.isEmpty then fJ 6 Ξ else p)).toArray })
  (fy (·.setIfInBounds 1 (Φ H.objs.size))) (Sx C)).trans (RQ H Z)
 erw[#[H.objs.size,11,Wz c.1.symm,l,m,Z,P9],λb o D n e=>k b o n ((c.2.1 b D).trans e),λb o n e=>?_];let(S,R):=c.2.2 b o e;rwa[S,k b _ n R]
def ZX{Q:Unit->θ->Prop}
  (H:A.frames=δ (e::o)) (i:s.heap.FunFrames b (e::o)) (a:e.frame=δ L)
  (c:s.heap.get? x=δ O) (d:O.data= .fields v) (f:v[1]?=δ .none)
  (h:∀g,dD (rawInt L) ((e::o).filterMap (·.frame)) x O s.heap g->Q () (s<|g)):
  π M A (noteFrame (.ref x) e) Q E s:=by
 unfold noteFrame;simp only[a];apply Ss c d f ?_;rw[RU Ra];rwa[Xt H i a c d (bx.mp f).1 h]
def GU{ij:FA η}{Q:Unit->θ->Prop}(N:dD C ij x O H s.heap)(j:H.get? x=δ O)(v:O.data= .fields w)(k:1 < w.size)
  (h:∀p,dD .none ij x O H p->Q () (s<|p)):π M A (setFlight (.ref x) ι) Q E s:=by
 let(T,D,F,c,r,t,g,y):=N.ex;let l:=Sy v (·.setIfInBounds 1 (Φ T));let m:T≠x:=λz=>absurd (Si (RT j) (by rw[<- z];rwa[c])) (Tf _);unfold setFlight;apply Ss r l (x:=.ref T) (by simp [k]) ?_;rw[RV (show(Φ T != Ξ)=μ from by simp)];let i:=(bx.mp y).1;erw[SR t g i$ h _ ?_];let a:=Sy g (·.setIfInBounds 3 ((ι:FC η).elim Ξ λf=>rawInt f));let n:=SH (fy (·.setIfInBounds 3 ((ι:FC η).elim Ξ λf=>rawInt f))) t (Ta a);let u:∀b o,H.get? b=δ o->T≠b:=λb o e z=>absurd (Si (RT e) (by rw[<- z];rwa[c])) (Tf _);erw[#[T,11,c,by rw[Sl _ _ m];rwa[r],n,a,by simp [i]],λb o B d e=>?_,λb o d e=>?_]
 .rw[Sl _ _$ u b o e];rwa[N.keep b o B d e]
 .let(S,q):=N.slot b o d e;rwa[S,by rw[Sl _ _$ u b o e];rwa[q]]
def Zi{base:df}{Q:Unit->θ->Prop}
  (a:A.frames=δ (e::o)) (f:s.heap.FunFrames base (e::o)) (g:e.frame=δ L)
  (b:s.heap.get? x=δ O) (c:O.data= .fields v) (d:v[1]?=δ .none)
  (h:∀H,dD .none ((e::o).filterMap (·.frame)) x O s.heap H->Q () (s<|H)):
  π M A (leaving e$ .ref x) Q E s:=by
 unfold leaving;rwa[RG$ ZX a f g b c d λH N=>GU (s:=(s<|H)) N b c (bx.mp d).1 h]
end
section
variable {M:Model}{A:bU}{E:ζ->θ->Prop}{s:θ}
noncomputable abbrev fb(T:η)(h:df):df:=h.update T (fy (·.setIfInBounds 3 Ξ))
def Xu{base:df}{Q:Unit->θ->Prop}
  (f:A.frames=δ (e::O)) (w:s.heap.FunFrames base (e::O)) (j:e.frame=δ L)
  (k:s.heap.get? x=δ l) (m:l.data= .fields v) (p:v[1]?=↑T) (g:T≠x) (i:s.heap.get? T=δ y) (c:y.data= .fields t) (r:t[3]?=δ .none)
  (h:∀u,dD (rawInt L) ((e::O).filterMap (·.frame)) x l (fb T s.heap) u->Q () (s<|u)):
  π M A (noteFrame (.ref x) e) Q E s:=by
 unfold noteFrame;simp only[j];apply Ss k m p ?_;rw[RV (show(Φ T != Ξ)=μ from by simp)];apply Ss i c r ?_;rw[RU (show ¬((Ξ==rawInt L)=μ) from by simp [rawInt])];apply SR i c (bx.mp r).1 ?_;let a:∀b,b≠T->(fb T s.heap).get? b=s.heap.get? b:=λb H=>Sl _ _ (Sx H);let n:∀b o,s.heap.get? b=δ o->(∀v,o.data≠ .fields v)->b≠T:=λb o H d q=>by rw[q,i]at H;injection H with H;subst H;rwa[d t c]
 rwa[Xt (s:=(s<|fb T s.heap)) f (w.of_keeps λb o H d=>#[o,(a b$ n b o H d).trans H,Z]) j ((a x$ Sx g).trans k) m (bx.mp p).1 h]
def ZY{base:df}{Q:Unit->θ->Prop}
  (b:A.frames=δ (e::o)) (i:s.heap.FunFrames base (e::o)) (j:e.frame=δ L)
  (d:s.heap.get? x=δ O) (f:O.data= .fields v) (g:v[1]?=↑T) (H:T≠x) (k:s.heap.get? T=δ l) (c:l.data= .fields t) (m:t[3]?=δ .none)
  (h:∀a,dD .none ((e::o).filterMap (·.frame)) x O (fb T s.heap) a->Q () (s<|a)):
  π M A (leaving e$ .ref x) Q E s:=by
 unfold leaving;rwa[RG$ Xu b i j d f g H k c m λa N=>GU (s:=(s<|a)) N ((Sl _ _ H).trans d) f (bx.mp g).1 h]
end
noncomputable def iH(C:η)(d:FC η)(T x:η):HO:=.ext λh=>∃o v,h.get? x=δ o/\o.cls= .ref C/\notCls o=μ/\o.dict=d/\o.data= .fields v/\v[1]?=↑T/\v[2]?=δ .none
noncomputable def hV(T:η):HO:=.ext λh=>∃o t,h.get? T=δ o/\o.data= .fields t/\t[3]?=δ .none
def Lc{P:Δ}{h:df}(e:h.get? x=δ o)(c:o.cls= .ref C)(f:notCls o=μ)(g:o.dict=d)(i:o.data= .fields v)(b:v[1]?=↑T)(a:v[2]?=δ .none):aK P w H h x (iH C d T x):=
 #[#[o,v,e,c,f,g,i,b,a],#[o,e],λb j #[O,V,E,q] k=>#[O,V,k O E,q]]
def Bx{P:Δ}{h:df}(e:h.get? T=δ o)(b:o.data= .fields a)(c:a[3]?=δ .none):aK P w H h T (hV T):=
 #[#[o,a,e,b,c],#[o,e],λd f #[O,t,E,q] k=>#[O,t,k O E,q]]
def gr(P:Δ)(w:cv):uV:=λo H s E e S=>∃x C d T h,e= .ref x/\S.os=s.os/\AllBare S.gens/\Un (ij o) [] H h s.heap S.heap/\fQ P w h S.heap/\
 h x=δ (iH C d T x)/\h T=δ (hV T)/\T≠x/\E (.ref C) d h
section
variable {X:Cx}{pins:FA (η×gb)}{σ:St}{H:Hp}{s:θ}{x C:η}{d:FC η}
def dD.hok{fl:ζ}(I:aq X pins σ H s)(g:H x=δ (.ext Q))(P:s.heap.get? x=δ o)(E:o.cls= .ref C)(F:o.dict=d)(j:o.data= .fields B)(k:1 < B.size)(l:B[2]?=δ .none)(m:∀b∈G,H b=ι)
  (N:dD .none G x o s.heap J):∃T,H T=ι/\T≠x/\-s<=T/\fQ X.prog X.w (af (af H T$ hV T) x$ iH C d T x) J:=by
 let(T,R,S,h,n,K,p,r):=N.ex;let i:H T=ι:=I.hok.fresh h;let t:T≠x:=Sx (jk g i);let a:=Sy j (·.setIfInBounds 1 (Φ T));erw[T,i,t,h,λb u e=>?_];by_cases y:b=x
 .subst y;rw[jc]at e;cases e;refine Lc n ((UD _ _).trans E) ?_ ?_ a (by simp [k]) (by simp [l])
  .unfold notCls;rw[a]
  .let(U,V,O,L):=o;simp only at j;subst j;rwa[F]
 .rw[jh y]at e;by_cases f:b=T
  .subst f;rw[jc]at e;cases e;rwa[Bx K p r]
  .rw[jh f]at e;refine(I.hok b u e).stay (λc v D q=>?_) (λc q=>?_) λc W q=>?_
   .let A:c≠x:=by
     rcases D with z |z
     .rw[z];rwa[y]
     .rwa[jQ z g (by intro q;cases q)]
    erw[N.keep c v (λM=>?_) A q];let:=m c M;rcases D with z |z
    .rw[z,e]at this;cases this
    .rw[z]at this;cases this
   .rw[jh$ jQ q g FI,jh$ jk q i];rwa[q]
   .rw[jh$ jQ q g FI,jh$ jk q i];rwa[q]
def dD.un{h':df}(I:aq X pins σ H s)(hex:X.ex=[])(j:H x=δ (.ext k))(l:H T=ι)(c:-s<=T)(f:∀b∈p,b∈X.fs∨X.s₀.heap.objs.size<=b)
  (N:dD .none p x y s.heap h'):Un X.fs [] X.H₀ (af (af H T$ hV T) x$ iH C d T x) X.s₀.heap h':=by
 let g:∀b,H b=ι->b≠x:=λb e z=>by rw[z,j]at e;cases e
 let r:∀b o,X.s₀.heap.get? b=δ o->b≠T:=λb o e=>R6 (Si (RT e)$ Sf I.sz c);let a:∀b:η,b∉X.ex:=λb z=>by rw[hex]at z;cases z
 let t:∀b,H b=ι->b≠T->af (af H T$ hV T) x (iH C d T x) b=ι:=λb e z=>by rw[jh$ g b e,jh z];rwa[e]
 let U:∀b u,H b=δ u->(∀k,u≠ .ext k)->af (af H T$ hV T) x (iH C d T x) b=δ u:=λb u e z=>by rw[jh (λq=>by rw[q,j]at e;cases e;rwa[z _ Z]),jh$ jk e l];rwa[e]
 erw[λb o e n h _=>?_,λb o e n h _=>?_,λb o e n _=>?_,λb o e _=>?_,λb v e=>U b _ (I.base.tups b v e) (by intro _ q;cases q),λb o u e=>U b _ (I.base.frzs b o u e) (by intro _ q;cases q),λb P e=>?_]
 .erw[N.keep b o (λz=>?_) (g b$ I.base.free b o e n$ a b)$ I.base.keep b o e n h$ a b];rcases f b z with q |q
  .rwa[h q]
  .rwa[absurd (Si (RT e) q)$ Tf _]
 .let(w,q):=I.base.slot b o e n h (a b);let(S,Q):=N.slot b _ (g b$ I.base.free b o e n$ a b) q;rwa[S,Q]
 .rwa[t b (I.base.free b o e n$ a b)$ r b o e]
 .let(O,q):=I.base.there b o e (a b);by_cases h:b=x
  .let(A,_,_,_,i,_):=N.ex;rwa[_,by rw[h];rwa[i]]
  .let(w,Q):=N.slot b O h q;rwa[_,Q]
 .let(m,q):=I.base.tbls b P e;rwa[m,U b _ q (by intro _ q;cases q)]
end
section
variable {P:Δ}{w:cv}{K:γ}{mg:ρ->FC ζ}{base:df}{N:FA ρ}{qual:ρ}{scope:gO}{f:η}{cd:ζ}{A:bU}{outer:FA Env}{s₀:θ}{H₀:Hp}{E:XK}
variable {pins:FA (η×gb)}{σ:St}{H:Hp}{s:θ}{x C:η}{d:FC η}
def BQ(I:aq (gA (gr P w) P w K mg base N qual scope f cd A outer s₀ H₀ E) pins σ H s)(c:H x=δ (Ey C d x))
  (h:∀T,H T=ι->E (.ref C) d (af (af H T$ hV T) x$ iH C d T x)):(gA (gr P w) P w K mg base N qual scope f cd A outer s₀ H₀ E).xe (.ref x) s:=by
 obtain⟨⟨O,m,r,v,t,V,n,o,g⟩,_⟩:=I.hok x _ c;let i:=(bx.mp o).1;erw[Zi (base:=base) I.ok.frames I.stack Z m n o λy p=>?_];let(T,q,a,j,k):=p.hok (C:=C) (d:=d) (fl:=.none) I c m r t n i g λb l=>I.stkFree b l;let u:=p.un (C:=C) (d:=d) I Z c q j λb l=>by
  rcases ω.mp (I.stkSub b l) with e |e
  .rwa[.inr (by rw[e];rwa[I.ok.above])]
  .rwa[.inl e]
 rwa[x,C,d,T,12,I.os,I.bare,u,k,jc,by rw[jh a,jc],a,h T q]
def aq.cleared{X:Cx}(I:aq X pins σ H s)(c:H T=δ (hV T))(i:s.heap.get? T=δ O)(j:O.data= .fields t)(k:t[3]?=δ .none):aq X pins σ H (s<|fb T s.heap):=by
 let h:=Sy j (·.setIfInBounds 3 Ξ);let g:=SH (fy (·.setIfInBounds 3 Ξ)) i (Ta h);let:=I.write (x:=T) (e:=T) (o:=hV T) (h':=fb T s.heap) (t':=s.toks) (by rw[c];rwa[True.intro]) (.inl Z) (λb u a q=>(Sl _ _$ Sx a).trans q) #[_,g] (Bx g h (by simp [(bx.mp k).1]));let l:af H T (hV T)=H:=by
  funext b;by_cases a:b=T
  .rw[a,jc,c]
  .rw[jh a]
 rw[l]at this;rwa[this]
def Ep(I:aq (gA (gr P w) P w K mg base N qual scope f cd A outer s₀ H₀ E) pins σ H s)(g:H x=δ (iH C d T x))(o:H T=δ (hV T))(c:T≠x)
  (h:∀t,H t=ι->E (.ref C) d (af (af H t$ hV t) x$ iH C d t x)):(gA (gr P w) P w K mg base N qual scope f cd A outer s₀ H₀ E).xe (.ref x) s:=by
 obtain⟨⟨O,V,p,F,J,G,q,r,i⟩,_⟩:=I.hok x _ g;obtain⟨⟨L,M,u,v,y⟩,_⟩:=I.hok T _ o;let j:=(bx.mp r).1;let z:=I.cleared o u v y;erw[ZY (base:=base) I.ok.frames I.stack Z p q r c u v y λQ B=>?_];let k:(fb T s.heap).get? x=δ O:=(Sl _ _ c).trans p;let(t,D,a,l,m):=dD.hok (C:=C) (d:=d) (fl:=.none) z g k F G q j i (λb n=>I.stkFree b n) B;let U:=dD.un (C:=C) (d:=d) z Z g D l (λb n=>by
  rcases ω.mp (I.stkSub b n) with e |e
  .rwa[.inr (by rw[e];rwa[I.ok.above])]
  .rwa[.inl e]) B
 rwa[x,C,d,t,12,I.os,I.bare,U,m,jc,by rw[jh a,jc],a,h t D]
def Dw{j:XK}(m:∀x C d T t a,a x=δ (iH C d T x)->a T=δ (hV T)->a t=ι->j (.ref C) d a->E (.ref C) d (af (af a t$ hV t) x$ iH C d t x)):
  dE (gr P w) (gA (gr P w) P w K mg base N qual scope f cd A outer s₀ H₀ E) j:=by
 intro pins σ H s e S I h;let(x,C,d,T,a,rfl,os,B,u,c,k,l,i,n):=h;let(p,g,D,q,o):=S;obtain rfl:o=s.os:=os;let r:=I.call (h':=p) (g':=g) (d':=D) (t':=q) (ch:=[]) u c B (λb z=>absurd z P9);rwa[Ep r k l i λt v=>m x C d T t a k l v n]
end
section
open PySem.W
variable {prog:Δ}{w:cv}{A:bU}{E:ζ->θ->Prop}{K:γ}{x C:η}{ox:gb}{vs:Array ζ}{env:Env}
def ZZ{ev:Sem ζ}(e:A.handled=ι)
  (h:!A ev (λv S=>∃x C ox vs,v= .ref x/\K.In S.heap/\xj K C/\typeIn K (.ref C)=δ (.type "type")/\S.heap.get? x=δ ox/\ox.cls= .ref C/\ox.data= .fields vs/\vs[1]?=δ .none/\E (.ref x) S) E s):
  !A (raiseStmt env (δ ev) ι) Q E s:=by
 unfold raiseStmt;apply Ti h (λv S a=>?_) λ_ _ z=>z;let(x,C,ox,vs,rfl,X,f,i,b,j,c,m,n):=a;let(H,g,d,T,os):=S;let L:Looks (χ prog w) H (typeOf$ .ref x) (.ref C):=j▸(Looks.ld b).andThen .now;let l:Looks (χ prog w) H (isType$ .ref x) ξ:=by intro u y B D k q;unfold isType loadHead;apply wpAny_loadPart (k _ _ b) ?_;rw[c];rwa[RM q]
 let _L:=looks_mroIn (M:=χ prog w) X f.mb;let o:=looks_typeIn (M:=χ prog w) X i;let L4:Looks (χ prog w) H (isInstance (.ref x)$ .type "BaseException") μ:=L.andThen _L;let p:Looks (χ prog w) H (isExcClass$ .ref x) ξ:=by unfold isExcClass;rwa[l.andThen .now]
 let r:Looks (χ prog w) H (raisedInstance$ .ref x) (.ref x):=by unfold raisedInstance;rwa[L.andThen$ o.andThen (by rw[RV Ra];rwa[.now])]
 let t:Looks (χ prog w) H (excFromValue (.ref x) "exceptions must derive from BaseException") (.ref x):=by unfold excFromValue;rwa[p.andThen (by rw[RU Ra];rwa[L4.andThen (by rw[RV Z];rwa[.now])])]
 apply RM ?_;apply Sj$ t.at ?_;dsimp only;apply l.at ?_;rw[RU Ra];apply r.at ?_;unfold setFlight;apply RG$ Ss b c m ?_;rw[RU Ra];rwa[RM$ wpAny_raiseNew_none e n]
end
def Ez(X:Cx)(W:η->η->FC η->Hp->Prop):Prop:=∀(p:FA (η×gb)) (a:St) (H:Hp) (s:θ) (x C:η) (d:FC η),aq X p a H s->H x=δ (Ey C d x)->W x C d H->X.xe (.ref x) s
def Xv{P:Δ}{K:γ}:
  Ez (gA (gr P w) P w K m b N q s f g A o a c E) (λx C d H=>∀T,H T=ι->E (.ref C) d (af (af H T$ hV T) x$ iH C d T x)):=
 λ_ _ _ _ _ _ _ I e h=>BQ I e h
inductive tX(K:γ)(b:η->η->FC η->Hp->Prop)(v:V)(a:Hp):Prop
 |mk(x C d:_)(_:v= .ref x)(_:a x=δ (Ey C d x))(_:xj K C)(_:typeIn K (.ref C)=δ (.type "type"))(_:b x C d a)
def IJ(K:γ)(t:TE)(W:η->η->FC η->Hp->Prop):TS:=λ_u0 a H=>t a H (tX K W)
def YH{X:Cx}{e:dr}{t:TE}{P:Pos}{W:η->η->FC η->Hp->Prop}(f:X.calm=μ)(F:Ez X W)(g:PE X e t):PS X (.Raise (δ e) ι P) (IJ X.K t W):=by intro p s b H D I h;rw[arm_exec_Raise];apply UF ?_;erw[ZZ (K:=X.K) (ev:=do let v <- eval e X.env;standAt P;pure v) (I.ok.hd f)$ RG$ aS (g p s b H _ I h) λu S a=>RG (UF$ RM ?_)];let(v,j,i,r,x,C,d,ev,c,k,l,q):=a;subst ev;obtain rfl:u=Φ x:=r;obtain⟨⟨o,m,n,A,B,V,w,y,z⟩,_⟩:=i.hok x _ c;rwa[x,C,o,V,Z,i.kIn,k,l,m,n,w,y,F p b j S x C d i c q]
section
variable {X:Cx}{pins:FA (η×gb)}{σ:St}{H:Hp}{s:θ}{x C:η}{d:FC η}
def aq.noted{t':Nat}(I:aq X pins σ H s)(a:H x=δ (.ext m))(r:s.heap.get? x=δ O)(t:O.cls= .ref C)(w:O.dict=d)(y:O.data= .fields v)(c:1 < v.size)(f:v[2]?=δ .none)
  (N:dD .none (ij X.stack) x O s.heap A):∃T,H T=ι/\T≠x/\aq X pins σ (af (af H T$ hV T) x$ iH C d T x) { s with heap:=A,toks:=t' }:=by
 let(T,p,g,i,j):=dD.hok (C:=C) (d:=d) (fl:=.none) I a r t w y c f (λb h=>I.stkFree b h) N;let k:∀b,H b=ι->b≠x:=λb e z=>by rw[z,a]at e;cases e
 let U:∀b u,H b=δ u->(∀m,u≠ .ext m)->af (af H T$ hV T) x (iH C d T x) b=δ u:=λb u e z=>by rw[jh (λq=>by rw[q,a]at e;cases e;rwa[z _ Z]),jh$ jk e p];rwa[e]
 erw[T,p,g,I.call (g':=s.gens) (d':=s.drawn) (ch:=[]) ?_ j I.bare (λb z=>absurd z P9)];erw[λb o e n h _=>N.keep b o h (k b n) e,λb o e n _ _=>N.slot b o (k b n) e,λb o e n _=>?_,λb o e _=>?_,λb B e=>U b _ e (by intro _ q;cases q),λb o u e=>U b _ e (by intro _ q;cases q),λb P e=>#[(ε []),by rw[U b _ e (by intro _ q;cases q)];simp]]
 .rw[jh$ k b n,jh$ R6$ Si (RT e) i];rwa[n]
 .by_cases h:b=x
  .let(D,_,_,_,l,_):=N.ex;rwa[_,by rw[h];rwa[l]]
  .let(S,q):=N.slot b o h e;rwa[_,q]
end
noncomputable abbrev Cx.mark(X:Cx)(e:ζ)(xe:ζ->θ->Prop):Cx:={ X with A:=X.A.mark (δ e),calm:=ξ,xe:=xe }
def aq.mark{X:Cx}(I:aq X p a H s)(e:ζ)(x:ζ->θ->Prop):aq (X.mark e x) p a H s:=
 #[#[I.ok.mod,I.ok.kind,I.ok.glob,I.ok.blt,I.ok.above,I.ok.inj,I.ok.has,I.ok.cab,(λz=>nomatch (show ξ=μ from z)),I.ok.frames,I.ok.stk,I.ok.exf,I.ok.bs,I.ok.bsz,I.ok.noex,I.ok.exfs,I.ok.funs,I.ok.frf],I.os,I.bare,I.base,I.loc,I.cell,I.free,I.freeC,I.pin,I.hok,I.len]
def aq.unmark{X:Cx}(o:X.Ok)(I:aq (X.mark e x) p a H s):aq X p a H s:=
 #[o,I.os,I.bare,I.base,I.loc,I.cell,I.free,I.freeC,I.pin,I.hok,I.len]
section
open PySem.W
def Q0{K:γ}(X:K.In h)(a:h.get? x=δ o)(b:o.cls= .ref C)(H:clsIn K B≠ι)(tB:typeIn K (.ref B)=δ (.type "type"))(m:mroIn K B (.type "BaseException")=δ μ)(c:mroIn K C (.ref B)=δ μ):
  Looks M h (excMatches (.ref x)$ .ref B) μ:=by
 let L:Looks M h (typeOf$ .ref x) (.ref C):=b▸(Looks.ld a).andThen .now;let l:=looks_typeIn (M:=M) X tB;let _L:Looks M h (isInstance (.ref B)$ .type "tuple") ξ:=l.andThen (Looks.of_pure tc_notTuple);let d:Looks M h (isType$ .ref B) μ:=by
  unfold clsIn at H;split at H
  .rename_i e
   intro A Q E s k q;unfold isType loadHead;rwa[RG$ wpAny_loadPart (k _ _$ X _ _ e)$ RM q]
  .rwa[absurd Z H]
 let L4:Looks M h (isExcClass$ .ref B) μ:=by unfold isExcClass;rwa[d.andThen (by rw[RV Z];rwa[looks_mroIn X m])]
 let f:=looks_mroIn (M:=M) X c;intro A Q E s k q;unfold excMatches;apply _L A _ E s k ?_;rw[RU Ra];apply RM ?_;dsimp only;erw[RG ?_];rw[Uu];apply RG$ L4 A _ E s k ?_;simp only[Vg,R8,Te];erw[RM ?_];dsimp only;rw[Vs];erw[RM ?_];apply L A _ E s k ?_;erw[RG ?_];rw[Uu];apply RG$ f A _ E s k ?_;simp only[Vm];erw[RM$ RM ?_];rwa[RM q]
end
abbrev XR:=η->η->FC η->η->Hp->Prop
def XW(X:Cx)(p:FA (η×gb))(a:St)(R:XR)(e:ζ)(s:θ):Prop:=
 ∃x C d T H,e= .ref x/\aq X p a H s/\H x=δ (iH C d T x)/\H T=δ (hV T)/\T≠x/\R x C d T H
abbrev N6:=St->Hp->VK->XR->Prop
abbrev N8:=a8->XR->St->Hp->Prop
def O6(X:Cx)(e:dr)(t:N6):Prop:=
 ∀(p:FA (η×gb)) (s:θ) (a:St) (H:Hp) (Q:VK) (R:XR),aq X p a H s->t a H Q R->!X (eval e X.env) (EP X p a Q) (XW X p a R) s
def O9(X:Cx)(st:de)(t:N8):Prop:=
 ∀(p:FA (η×gb)) (s:θ) (a:St) (H:Hp) (D:a8) (R:XR),aq X p a H s->t D R a H->!X (exec st X.env) (SP X p D) (XW X p a R) s
def Pl(R:XR):XK:=λc d H=>∀x C T,c= .ref C->H x=δ (iH C d T x)->H T=δ (hV T)->T≠x->R x C d T H
def IZ(s:Sp)(d:FA V)(t:TA):N6:=λa H Q R=>t a H λv h=>s (v++d) h Q (Pl R)
section
variable {X:Cx}{k:Nat}{f:η}{fd:dN}{ps:FA ρ}{sp:Sp}{dvs:FA V}{ds:FA ζ}{x:ρ}{p pos:Pos}{e:dr}{es:FA dr}{t:TA}{te:N6}
def Af(F:ai X.prog X.w X.K X.mg X.base (gr X.prog X.w) k f fd ps sp)(y:bX k X.A)(D:Gl X x)(E:X.mg x=↑f)(G:ii X.K (.ref f)=μ)(J:ax X.K fd ps ds)(L:aw dvs ds)
  (M:PA X.nox (e::es) t) (g:↥((x==("__debug__":ρ))=ξ)) (N:↥(Ψ (e::es) X.env=(ξ,eval e X.env)::Ψ es X.env)) (j:↥((fz pos$ Ψ es X.env).any (·.1)=ξ)):
  O6 X (.Call (.Name x p) (e::es) [] pos) (IZ sp dvs t):=by
 intro P s O H Q R I h;erw[S0$ zX I D E ?_ g];erw[WI (h₀:=X.base) I.ok.mod.kin G (Ti (M pos P s O H _ (I.wish _) h) (λU S #[v,W,i,r,q]=>#[i.kIn,?_]) λ_ _ z=>z.elim) N j];let i:=i.unwish;let m:aw (v++dvs) (U++ds):=r.append L;let Y:(U++ds).length=ο ps:=by rw[<- m.length];rwa[F.len _ _ _ _ q]
 erw[wpAny_call$ UV (F.run X.A X.stack S W #[U,[]] (U++ds) (v++dvs) Q (Pl R) y i.env0 (J S U i.kIn Y) m q) λr s' a=>?_];cases r with
 |error e=>let(x,C,d,T,H',rfl,os,B,un,l,n,o,c,hw):=a;rwa[x,C,d,T,H',Z,i.call' os un l B (λb z=>absurd z P9),n,o,c,hw x C T Z n o c]
 |ok fl=>
  cases fl with
  |ret u=>rwa[i.after a]
  |next |brk |cont=>rwa[False.elim a]
def DG{i:Nat}{y:ρ}{P:Pos}(d:X.N.Nodup)(g:X.N[i]?=δ y)(j:wZ X.env.scope y)(l:O6 X e te)(m:↥(swapsWith e (δ$ .Name y P) pos.line X.env=pure ξ))(n:autoParam (X.fn y=μ∨X.env.scope.names.lookup y=δ .local) Wx._auto_1):
  O9 X (.Assign [.Name y P] e pos) (λD R b H=>te b H (λv c=>D.nx (b.set i$ δ v) c) R):=by
 intro a s b H D R I h;erw[wpAny_Assign_Name (aS (l a s b H _ R I h) λv S z=>?_) m];let(y,c,o,r,q):=z;rwa[zM o d g j r (λw u=>#[_,c,u,q]) n]
end
def aM.ok1{P:Δ}{K:γ}{st:de}{a:Sp}(F:aM K x q st f g)(S:al N p (ae st))
  (h:∀(c:ζ) (A:bU) (o:FA Env) (s:θ) (H:Hp) (v:FA V) (Q:VK) (E:XK),bX k (A.deeper$ envOfC q (ae st) (-s) f c)->a v H Q E->
   let X:=gA (gr P w) P w K m b N q (ae st) f c A o s H E;∃t,nZ X (bG st) t/\t { nx:=λ_ i=>Q .non i,rt:=Q } (gX N v) H)(len:autoParam (∀v H Q E,a v H Q E->ο v=ο p) _L.aM.ok._auto_1):ai P w K m b (gr P w) (k+1) f g p a:=by
 let(l,n,kV,D,r,u,c,C,O,rfl,lk,d):=F.ex;rwa[EO lk d S len λA o s H v Q E j e=>h c A o s H v Q E j e]
end _L
namespace _L
open PySem PySem.Spec PyProof.Rows PySem.SeqAt
def xQ(x y:FA V):Bool:=(dg$ min x.length y.length).all (λj=>nW (x.getD j .non) (y.getD j .non))&&ο x==ο y
section
variable {X:Cx}
def wM(r:aw x i)(R:aw y I)(f:x.all dB=μ)(F:y.all dB=μ)(j:Nat)(c:j < i.toArray.size)(d:j < I.toArray.size):EqAt A s i.toArray[j] I.toArray[j] (nW (x.getD j .non)$ y.getD j .non):=by
 let L:=r.length;let p:=R.length;let H:j < ο x:=by simp at c;omega
 let h:j < ο y:=by simp at d;omega
 let a:x[j]?=δ x[j]:=RI H;let b:y[j]?=δ y[j]:=RI h;let(u,q,g):=r.get a;let(U,Q,k):=R.get b;let l:=tT.mp f _ (UK H);let m:=tT.mp F _ (UK h);let E:i.toArray[j]=u:=by let(_,e):=ν.mp q;simpa using e
 let n:I.toArray[j]=U:=by let(_,e):=ν.mp Q;simpa using e
 let G:x.getD j .non=x[j]:=by rw[RY,a];rfl
 let o:y.getD j .non=y[j]:=by rw[RY,b];rfl
 rw[E,n,G,o];rwa[Zx g k l m]
inductive YI(K:γ)(x y:V)(H:Hp)(Q:VK):Prop
 |mk(a b c d:_)(_:x= .ref a)(_:y= .ref b)(_:aC K H a c)(_:aC K H b d)(_:c.all dB=μ)(_:d.all dB=μ)(_:Q (.bl (xQ c d)) H)
def Ig(f:X.A.units < cLine):gu X (compareOp .Eq) (YI X.K):=by
 intro p s z H x y v u Q I g k h;let(a,b,c,Y,rfl,rfl,l,m,F,n,q):=h;cases g;cases k;let(i,r,P,_):=I.tuple l;let(d,R,o,_):=I.tuple m;erw[eq_tupleAt (e:=λj=>nW (c.getD j .non) (Y.getD j .non)) (show s.heap.IsTuple a i.toArray from P) (show s.heap.IsTuple b d.toArray from o) f (λj t w=>wM r R F n j t w) ?_];let e:((dg$ min i.toArray.size d.toArray.size).all (λj=>nW (c.getD j .non) (Y.getD j .non))&&i.toArray.size==d.toArray.size)=xQ c Y:=by unfold xQ;rw[RS,RS,<- r.length,<- R.length]
 rw[e];rwa[.bl _,H,I,Z,q]
end
end _L
namespace _L
open PySem PySem.Spec PyProof.Rows
section
#print v
def Z0{Q:Nat->θ->Prop}(H:n≠0)(h:∀i d,i < n->Q i { s with drawn:=d }):!A (choose a n) Q E s:=by intro Γ p _;show Sem.wp _ Γ (.choose a n .pure) _ _ p s;rw[Sem.wp_choose];rwa[H,h _ _$ Nat.mod_lt _$ Nat.pos_of_ne_zero H]
def Zj{α:Type}:∀(n:Nat) (xs:FA α) (s:θ) {Q:FA α->θ->Prop},ο xs=n->(∀ys d,ys.Perm xs->Q ys { s with drawn:=d })->
  !A (drawOrder n xs) Q E s:=by
 intro n;induction n with
 |zero=>
  intro xs s Q hl h;cases xs with
  |nil=>unfold drawOrder;rwa[RM$ h [] s.drawn .rfl]
  |cons _ _=>cases hl
 |succ n ih=>
  intro xs s Q hl h;cases xs with
  |nil=>cases hl
  |cons x r=>unfold drawOrder;apply Z0 P9 λi d hi=>?_;let hg:(x::r)[i]?=δ ((x::r)[i]'hi):=RI hi;rw[hg];dsimp only;apply ih _ _ (by rw[WZ hi,hl];rfl) λys d' hp=>RM (h _ d' ?_);erw[(tz _ hp).trans ?_];rw[WA];erw[mU.symm.trans ?_];rw[Tl,Uf]
end
noncomputable def nQ:ζ->ρ
 | .str x _=>x
 |_=>#[(ε [])]
def Q1(t:SetTable)(n:Nat):(t.orStandIn n).led=t.led:=by
 unfold SetTable.orStandIn;split
 .rfl
 .rfl
def Z1(t:SetTable)(e:Array (Int×ζ))(h:Int)(x:ζ):(layNew t e h x).2.1.led=t.led:=by
 unfold layNew;split
 .rwa[Q1 _ _]
 .rfl
def Yg(t:SetTable)(E:Array (Int×ζ))(n:Nat):(relayAll t E n).2.1.led=t.led:=by
 unfold relayAll;split
 .rename_i T o e
  unfold SetTable.relaid SetTable.laid at e;cases h:SetTable.layClean (SetTable.sizeAbove n - 1) (E.map (·.1)) with
  |none=>rw[h]at e;cases e
  |some O=>rw[h]at e;cases e;dsimp only;split<;>rfl
 .rfl
def QN(t:SetTable)(E:Array (Int×ζ))(n:Nat)(H:t.plain=ξ):(relayAll t E n).2.1.plain=ξ:=by
 unfold relayAll;split
 .rename_i T o e
  unfold SetTable.relaid SetTable.laid at e;cases h:SetTable.layClean (SetTable.sizeAbove n - 1) (E.map (·.1)) with
  |none=>rw[h]at e;cases e
  |some O=>
   rw[h]at e;cases e;dsimp only;split
   .rwa[H]
   .rfl
 .rfl
def c7(p:Δ)(w:cv)(h:df)(a:η)(L:FA ρ):Prop:=
 ∃o E b t,h.get? a=δ o/\o.ExactSet/\o.data= .set E b t/\ElemsOf (dn p w) E.toList/\(E.toList.map λe=>nQ e.2).Perm L/\L.Nodup
  /\E.size < scanBound/\t.fits E.size=μ/\t.led=!(w.params.followText "set-order")/\(t.plain=ξ∨E.size=0)
def c7.at{H:df}{a:η}(x:c7 p w h a L)(e:∀o,h.get? a=δ o->H.get? a=δ o):c7 p w H a L:=
 let #[o,E,b,t,c,r]:=x;#[o,E,b,t,e o c,r]
section
#print v
def Ko{a:Array (Int×ζ)}(b:ElemsOf (dn prog w) a.toList)(x:ρ):
  (a.toList.findIdx? (λe=>(dn prog w).is x e.2)=ι↔¬x∈a.toList.map λe=>nQ e.2):=by
 rw[List.findIdx?_eq_none_iff];constructor
 .intro h m;let(e,H,f):=β.mp m;obtain⟨⟨k,g,_⟩,_⟩:=b e H;let(t,c):=Vj g;let q:=h e H;rw[c]at f q;let d:k=x:=f;subst d;let Q:(dn prog w).is k (.str k t)=μ:=strKind_is prog w k t;rw[Q]at q;cases q
 .intro h e H;cases q:(dn prog w).is x e.2 with
  |false=>rfl
  |true=>let(t,c):=Vj q;rwa[absurd (β.mpr #[e,H,by rw[c];rfl]) h]
def Kq{b:Array (Int×ζ)}{T:SetTable}(d:s.heap.get? a=δ o)(f:o.ExactSet)(h:o.data= .set p c t)
  (g:ElemsOf (dn prog w) b.toList) (i:(b.toList.map λe=>nQ e.2).Perm L) (j:L.Nodup) (k:b.size < scanBound) (l:T.fits b.size=μ)
  (m:T.led=!(w.params.followText "set-order")) (n:T.plain=ξ):
  (s.heap.update a$ mF b T).get? a=δ { o with data:=.set b (c+1) T }/\c7 prog w (s.heap.update a$ mF b T) a L:=by
 let H:(s.heap.update a$ mF b T).get? a=δ { o with data:=.set b (c+1) T }:=by let q:=SH (mF b T) d (by rw[putSet_of b T h];rfl);rw[putSet_of b T h]at q;assumption
 rwa[H,_,b,c+1,T,H,f,Z,g,i,j,k,l,m,.inl n]
def Zk{Q : Bool -> θ -> Prop}(hS : c7 prog w s.heap a L)(room : ο L + 1 < scanBound)
    (h : ∀ b R l, eC a s.heap R -> c7 prog w R a (if x ∈ L then L else L ++ [x]) -> s.toks <= l -> Q b { s with heap := R, toks := l }) :
    !A (setAdd a$ .str x f) Q E s := by
  obtain ⟨o, g, ep, t, n, U, u, H, v, B, hb, V, X, Y⟩ := hS;let d : (dn prog w).is x (.str x f) = μ := strKind_is prog w x f;let C : g.size = ο L := by rw [<- v.length_eq, RJ, Sb]
  unfold setAdd;erw[Sj$ RG ((dn prog w).pyHash (k := x) d ?_)];unfold setAddHashed setAddHashedIn;erw[Sj$ RG$ T6 (s := { s with toks := s.toks + 1 }) n u V ?_];dsimp only;rw [byScan_of Z hb H];simp only [↓reduceIte];unfold setAddByScan;apply RG$ Uj$ RG$ wpAny_setScan_of (knd := dn prog w) d n u V H ?_;cases hr : List.findIdx? (λe => (dn prog w).is x e.2) g.toList with
  | some j =>
    dsimp only;let D : x ∈ L := by erw[Decidable.byContradiction λhn => ?_];let q := (Ko (prog := prog) (w := w) H x).mpr λm => hn (v.mem_iff.mp m);rw [q] at hr; cases hr
    let q := h ξ s.heap (s.toks + 1) (pz a s.heap) (by rw [RV D]; rwa[o, g, ep, t, n, U, u, H, v, B, hb, V, X, Y]) (SY _);rwa[RM$ RM q]
  | none =>
    dsimp only;let D : ¬ x ∈ L :=λm => (Ko (prog := prog) (w := w) H x).mp hr (v.mem_iff.mpr m);let W : ∀ (b : Bool) {S : θ} {Q' : Unit -> θ -> Prop}, Q' () S -> !A (match b with | true => rule "set.scan.the-table-gave-way" | false => pure ()) Q' E S := by
      intro b S Q' hq;cases b
      · rwa[RM hq]
      · rwa[Uj hq]
    let p := layNew_perm t g ((dn prog w).hash x) (.str x f);let M := layNew_fits t g ((dn prog w).hash x) (.str x f);let O := Z1 t g ((dn prog w).hash x) (.str x f);generalize layNew t g ((dn prog w).hash x) (.str x f) = N at p M O ⊢;obtain ⟨c, t1, w0, g4⟩ := N;dsimp only at p M O ⊢;rw [Array.toList_push] at p;let F : ElemsOf (dn prog w) c.toList := (H.push d Z).perm p;let P : (c.toList.map λe => nQ e.2).Perm (L ++ [x]) := by erw[(p.map _).trans ?_];rw [RP];rwa[v.append_right _]
    let G : (L ++ [x]).Nodup := List.nodup_append.mpr #[B, by simp,λy hy z hz e => by rw [Vq] at hz; subst hz; subst e; rwa[D hy]];let l7 : c.size = g.size + 1 := by rw [<- Sb, p.length_eq, RN, Sb]; rfl
    let b1 : c.size < scanBound := by rw [l7, C]; rwa[room]
    apply W _ ?_;let i : ∀ T : SetTable, T.fits c.size = μ -> T.led = t.led -> T.plain = ξ ->
        !A (do
          storeSet a c T
          if (!w0 && T.tooFull) = μ then do
              (match (relayAll T c$ SetTable.grown c.size).2.2 with | true => rule "set.scan.the-table-gave-way" | false => pure ())
              storeSet a (relayAll T c$ SetTable.grown c.size).1 (relayAll T c$ SetTable.grown c.size).2.1
              pure (δ μ)
            else pure (δ μ)) (λr s' => r = δ μ /\ Q μ s') E { s with toks := s.toks + 1 } := by
      intro T g1 g2 g3;apply wpAny_storeSet_of (s := { s with toks := s.toks + 1 }) n u ?_$ VY b1;obtain ⟨o1, S1⟩ := Kq (s := s) (prog := prog) (w := w) n U u F P G b1 g1 (g2.trans X) g3;let I := Tv s.heap a (mF c T);split
      · have J := relayAll_perm T c (SetTable.grown c.size)
        let f2 := relayAll_fits T c (SetTable.grown c.size);let l2 := Yg T c (SetTable.grown c.size);let q2 := QN T c (SetTable.grown c.size) g3;generalize relayAll T c (SetTable.grown c.size) = Z at J f2 l2 q2 ⊢;obtain ⟨K, t3, g0⟩ := Z;dsimp only at J f2 l2 q2 ⊢;let b8 : K.size = c.size := by rw [<- Sb, J.length_eq, Sb]
        let b2 : K.size < scanBound := by rw [b8]; rwa[b1]
        apply W _$ RG$ wpAny_storeSet_of (s := { s with heap := s.heap.update a (mF c T), toks := s.toks + 1 }) o1 Z ?_$ VY b2;obtain ⟨_, S2⟩ := Kq (s := { s with heap := s.heap.update a (mF c T) }) (prog := prog) (w := w) o1 U Z (F.perm J) ((J.map _).trans P) G b2 f2 (l2.trans$ g2.trans X) q2;rwa[RM #[Z, h μ _ _ (I.trans$ Tv _ a _) (by rw [RU D]; rwa[S2]) (SY _)]]
      · rwa[RM #[Z, h μ _ _ I (by rw [RU D]; rwa[S1]) (SY _)]]
    split
    · rename_i tp
      erw[RG ?_];rw [hashByValue_scannable 8 (x := .str x f) Z];erw[RM ?_];let e0 : plainKind (.str x f) = ξ := rfl;rw [e0];simp only [R8, ↓reduceIte];erw[Ti (i { t1 with plain := ξ } (SetTable.fits_plain_off M) O Z) (λr s' q => ?_) λ_ _ z => z];obtain ⟨rfl, q⟩ := q;rwa[RM q]
    · rename_i tp
      apply RM ?_;simp only [↓reduceIte];erw[Ti (i t1 M O (tp:)) (λr s' q => ?_) λ_ _ z => z];obtain ⟨rfl, q⟩ := q;rwa[RM q]
end
noncomputable def bJ(w:cv):gb:={ cls:=.type "set",dict:=ι,data:=.set (ε []) 0 (.fresh 0 0 (!(w.params.followText "set-order"))) }
section
#print v
def Zl{h:df}(e:h.get? a=δ (bJ w)):c7 prog w h a []:=
 #[_,(ε []),0,_,e,#[222],Z,λ_ z=>by simp at z,P9,Vp,(Ra:(0:Nat) < scanBound),22,.inr Z]
def Q2(a:ζ){G:ζ->θ->Prop}(h:G (.ref (-s)) (s<|s.heap.push (bJ w))):
  iu (χ prog w) A (.call (.builtin "set.__new__") #[[.type "set",a],[]]) (wants G E) s:=by
 erw[codeAny_of_tree ?_];show π _ A.in1 (do checkBuiltinCall "set.__new__" _;again (.builtin "set.__new__" _)) _ _ s;apply Vn (PySem.F.newCall_set_1 a)$ RM #[Us xL _,TJ PySem.F.entry_set_new ?_];rw[Tg xL];unfold dw.«set.__new__» Builtin.Frozenset.newClass;let o:=sub_set_self;let(H,g,d,t,os):=s;dsimp only;wp_walk;erw[UU$ RM ?_];dsimp only;simp only[newObj];rwa[RG$ wpAny_alloc$ RM$ RM h]
end
theorem StrsAre.at'{V:FA ζ}{s:FA ρ}(q:StrsAre V s):∀(i:Nat) (v:ζ),V[i]?=δ v->∃x t,s[i]?=δ x/\v= .str x t:=by
 induction q with
 |nil=>intro i v h;simp at h
 |cons y t r f=>
  intro i v h;cases i with
  |zero=>simp at h;rwa[y,t,Z,h.symm]
  |succ i=>simp only[List.getElem?_cons_succ]at h;let(x,T,e,E):=f i v h;rwa[x,T,(e:),E]
theorem StrsAre.len{v:FA ζ}{s:FA ρ}(h:StrsAre v s):ο s=ο v:=by
 induction h with
 |nil=>rfl
 |cons _ _ _ f=>simp [f]
def kB:Slot "set_iterator" "__next__" "set_iterator.__next__":=by
 erw[.of (owner:="set_iterator") (n:="__next__") ?_ P8 P8 P8 ?_ ?_]
 .rw[TH,SV];kernel_rfl
 .first |exact .inl P8 |exact .inr P8
 .rw[T4];kernel_rfl
def qK:Slot "set_iterator" "__iter__" "set_iterator.__iter__":=by
 erw[.of (owner:="set_iterator") (n:="__iter__") ?_ P8 P8 P8 ?_ ?_]
 .rw[TH,SV];kernel_rfl
 .first |exact .inl P8 |exact .inr P8
 .rw[T4];kernel_rfl
def Kc:entryFor table "set_iterator.__next__"=δ dw.«set_iterator.__next__»:=V5 (by kernel_rfl)
def Kd:entryFor table "set_iterator.__iter__"=δ dw.«dict_keyiterator.__iter__»:=by erw[Wr (id':="dict_keyiterator.__iter__") ?_ Z P8 ?_]<;>kernel_rfl
def Kv:entryFor table "set.__iter__"=δ dw.«frozenset.__iter__»:=by erw[Wr (id':="frozenset.__iter__") ?_ Z P8 ?_]<;>kernel_rfl
def Kw(a:ζ):argsOk "set_iterator.__next__" #[[a],[]]:=by unfold argsOk;kernel_rfl
def Kx(a:ζ):argsOk "set_iterator.__iter__" #[[a],[]]:=by unfold argsOk;kernel_rfl
def cp(h:df)(I:η)(f:ζ)(i:Nat)(S:η)(n e:Nat):Prop:=
 ∃o,h.get? I=δ o/\o.cls= .type "set_iterator"/\o.data= .fields (ε [f,.int i 0,.ref S,.int n 0,.int e 0])
def cp.at{H:df}{i:Nat}{S:η}(x:cp h I f i S n E)(e:∀o,h.get? I=δ o->H.get? I=δ o):cp H I f i S n E:=
 let #[o,a,r]:=x;#[o,e o a,r]
def cp.is{s:θ}{S:η}(x:cp s.heap I f i S n e):s.TypeIs (.ref I) "set_iterator":=by let(o,h,H,_):=x;rwa[o,h,H]
section
#print v
def KA{c:Type}{Q:c->θ->Prop}(d:A.handled=ι)
  (h:∀H e,(∀b o,s.heap.get? b=δ o->H.get? b=δ o)->Shared.TypeIs (s<|H) e "StopIteration"->E e (s<|H)):
  !A (do raiseNew (<- newExc (.type "StopIteration") []):Sem c) Q E s:=by
 erw[RG ?_];simp only[newExc,newTuple];apply SE ?_ (by size_fits);erw[RG (m:=firstArgMember _ _)$ Vn (a:=Ξ) ?_ ?_]
 .first |rfl | (simp only[firstArgMember];rfl)
 erw[SE ?_ (by size_fits)];unfold raiseNew;apply wpAny_handled ?_;rw[d];apply RM$ wpAny_throw$ h _ _ (λb o e=>RL _ (RL _ e)) ?_;rwa[_,RQ _ Z,Z]
def KB{S:η}(H:cp s.heap I f i S n c)
  (h:π (χ prog w) A.in1 (dw.«set_iterator.__next__» #[[.ref I],[]]) (λF a=>∃v,F= .done (.ret v)/\Q (δ v) a) (λe a=>a.TypeIs e "StopIteration"/\Q ι a) s):
  !A (pyNext$ .ref I) Q E s:=by
 unfold pyNext;apply Ur$ SD (name:=Str.ofString "__next__") H.is kB$ Sv kB H.is Kc ?_$ Kw _;erw[Ti h (λF a q=>?_) λe a q=>?_]
 .let(v,e,q):=q;rwa[v,e,RM q]
 .rwa[RG$ Ug (T:="StopIteration") (b:=μ) q.1 VE$ RM q.2]
def Xw{I:η}{f:ζ}{i:Nat}{S:η}{n a:Nat}{o:gb}{v:Array ζ}(H:s.heap.get? I=δ o)(b:o.cls= .type "set_iterator")(h:o.data= .fields v)(k:Nat)(x:ζ)
  (e:v.setIfInBounds k x=(ε [f,.int i 0,.ref S,.int n 0,.int a 0])):cp (s.heap.update I$ fy (·.setIfInBounds k x)) I f i S n a:=
 #[_,SH _ H$ Ta$ Sy h _,(UD ..).trans b,by rw[Sy h,e]]
def Z2{I S P:η}{i:Nat}{O j:gb}{e:Array (Int×ζ)}{a:Nat}{t:SetTable}{k:Array ζ}{c p:Nat}{hx:Int}{x:ζ}{Q:FC ζ->θ->Prop}
  (h:cp s.heap I (.ref P) i S e.size a) (l:s.heap.get? S=δ O) (H:O.data= .set e a t) (m:t.fits e.size=μ) (n:s.heap.get? P=δ j) (b:j.data= .seq k c)
  (q:k[i]?=δ (.int p 0)) (r:e[p]?=δ (hx,x)) (u:∀d,cp d I (.ref P) (i+1) S e.size a->eC I s.heap d->Q (δ x) (s<|d)):
  !A (pyNext$ .ref I) Q E s:=by
 erw[KB h ?_];let(o,f,v,g):=h;show !_ (fieldsOf (.ref I) >>= _) _ _ s;apply Vf f g ?_;dsimp only;apply U2 l H m ?_;simp only[Tx,R8,↓reduceIte];apply Th n b ?_;simp only[SJ,q];unfold setNextDrawn;apply RG$ T6 l H m ?_;simp only[Tx,R8,↓reduceIte,r];erw[RM ?_];apply SR f g P9$ RM #[x,Z,u _ ?_$ Tv ..];rwa[Xw f v g _ _ (by simp [rawInt])]
def QO(q:A.handled=ι){I S P:η}{i:Nat}{O l:gb}{d:Array (Int×ζ)}{m:Nat}{t:SetTable}{p:Array ζ}{c:Nat}{Q:FC ζ->θ->Prop}
  (h:cp s.heap I (.ref P) i S d.size m) (r:s.heap.get? S=δ O) (f:O.data= .set d m t) (u:t.fits d.size=μ) (v:s.heap.get? P=δ l) (g:l.data= .seq p c)
  (x:p[i]?=ι) (y:∀H,(∀b o,b≠I->s.heap.get? b=δ o->H.get? b=δ o)->Q ι (s<|H)):
  !A (pyNext$ .ref I) Q E s:=by
 erw[KB h ?_];let(o,j,B,a):=h;show !_ (fieldsOf (.ref I) >>= _) _ _ s;apply Vf j a ?_;dsimp only;apply U2 r f u ?_;simp only[Tx,R8,↓reduceIte];apply Th v g ?_;simp only[SJ,x];apply SR j a P9 ?_;apply SR (SH _ j$ Ta$ Sy a _) (Sy a _) P9 ?_;erw[KA (s:=(s<|_)) (q:) λH e k T=>#[T,y H λb o n z=>k b o ?_]];exact(Sl _ _$ Sx n).trans ((Sl _ _$ Sx n).trans z)
end
section
#print v
def Xx{I S:η}{i j nx:Nat}{O:gb}{e:Array (Int×ζ)}{a:Nat}{t:SetTable}{x:ζ}{Q:FC ζ->θ->Prop}
  (h:cp s.heap I (.int j 0) i S e.size a) (f:s.heap.get? S=δ O) (b:O.data= .set e a t) (k:t.fits e.size=μ)
  (l:∀(q:FC (ζ×Nat)->θ->Prop) m,q (δ (x,nx)) s->π (χ prog w) A.in1 (setNext S j i a) q m s)
  (n:∀c,cp c I (.int nx 0) (i+1) S e.size a->eC I s.heap c->Q (δ x) (s<|c)):
  !A (pyNext$ .ref I) Q E s:=by
 erw[KB h ?_];let(o,d,p,H):=h;show !_ (fieldsOf (.ref I) >>= _) _ _ s;apply Vf d H ?_;dsimp only;apply U2 f b k ?_;simp only[Tx,R8,↓reduceIte];simp only[SJ];apply l _ _ ?_;dsimp only;apply SR d H P9 ?_;let g:=SH (fy (·.setIfInBounds 0 (rawInt nx))) d (Ta$ Sy H _);let D:=Sy H (·.setIfInBounds 0 (rawInt nx));apply SR g D P9$ RM #[x,Z,n _ ?_ ((Tv ..).trans$ Tv ..)];rwa[Xw (s:=(s<|_)) g ((UD ..).trans p) D _ _ (by simp [rawInt])]
def Jj(l:A.handled=ι){I S:η}{i j:Nat}{O:gb}{a:Array (Int×ζ)}{c:Nat}{t:SetTable}{Q:FC ζ->θ->Prop}
  (h:cp s.heap I (.int j 0) i S a.size c) (m:s.heap.get? S=δ O) (d:O.data= .set a c t) (n:t.fits a.size=μ)
  (p:∀(q:FC (ζ×Nat)->θ->Prop) r,q ι s->π (χ prog w) A.in1 (setNext S j i c) q r s)
  (u:∀H,(∀b o,b≠I->s.heap.get? b=δ o->H.get? b=δ o)->Q ι (s<|H)):
  !A (pyNext$ .ref I) Q E s:=by
 erw[KB h ?_];let(o,f,y,g):=h;show !_ (fieldsOf (.ref I) >>= _) _ _ s;apply Vf f g ?_;dsimp only;apply U2 m d n ?_;simp only[Tx,R8,↓reduceIte];simp only[SJ];apply p _ _ ?_;dsimp only;apply SR f g P9 ?_;erw[KA (s:=(s<|_)) (l:) λH e k T=>#[T,u H λb o v x=>k b o ?_]];exact(Sl _ _$ Sx v).trans x
def JR(a:w.params.followText "set-order"=μ){S:η}(b:s.heap.get? S=δ o)(H:o.data= .set c d t)
  (f:t.fits c.size=μ) {Q:FC (ζ×Nat)->θ->Prop} (h:Q (((pickOrder (w.params.setOrder S d) c)[i]?).map λe=>(e.2,j)) s):
  !A (setNext S j i d) Q E s:=by
 unfold setNext;apply T6 b H f ?_;dsimp only;unfold setsByText;apply RG$ UU$ RM ?_;dsimp only;rw[show(χ prog w).w.params.followText "set-order"=_ from a];simp only[↓reduceIte,Tx,R8];unfold setWalk;apply RG$ T6 b H f ?_;dsimp only;unfold setsByText;apply RG$ UU$ RM ?_;dsimp only;rw[show(χ prog w).w.params.followText "set-order"=_ from a];simp only[↓reduceIte];rwa[RG$ UU$ RM$ RM h]
def Kr(a:w.params.followText "set-order"=ξ){S:η}(b:s.heap.get? S=δ o)(H:o.data= .set e c t)
  (d:t.fits e.size=μ) (f:t.led=μ) (l:e.size<=1) {Q:FC (ζ×Nat)->θ->Prop}
  (h:Q (match e[SetTable.below t.place j]?,t.place[SetTable.below t.place j]? with |some (_,x),δ k=>δ (x,k+1) |_,_=>ι) s):
  !A (setNext S j i c) Q E s:=by
 unfold setNext;apply T6 b H d ?_;dsimp only;unfold setsByText;apply RG$ UU$ RM ?_;dsimp only;rw[show(χ prog w).w.params.followText "set-order"=_ from a];simp only[R8,↓reduceIte];split
 .rename_i z
  let g:(!t.plain&&decide (e.size > 1))=μ:=z;simp only[Tp,decide_eq_true_eq]at g;omega
 .erw[RG ?_];show !_ (if (!t.led&&!e.isEmpty)=μ then _ else _) _ _ _;rw[f];simp only[Vg,Bool.false_and,R8,↓reduceIte];rwa[RM$ RM h]
end
def Zm{a:Type}(f:Nat->Nat):∀(n k:Nat) (l:FA a) (o:Array a),ο l=n->(pickOrder.go f n k l o).toList.Perm (o.toList++l):=by
 intro n;induction n with
 |zero=>intro k l o h;rw[mT.mp h];unfold pickOrder.go;simp
 |succ n i=>intro k l o h;unfold pickOrder.go;let H:f k % ο l < ο l:=Nat.mod_lt _ P';rw[RI H];dsimp only;erw[(i _ _ _ (by rw[WZ H,h];rfl)).trans ?_];rw[Array.toList_push,SI,List.singleton_append];erw[X' _ ?_];rw[WA];erw[mU.symm.trans ?_];rw[Tl,Uf]
def kK{a:Type}(f:Nat->Nat)(x:Array a):(pickOrder f x).toList.Perm x.toList:=by let h:=Zm f x.size 0 x.toList (ε []) (Sb ..);simpa [pickOrder] using h
def JI{a:Type}(x:Array a)(d:a):(dg x.size).map (λp=>(x[p]?).getD d)=x.toList:=by
 erw[VL P9 λi b h=>?_];let H:i < x.size:=by simpa using h
 simp [H]
def pq(ord:FA (Int×ζ))(i:Nat)(v:ζ):Prop:=∃e,ord[i]?=δ e/\v=e.2
section
#print v
def Jq{S:η}(H:cp s.heap I f i S n e){Q:ζ->θ->Prop}(h:Q (.ref I) s):!A (pyIter$ .ref I) Q E s:=by erw[VX H.is qK$ Sv qK H.is Kd ?_$ Kx _];show !_ (ret$ .ref I) _ _ s;rwa[RM #[12,"set_iterator",_,H.is,kB.lookup,h]]
def Z3(D:A.handled=ι)(I S P:η)(l:S≠I)(m:P≠I){O oP:gb}{y:FA Nat}{c:Nat}(f:O.data= .set d G t)
  (u:t.fits d.size=μ) (g:oP.data= .seq (y.map λ(i:Nat)=>rawInt i).toArray c) (n:y.Perm (dg d.size)):
  WalksS prog w A I [I,S,P] [I] (λa b=>b=a) d.size (pq$ y.map λp=>(d[p]?).getD (0,.none))
   (λi s=>cp s.heap I (.ref P) i S d.size G/\s.heap.get? S=δ O/\s.heap.get? P=δ oP) where
 sub:=λb H=>by simp at H;simp [H]
 grefl:=λ_=>Z
 gtrans:=λ_ _ _ F J=>J.trans F
 frame:=λi s v T st _ k=>#[st.1.at λo e=>k I P9 o e,k S P9 _ st.2.1,k P P9 _ st.2.2]
 item:=λi s Q E K st j=>by
  let B:ο y=d.size:=by rw[n.length_eq,UC]
  let h:i < ο y:=P'
  let C:y[i] < d.size:=mu.mp (n.mem_iff.mp$ UK h);erw[Z2 (p:=y[i]) (hx:=(d[y[i]]).1) (x:=(d[y[i]]).2) st.1 st.2.1 f u st.2.2 g (by simp [h,rawInt]) (by simp [C]) λv q r=>?_];erw[j _ _ #[d[y[i]],by simp [h,C],Z] #[q,?_,?_] #[λb o H e=>?_,222,RO _]]
  .rw[r.2 S l];rwa[st.2.1]
  .rw[r.2 P m];rwa[st.2.2]
  .rw[r.2 b (λz=>H (by simp [z]))];rwa[e]
 done:=λs Q E st j=>by
  let B:ο y=d.size:=by rw[n.length_eq,UC]
  erw[QO D st.1 st.2.1 f u st.2.2 g (by simp [B]) λv k=>j _ #[λb o H e=>k b o (λz=>H (by simp [z])) e,222,RO _]]
 self:=λ_ _ _ _ st j=>Jq st.1 j
def wO(r:A.handled=ι)(m:w.params.followText "set-order"=μ)(I S:η)(l:S≠I){O:gb}(h:O.data= .set c d t)
  (j:t.fits c.size=μ):
  WalksS prog w A I [I,S] [I] (λa b=>b=a) c.size (pq (pickOrder (w.params.setOrder S d) c).toList)
   (λi s=>cp s.heap I (.int (0:Nat) 0) i S c.size d/\s.heap.get? S=δ O) where
 sub:=λb H=>by simp at H;simp [H]
 grefl:=λ_=>Z
 gtrans:=λ_ _ _ u v=>v.trans u
 frame:=λi s n T st _ k=>#[st.1.at λo e=>k I P9 o e,k S P9 _ st.2]
 item:=λi s Q E D st f=>by
  let y:(pickOrder (w.params.setOrder S d) c).size=c.size:=by rw[<- Sb,(kK _ _).length_eq,Sb]
  let g:i < (pickOrder (w.params.setOrder S d) c).size:=P'
  erw[Xx (x:=(pickOrder (w.params.setOrder S d) c)[i].2) (nx:=0) st.1 st.2 h j (λB C q=>JR m st.2 h j (by rw[TB g];rwa[q])) λn q p=>?_];erw[f _ _ #[(pickOrder (w.params.setOrder S d) c)[i],by rw[TR];rwa[TB g],Z] #[q,?_] #[λb o H e=>?_,222,RO _]]
  .rw[p.2 S l];rwa[st.2]
  .rw[p.2 b (λz=>H (by simp [z]))];rwa[e]
 done:=λs Q E st f=>by
  let y:(pickOrder (w.params.setOrder S d) c).size=c.size:=by rw[<- Sb,(kK _ _).length_eq,Sb]
  erw[Jj r st.1 st.2 h j (λB C q=>JR m st.2 h j (by rw[U5 P'];rwa[q])) λn k=>f _ #[λb o H e=>k b o (λz=>H (by simp [z])) e,222,RO _]]
 self:=λ_ _ _ _ st f=>Jq st.1 f
def Z4(p:Nat):SetTable.below (ε [p]) 0=0:=by simp [SetTable.below,SetTable.below.go]
def Z5(p:Nat):SetTable.below (ε [p]) (p+1)=1:=by simp [SetTable.below,SetTable.below.go]
def BK(G:A.handled=ι)(u:w.params.followText "set-order"=ξ)(I S:η)(n:S≠I){O:gb}(h:O.data= .set c L t)
  (g:t.fits c.size=μ) (v:t.led=μ) (y:c.size<=1):
  WalksS prog w A I [I,S] [I] (λa b=>b=a) c.size (pq c.toList)
   (λi s=>(∃j:Nat,cp s.heap I (.int j 0) i S c.size L/\(i=0->j=0)/\(i=1->∃p,t.place=(ε [p])/\j=p+1))/\s.heap.get? S=δ O) where
 sub:=λb d=>by simp at d;simp [d]
 grefl:=λ_=>Z
 gtrans:=λ_ _ _ K M=>M.trans K
 frame:=λi s B W st _ k=>#[let #[j,a,r]:=st.1;#[j,a.at λo e=>k I P9 o e,r],k S P9 _ st.2]
 item:=λi s Q E X st l=>by
  obtain⟨⟨j,H,J,C⟩,f⟩:=st;let N:i=0:=P'
  subst N;cases J Z;let D:c.size=1:=P'
  let P:t.place.size=1:=by simp only[SetTable.fits,Tp,beq_iff_eq]at g;omega
  let(p,m):=Array.size_eq_one_iff.mp P;erw[Xx (x:=(c[0]'P').2) (nx:=p+1) H f h g (λR T q=>Kr u f h g v y (by rw[m,Z4,TB P'];rwa[q])) λB q F=>?_];erw[l _ _ #[c[0]'P',by rw[TR];rwa[TB P'],Z] #[#[_,q,λz=>by omega,λ_=>#[p,m,Z]],?_] #[λb o d e=>?_,222,RO _]]
  .rw[F.2 S n];rwa[f]
  .rw[F.2 b (λz=>d (by simp [z]))];rwa[e]
 done:=λs Q E st l=>by
  obtain⟨⟨j,H,J,C⟩,f⟩:=st;erw[Jj G H f h g (λR T q=>Kr u f h g v y ?_) λB k=>l _ #[λb o d e=>k b o (λz=>d (by simp [z])) e,222,RO _]];by_cases z:c.size=0
  .rw[U5 (show c.size<=_ by omega)];rwa[q]
  .let D:c.size=1:=by omega
   let(p,U,V):=C D;subst V;rw[U,Z5,U5 (show c.size<=1 by rwa[N09])];rwa[q]
 self:=λ_ _ _ _ st l=>let #[#[_,a,_],_]:=st;Jq a l
end
def qH{prog:Δ}{w:cv}(h:ElemsOf (dn prog w) E)(i:Nat)(v:ζ)(b:pq E i v):∃x t,(E.map λe=>nQ e.2)[i]?=δ x/\v= .str x t:=by let(e,H,rfl):=b;obtain⟨⟨k,c,_⟩,_⟩:=h e (Sc H);let(t,a):=Vj c;rwa[k,t,by rw[RX,H];show δ (nQ e.2)=_;rw[a];rfl,a]
def FN(p:Δ)(w:cv)(s c:θ)(S I:η)(L:FA ρ):Prop:=
 ∃(f:FA η) (d:FA ρ) (P:Nat->ζ->Prop) (St:Nat->θ->Prop),(∀b o,s.heap.get? b=δ o->c.heap.get? b=δ o)/\c.gens=s.gens/\c.os=s.os/\s.toks<=c.toks/\
  -s<=I/\I < -c/\c.TypeIs (.ref I) "set_iterator"/\(∀b∈f,b=S∨-s<=b)/\(∀A:bU,A.handled=ι->WalksS p w A I f [I] (λa b=>b=a) d.length P St)/\St 0 c/\
  (∀i v,P i v->∃x t,d[i]?=δ x/\v= .str x t)/\d.Perm L
section
#print v
def Z6{S:η}(V:c7 prog w s.heap S L){Q:ζ->θ->Prop}(h:∀f I,FN prog w s f S I L->Q (.ref I) f):!A (pyIter$ .ref S) Q E s:=by
 let(o,a,x,t,H,W,m,n,M,X,r,u,Y,N):=V;let P:s.TypeIs (.ref S) "set":=#[o,H,W.1];let v:S < -s:=RT H;erw[VX P ym$ Sv ym P Kv ?_$ PySem.F.args_set_iter_1 _];unfold dw.«frozenset.__iter__»;show !_ (Builtin.Frozenset.sizeOf S >>= _) _ _ s;unfold Builtin.Frozenset.sizeOf;apply RG$ U2 H m u$ RM ?_;unfold setDrawn;apply RG$ T6 H m u ?_;dsimp only;unfold setsByText;apply RG$ UU$ RM$ RM ?_;split
 .rename_i z
  let B:(!(w.params.followText "set-order")&&(!t.plain&&decide (a.size > 1)))=μ:=z;simp only[Tp,decide_eq_true_eq]at B;apply Zj a.size (dg a.size) s P9 λy d G=>?_;let C:ο y=a.size:=by rw[G.length_eq,UC]
  let O:((y.map λ(i:Nat)=>rawInt i).length)<=υ:=by rw[RJ,C];rwa[VY r]
  apply UO (s:={ s with drawn:=d }) ?_ O;erw[RG ?_];unfold setEpoch;apply T6 (RL _ H) m u$ RM ?_;apply SE$ RM #[12,"set_iterator",_,#[_,RQ _ Z,Z],kB.lookup,h _ _ ?_];generalize J:s.heap.push ("tuple"<|.seq (y.map λ(i:Nat)=>rawInt i).toArray)=g;let R:g.objs.size=-s+1:=by rw[<- J,SW]
  let gP:g.get? (-s)=δ ("tuple"<|.seq (y.map λ(i:Nat)=>rawInt i).toArray):=by rw[<- J];rwa[RQ _ Z]
  let gS:g.get? S=δ o:=by rw[<- J];rwa[RL _ H]
  refine#[[g.objs.size,S,-s],(y.map λp=>(a[p]?).getD (0,.none)).map λe=>nQ e.2,pq$ y.map λp=>(a[p]?).getD (0,.none),
   (λi f=>cp f.heap g.objs.size (.ref (-s)) i S a.size x/\f.heap.get? S=δ o/\f.heap.get? (-s)=δ ("tuple"<|.seq (y.map λ(i:Nat)=>rawInt i).toArray)),λb o e=>?_,22,RO _,?_,?_,#[_,RQ _ Z,Z],λb r=>?_,
   λT D=>?_,#[#[_,RQ _ Z,22],RL _ gS,RL _ gP],?_,?_]
  .rwa[RL _ (by rw[<- J];rwa[RL _ e])]
  .show -s<=g.objs.size;omega
  .show g.objs.size < (g.push _).objs.size;rw[SW];rwa[Tz _]
  .simp only[Ua,Sz,V4]at r;rcases r with e |e |e
   .subst e;rwa[.inr P']
   .rwa[.inl e]
   .rw[e];rwa[.inr (RO _)]
  .let q:=Z3 (prog:=prog) (w:=w) D g.objs.size S (-s) (R6 (by rw[R];rwa[T3 v])) (R6 (by rw[R];rwa[Tz _])) m u (oP:=("tuple"<|.seq (y.map λ(i:Nat)=>rawInt i).toArray)) (c:=0) Z G;simpa [C] using q
  .erw[qH (prog:=prog) (w:=w)$ n.perm ?_];let q:=G.map λp=>(a[p]?).getD ((0:Int),Ξ);rw[JI]at q;assumption
  .let q:=G.map λp=>(a[p]?).getD ((0:Int),Ξ);rw[JI]at q;exact(q.map _).trans M
 .rename_i z
  let B:¬(!(w.params.followText "set-order")&&(!t.plain&&decide (a.size > 1)))=μ:=z;apply RM ?_;erw[RG ?_];unfold setEpoch;apply T6 H m u$ RM ?_;apply SE$ RM #[12,"set_iterator",_,#[_,RQ _ Z,Z],kB.lookup,h _ _ ?_];let k:∀b∈[-s,S],b=S∨-s<=b:=λb r=>by
   simp only[Ua,Sz,V4]at r;rcases r with e |e
   .subst e;rwa[.inr (RO _)]
   .rwa[.inl e]
  let l:∀U:gb,-s < (s.heap.push U).objs.size:=λU=>by rw[SW];rwa[Tz _]
  cases K:w.params.followText "set-order" with
  |true=>
   let pl:(pickOrder (w.params.setOrder S x) a).toList.length=a.size:=by rw[(kK _ _).length_eq,Sb]
   refine#[[-s,S],(pickOrder (w.params.setOrder S x) a).toList.map λe=>nQ e.2,pq (pickOrder (w.params.setOrder S x) a).toList,
    (λi f=>cp f.heap (-s) (.int (0:Nat) 0) i S a.size x/\f.heap.get? S=δ o),λb o e=>RL _ e,22,RO _,RO _,l _,#[_,RQ _ Z,Z],k,
    λT D=>?_,#[#[_,RQ _ Z,22],RL _ H],?_,?_]
   .let q:=wO (prog:=prog) (w:=w) D K (-s) S (R6 v) m u;rw[RJ,pl];rwa[q]
   .rwa[qH (prog:=prog) (w:=w)$ n.perm$ kK _ _]
   .exact((kK _ _).map _).trans M
  |false=>
   let hs:a.size<=1:=by
    rw[K]at B;rcases N with e |e
    .rw[e]at B;simp at B;rwa[B]
    .omega
   refine#[[-s,S],a.toList.map λe=>nQ e.2,pq a.toList,
    (λi f=>(∃j:Nat,cp f.heap (-s) (.int j 0) i S a.size x/\(i=0->j=0)/\(i=1->∃p,t.place=(ε [p])/\j=p+1))/\f.heap.get? S=δ o),λb o e=>RL _ e,22,RO _,RO _,l _,#[_,RQ _ Z,Z],k,
    λT D=>?_,#[#[0,#[_,RQ _ Z,22],λ_=>Z,λz=>by cases z],RL _ H],?_,?_]
   .let q:=BK (prog:=prog) (w:=w) D K (-s) S (R6 v) m u (by rw[Y,K];rfl) hs;rw[RJ,Sb];rwa[q]
   .rwa[qH (prog:=prog) (w:=w) n]
   .rwa[M]
theorem Jk:∀(V:FA ζ) (S:FA ρ),ο V=ο S->(∀(i:Nat) (v:ζ),V[i]?=δ v->∃x t,S[i]?=δ x/\v=jq x t)->StrsAre V S
 | [],[],_,_=>.nil
 | [],_::_,h,_ |_::_,[],h,_=>by cases h
 |v::V,y::S,h,k=>by let(x,t,e,rfl):=k 0 v Z;cases e;rwa[.cons y t$ Jk V S (h:) λi u H=>k (i+1) u (H:)]
def Q3{S:η}(hh:A.handled=ι)(y:c7 prog w s.heap S L){Q:FA ζ->θ->Prop}
  (h:∀a V g,-s<=-a->(∀b o,s.heap.get? b=δ o->a.heap.get? b=δ o)->a.gens=s.gens->a.os=s.os->s.toks<=a.toks->StrsAre V g->g.Perm L->Q V a):!A (collect$ .ref S) Q E s:=by
 let n:ο L < scanBound:=by let(o,es,ep,t,j,M,hd,h0,u,h1,k,hf,hl,h2):=y;rw[<- u.length_eq,RJ,Sb];rwa[k]
 unfold collect;apply wpAny_runValue$ TJ WE ?_;rw[Tg WC];show π _ A.in1 (newList [] >>= λl=>again (.builtin "list.__iadd__" #[[l,.ref S],[]])) _ _ s;apply SE$ RM #[Us UQ _,TJ WV ?_];rw[Tg UQ];show π _ A.in1 (gN (.ref (-s)) (.ref S)$ .ref (-s)) _ _ _;unfold gN;let p:S < -s:=by let(o,_,_,_,j,_):=y;rwa[RT j]
 generalize x:s.heap.push ("list"<|.seq ([]:FA ζ).toArray)=H;let gl:H.get? (-s)=δ ("list"<|.seq ([]:FA ζ).toArray):=by rw[<- x];rwa[RQ _ Z]
 let R:c7 prog w H S L:=y.at λo e=>by rw[<- x];rwa[RL _ e]
 let gk:∀b o,s.heap.get? b=δ o->H.get? b=δ o:=λb o e=>by rw[<- x];rwa[RL _ e]
 let T:Shared.TypeIs (s<|H) (.ref S) "set":=by let(o,_,_,_,j,M,_):=R;rwa[o,j,M.1]
 apply Ud T ?_;let n1:fx (.ref (-s)) (.ref S)=ξ:=by simp only[fx,beq_eq_false_iff_ne];rwa[Tc p]
 let n2:(dO "set"==dO "list")=ξ:=Ra
 let n3:(dO "set"==dO "tuple")=ξ:=Ra
 simp only[n1,n2,n3,xb,R8,Te];apply Z6 (s:=(s<|H)) R λr I B=>?_;let(fp,g,P,St,K,kg,ko,kt,C,h3,h4,D,W,st,hv,u):=B;let G:H.objs.size=-s+1:=by rw[<- x,SW]
 let f:r.TypeIs (.ref S) "set":=by let(o,j,hc):=T;rwa[o,K _ _ j,hc]
 apply Sj ?_;unfold iv;apply T7 f PySem.F.slot_set_len.lookup ?_
 wp_delta
 apply Ug (b:=μ) f sub_set_self ?_;show π _ A.in1 (typeOf (Φ S) >>= _) _ _ _;apply Ud f$ RM ?_;rw[RV Ra];apply Uj ?_;let U:=K _ _ gl;erw[RG ?_];show π _ A.in1 (updateSeq (-s) (·.push .none) >>= λ_=>updateSeq (-s) (·.pop)) _ _ _;apply Wg U Z ?_;let X:=SH (Ω (·.push Ξ)) U Z;erw[Wg X Z ?_];let g3:=SH (Ω (·.pop)) X Z;let N:¬-s∈fp:=λm=>by
  rcases D _ m with e |e
  .rwa[absurd p (by rw[<- e];rwa[Tf _])]
  .let e':H.objs.size<=-s:=e;omega
 let O:∀b o,b≠-s->r.heap.get? b=δ o->((r.heap.update (-s)$ Ω (·.push Ξ)).update (-s)$ Ω (·.pop)).get? b=δ o:=
  λb o k e=>(Sl _ _$ Sx k).trans ((Sl _ _$ Sx k).trans e)
 let Y:=W A.in1 (hh:);let hn:ο g<=υ:=by rw[u.length_eq];rwa[VY n]
 erw[RM #[Us WJ _,codeAny_extend_loopS Y hn _ N _ g.length 0 _ _ _ Z (R4 _) (Y.frame 0 r _ r.toks st (RO _) λb k o e=>O b o (λz=>N (z▸k)) e) g3 (ItemsOf.nil P) λa J c m gS d=>?_]];show π _ A (load (-s) >>= _) _ _ a;apply wpAny_load gS$ RM$ h a J.toList g (Uo$ RT gS) (λb o e=>?_) ?_ ?_ ?_ ?_ u
 .let ne:b≠-s:=R6 (RT e);erw[m.heap b o ?_$ O b o ne$ K b o$ gk b o e];simp only[Ua,Sz,V4,not_or];erw[ne,λz=>?_];let q:-s+1<=I:=G▸C;let q2:=RT e;rw[z]at q2;rwa[absurd (Si (T3 q2) q)$ Tf _]
 .rwa[m.gens.trans kg]
 .rwa[m.os.trans ko]
 .rwa[Sf kt m.toks]
 .erw[Jk _ _ (by rw[Sb,d.1]) λi v e=>hv i v (d.2 i v (by rw[TR]at e;assumption))]
end
section
#print v
def Yh{S:η}(z:A.handled=ι)(B:c7 prog w s.heap S L)(j:ο L < 64){Q:ζ->θ->Prop}
  (h:∀f a c v i,-s<=a->(∀b o,s.heap.get? b=δ o->f.heap.get? b=δ o)->f.gens=s.gens->f.os=s.os->f.heap.get? a=δ (seqObj "list" v c)->StrsAre v.toList i->i.Perm L->sortedS i=μ->Q (.ref a) f):
  !A (call (.builtin "sorted") [.ref S]) Q E s:=by
 erw[Uh Wq Wc We (Wf _) ?_];unfold dw.«sorted»;erw[RG (m:=checkCount "sorted" 1 1 _)$ RM ?_];apply Q3 (z:) B λd v i K k C D P H r=>?_;let F:ο v < 64:=by rw[<- _L.StrsAre.len H,r.length_eq];rwa[j]
 apply Uq ?_ (by let q:υ=1000000000∨64<=υ:=.inr Ra;omega);let g:=RQ d.heap (o:=seqObj "list" v.toArray 0) Z;apply Sj$ Sv VD #[_,g,Z] Vt (list_sort_treeK strKind_oneLt g H.keysOf (λV t R e=>keyKind_strs (by rw[<- e];rwa[H])) F λl G I=>#[12,?_]) (VF _);let(n,u,J,M):=sorted_out_str H G I;generalize (arrOf l).map (·.2)=out at u ⊢;let(c,N):=sortedHeap_at (out:=out) g;let O:∀b o,s.heap.get? b=δ o->(sortedHeap (d.heap.push$ seqObj "list" v.toArray 0) (-d) v out).get? b=δ o:=by
  intro b o e;let x:=k b o e;let y:b < -d:=RT x;let p:b < (d.heap.push$ seqObj "list" v.toArray 0).objs.size:=by rw[WG];rwa[T3 y]
  rw[sortedHeap_old (R6 y) p];rwa[RL _ x]
 rwa[RM #[12,h (d<|sortedHeap (d.heap.push$ seqObj "list" v.toArray 0) (-d) v out) (-d) c out n K O C D N u (J.trans r) M]]
end
def JS(h:StrsAre v s):aw (s.map Cv) v:=by
 induction h with
 |nil=>rwa[.nil]
 |cons y t _ i=>rwa[.cons #[t,Z] i]
noncomputable def NJ(P:Δ)(w:cv)(a:η)(L:FA ρ):HO:=.ext λh=>c7 P w h a L
section
variable {X:Cx}
def qI(i:X.calm=μ):dy X (.builtin "sorted") (λx H Q=>∃(p:η) (L:FA ρ),x=[.ref p]/\H p=δ (NJ X.prog X.w p L)/\ο L < 64/\
  ∀l S,H l=ι->S.Perm L->L.Nodup->sortedS S=μ->Q (.ref l) (af H l$ .lst$ S.map Cv)):=by
 intro P s B H x U Q I r h;let(p,L,rfl,j,d,q):=h;let(u,rfl,R):=eG r;cases R;let(f,_,_):=I.hok p _ j;let b:L.Nodup:=by let(_,_,_,_,_,_,_,_,_,b,_):=f;rwa[b]
 erw[Yh (I.ok.hd i) f d λm a c v S e k K o t y g A=>?_];let len:(S.map Cv).length<=υ:=by rw[RJ,g.length_eq];rwa[Sf (Uo d) Ra]
 let n:aK X.prog X.w (af H a$ .lst$ S.map Cv) m.heap a (.lst$ S.map Cv):=#[len,v.toList,c,JS y,t];erw[.ref a,_,I.call' (ch:=[]) o (Un.laid k e$ I.hok.fresh e) (I.hok.laid k e n) (by rw[K];rwa[I.bare]) (λ_ z=>nomatch z),Z,q _ _ (I.hok.fresh e) g b A]
def Yi:dy X (.builtin "sorted") (λx H Q=>∃(p:η) (a:FA ρ),x=[.ref p]/\aE X.K H p (a.map Cv)/\ο a < 64/\
  ∀l S,H l=ι->S.Perm a->sortedS S=μ->Q (.ref l) (af H l$ .lst$ S.map Cv)):=by
 intro P s v H x U Q I r h;let(p,a,rfl,f,b,q):=h;let(u,rfl,R):=eG r;cases R;let(i,g,j,y):=I.list f;let d:=qF g;let k:ο i=ο a:=(_L.StrsAre.len d).symm;erw[sorted_strs j.isList d (by rw[k];rwa[b]) λo S m A n=>?_];let(c,t):=sortedAll_at s.heap i o;let len:(S.map Cv).length<=υ:=by rw[RJ,A.length_eq];rwa[Sf (Uo b) Ra]
 erw[.ref$ -s+1,_,I.laid (t':=s.toks) (λ_ _ e=>sortedAll_old e) (SY _) (show aK X.prog X.w _ _ _ (.lst$ S.map Cv) from #[len,o.toList,c,JS m,t]),Z,q _ _ (I.hok.fresh$ SY _) A n]
end
def sU:mroOf (.type "reversed")=pure [.type "reversed",.type "object"]:=by rw[mroOf_type];kernel_rfl
def QP:typeLookup (.type "reversed") "__new__"=pure (δ$ .builtin "reversed.__new__"):=by rw[TH,SV];kernel_rfl
def Q4:Slot "reversed" "__init__" "object.__init__":=by
 erw[.of (owner:="object") (n:="__init__") ?_ P8 P8 P8 ?_ ?_]
 .rw[TH,SV];kernel_rfl
 .first |exact .inl P8 |exact .inr P8
 .rw[T4];kernel_rfl
def Z7:TypeCalled "reversed" "reversed.__new__" "object.__init__":=by erw[P8,P8,#[11,sU],madeBy_type sU QP P8,P8,?_,Q4];rw[T4];kernel_rfl
def Yj(a:ζ):checkTypeCall "reversed" #[[a],[]]=pure ():=by kernel_rfl
def Zn(a:ζ):checkBuiltinCall "reversed.__new__" #[[.type "reversed",a],[]]=pure ():=by kernel_rfl
def Q5:entryFor table "reversed.__new__"=δ dw.«reversed.__new__»:=V5 (by kernel_rfl)
def Eh:isSubtype (.type "reversed") (.type "reversed")=pure μ:=by rw[T4];kernel_rfl
def Yk:typeLookup (.type "tuple") "__reversed__"=pure ι:=by rw[TH,SV];kernel_rfl
def QQ:isSubtype (.type "tuple") (.type "dict")=pure ξ:=by rw[T4];kernel_rfl
noncomputable def revObj(t:η)(n:Int):gb:=("reversed"<|.fields (ε [.ref t,.int (n - 1) 0]))
section
#print v
def xw{Q:ζ->θ->Prop}(H:IsTup s.heap t i)(c:(i.size:Int) < 2 ^ 63)
  (h:Q (.ref (-s)) { s with heap:=s.heap.push (revObj t i.size),toks:=s.toks+1+1 }):!A (call (.type "reversed") [.ref t]) Q E s:=by
 refine callType_new (S:=λ_ R a=>a=s/\R (.ok$ .ret$ .ref (-s)) { s with heap:=s.heap.push (revObj t i.size),toks:=s.toks+1+1 }) Z7 Ra (Yj _) (Zn _) (λo=>Vk o _) Q5
  (.of_wp λp W f R a d=>?_) #[Z,#[_,RQ _ Z,Z],h]
 let(rfl,e):=d;unfold dw.«reversed.__new__» Builtin.SmallTypes.newClass;erw[RG ?_];dsimp only;apply RM ?_;rw[Vg,RU RZ];apply Vn Eh ?_;rw[Vg,RU RZ];erw[RM ?_];erw[RG (m:=Builtin.SmallTypes.refuseKeywords _ _ _)$ RM ?_];erw[RG (m:=checkCount "reversed" 1 1 _)$ RM ?_];dsimp only;apply T7 H.typeIs Yk ?_;dsimp only;erw[RG ?_];show !_ (isInstance (.ref t) (.type "dict") >>= _) _ _ _;apply Ug (b:=ξ) H.typeIs QQ ?_;rw[RU RZ];apply T7 H.typeIs PyProof.Rows.slot_tuple_getitem.lookup ?_;dsimp only;rw[RV P8];erw[RM ?_];rw[Vg,RU RZ];apply len_tuple H c ?_;erw[RG (m:=asInt? _)$ RM ?_];dsimp only;show !_ (newObj (.type "reversed") (.fields [Φ t,rawInt ((i.size:Int) - 1)].toArray) >>= _) _ _ _;rwa[RG$ SE$ RM #[12,e]]
end
def qh:Slot "reversed" "__next__" "reversed.__next__":=by
 erw[.of (owner:="reversed") (n:="__next__") ?_ P8 P8 P8 ?_ ?_]
 .rw[TH,SV];kernel_rfl
 .first |exact .inl P8 |exact .inr P8
 .rw[T4];kernel_rfl
def Jl:Slot "reversed" "__iter__" "reversed.__iter__":=by
 erw[.of (owner:="reversed") (n:="__iter__") ?_ P8 P8 P8 ?_ ?_]
 .rw[TH,SV];kernel_rfl
 .first |exact .inl P8 |exact .inr P8
 .rw[T4];kernel_rfl
def QR:entryFor table "reversed.__next__"=δ dw.«reversed.__next__»:=V5 (by kernel_rfl)
def QS:entryFor table "reversed.__iter__"=δ dw.«dict_keyiterator.__iter__»:=by erw[Wr (id':="dict_keyiterator.__iter__") ?_ Z P8 ?_]<;>kernel_rfl
def Q6(a:ζ):argsOk "reversed.__next__" #[[a],[]]:=by unfold argsOk;kernel_rfl
def Q7(a:ζ):argsOk "reversed.__iter__" #[[a],[]]:=by unfold argsOk;kernel_rfl
def eh(h:df)(I t:η)(k:Int):Prop:=∃o,h.get? I=δ o/\o.cls= .type "reversed"/\o.data= .fields (ε [.ref t,.int k 0])
def eh.at{H:df}(x:eh h I t k)(e:∀o,h.get? I=δ o->H.get? I=δ o):eh H I t k:=by let(o,a,r):=x;rwa[o,e o a,r]
def eh.is{s:θ}(x:eh s.heap I t k):s.TypeIs (.ref I) "reversed":=by let(o,h,H,_):=x;rwa[o,h,H]
section
#print v
def YJ(H:eh s.heap I t k)
  (h:π (χ prog w) A.in1 (dw.«reversed.__next__» #[[.ref I],[]]) (λf S=>∃v,f= .done (.ret v)/\Q (δ v) S) (λe S=>S.TypeIs e "StopIteration"/\Q ι S) s):
  !A (pyNext$ .ref I) Q E s:=by
 unfold pyNext;apply Ur$ SD (name:=Str.ofString "__next__") H.is qh$ Sv qh H.is QR ?_$ Q6 _;erw[Ti h (λf S q=>?_) λe S q=>?_]
 .let(v,e,q):=q;rwa[v,e,RM q]
 .rwa[RG$ Ug (T:="StopIteration") (b:=μ) q.1 VE$ RM q.2]
def My{I t:η}{k:Nat}{items:Array ζ}{x:ζ}{Q:FC ζ->θ->Prop}(H:eh s.heap I t k)(c:IsTup s.heap t items)(d:items[k]?=δ x)(e:(items.size:Int) < 2 ^ 63)
  (f:∀b,eh b I t ((k:Int) - 1)->eC I s.heap b->Q (δ x) { s with heap:=b,toks:=s.toks+1 }):!A (pyNext$ .ref I) Q E s:=by
 erw[YJ H ?_];let(o,a,g,h):=H;let i:k < items.size:=(bx.mp d).1;show !_ (field (.ref I) 0 >>= _) _ _ s;apply Ss a h (x:=.ref t) Z$ RG$ Ss a h (x:=.int k 0) Z ?_;dsimp only;rw[RU P'];apply T7 c.typeIs PyProof.Rows.slot_tuple_getitem.lookup ?_;rw[Option.isNone_some,RU RZ];apply wpAny_mkInt$ RG$ Ur ?_;erw[getItem_tuple (s:={ s with toks:=s.toks+1 }) c P' P' (j:=k) ?_ d ?_]
 .unfold seqIndex?;simp;omega
 apply Ss (s:={ s with toks:=s.toks+1 }) a h (x:=.int k 0) Z ?_;dsimp only;apply SR a h P9$ RM #[x,Z,f _ ?_$ Tv ..];rwa[_,SH _ a$ Ta$ Sy h _,(UD ..).trans g,by rw[Sy h];simp [rawInt]]
def vM(f:A.handled=ι){Q:FC ζ->θ->Prop}(h:eh s.heap I t (-1))
  (g:∀a,(∀b o,b≠I->s.heap.get? b=δ o->a.get? b=δ o)->Q ι (s<|a)):!A (pyNext$ .ref I) Q E s:=by
 erw[YJ h ?_];let(o,c,j,H):=h;show !_ (field (.ref I) 0 >>= _) _ _ s;apply Ss c H (x:=.ref t) Z$ RG$ Ss c H (x:=.int (-1) 0) Z ?_;dsimp only;rw[RV Ra];apply Uj$ RG ?_;show !_ (setField (.ref I) 1 (rawInt (-1)) >>= λ_=>setField (.ref I) 0 .none) _ _ _;apply SR c H P9 ?_;erw[SR (SH _ c$ Ta$ Sy H _) (Sy H _) P9 ?_];erw[RG ?_];erw[KA (s:=(s<|_)) (f:) λa e k T=>#[T,g a λb o d i=>k b o ?_]];exact(Sl _ _$ Sx d).trans ((Sl _ _$ Sx d).trans i)
def EW(H:eh s.heap I t k){Q:ζ->θ->Prop}(h:Q (.ref I) s):!A (pyIter$ .ref I) Q E s:=by erw[VX H.is Jl$ Sv Jl H.is QS ?_$ Q7 _];show !_ (ret$ .ref I) _ _ s;rwa[RM #[12,"reversed",_,H.is,qh.lookup,h]]
end
def Ks:entryFor table "dict.update.loop"=δ dw.«dict.update.loop»:=V5 (by kernel_rfl)
def qc:plainId "dict.update.loop"=μ:=P8
section
variable {X:Cx}{o lo hi:dr}{to tl th:TE}{pos p2:Pos}
inductive Mq(v:V)(h:St)(Q:St->Hp->Prop)(e a c:V)(d:Hp):Prop
 |mk(l b f g i j:_)(_:e= .ref l)(_:v= .ref b)(_:a= .int i)(_:c= .int j)(_:d l=f⁻¹)(_:d b=g⁻¹)(_:l≠b)(_:0<=i)(_:i<=j)(_:j<=(f.length:Int))(_:ο f+ο g<=υ)(_:Q h (af d l (.lst (f.take i.toNat++g++f.drop j.toNat))))
def Pu(to tl th:TE):TG:=λv b H Q=>to b H λO h=>tl b h λa c=>th b c (Mq v b Q O a)
def Ag(n:PE X o to)(t:PE X lo tl)(w:PE X hi th)
  (A:autoParam (∀v,assign (.Subscript o (.Slice (δ lo) (δ hi) ι p2) pos) X.env v=(do
   let O <- kw [v] (eval o X.env)
   let c <- kw [v,O] (eval (.Slice (δ lo) (δ hi) ι p2) X.env)
   standAt pos
   kw [v,O,c] (setItem O c v)
   release [c,v,O] [])) FO._auto_1):PG X (.Subscript o (.Slice (δ lo) (δ hi) ι p2) pos) (Pu to tl th):=by
 intro p s a H v u Q I r h;rw[A];apply Sj$ aS (n p s a H _ I h) λO B d=>?_;let(x,C,D,R,E):=d;apply Sj ?_;erw[wpAny_Slice$ aS (t p B a C _ D E) λV F #[y,G,J,K,L]=>aS (w p F a G _ J L) λm S f=>?_];let(z,M,N,P,l,b,xs,ys,i,j,T,U,W,Y,h1,h2,g,h0,k,hj,hz,q):=f;subst T U W Y;cases (show O=Φ l from R);cases (show u=Φ b from r);erw[RM ?_];let I4:aq X p a M (S<|S.heap.push ("slice"<|.fields (ε [V,m,.none]))):=N.kept (t':=S.toks) λb o e=>RL _ e;apply UF$ RG$ Sj ?_;rwa[wJ I4 h1 h2 g (VP S.heap V m .none) K P h0 k hj hz λs5 I5=>wpAny_release #[a,_,I5,q]]
end
end _L
namespace _L
open PySem PySem.Spec PyProof.Rows Builtin Builtin.Str
section
#print v
def JU{lo:FC Int}{Q:ζ->θ->Prop}(H:IsTup s.heap t i)(d:s.heap.IsSliceOf e v j .none)(p:IsPart v lo)(P:IsPart j f)
  (g:HT.sIx i.size 0 lo=0/\HT.sIx i.size i.size f=i.size) (h:Q (.ref t) s):!A (getItem (.ref t)$ .ref e) Q E s:=by
 let(os,a,b,k):=id d;let c:s.TypeIs (.ref e) "slice":=#[os,a,b];unfold getItem;try with_reducible erw[Sj ?_]
 first |refine RG (RM ?_) |skip
 apply WN H.typeIs Ra ?_;refine RG (SD (name:=Str.ofString "__getitem__") H.typeIs Ue
  (Sv Ue H.typeIs PyProof.Rows.entry_tuple_getitem ?_$ PyProof.Rows.args_tuple_getitem _ _))
 show !_ (rm (.ref t) >>= _) _ _ s;apply PyProof.Rows.tupleItemsOf_ H ?_;apply Ud c ?_;rw[RV Ra];apply HT.sliceApplied_gen d p P ?_;show !_ (if (((HT.sIx i.size 0 lo:Nat):Int)==0&&(1:Int)==1&&(HT.sIx i.size i.size f - HT.sIx i.size 0 lo)==i.size)=μ then _ else _) _ _ s;rw[g.1,g.2,RV P9];unfold Builtin.Tuple.tupleIsExact;apply RG$ Ud H.typeIs$ RM ?_;rw[RV Ra];first
  |exact Uj (RM #[12,RM h])
  |exact RG (Uj (RM #[12,RM h]))
  |exact RG (RM (RM #[12,RM h]))
end
section
variable {X:Cx}
inductive Ap(x y:V)(H:Hp)(Q:VK):Prop
 |mk(a b c d:_)(_:x= .ref a)(_:y= .ref b)(_:H a= ~~~c)(_:H b= ~~~d)(_:ο c+ο d<=υ)(_:∀r H',H' r= ~~~(c++d)->aa H H'->Q (.ref r) H')
def jW:gu X (binaryOp .Add) Ap:=by
 intro P s G H x y v u Q I r R h;let(a,b,m,Y,rfl,rfl,d,f,J,q):=h;let t:=aC.of (K:=X.K) d;let w:=aC.of (K:=X.K) f;by_cases z:m=[]
 .subst z;cases r;cases R;let(l,L,M,_):=I.tuple t;let(i,r2,N,_):=I.tuple w;let O:l=[]:=L.nil_iff.mpr Z;subst O;obtain⟨⟨T,U,A,V⟩,B,C,n,E⟩:=id M;obtain⟨⟨F,D,data2,S⟩,g,j,W,k⟩:=id N;simp only at C E j k;subst C E j k;exact concat_meets #[_,B,Z] #[_,g,Z] Z' seq_tuple_add VG Vx (Vu _ _)
   (tuple_addW0 a b ([]:FA ζ).toArray i.toArray n W U D V S Z) #[B,g,.ref b,H,I,Z,q b H f$ aa.refl H]
 .refine Ds P s G H _ _ v u Q I r R #[a,b,m,Y,22,t,w,z,J,λe=>?_,λ_ p np=>?_]
  .subst e;rwa[q a H (by rw[Sw];rwa[d])$ aa.refl H]
  .exact q p _ jc λc o e=>by rw[jh$ jk e np];rwa[e]
inductive Iw(x:V)(c b:FC Int)(H:Hp)(Q:VK):Prop
 |mk(a d:_)(_:x= .ref a)(_:H a= ~~~d)(_:∀r H',H' r= ~~~(aN d c b)->aa H H'->Q (.ref r) H')
def j4:NH X Iw:=by
 intro P s u H x v V w lo j S Q I R k l m h;let(a,b,rfl,d,q):=h;let n:=aC.of (K:=X.K) d;by_cases g:HT.sIx b.length 0 lo=0/\HT.sIx b.length b.length j=ο b
 .cases R;let(i,r,t,y):=I.tuple n;let f:i.toArray.size=ο b:=by rw[RS];exact r.length.symm
  erw["tuple",_,PyProof.Rows.slot_tuple_getitem.lookup,t.typeIs,?_];erw[JU t k l m (by rw[f];rwa[g]) #[.ref a,H,I,Z,q a H ?_$ aa.refl H]];rw[d];unfold aN;rw[g.1,g.2,Tu,U9,Su]
 .rwa[IV P s u H _ v V w lo j S Q I R k l m #[a,b,Z,n,g,λp N=>q p _ jc λc o e=>by rw[jh$ jk e N];rwa[e]]]
end
end _L
namespace _L
open PySem PySem.Spec PyProof.Rows
def EB{G:Bool->Hp->Prop}(y:G μ H)(n:b=ξ->G b H):G b H:=by
 cases b
 .rwa[n Z]
 .rwa[y]
def aQ{A:Prop}(h:∀G:Prop,(A->G)->G):A:=h A λz=>z
section
variable {t u:TS}{D:a8}{σ:St}{H:Hp}
def gp(h:∀E:a8,(∀a b,u D a b->E.nx a b)->t E σ H):dq t u D σ H:=h { D with nx:=u D } λ_ _ h=>h
def aj(h:∀F:St->Hp->Prop,(∀a b,u D a b->F a b)->t { D with nx:=F } σ H):dq t u D σ H:=h _ λ_ _ h=>h
def sF{c:TT}(h:∀F:Bool->Hp->Prop,(∀b a,(if b=μ then t D σ a else u D σ a)->F b a)->c σ H F):gY c t u D σ H:=h _ λ_ _ x=>x
def iX{c:TT}(h:∀F:Bool->Hp->Prop,(∀a,t D σ a->F μ a)->(∀a,u D σ a->F ξ a)->c σ H F):gY c t u D σ H:=by
 erw[h _ (λa x=>?_) λa x=>?_]
 .show if μ=μ then _ else _;rw[RV Z];rwa[x]
 .show if ξ=μ then _ else _;rw[RU Ra];rwa[x]
def eB(R:St->Hp->Prop)(c:∀E:a8,E.rt=D.rt->(∀a b,R a b->E.nx a b)->t E σ H)(d:∀a b,R a b->D.nx a b):Nr t D σ H:=#[R,c { D with nx:=R } Z λ_ _ h=>h,d]
def BM{c:TT}{T:TS}(W:Nat->St->Hp->Prop)(d:Nat)(e:W d σ H)
  (f:∀m σ H,∀E:a8,E.rt=D.rt->(∀M a b,M < m->W M a b->E.nx a b)->∀F:Bool->Hp->Prop,(∀b,T E σ b->F μ b)->(∀b,D.nx σ b->F ξ b)->∀G:Prop,(c σ H F->G)->W m σ H->G):Bw c T D σ H:=by
 erw[W,#[d,e],λm σ H w=>?_];erw[f m σ H { D with nx:=λa b=>∃M,M < m/\W M a b,ct:=λa b=>∃M,M < m/\W M a b,bk:=D.nx } Z (λM a b l g=>#[M,l,g]) _ (λb x=>?_) (λb x=>?_) _ (λz=>z) w]
 .show if μ=μ then _ else _;rw[RV Z];rwa[_,λ_ _ h=>h,x]
 .show if ξ=μ then _ else _;rw[RU Ra];rwa[x]
def pj(J:It)(g:TG)(T:TS)(D:a8)(σ:St)(H:Hp):Prop:=∃W:Nat->Nat->St->Hp->Prop,(∃m,W 0 m σ H)/\∀i m σ H,W i m σ H->
 (J.stop i H/\D.nx σ H)∨(J.go i H/\∃N:St->Hp->Prop,(∀a h,N a h->∃M,M < m/\W (i+1) M a h)/\∀x h,J.yld i H x h->g x σ h λb c=>T { D with nx:=N,ct:=N,bk:=D.nx } b c)
def db{w:TI}(h:∀F:It->Hp->Prop,(∀J a,pj J g T D σ a->F J a)->w σ H F):Ej w g T D σ H:=h _ λ_ _ z=>z
def PV{g:TG}{Q:St->Hp->Prop}(h:∀F:St->Hp->Prop,(∀a b,Q a b->F a b)->g x σ H F):g x σ H Q:=h _ λ_ _ z=>z
def kn{lo:Int}{g:TG}{T:TS}{D:a8}{σ:St}{H:Hp}(Pv:Nat->St->Hp->Prop)(d:Pv 0 σ H)
  (e:∀E:a8,E.rt=D.rt->∀i σ H,i < n->(∀a c,Pv (i+1) a c->E.nx a c)->∀G:Prop,((g (.int$ lo+i) σ H λb f=>T E b f)->G)->Pv i σ H->G) (j:∀σ H,Pv n σ H->D.nx σ H):pj (BS lo n) g T D σ H:=
 Xi Pv d (λi σ H k p=>e { D with nx:=Pv (i+1),ct:=Pv (i+1),bk:=D.nx } Z i σ H k (λ_ _ h=>h) _ (λz=>z) p) j
def qu{K:γ}{a:η}{xs:FA V}{g:TG}{T:TS}{D:a8}{σ:St}{H:Hp}(Pv:Nat->St->Hp->Prop)(e:Pv 0 σ H)(f:∀i σ H,i<=ο xs->Pv i σ H->aE K H a xs)
  (j:∀E:a8,E.rt=D.rt->∀i x σ H,xs[i]?=δ x->(∀b d,Pv (i+1) b d->E.nx b d)->∀G:Prop,((g x σ H λc k=>T E c k)->G)->Pv i σ H->G) (l:∀σ H,Pv xs.length σ H->D.nx σ H):pj (BR K a) g T D σ H:=
 xX Pv e f (λi x σ H m p=>j { D with nx:=Pv (i+1),ct:=Pv (i+1),bk:=D.nx } Z i x σ H m (λ_ _ h=>h) _ (λz=>z) p) l
def qQ{K:γ}{a:η}{xs:FA V}{g:TG}{T:TS}{D:a8}{σ:St}{H:Hp}(Pv:Nat->St->Hp->Prop)(e:Pv 0 σ H)(f:∀i σ H,i<=ο xs->Pv i σ H->aC K H a xs)
  (j:∀E:a8,E.rt=D.rt->∀i x σ H,xs[i]?=δ x->(∀b d,Pv (i+1) b d->E.nx b d)->∀G:Prop,((g x σ H λc k=>T E c k)->G)->Pv i σ H->G) (l:∀σ H,Pv xs.length σ H->D.nx σ H):pj (Cb K a) g T D σ H:=
 CH Pv e f (λi x σ H m p=>j { D with nx:=Pv (i+1),ct:=Pv (i+1),bk:=D.nx } Z i x σ H m (λ_ _ h=>h) _ (λz=>z) p) l
end
end _L
namespace _L
open PySem PySem.Spec PyProof.Rows PySem.SeqAt
section
variable {X:Cx}
def vg{A:bU}{s:θ}(r:aB (.int i) u)(R:aB (.int j) v):EqAt A s u v (decide$ i=j):=by
 let h:=Zx (A:=A) (s:=s) r R Z Z;let e:nW (.int i) (.int j)=decide (i=j):=by
  show (i==j)=decide (i=j);by_cases h:i=j
  .subst h;simp
  .rw[RW h];simpa using h
 rw[<- e];rwa[h]
end
section
#print v
def Z8{P:Fin->θ->Prop}(H:s.heap.get? a=δ (seqObj "list" [v].toArray n))
  (h:P (.done$ .ret .none) (s<|sortedHeap s.heap a [v] (ε [v]))):!A (dw.«list.sort» #[[.ref a],[]]) P E s:=by
 rw[Wi];apply WP H Z ?_;apply UG H Z ?_;obtain⟨e,b⟩:∃e,(s.heap.update a$ Ω λ_=>(ε [])).get? a=δ (seqObj "list" (ε []) e):=#[_,Wj H (λ_=>(ε []))];apply U' b Z ?_;apply UO ?_;apply Uq ?_;erw[Sj ?_];let g:(((s.heap.update a$ Ω λ_=>(ε [])).push$ seqObj "tuple" [v].toArray 0).push$ seqObj "list" (ε []) 0).get? a=δ (seqObj "list" (ε []) e):=RL _ (RL _ b);show !A _ P E (s<|((s.heap.update a$ Ω λ_=>(ε [])).push$ seqObj "tuple" [v].toArray 0).push (seqObj "list" (ε []) 0));dsimp only;let S:[v].toArray.size < 2:=by show 1 < 2;decide
 rw[RV S,RV S];apply RM ?_;rw[StateT.run_pure];apply RM ?_;dsimp only;apply U' g Z ?_;let c:(arrOf$ SortSt.mk' general' ([v].toArray.zip [v].toArray) (ε []) 7 ι).map (·.2)=(ε [v]):=by show([v].toArray.zip [v].toArray).map (·.2)=(ε [v]);simp
 rw[c];apply UG g Z ?_ (hsz2:=by show 1<=υ+1;omega);simp only[Tx,R8,Te];rwa[RM h]
def ut{Q:ζ->θ->Prop}(H:s.heap.IsList l [v].toArray)
  (h:Q (.ref$ -s+1) (s<|sortedAll s.heap [v] (ε [v]))):!A (call (.builtin "sorted") [.ref l]) Q E s:=by
 erw[Uh Wq Wc We (Wf _) ?_];unfold dw.«sorted»;erw[RG (m:=checkCount "sorted" 1 1 _)$ RM ?_];apply WQ H ?_;apply Uq ?_;let z:((s.heap.push$ seqObj "list" (ε []) 0).update (-s)$ Ω (·++[v].toArray)).objs.size=-s+1:=by rw[VO,WG]
 let g:(((s.heap.push$ seqObj "list" (ε []) 0).update (-s)$ Ω (·++[v].toArray)).push$ seqObj "list" [v].toArray 0).get? (-s+1)=δ (seqObj "list" [v].toArray 0):=by rw[<- z];rwa[RQ _ Z]
 show !_ _ _ _ (s<|((s.heap.push$ seqObj "list" (ε []) 0).update (-s)$ Ω (·++[v].toArray)).push (seqObj "list" [v].toArray 0));rw[z];apply Sj$ Sv VD #[_,g,Z] Vt (Z8 g #[12,?_]) (VF _);rwa[RM #[12,h]]
end
inductive Tr where
 |lf (v:V) |tp (l:Tr) |nil |cons (h t:Tr)
noncomputable def Tr.dep:Tr->Nat
 | .lf _=>0
 | .tp l=>l.dep+1
 | .nil=>0
 | .cons h t=>max h.dep t.dep
noncomputable def Tr.isL:Tr->Bool
 | .nil | .cons _ _=>μ
 |_=>ξ
noncomputable def Pz:V->Bool
 | .byt _ | .flt _=>ξ
 |_=>μ
end _L
namespace _L
open PySem PySem.Spec PyProof.Rows
noncomputable def NY(K:γ)(a:η)(n:Nat):It:=
 #[λi H=>∃X x,aC K H a X/\ο X=n/\X.reverse[i]?=δ x,λi H x h=>h=H/\∀X,aC K H a X->X.reverse[i]?=δ x,λi H=>∃X,aC K H a X/\ο X=n/\i=n]
def BC{P:Δ}{K:γ}(a f:η)(n:Nat):oh P w K tg (NY K a n) [f] f (λi h=>eh h f a ((n:Int) - 1 - i)) where
 mem:=by simp
 obj:=λi h st b j=>by
  let e:b=f:=by simpa using j
  subst e;let(o,e,c,d):=st;rwa[o,e,λv z=>by rw[d]at z;cases z]
 keep:=λi h q st k=>st.at λo e=>k f P9 o e
 item:=by
  intro X y A B O i g s Q H E I t st C;subst y A B;let(l,x,D,T,m):=C;let(r,R,p,hz):=I.tuple D;let hl:=R.length;let U:=fc;let V:i < ο l:=by
   rcases V0 i l.length with z |z
   .rwa[z]
   .rw[SM (z:)]at m;cases m
  let F:l[ο l - 1 - i]?=δ x:=by rw[Vc V]at m;rwa[m]
  let(u,W,Y):=R.get F;let(G,J,f2,L,M,N):=t f P9;let e:((n:Int) - 1 - i)=((ο l - 1 - i:Nat):Int):=by rwa[N09]
  rw[e]at st;erw[My (items:=r.toArray) st (show IsTup s.heap a r.toArray from p) (x:=u) (W:) (by simp only[RS];omega) λq S sb=>?_];let I1:aq X g Q H { s with heap:=q,toks:=s.toks+1 }:=I.turned (t':=s.toks+1) (λb o j e=>(sb.2 b j).trans e) G J L M N;let(o,e',c,d):=id S;erw[u,Z,Yr (s:={ s with heap:=q,toks:=s.toks+1 }) e' c d Ra #[x,H,I1,Y,#[Z,λys hy=>by rw[I.tuple_inj hy D];rwa[m]],?_,λb j=>(t b j).1]];let e2:((n:Int) - 1 - ((i+1:Nat):Int))=((ο l - 1 - i:Nat):Int) - 1:=P'
  show eh q f a ((n:Int) - 1 - ((i+1:Nat):Int));rw[e2];rwa[S]
 done:=by
  intro X y A B O i g s Q H E I t st C;subst y A B;let(l,D,T,m):=C;let(G,J,f2,L,M,N):=t f P9;let e:((n:Int) - 1 - (i:Int))= -1:=P'
  rw[e]at st;rwa[vM (I.ok.hd O) st λq eb=>#[Z,I.turned (t':=s.toks) (λb o j e=>eb b o j e) G J L M N]]
 self:=λ_ _ _ _ _ st h=>EW st h
section
variable {X:Cx}{tg:dr}
inductive ET(K:γ)(R:It->Hp->Prop)(x:V)(b:Hp):Prop
 |mk(a c:_)(_:x= .ref a)(_:aC K b a c)(_:R (NY K a c.length) b)
def Oq(K:γ)(t:TE):TI:=λa H R=>t a H (ET K R)
def Aj{e:dr}{t:TE}{c:ρ}{p P:Pos}(j:Gl X c)(k:X.mg c=ι)(l:bootBuiltins c=δ (.type "reversed"))(y:PE X e t)(m:↥(c≠"__name__"))(n:↥((c==("__debug__":ρ))=ξ))
  (r:↥(Ψ [e] X.env=(ξ,eval e X.env)::Ψ [] X.env)) (A:↥((fz P$ Ψ [] X.env).any (·.1)=ξ)):PI X tg (.Call (.Name c p) [e] [] P) (Oq X.K t):=by
 intro d s B H R I h;erw[S0$ zH I j k l ?_ m n];erw[SO ?_ r A];rw[r];show !_ (spliced ((ξ,eval e X.env)::fz P (Ψ [] X.env))) _ _ s;erw[Ub$ aS (y d s B H _ I h) λu S z=>?_];let(x,C,g,D,a,v,E,F,q):=z;subst E;cases (show u=Φ a from D);let(i,G,J,N):=g.tuple F;let f:=G.length;let L:=fc;erw[Uz$ xw (show IsTup S.heap a i.toArray from J) (by simp only[RS];omega) ?_];let w:eh (S.heap.push$ revObj a i.toArray.size) (-S) a ((v.length:Int) - 1 - ((0:Nat):Int)):=#[_,RQ _ Z,Z,by rw[RS,<- f];simp [revObj]];erw[EW (s:={ S with heap:=S.heap.push (revObj a i.toArray.size),toks:=S.toks+1+1 }) w ?_];erw[-S,[-S],11,C,Z,g.kept (t':=S.toks+1+1) λb o e=>RL _ e,BC a _ v.length,w,λb M=>?_,q];let e:b=-S:=by simpa using M
 subst e;rwa[g.fpOk (RO _)$ g.hok.fresh$ RO _]
end
def YK{K:γ}{xs:FA V}{g:TG}{t:TS}{D:a8}(Pv:Nat->St->Hp->Prop)(k:Pv 0 b H)(l:∀i b H,i<=ο xs->Pv i b H->aC K H a xs)
  (n:∀E:a8,E.rt=D.rt->∀i x b H,xs.reverse[i]?=δ x->(∀c f,Pv (i+1) c f->E.nx c f)->∀G:Prop,((g x b H λj o=>t E j o)->G)->Pv i b H->G) (r:∀b H,Pv xs.length b H->D.nx b H):pj (NY K a xs.length) g t D b H:=by
 erw[λi m b H=>m=ο xs - i/\i<=ο xs/\Pv i b H,#[xs.length,P9,R4 _,k],?_];rintro i m b H ⟨rfl,s,p⟩;let q:=l i b H s p;by_cases d:i < ο xs
 .erw[.inr #[#[xs,_,q,Z,RI (d:)],Pv$ i+1,λc f P=>#[ο xs - (i+1),N09,Z,d,P],λx f y=>?_]];let(e,y):=y;subst e;rwa[n { D with nx:=Pv (i+1),ct:=Pv (i+1),bk:=D.nx } Z i x b _ (y xs q) (λ_ _ h=>h) _ (λz=>z) p]
 .let e:i=ο xs:=by omega
  subst e;rwa[.inl #[#[xs,q,22],r b H p]]
def Bh:Slot "list_reverseiterator" "__length_hint__" "list_reverseiterator.__length_hint__":=by erw[Slot.of (owner:="list_reverseiterator") (n:="__length_hint__") (by rw[TH,SV];kernel_rfl) P8 P8 P8 ?_ (by rw[T4];kernel_rfl)];first |exact .inl P8 |exact .inr P8
def vO:typeLookup (.type "list_reverseiterator") "__len__"=pure ι:=by rw[TH,SV];kernel_rfl
def IY:isSubtype (.type "list_reverseiterator") (.type "list_reverseiterator")=pure μ:=by rw[T4];kernel_rfl
section
#print v
def Gw(H:s.heap.IsRevIter I t k){Q:Bool->θ->Prop}(h:Q ξ s):!A (iv$ .ref I) Q E s:=by
 unfold iv;apply T7 H.typeIs vO ?_;show π _ A (specialOf (Φ I) (Str.ofString "__length_hint__") >>= _) _ _ _;apply T7 H.typeIs Bh.lookup ?_;let e:splitId "list_reverseiterator.__length_hint__"=δ ("list_reverseiterator","__length_hint__"):=P8
 dsimp only;rw[e];dsimp only;apply Ug (b:=μ) H.typeIs IY ?_;rw[Vg,RU RZ];rw[RV P8,RU P8];rwa[RM h]
def u6{a:Array ζ}{Q:FA ζ->θ->Prop}(z:A.handled=ι)(f:s.heap.IsRevIter I t ((a.size:Int) - 1))(r:s.heap.IsList t a)(B:t≠I)(C:a.size<=υ)
  (D:∀S,(∀b o,b≠I->s.heap.get? b=δ o->S.heap.get? b=δ o)->-s<=-S->S.gens=s.gens->S.os=s.os->Q a.toList.reverse S):!A (collect$ .ref I) Q E s:=by
 let j:I < -s:=by let(o,k,_):=f;rwa[RT k]
 let n:t < -s:=by let(o,k,_):=r;rwa[RT k]
 let u:I≠-s:=R6 j;let F:t≠-s:=R6 n;unfold collect;refine RG (wpAny_runValue (TJ WE (by
  rw[Tg WC _];show π _ A.in1 (newList [] >>= λl=>again (.builtin "list.__iadd__" #[[l,.ref I],[]])) _ _ s;apply SE$ RM #[Us UQ _,TJ WV ?_];rw[Tg UQ _];generalize v:s.heap.push ("list"<|.seq ([]:FA ζ).toArray)=H;let J:H.get? (-s)=δ ("list"<|.seq (ε [])):=by rw[<- v];rwa[RQ _ Z]
  let G:∀b o,s.heap.get? b=δ o->H.get? b=δ o:=λb o e=>by rw[<- v];rwa[RL _ e]
  let h:H.IsRevIter I t ((a.size:Int) - 1):=f.at λo e=>G I o e;let p:H.IsList t a:=r.at λo e=>G t o e;show π _ A.in1 (gN (.ref (-s)) (.ref I)$ .ref (-s)) _ _ (s<|H);unfold gN;apply Ud (s:=(s<|H)) h.typeIs ?_;let K:fx (.ref (-s)) (.ref I)=ξ:=by simp only[fx,beq_eq_false_iff_ne];rwa[Sx u]
  let L:(dO "list_reverseiterator"==dO "list")=ξ:=Ra
  let M:(dO "list_reverseiterator"==dO "tuple")=ξ:=Ra
  simp only[K,L,M,xb,R8,Te];apply wpAny_pyIter_revIter (s:=(s<|H)) h$ RG$ Sj$ Gw (s:=(s<|H)) h ?_;let N:¬-s∈[I,t]:=by simp only[Ua,Sz,V4,not_or];rwa[Sx u,Sx F]
  rw[RU P8];erw[RM #[Us WJ _,?_]];let W:=(Walks.listRev (prog:=prog) (w:=w) (A:=A.in1) (z:) I t B a).toS;erw[codeAny_extend_loopS W C _ N _ a.size 0 _ (ε []) _ Z (R4 _) #[R4 _,(h:),p] J (ItemsOf.nil _) λS d U m x c=>?_];let O:d=a.toList.reverse.toArray:=by
   apply Array.ext';erw[Wu λi=>?_];by_cases y:i < a.size
   .let g:i < d.size:=by rw[c.1];exact y
    let q:=c.2 i d[i] (by simp [g]);rw[TR,TB g,<- q];show a[a.size - 1 - i]?=a.toList.reverse[i]?;rw[Vc (y:)];simp
   .rw[SM (by rw[Sb,c.1];omega),SM (by simp;omega)]
  subst O;show π _ A (load (-s) >>= _) _ _ S;apply wpAny_load x$ RM ?_;let P:a.toList.reverse.toArray.toList=a.toList.reverse:=by simp
  rw[P];erw[D S (λb o R e=>?_) ?_ m.gens m.os]
  .let T:b≠-s:=R6 (RT e);rwa[m.heap b o (by simp only[Ua,Sz,V4,not_or];rwa[T,R])$ G b o e]
  .rwa[Uo$ RT x])))
end
section
#print v
def Yl{i:Array ζ}{Q:ζ->θ->Prop}(f:A.handled=ι)(H:s.heap.IsRevIter I t ((i.size:Int) - 1))(g:s.heap.IsList t i)(j:t≠I)(d:i.size<=υ)
  (h:∀S:θ,(∀b o,b≠I->s.heap.get? b=δ o->S.heap.get? b=δ o)->-s<=-S->S.gens=s.gens->S.os=s.os->
   Q (.ref (-S)) (S<|S.heap.push ("tuple"<|.seq i.toList.reverse.toArray))):
  iu (χ prog w) A (.call (.builtin "tuple.__new__") #[[.type "tuple",.ref I],[]]) (wants Q E) s:=by
 erw[codeAny_of_tree (show π _ A.in1 (do checkBuiltinCall "tuple.__new__" #[[.type "tuple",.ref I],[]];again (.builtin "tuple.__new__" #[[.type "tuple",.ref I],[]])) _ _ s from ?_)];refine RG (Vn (PySem.F.newCall_tuple_1 _) (RM #[Us WT _,TJ PySem.F.entry_tuple_new (by
  rw[Tg WT _];let e:=sub_tuple_self;let a:=init_tuple_lookup;let l:=madeHere_tuple;let c:=H.typeIs;wp_walk using Ud c,u6 (f:) H g j d;intro S k z m n;show !_ (eT i.toList.reverse.toArray >>= λv=>ret v) _ _ _;unfold eT;rwa[RG$ SE (RM$ h S k z m n) (by show i.toList.reverse.toArray.size<=υ;simpa using d)])]))
def Ym{items:Array ζ}{Q:ζ->θ->Prop}(d:A.handled=ι)(c:s.heap.IsRevIter I t ((items.size:Int) - 1))(e:s.heap.IsList t items)(f:t≠I)(g:items.size<=υ)
  (h:∀a:θ,(∀b o,b≠I->s.heap.get? b=δ o->a.heap.get? b=δ o)->-s<=-a->a.gens=s.gens->a.os=s.os->
   Q (.ref (-a)) (a<|a.heap.push ("tuple"<|.seq items.toList.reverse.toArray))):!A (call (.type "tuple") [.ref I]) Q E s:=by
 erw[callType_codes (Q₁:=λO S=>S.TypeIs O "tuple"/\Q O S) oS (PySem.F.typeCall_tuple_1 _) PySem.F.entry_object_init (Yl (d:) c e f g λa k z i j=>#[#[_,RQ _ Z,Z],h a k z i j]) λO S H=>?_];rwa[H.1,Vk O _,object_init_meets oS.init.lookup oS.made Ra prog w A.in1 _ S #[H.1,Z,H.2]]
end
section
variable {X:Cx}{e:dr}{te:TE}{xl xr:ρ}{p p2 pos pos2:Pos}
inductive oW(K:γ)(Q:VK)(x:V)(b:Hp):Prop
 |mk(a c:_)(_:x= .ref a)(_:aE K b a c)(_:∀l,b l=ι->Q (.ref l) (af b l (.tup c.reverse)))
def El(K:γ)(te:TE):TE:=λa H Q=>te a H (oW K Q)
def wm(M:X.calm=μ)(g:Gl X xl)(j:X.mg xl=ι)(l:bootBuiltins xl=δ (.type "tuple"))(m:Gl X xr)(n:X.mg xr=ι)(r:bootBuiltins xr=δ (.type "reversed"))(O:PE X e te)
  (t:↥(xl≠"__name__")) (v:↥((xl==("__debug__":ρ))=ξ)) (y:↥(xr≠"__name__")) (A:↥((xr==("__debug__":ρ))=ξ))
  (E:↥(Ψ [.Call (.Name xr p2) [e] [] pos2] X.env=(ξ,eval (.Call (.Name xr p2) [e] [] pos2) X.env)::Ψ [] X.env)) (T:↥((fz pos$ Ψ [] X.env).any (·.1)=ξ))
  (F:↥(Ψ [e] X.env=(ξ,eval e X.env)::Ψ [] X.env)) (U:↥((fz pos2$ Ψ [] X.env).any (·.1)=ξ)):
  PE X (.Call (.Name xl p) [.Call (.Name xr p2) [e] [] pos2] [] pos) (El X.K te):=by
 intro P s V H Q I h;erw[S0$ zH I g j l ?_ t v];erw[SO ?_ E T];rw[E];show !_ (spliced ((ξ,eval (.Call (.Name xr p2) [e] [] pos2) X.env)::fz pos (Ψ [] X.env))) _ _ s;erw[Ub ?_];erw[S0$ zH I m n r ?_ y A];erw[SO ?_ F U];rw[F];show !_ (spliced ((ξ,eval e X.env)::fz pos2 (Ψ [] X.env))) _ _ s;erw[Ub$ aS (O P s V H _ I h) λu d B=>?_];let(x,W,f,Y,a,G,ex,hq,q):=B;subst ex;cases (show u=Φ a from Y);let(i,R,C,hz):=f.list hq;let J:=R.length;erw[Uz$ call_reversed_list C.isList$ Uz ?_];let D:a < -d:=by let(o,ho,_):=C.isList;rwa[RT ho]
 refine Ym (s:=(d<|d.heap.push (PySem.revObj a ((i.toArray.size:Int) - 1)))) (items:=i.toArray) (I.ok.hd M) #[_,RQ _ Z,22] (C.isList.at λo e=>RL _ e) (R6 D)
  (by simp only[RS];omega) λS k hl kg ko=>?_
 let c:-d<=-S:=Sf (by show _<=(d.heap.push _).objs.size;rw[SW];rwa[SY _]) hl;let L:∀b o,d.heap.get? b=δ o->(S.heap.push ("tuple"<|.seq i.toArray.toList.reverse.toArray)).get? b=δ o:=λb o e=>RL _ (k b o (R6$ RT e)$ RL _ e);let hg:(S.heap.push ("tuple"<|.seq i.toArray.toList.reverse.toArray)).get? (-S)=δ ("tuple"<|.seq i.toArray.toList.reverse.toArray):=RQ _ Z;let N:aK X.prog X.w (af W (-S)$ .tup G.reverse) (S.heap.push ("tuple"<|.seq i.toArray.toList.reverse.toArray)) (-S) (.tup G.reverse):=by
  erw[by rw[Wk];rwa[hz],i.reverse,aw.reverse R,?_];let ee:i.toArray.toList.reverse.toArray=i.reverse.toArray:=by simp
  rw[<- ee];rwa[_,hg,212]
 rwa[.ref (-S),_,f.call' (ch:=[]) ko (Un.laid L c$ f.hok.fresh c) (f.hok.laid L c N) (by show AllBare S.gens;rw[kg];rwa[f.bare]) (λ_ z=>nomatch z),Z,q _$ f.hok.fresh c]
end
section
#print v
def QE{x:ζ}{Q:ζ->θ->Prop}(a:s.heap.IsTupleIter J T i)(e:s.heap.IsTuple T I)(f:I[i]?=δ x)
  (q:∀b,b.IsTupleIter J T (i+1)->eC J s.heap b->Q x (s<|b)):!A (bm$ .ref J) Q E s:=by
 let(o,H,g,h):=id a;let(O,c,_,n,d):=e;unfold bm;apply SD (name:=Str.ofString "__next__") a.typeIs Tq$ Sv Tq a.typeIs UW (show !_ (field (.ref J) 0 >>= _) _ _ s from ?_)$ UP _;apply Ss H h (x:=.ref T) Z (show !_ (if (Φ T==Ξ)=μ then _ else _) _ _ s from ?_);rw[RU (show ¬((Φ T==Ξ)=μ) from RZ)];erw[(show !_ (field (.ref J) 1 >>= _) _ _ s from RG$ Ss H h (x:=.int i 0) Z (show !_ (seqItems? (.ref T) >>= _) _ _ s from RG$ Th c d ?_))];simp only[SJ,f];apply SR H h P9$ RM #[x,Z,RM$ q _ #[_,SH _ H$ Ta$ Sy h _,(UD ..).trans g,by rw[Sy h];simp [rawInt]] (Tv ..)]
def vN(g:A.handled=ι)(H:s.heap.IsTupleIter J T i)(j:s.heap.IsTuple T I)(l:I[i]?=ι)
  (q:∀h e,mL J s.heap h->Shared.TypeIs (s<|h) e "StopIteration"->E e (s<|h)):!A (bm$ .ref J) Q E s:=by
 let(o,a,p,c):=id H;let(O,d,_,N,f):=j;unfold bm;apply SD (name:=Str.ofString "__next__") H.typeIs Tq$ Sv Tq H.typeIs UW (show !_ (field (.ref J) 0 >>= _) _ _ s from ?_)$ UP _;apply Ss a c (x:=.ref T) Z (show !_ (if (Φ T==Ξ)=μ then _ else _) _ _ s from ?_);rw[RU (show ¬((Φ T==Ξ)=μ) from RZ)];erw[(show !_ (field (.ref J) 1 >>= _) _ _ s from RG$ Ss a c (x:=.int i 0) Z (show !_ (seqItems? (.ref T) >>= _) _ _ s from RG$ Th d f ?_))];simp only[SJ,l];apply Uj$ RG$ SR a c P9 ?_;erw[KA (g:) λh e k t=>q h e (λb o m n=>k b o ?_) t];exact(Sl _ _$ Sx m).trans n
end
def iz(b:Bool)(h:df)(i l:η)(k:Nat):Prop:=match b with
 |true=>h.IsListIter i l k
 |false=>h.IsTupleIter i l k
def lX(b:Bool)(h:df)(l:η)(x:Array ζ):Prop:=match b with
 |true=>h.IsList l x
 |false=>h.IsTuple l x
noncomputable def gD:Bool->String
 |true=>"list_iterator"
 |false=>"tuple_iterator"
def iz.kp{b:Bool}{H:df}(x:iz b h i l k)(e:∀o,h.get? i=δ o->H.get? i=δ o):iz b H i l k:=by
 cases b
 .rwa[Heap.IsTupleIter.at x e]
 .let(o,a,r):=x;rwa[o,e o a,r]
def lX.kp{b:Bool}{H:df}(x:lX b h l a)(e:∀o,h.get? l=δ o->H.get? l=δ o):lX b H l a:=by
 cases b
 .let(o,c,r):=x;rwa[o,e o c,r]
 .rwa[Heap.IsList.at x e]
def iz.ob(x:iz b h i l k):∃o,h.get? i=δ o/\o.cls= .type (gD b)/\∀v,o.data≠ .cell v:=by
 cases b
 .let(o,H,c,d):=x;rwa[o,H,c,λv z=>by rw[d]at z;cases z]
 .let(o,H,c,d):=x;rwa[o,H,c,λv z=>by rw[d]at z;cases z]
section
#print v
def qG{Q:ζ->θ->Prop}(H:iz b s.heap J T i)(a:lX b s.heap T I)(c:I[i]?=δ x)
  (q:∀h,iz b h J T (i+1)->eC J s.heap h->Q x (s<|h)):!A (bm$ .ref J) Q E s:=by
 cases b
 .rwa[QE H a c q]
 .rwa[wpAny_nextOf_list_item H a c q]
def Xy(H:A.handled=ι)(a:iz b s.heap J T i)(c:lX b s.heap T I)(d:I[i]?=ι)
  (q:∀h e,mL J s.heap h->Shared.TypeIs (s<|h) e "StopIteration"->E e (s<|h)):!A (bm$ .ref J) Q E s:=by
 cases b
 .rwa[vN H a c d q]
 .rwa[wpAny_nextOf_list_end H a c d λh e k #[o,f,g]=>q h (.ref e) k #[o,f,g]]
def EX{Q:ζ->θ->Prop}(h:lX b s.heap T i)
  (q:Q (.ref (-s)) (s<|s.heap.push { cls:=.type (gD b),data:=.fields (ε [.ref T,.int 0 0]) })):!A (pyIter$ .ref T) Q E s:=by
 cases b
 .rwa[U8 h q]
 .rwa[Ve h q]
structure Cm(z u v c d a b:η):Prop where
 uz:u≠z
 vz:v≠z
 cz:c≠z
 dz:d≠z
 uv:u≠v
 uc:u≠c
 ud:u≠d
 vc:v≠c
 vd:v≠d
 cd:c≠d
 az:a≠z
 av:a≠v
 ac:a≠c
 ad:a≠d
 bz:b≠z
 bv:b≠v
 bc:b≠c
 bd:b≠d
def Es{Q:FC ζ->θ->Prop}(D:Cm z u v c d a b)
  (H:IsZip s.heap z u v .none) (hu:IsPair s.heap u (.ref c) (.ref d)) (hv:IsPair s.heap v p q) (h1:iz B s.heap c a k) (h2:iz C s.heap d b k) (g1:lX B s.heap a xs) (g2:lX C s.heap b ys) (hx:xs[k]?=δ x) (hy:ys[k]?=δ y)
  (hQ:∀h,IsZip h z u v (rawInt (-s))->IsPair h v x y->iz B h c a (k+1)->iz C h d b (k+1)->IsPair h (-s) x y->h.objs.size=-s+1->
   (∀e o,e≠z->e≠v->e≠c->e≠d->s.heap.get? e=δ o->h.get? e=δ o)->Q (δ$ .ref (-s)) (s<|h)):!A (pyNext$ .ref z) Q E s:=by
 let W:s.TypeIs (.ref z) "zip":=#[_,H,Z];unfold pyNext;apply Ur$ SD (name:=Str.ofString "__next__") W TC$ Sv TC W U3 (show !_ (field (.ref z) 2 >>= _) _ _ _ from ?_)$ UR _;apply Ss H Z (x:=.bool ξ) Z (show !_ (field (.ref z) 3 >>= _) _ _ _ from RG$ Ss H Z (x:=.ref u) Z$ RG$ Th hu Z ?_);erw[(show !_ (cc (.ref z) >>= _) _ _ _ from RG ?_)];unfold cc;apply Ss H Z (x:=.none) Z$ RM ?_;simp only[Vm];apply Uj$ RG$ Ss H Z (x:=.ref v) Z$ RG$ UA H P9 λX F S=>?_;replace F:IsZip X z u v .ellipsis:=F;erw[RG ?_];simp only[List.zipIdx_cons,List.zipIdx_nil,Uu,Vs];apply RG$ wpAny_onRaise (show !_ (bm (.ref c) >>= _) _ _ _ from ?_);apply qG (s:=(s<|X)) (h1.kp λo e=>S.extBut _ _ D.cz e) (g1.kp λo e=>S.extBut _ _ D.az e) hx λG i2 l=>RM ?_;let Y:IsPair G v p q:=l.extBut _ _ D.vc (S.extBut _ _ D.vz hv);apply Th (s:=(s<|G)) Y Z$ RG$ wpAny_updateSeq_pair (s:=(s<|G)) Y λI J r=>?_;replace J:IsPair I v x q:=J;apply wpAny_letGo$ RM$ RG$ RG$ wpAny_onRaise (show !_ (bm (.ref d) >>= _) _ _ _ from ?_);let K:∀e o,e≠z->e≠c->e≠v->s.heap.get? e=δ o->I.get? e=δ o:=λe o N f g w=>r.extBut _ _ g (l.extBut _ _ f$ S.extBut _ _ N w);apply qG (s:=(s<|I)) (h2.kp λo e=>K _ _ D.dz D.cd.symm D.vd.symm e) (g2.kp λo e=>K _ _ D.bz D.bc D.bv e) hy λL i4 i=>RM ?_;let v4:IsPair L v x q:=i.extBut _ _ D.vd J;apply Th (s:=(s<|L)) v4 Z$ RG$ wpAny_updateSeq_pair (s:=(s<|L)) v4 λm V j=>?_;replace V:IsPair m v x y:=V;apply wpAny_letGo$ RM$ RM$ RG$ Th (s:=(s<|m)) V Z$ RG$ UO ?_;let e5:m.objs.size=-s:=by rw[j.1,i.1,r.1,l.1,S.1]
 let k5:∀e o,e≠z->e≠v->e≠c->e≠d->s.heap.get? e=δ o->m.get? e=δ o:=λe o N f g O w=>j.extBut _ _ f (i.extBut _ _ O$ K e o N g f w);let z5:IsZip m z u v .ellipsis:=j.extBut _ _ D.vz.symm (i.extBut _ _ D.dz.symm$ r.extBut _ _ D.vz.symm$ l.extBut _ _ D.cz.symm F);let j1:iz B m c a (k+1):=i2.kp λo e=>j.extBut _ _ D.vc.symm (i.extBut _ _ D.cd$ r.extBut _ _ D.vc.symm e);let j2:iz C m d b (k+1):=i4.kp λo e=>j.extBut _ _ D.vd.symm e;let lz:z < m.objs.size:=RT z5;erw[(show !_ (mB (.ref z) (.ref m.objs.size) >>= _) _ _ _ from RG ?_)];unfold mB;let z6:IsZip (m.push ("tuple"<|.seq (ε [x,y]))) z u v .ellipsis:=RL _ z5;apply UA z6 P9 λm7 P R=>?_;replace P:IsZip m7 z u v (rawInt m.objs.size):=P;erw[UA P P9 λM t T=>?_];replace t:IsZip M z u v (rawInt m.objs.size):=t;let U:∀e o,e≠z->m.get? e=δ o->M.get? e=δ o:=λe o n w=>T.extBut _ _ n (R.extBut _ _ n$ RL _ w);let t8:IsPair M m.objs.size x y:=T.extBut _ _ (Tc lz) (R.extBut _ _ (Tc lz)$ RQ _ Z);let e8:M.objs.size=m.objs.size+1:=by rw[T.1,R.1,SW]
 rw[e5]at t t8 e8;erw[RM #[12,RM ?_]];show Q (δ$ .ref m.objs.size) _;rw[e5];rwa[hQ M t (U _ _ D.vz V) (j1.kp λo e=>U _ o D.cz e) (j2.kp λo e=>U _ o D.dz e) t8 e8 λe o N f g O w=>U e o N (k5 e o N f g O w)]
def Lk{b2:Bool}{ys:Array ζ}{p q:ζ}{Q:FC ζ->θ->Prop}(C:A.handled=ι)(D:Cm z u v c d a b)
  (h:IsZip s.heap z u v .none) (F:IsPair s.heap u (.ref c) (.ref d)) (G:iz I s.heap c a k) (J:lX I s.heap a L) (K:L[k]?=ι)
  (O:∀H,(∀e o,e≠z->e≠v->e≠c->e≠d->s.heap.get? e=δ o->H.get? e=δ o)->Q ι (s<|H)):!A (pyNext$ .ref z) Q E s:=by
 let g:s.TypeIs (.ref z) "zip":=#[_,h,Z];unfold pyNext;apply Ur$ SD (name:=Str.ofString "__next__") g TC$ Sv TC g U3 (show !_ (field (.ref z) 2 >>= _) _ _ _ from ?_)$ UR _;apply Ss h Z (x:=.bool ξ) Z (show !_ (field (.ref z) 3 >>= _) _ _ _ from RG$ Ss h Z (x:=.ref u) Z$ RG$ Th F Z ?_);erw[(show !_ (cc (.ref z) >>= _) _ _ _ from RG ?_)];unfold cc;apply Ss h Z (x:=.none) Z$ RM ?_;simp only[Vm];apply Uj$ RG$ Ss h Z (x:=.ref v) Z$ RG$ UA h P9 λm f S=>?_;replace f:IsZip m z u v .ellipsis:=f;erw[RG ?_];simp only[List.zipIdx_cons,List.zipIdx_nil,Uu,Vs];apply RG$ wpAny_onRaise (show !_ (bm (.ref c) >>= _) _ _ _ from ?_);apply Xy (s:=(s<|m)) (C:) (G.kp λo e=>S.extBut _ _ D.cz e) (J.kp λo e=>S.extBut _ _ D.az e) K λM e i j=>?_;let l:IsZip M z u v .ellipsis:=i _ _ D.cz.symm f;erw[UA (s:=(s<|M)) l P9 λn U r=>?_];let t:Shared.TypeIs (s<|n) e "StopIteration":=by
  cases e with
  |ref x=>
   let(o,y,B):=j;let P:x≠z:=λw=>by subst w;let:=y.symm.trans l;cases this;injection B with w;rwa[absurd w Ra]
   rwa[o,r.extBut _ _ P y,B]
  |_=>rwa[j]
 rwa[RG$ Ug (T:="StopIteration") (b:=μ) t VE$ RM$ O n λe o N V R W w=>r.extBut _ _ N (i _ _ R$ S.extBut _ _ N w)]
def Ll{b1 b2:Bool}{xs ys:Array ζ}{Q:ζ->θ->Prop}(J:lX b1 s.heap a xs)(L:lX b2 s.heap b ys)
  (h:∀H,IsZip H (-s+4) (-s+2) (-s+3) .none->IsPair H (-s+2) (.ref (-s)) (.ref$ -s+1)->
   IsPair H (-s+3) .none .none->iz b1 H (-s) a 0->iz b2 H (-s+1) b 0->(∀e o,s.heap.get? e=δ o->H.get? e=δ o)->Q (.ref$ -s+4) (s<|H)):
  !A (call (.type "zip") [.ref a,.ref b]) Q E s:=by
 refine callType_new (S:=λ_ R c=>c=s/\R (.ok$ .ret$ .ref$ -s+4) (s<|((((s.heap.push { cls:=.type (gD b1),data:=.fields (ε [.ref a,.int 0 0]) }).push { cls:=.type (gD b2),data:=.fields (ε [.ref b,.int 0 0]) }).push ("tuple"<|.seq (ε [.ref (-s),.ref$ -s+1]))).push ("tuple"<|.seq (ε [.none,.none]))).push ("zip"<|.fields (ε [.none,.bool ξ,.bool ξ,.ref$ -s+2,.ref$ -s+3]))))
  PySem.F.called_zip Ra (PySem.F.typeCall_zip_2 _ _) (PySem.F.newCall_zip_2 _ _) (λO=>PySem.F.args_object_init_3 O _ _) PySem.F.entry_zip_new (.of_wp λp w' A' R c P=>?_) #[Z,?_]
 .let(rfl,q):=P;let(r,g,D,t,os):=c;let u:=sub_zip;let T:lX b1 (Shared.heap #[r,g,D,t,os]) a xs:=J;let _L:lX b2 (Shared.heap #[r.push { cls:=.type (gD b1),data:=.fields (ε [.ref a,.int 0 0]) },g,D,t,os]) b ys:=L.kp λo e=>RL _ e;wp_walk using EX T,EX _L;erw[12,?_];simp only[SW]at q ⊢;rwa[q]
 .let z (h:df) (o:gb):(h.push o).objs.size=h.objs.size+1:=SW ..;generalize d:s.heap.push { cls:=.type (gD b1),data:=.fields (ε [.ref a,.int 0 0]) }=M;generalize f:M.push { cls:=.type (gD b2),data:=.fields (ε [.ref b,.int 0 0]) }=i;generalize j:i.push ("tuple"<|.seq (ε [.ref (-s),.ref$ -s+1]))=k;generalize l:k.push ("tuple"<|.seq (ε [.none,.none]))=n;generalize v:n.push ("zip"<|.fields (ε [.none,.bool ξ,.bool ξ,.ref$ -s+2,.ref$ -s+3]))=m;let N:M.objs.size=-s+1:=by rw[<- d,z]
  let x:i.objs.size=-s+2:=by rw[<- f,z,N]
  let y:k.objs.size=-s+3:=by rw[<- j,z,x]
  let U:n.objs.size=-s+4:=by rw[<- l,z,y]
  let K:∀e o,n.get? e=δ o->m.get? e=δ o:=λe o w=>by rw[<- v];rwa[RL _ w]
  let B:∀e o,k.get? e=δ o->m.get? e=δ o:=λe o w=>K e o (by rw[<- l];rwa[RL _ w]);let C:∀e o,i.get? e=δ o->m.get? e=δ o:=λe o w=>B e o (by rw[<- j];rwa[RL _ w]);let G:∀e o,M.get? e=δ o->m.get? e=δ o:=λe o w=>C e o (by rw[<- f];rwa[RL _ w]);let V:∀e o,s.heap.get? e=δ o->m.get? e=δ o:=λe o w=>G e o (by rw[<- d];rwa[RL _ w]);let I:IsZip m (-s+4) (-s+2) (-s+3) .none:=by rw[<- U,<- v];rwa[RQ _ Z]
  let W:IsPair m (-s+3) .none .none:=K _ _ (by rw[<- y,<- l];rwa[RQ _ Z]);let X:IsPair m (-s+2) (.ref (-s)) (.ref$ -s+1):=B _ _ (by rw[<- x,<- j];rwa[RQ _ Z]);let Y:m.get? (-s+1)=δ { cls:=.type (gD b2),data:=.fields (ε [.ref b,.int 0 0]) }:=C _ _ (by rw[<- N,<- f];rwa[RQ _ Z]);let q1:m.get? (-s)=δ { cls:=.type (gD b1),data:=.fields (ε [.ref a,.int 0 0]) }:=G _ _ (by rw[<- d];rwa[RQ _ Z]);erw[#[_,I,Z],h m I X W ?_ ?_ V]
  .cases b1<;>rwa[_,q1,22]
  .cases b2<;>rwa[_,Y,22]
end
def Et(n a b:Nat)(h:a < n)(H:b < n):Cm (n+4) (n+2) (n+3) n (n+1) a b:=by erw[?_,?_,?_,?_,?_,?_,?_,?_,?_,?_,?_,?_,?_,?_,?_,?_,?_,?_]<;>(show(_:Nat)≠_;omega)
section
variable {prog:Δ}{w:cv}{A:bU}{E:ζ->θ->Prop}
theorem EF(h:l≠J):∀(n i:Nat) (s:θ) (Q:FA ζ->θ->Prop),s.heap.IsListIter J l i->s.heap.IsList l I->i+n<=I.size->
  (∀a,a.IsListIter J l (i+n)->eC J s.heap a->Q ((I.toList.drop i).take n) (s<|a))->!A (draw (.ref J) n) Q E s
 |0,i,s,Q,b,_,_,q=>show !_ (pure []) Q E s from RM (q s.heap b (pz ..):)
 |n+1,i,s,Q,b,c,d,q=>by
  let H:i < I.size:=P'
  erw[(show !_ (pyNext (.ref J) >>= _) Q E s from RG$ wpAny_pyNext_list_item b c (x:=I[i]) (by simp [H]) λm j S=>?_)];apply Sj$ EF h n (i+1) _ _ j (c.extBut S.extBut h) P' λf g k=>RM ?_;let e:=q f (by rw[show i+(n+1)=i+1+n by omega];rwa[g]) (S.trans k);rw[show I.toList.drop i=I[i]::I.toList.drop (i+1) by simp [List.drop_eq_getElem_cons,H],List.take_succ_cons]at e;assumption
def Em{s:θ}{Q:FA ζ->θ->Prop}(f:A.handled=ι)(h:s.heap.IsList l i)(a:i.size=n)
  (q:∀c,mL (-s) s.heap c->Q i.toList (s<|c)):!A (unpackItems (.ref l) n ι) Q E s:=by
 let H:l≠-s:=by let(o,g,_):=h;rwa[R6$ RT g]
 unfold unpackItems;erw[RG ?_];unfold notIterableAtAll;apply T7 h.typeIs slot_list_iter.lookup ?_;erw[RM ?_];simp only[R8,Te];apply Sj$ Ve h ?_;let I:(s.heap.push ("list_iterator"<|.fields (ε [.ref l,.int 0 0]))).IsListIter (-s) l 0:=#[_,RQ _ Z,22];apply Sj$ EF H n 0 _ _ I (h.push _) P' λj J S=>?_;let k:(i.toList.drop 0).take n=i.toList:=by rw[Tu,Tk (by simp [a])]
 rw[k,RU (by simp [a])];let L:j.IsList l i:=(h.push _).extBut S.extBut H;apply Sj$ wpAny_pyNext_list_end f J L (by simp [a]) λm p=>?_;simp only[Option.isSome_none,R8,Te];rwa[RM$ q m λb o d e=>p b o d (S.extBut b o d$ RL _ e)]
end
section
variable {X:Cx}{pos:Pos}
inductive Oo(K:γ)(n:Nat)(t:Cj)(v:V)(c:St)(H:Hp)(Q:St->Hp->Prop):Prop
 |mk(a b:_)(_:v= .ref a)(_:aE K H a b)(_:ο b=n)(_:t b c H Q)
def tG{E:FA dr}{k n:Nat}{t:Cj}(g:X.calm=μ)(h:Lq X E t)
  (i:↥((assignEach E X.env).length=n)) (c:↥((assignEach E X.env).findIdx? (·.1)=ι)):PG X (.Tuple E k pos) (Oo X.K n t):=by
 intro P s f H v u Q I r d;let(a,x,j,l,m,d):=d;subst j;cases r;let(q,R,p,A):=I.list l;rw[assign_Tuple];apply UF ?_;unfold unpack;rw[i,c];apply Sj$ Em (I.ok.hd g) p.isList (by simp [<- m,R.length]) λw y=>?_;let z:aq X P f H (s<|w):=I.kept (t':=s.toks) λb o e=>y b o (R6$ RT e) e;rwa[h P _ f H x _ Q z (R:) d]
inductive Bo(K:γ)(i j k:Nat)(D:a8)(f:St)(x:V)(b:Hp):Prop
 |mk(a c d e:_)(_:x= .ref a)(_:aC K b a [c,d,e])(_:D.nx (((f.set k (δ e)).set j (δ d)).set i (δ c)) b)
def Fu(K:γ)(t:TE)(i j k:Nat):TS:=λD a H=>t a H (Bo K i j k D a)
def DC{t e:dr}{T:TE}{x y z:ρ}{i j k:Nat}(n:X.calm=μ)(c:X.N.Nodup)(w:X.N[i]?=δ x)(A:X.N[j]?=δ y)(B:X.N[k]?=δ z)(L:wZ X.env.scope x)(C:wZ X.env.scope y)(E:wZ X.env.scope z)(F:PE X e T)
  (G:autoParam (X.fn x=μ∨X.env.scope.names.lookup x=δ .local) Wx._auto_1) (J:autoParam (X.fn y=μ∨X.env.scope.names.lookup y=δ .local) Wx._auto_1) (M:autoParam (X.fn z=μ∨X.env.scope.names.lookup z=δ .local) Wx._auto_1)
  (O:↥(swapsWithSole [t] e pos.line X.env=pure ξ)) (P:↥(swappedStores [t] e X.env=pure (δ [x,y,z]))):PS X (.Assign [t] e pos) (Fu X.K T i j k):=by
 intro p s f H D I h;rw[exec_Assign_arm];apply UF ?_;rw[O];apply RM ?_;rw[RU Ra];apply aS (F p s f H _ I h) λv S d=>?_;let(xv,g,l,R,a,v1,v2,v3,Q,V,q):=d;rw[P];apply RM ?_;subst Q;cases R;let(W,r,Y,hz):=l.tuple V;cases r with
 |cons q1 r=>
  cases r with
  |cons q2 r=>
   cases r with
   |cons q3 r=>
    cases r
    rename_i u U m
    unfold assignStores;apply Uj$ RG$ wpAny_unpackItems_tuple (items:=(ε [u,U,m])) (I.ok.hd n) Y λh' hx=>?_;let I2:aq X p f g (S<|h'):=l.kept (t':=S.toks) λb o e=>hx b o (R6$ RT e) e;erw[RG ?_];show !_ (assignInOrder [λv=>bindName X.env z v,λv=>bindName X.env y v,λv=>bindName X.env x v] [m,U,u]) _ _ _;apply Sj$ wpAny_bindName$ zM I2 c B E q3 (λs2 I3=>?_) M;apply Sj$ wpAny_bindName$ zM I3 c A C q2 (λs3 I4=>?_) J;apply Sj$ wpAny_bindName$ zM I4 c w L q1 (λs4 I5=>?_) G;rwa[RM$ RM #[_,g,I5,q]]
end
def CF(l b:η)(I i:Array ζ)(n N:Nat)(D:FC η)(S:Array (FC ζ))(e:¬(!I.isEmpty&&fR (I.size+i.size))=μ)(W:I.size<=υ)(a:I.size+i.size<=υ+1):
  Meets (dw.«list.extend» #[[.ref l,.ref b],[]]) (λ_ R s=>s.heap.get? l=δ { cls:=.type "list",dict:=ι,data:=.seq I n,slots:=(ε []) }/\s.heap.get? b=δ #[.type "tuple",D,.seq i N,S]/\R (.ok$ .ret Ξ) { s with heap:=s.heap.update l (Ω λx=>x++i),toks:=s.toks }):=by
 erw[Meets.of_wp λp w A R s h=>?_];let(f,g,d,t,os):=s;let(H,c,h):=h;let F:=AutoSeq1.idx_int;let j:=WM;let k:=AutoSeq1.sub_list_list;let m:=AutoSeq1.sub_tuple_list;let o:=AutoSeq1.sub_list_tuple;let hz:(I++i).size<=υ+1:=by rw[Ws];rwa[a]
 wp_walk using (Wg H Z (hz:=W) (_hz':=hz)),TU H,TU c;rwa[12,h]
section
variable {X:Cx}
inductive i6(K:γ)(x:V)(a:FA V)(H:Hp)(Q:VK):Prop
 |mk(l b c d:_)(_:x= .ref l)(_:a=[.ref b])(_:H l=c⁻¹)(_:aC K H b d)(_:ο c+ο d<=υ)(_:Q .non (af H l (.lst (c++d))))
def Z9:LH X "list.extend" (i6 X.K):=by
 intro p s A H x V v U Q I g j h;let(l,b,B,C,rfl,rfl,f,k,D,q):=h;cases g;let(u,rfl,m):=j.one;cases m;let(z,a,n,r,E,e):=I.lstM f;let(i,R,P,G):=I.tuple k;let o:=R.length;let d:a.toArray.size+i.toArray.size<=υ:=by rw[RS,RS];omega
 let c:¬(!a.toArray.isEmpty&&fR (a.toArray.size+i.toArray.size))=μ:=by rw[gE d,Wa];rwa[RZ]
 obtain⟨⟨J,O,L,S⟩,t,w,N,y⟩:=P;cases w;cases y;erw[WH F.slot_list_extend #[_,e,Z] F.entry_list_extend (F.args_list_extend_2 _ _) (CF l b a.toArray i.toArray n N O S c (by rw[RS];omega) P') #[e,t,?_]];erw[.non,_,I.lset (its':=a++i) f e P9 (r.append R) (by rw[RN];rwa[N09]),Z,q]
end
section
#print v
def JV{R:Result->θ->Prop}{P:Nat->ζ->Prop}{St:Nat->θ->Prop}
  (W:WalksS prog w A.in1 I N j G n P St) (S:η) (H:¬S∈N) (c:FA ρ) (O:ο c=n) (Q:∀i v,P i v->∃x t,c[i]?=δ x/\v= .str x t) (d:∀L:FA ρ,L.Nodup->(∀x∈L,x∈c)->ο L+1 < scanBound):
  ∀(k i:Nat) (s:θ) (L:FA ρ),n - i=k->i<=n->St i s->c7 prog w s.heap S L->(∀x,x∈L↔x∈c.take i)->ο L<=i->
   (∀a l,Moved (S::j) G s a->c7 prog w a.heap S l->(∀x,x∈l↔x∈c)->ο l<=n->R (.ok$ .ret .none) a)->
   iu (χ prog w) A (.builtin "set.update.loop" #[[.ref S,.ref I],[]]) R s:=by
 let f:¬S∈j:=λz=>H (W.sub _ z);let sub:∀b∈j,b∈S::j:=λb z=>Sd _ z;intro k;induction k with
 |zero=>
  intro i s L T U st p q F r;let e:i=n:=P'
  subst e;erw[TJ Vz ?_];rw[Tg Ut];show π _ A.in1 (pyNext (.ref I) >>= _) _ _ s;apply W.done s _ _ st λa m=>?_;show π _ A.in1 (ret Ξ) _ _ a;erw[RM$ r a L (m.mono sub) (p.at λo e=>m.heap S o f e) (λx=>?_) F];rw[q x,<- O,Su]
 |succ k V=>
  intro i s L T U st p q F r;let J:i < n:=P'
  erw[TJ Vz ?_];rw[Tg Ut];show π _ A.in1 (pyNext (.ref I) >>= _) _ _ s;apply W.item i s _ _ J st λv a X u m=>?_;let(x,t,B,rfl):=Q i v X;show π _ A.in1 (kw [jq x t] (setAdd S$ .str x t) >>= _) _ _ a;apply Sj ?_;let h:L.Nodup:=by let(_,_,_,_,_,_,_,_,_,h,_):=p;rwa[h]
  erw[Zk (p.at λo e=>m.heap S o f e) (d L h λx B=>Tj ((q x).mp B)) λb h' Y K S2 g=>?_];erw[RM #[Us Ut _,V (i+1) _ _ P' J (W.frame _ a _ _ u g λb d o e=>?_) S2 (λy=>?_) ?_ λC l M D q1 q2=>?_]]
  .rw[K.2 b (λz:b=S=>H (by rw[<- z];rwa[d]))];rwa[e]
  .let tk:c.take (i+1)=c.take i++[x]:=by rw[UH,B];rfl
   rw[tk,Tw,Vq,<- q y];split
   .rename_i hm
    rwa[.inl,λz=>z.elim id λe=>e▸hm]
   .rw[Tw,Vq]
  .split
   .omega
   .rw[RN,Uy];omega
  .erw[r C l (Moved.trans W.gtrans ((m.mono sub).then_heap g λb o d e=>?_) M) D q1 q2];rw[K.2 b (λz:b=S=>d (by rw[z];rwa[Sa]))];rwa[e]
end
section
#print v
set_option maxHeartbeats 3200000 in
def Ky{Q:ζ->θ->Prop}
  (hh:A.handled=ι) (hl:s.heap.IsList l I) (hi:StrsAre I.toList n) (C:∀L:FA ρ,L.Nodup->(∀x∈L,x∈n)->ο L+1 < scanBound)
  (h:∀(a:df) (t:Nat) L,c7 prog w a (-s) L->(∀x,x∈L↔x∈n)->ο L<=I.size->
   (∀b o,b < -s->s.heap.get? b=δ o->a.get? b=δ o)->s.toks<=t->Q (.ref (-s)) { s with heap:=a,toks:=t }):
  !A (call (.type "set") [.ref l]) Q E s:=by
 let(c,tl,m1):=PySem.F.called_set.mro;let m0:=PySem.F.called_set.made;let sb:=PySem.F.called_set.sub;erw[wpAny_call$ codeAny_of_tree ?_];show !_ (callAny (.type "set") _) _ _ _;erw[RM #[Code.quiet_builtin _ P8,TJ PySem.F.entry_type_call ?_]];rw[Around.under_plain (weight_type_call_type "set" [.ref l] []) Z];let n1:=PySem.F.called_set.notType;let n2:=PySem.F.called_set.canCreate;let ct:=PySem.F.typeCall_set_1 (.ref l);repeat (any_goals (first |assumption |wp_step))
 erw[UV (Q2 (.ref l) (E:=E) (G:=λv S=>v= .ref (-s)/\S=(s<|s.heap.push (bJ w))) #[22]) λr S D=>?_];cases r with
 |error e=>rwa[D]
 |ok fl=>
  cases fl with
  |ret o1=>
   let(rfl,rfl):=D;let J:(s.heap.push$ bJ w).get? (-s)=δ (bJ w):=RQ _ Z;let hT:Shared.TypeIs (s<|s.heap.push (bJ w)) (.ref (-s)) "set":=#[_,J,Z];let li:=PySem.F.called_set.init.lookup;let bi:=PySem.F.called_set.init.bind (.ref (-s));repeat (any_goals (first |assumption |wp_step))
   refine UV (codeAny_call_builtin (R:=wants (λr d=>r= .none/\∃a t L,d={ s with heap:=a,toks:=t }/\c7 prog w a (-s) L/\(∀x,x∈L↔x∈n)/\ο L<=I.size/\
     (∀b o,b < -s->s.heap.get? b=δ o->a.get? b=δ o)/\s.toks<=t) E) PySem.F.called_set.init.plain PySem.F.entry_set_init (check_set_init_1 hT ?_)) λp d H=>?_
   .let(ol,q,u,nl,y):=hl;let(o0,g,K,O):=ol;simp only at u y;subst u;subst y;let f:(s.heap.push$ bJ w).get? l=δ { cls:=.type "list",dict:=g,data:=.seq I nl,slots:=O }:=RL _ q;let ns:=PySem.F.sub_list_set;let nf:=PySem.F.sub_list_frozenset;let ne:(dO "list"==dO "dict")=ξ:=by decide
    let j:(s.heap.push$ bJ w).IsList l I:=#[_,f,Z,nl,Z];unfold bJ at J hT f j ⊢;unfold dw.«set.__init__» noKeywords Builtin.Frozenset.updateFrom;generalize M:pyIter=PI;wp_walk;subst M;erw[Ve j ?_];apply wpAny_runValue ?_;let z:l < -s:=RT q;let h3:A.in1.in1.in1.handled=ι:=by simp [hh]
    let N:l≠(s.heap.push$ bJ w).objs.size:=by rw[SW];rwa[R6$ T3 z]
    let P:¬-s∈[(s.heap.push$ bJ w).objs.size,l]:=by rw[SW];simp only[Ua,Sz,V4,not_or];rwa[R6$ Tz _,Tc z]
    let B:ο n=I.size:=by rw[_L.StrsAre.len hi,Sb]
    refine JV ((Walks.list h3 _ l N I).toS) (-s) P n B (λi v hv=>StrsAre.at' hi i v (by rw[TR];exact hv)) C (I.size - 0) 0 _ [] P' (R4 _)
     #[#[_,RQ _ Z,22],j.push _] (Zl$ RL _ J) (λx=>by simp) (RO _) λs' L m T U V=>?_
    let(a,g',d',W,X):=s';let eg:g'=s.gens:=m.gens;let ed:d'=s.drawn:=m.drawn;let eo:X=s.os:=m.os;subst eg;subst ed;subst eo;show !_ _ _ _ _;erw[RM ?_];show !_ (ret Ξ) _ _ _;erw[RM #[Z,a,W,L,Z,T,U,V,λb o C e=>?_,m.toks]];let b1:b≠-s:=R6 C;let b2:b≠(s.heap.push$ bJ w).objs.size:=by rw[SW];rwa[R6$ T3 C]
    rwa[m.heap b o (by simp only[Ua,Sz,V4,not_or];rwa[b1,b2])$ RL _$ RL _ e]
   .cases p with
    |error e=>rwa[H]
    |ok k=>
     cases k with
     |ret r=>
      let(rfl,a,t,L,rfl,T,U,V,Y,q3):=H;repeat (any_goals (first |assumption |wp_step))
      rwa[h _ _ _ T U V Y q3]
     |_=>rwa[H.elim]
  |_=>rwa[D.elim]
end
section
variable {X:Cx}
def Jr(m:X.calm=μ):dy X (.type "set") (λg H Q=>∃(p:η) (S:FA ρ),g=[.ref p]/\aE X.K H p (S.map Cv)/\(∀L:FA ρ,L.Nodup->(∀x∈L,x∈S)->ο L+1 < scanBound)/\
  ∀l L,H l=ι->L.Nodup->(∀x,x∈L↔x∈S)->Q (.ref l) (af H l$ NJ X.prog X.w l L)):=by
 intro P s B H g U Q I r h;let(p,S,rfl,n,t,q):=h;let(u,rfl,R):=eG r;cases R;let(i,v,y,C):=I.list n;let j:=qF v;let D:ο i=ο S:=(_L.StrsAre.len j).symm;erw[Ky (I.ok.hd m) y.isList (j:) t λc T L d z E k _=>?_];let a:L.Nodup:=by let(_,_,_,_,_,_,_,_,_,a,_):=d;rwa[a]
 let A:∀b o,s.heap.get? b=δ o->c.get? b=δ o:=λb o e=>k b o (RT e) e;obtain⟨o,f⟩:∃o,c.get? (-s)=δ o:=let #[o,111,f,_]:=d;#[o,f]
 rwa[.ref (-s),_,I.laid A (RO _) (show aK X.prog X.w _ c _ (NJ X.prog X.w (-s) L) from #[d,#[o,f],λF G x e=>c7.at x e]),Z,q _ _ (I.hok.fresh$ RO _) a z]
end
section
variable {X:Cx}{CX:uV}{k:Nat}{f C:η}{fd:dN}{ps:FA ρ}{sp:Sp}{dvs:FA V}{ds:FA ζ}{E:XK}{x m:ρ}{p pos apos:Pos}{e:dr}{es:FA dr}{t:TA}
structure FG(K:γ)(C:η)(m:ρ)(f:η):Prop where
 rd:PySem.W.readsIn K C (.type "type")=μ
 ga:specialIn K (.ref C) "__getattribute__"=δ (δ$ .builtin "type.__getattribute__")
 at_:PySem.W.findCls K (.ref C) (.type "type") m=δ (.val$ .ref f)
 kp:ii K (.ref f)=μ
def Dy{pl:Sem Bool}(j:Gl X x)(l:X.mg x=↑C)(M:FG X.K C m f)(F:ai X.prog X.w X.K X.mg X.base CX k f fd ps sp)(n:bX k X.A)(q:ax X.K fd ps ds)(u:aw dvs ds)(v:dE CX X E)(y:PA X (e::es) t)
  (a:↥((x==("__debug__":ρ))=ξ))
  (c:↥(Ψ (e::es) X.env=(ξ,eval e X.env)::Ψ es X.env)) (d:↥((fz pos$ Ψ es X.env).any (·.1)=ξ))
  (z:↥(eval (.Call (.Attribute (.Name x p) m apos) (e::es) [] pos) X.env=(do
   let O <- eval (.Name x p) X.env
   standAt apos.atName
   let (f,first) <- kw [O] (getMethod O m pl)
   callWith pos f first (fz pos$ Ψ (e::es) X.env) (backToKw pos$ keywordEach [] X.env)))):
  PE X (.Call (.Attribute (.Name x p) m apos) (e::es) [] pos) (eV sp dvs E t):=by
 intro P s g H Q I h;erw[VQ (pl:=pl) (zX I j l ?_ a) z];erw[PySem.W.method_cls I.kIn M.ga$ PySem.W.cls_value I.kIn M.rd M.at_ Z ?_];let B:aq X P g H { s with toks:=s.toks+1 }:=I.kept (h':=s.heap) λb o e=>e;erw[WI (h₀:=X.base) I.ok.mod.kin M.kp (aS (y pos P _ g H _ B h) λU S #[G,J,i,r,D]=>#[i.kIn,?_]) c d];rwa[XI F n q u v i r D]
end
abbrev gj(h:df)(z u v T:η)(f:Bool):Prop:=
 h.get? z=δ { cls:=.type "zip",dict:=ι,data:=.fields (ε [rawInt T,.bool f,.bool ξ,.ref u,.ref v]),slots:=(ε []) }
section
#print v
def wP{Q:FC gb->θ->Prop}(h:Q (s.heap.get? a) s):π M A (loadIfAlive a) Q E s:=λ_ _ _=>h
def LX{Q:Bool->θ->Prop}(H:gj s.heap z u v T f)(a:∃o,s.heap.get? T=δ o)
  (q:∀h,gj h z u v T μ->mL z s.heap h->h.objs.size=-s->Q ξ (s<|h)):!A (cc$ .ref z) Q E s:=by
 unfold cc;apply Ss H Z (x:=rawInt T) Z ?_;show !_ (loadIfAlive ((T:Int).toNat) >>= _) _ _ s;apply wP ?_;let(o,c):=a;rw[SJ,c];simp only[Option.isNone_some,R8,Te];apply Ss H Z (x:=.bool f) Z ?_;cases f with
 |true=>simp only[Tx,R8,Te];rwa[RG$ RM$ RM$ q s.heap H (λb o _ e=>e) Z]
 |false=>rw[RV Ra];apply UA H P9 λh d S=>RM (q h d S.extBut S.1)
def Er{Q:FC ζ->θ->Prop}(D:Cm z u v c d a b)
  (g:gj s.heap z u v T f) (p:∃o,s.heap.get? T=δ o) (q:IsPair s.heap u (.ref c) (.ref d)) (r:iz B s.heap c a k) (t:iz l s.heap d b k) (G:lX B s.heap a C) (F:lX l s.heap b Y) (I:C[k]?=δ x) (J:Y[k]?=δ y)
  (L:∀h,gj h z u v T μ->iz B h c a (k+1)->iz l h d b (k+1)->IsPair h (-s) x y->h.objs.size=-s+1->
   (∀e o,e≠z->e≠c->e≠d->s.heap.get? e=δ o->h.get? e=δ o)->Q (δ$ .ref (-s)) (s<|h)):!A (pyNext$ .ref z) Q E s:=by
 let H:s.TypeIs (.ref z) "zip":=#[_,g,Z];unfold pyNext;apply Ur$ SD (name:=Str.ofString "__next__") H TC$ Sv TC H U3 (show !_ (field (.ref z) 2 >>= _) _ _ _ from ?_)$ UR _;apply Ss g Z (x:=.bool ξ) Z (show !_ (field (.ref z) 3 >>= _) _ _ _ from RG$ Ss g Z (x:=.ref u) Z$ RG$ Th q Z ?_);erw[(show !_ (cc (.ref z) >>= _) _ _ _ from RG$ LX g p λO P i n=>?_)];simp only[R8,Te];erw[RG ?_];simp only[List.forIn_toArray,Uu,Vs];apply RG$ Sj (show !_ (bm (.ref c) >>= _) _ _ _ from ?_);apply qG (s:=(s<|O)) (r.kp λo e=>i _ _ D.cz e) (G.kp λo e=>i _ _ D.az e) I λM R j=>RM (RM ?_);apply RG$ Sj (show !_ (bm (.ref d) >>= _) _ _ _ from ?_);let K:∀e o,e≠z->e≠c->s.heap.get? e=δ o->M.get? e=δ o:=λe o n U w=>j.extBut _ _ U (i _ _ n w);apply qG (s:=(s<|M)) (t.kp λo e=>K _ _ D.dz D.cd.symm e) (F.kp λo e=>K _ _ D.bz D.bc e) J λm V S=>RM (RM$ RM ?_);show !_ (newTuple [x,y] >>= _) _ _ _;apply UO$ RM #[12,RM ?_];let N:m.objs.size=-s:=by rw[S.1,j.1];rwa[n]
 let W:gj m z u v T μ:=S.extBut _ _ D.dz.symm (j.extBut _ _ D.cz.symm P);show Q (δ$ .ref m.objs.size) _;rw[N];erw[L _ (RL _ W) (R.kp λo e=>RL _ (S.extBut _ _ D.cd e)) (V.kp λo e=>RL _ e) (by rw[<- N];rwa[RQ _ Z]) (by rw[SW,N]) λe o X a2 a3 w=>RL _ (S.extBut _ _ a3$ K _ _ X a2 w)]
def Lj{b2:Bool}{ys:Array ζ}{Q:FC ζ->θ->Prop}(j:A.handled=ι)(D:Cm z u v c d a b)
  (H:gj s.heap z u v T f) (l:∃o,s.heap.get? T=δ o) (m:IsPair s.heap u (.ref c) (.ref d)) (p:iz B s.heap c a k) (G:lX B s.heap a q) (r:q[k]?=ι)
  (t:∀i,(∀e o,e≠z->e≠c->e≠d->s.heap.get? e=δ o->i.get? e=δ o)->Q ι (s<|i)):!A (pyNext$ .ref z) Q E s:=by
 let h:s.TypeIs (.ref z) "zip":=#[_,H,Z];unfold pyNext;apply Ur$ SD (name:=Str.ofString "__next__") h TC$ Sv TC h U3 (show !_ (field (.ref z) 2 >>= _) _ _ _ from ?_)$ UR _;apply Ss H Z (x:=.bool ξ) Z (show !_ (field (.ref z) 3 >>= _) _ _ _ from RG$ Ss H Z (x:=.ref u) Z$ RG$ Th m Z ?_);erw[(show !_ (cc (.ref z) >>= _) _ _ _ from RG$ LX H l λM F g n=>?_)];simp only[R8,Te];erw[RG ?_];simp only[List.forIn_toArray,Uu,Vs];apply RG$ Sj (show !_ (bm (.ref c) >>= _) _ _ _ from ?_);apply Xy (s:=(s<|M)) (j:) (p.kp λo e=>g _ _ D.cz e) (G.kp λo e=>g _ _ D.az e) r λy e S C=>?_;rwa[RG$ Ug (T:="StopIteration") (b:=μ) C VE$ RM$ t y λe o n N I w=>S _ _ N (g _ _ n w)]
end
def Ke:typeLookup (.type "zip") "__getattr__"=pure ι:=by rw[TH,SV];kernel_rfl
def Zo:typeLookup (.type "zip") "keys"=pure ι:=by rw[TH,SV];kernel_rfl
def Yn:entryFor table "zip.__getattribute__"=δ dw.«object.__getattribute__»:=
 Wr (id':="object.__getattribute__") (by kernel_rfl) P8 P8 (by kernel_rfl)
def QT(a:η)(x:Array ζ)(S:Array (FC ζ))(u:Tok):
  Meets (dw.«object.__getattribute__» #[[.ref a,.str "keys" u],[]]) (λA R s=>s.heap.get? a=δ { cls:=.type "zip",dict:=ι,data:=.fields x,slots:=S }/\raisesAttr (.ref a) "keys" A R s):=
 Meets.of_wp λp w A R s H=>by
  let(c,g,d,t,os):=s;let(e,H):=H;let f:(#[c,g,d,t,os]:θ).TypeIs (.ref a) "zip":=#[_,e,Z];let b:=Zo;let h:(["__module__","__name__","__qualname__","__doc__","__annotations__"]:FA ρ).contains "keys"=ξ:=P8
  unfold dw.«object.__getattribute__»;repeat (any_goals (first |assumption |wp_step))
  try simp only[h,R8,Te]
  repeat (any_goals (first |assumption |wp_step))
  rwa[wpAny_raiseAttrError H.1 H.2$ attrMsg_fits P8 (by size_fits)]
section
#print v
def CZ{Q:FC ζ->θ->Prop}(f:s.heap.get? a=δ { cls:=.type "zip",dict:=ι,data:=.fields x,slots:=j })(k:A.handled=ι)
  (h:∀c T,(∀b o,s.heap.get? b=δ o->c.get? b=δ o)->Q ι { s with heap:=c,toks:=T }):!A (getAttr? (.ref a) "keys") Q E s:=by
 let(l,g,d,T,os):=s;let i:∀t,(#[l,g,d,t,os]:θ).TypeIs (.ref a) "zip":=λ_=>#[_,f,Z];let m:=sub_AttributeError;let n:=kr.lookup;let p:=kr.bind (.ref a);let q:=Ke;unfold getAttr? getAttrBy? getAttrBy;repeat (any_goals (first |assumption |exact i _ | ((with_reducible show !_ (call (Value.builtin "zip.__getattribute__") _ _) _ _ _);erw[WH kr (i _) Yn (PySem.F.args_zip_getattribute_2 _ _) (QT a x j _) #[f,(k:),λc t e H=>?_]]) |wp_step))
 let(r,u,v):=H.there;show !_ (getattributeRaised _ _ _ _ _ _ _) _ _ _;unfold getattributeRaised;repeat (any_goals (first |assumption |wp_step))
 rwa[h _ _ H.keeps]
def FQ(h:df)(z u v c d a b Dd:η)(x y:Array ζ)(i:Nat):Prop:=
 ((IsZip h z u v .none/\∃p q,IsPair h v p q)∨∃T f o,gj h z u v T f/\h.get? T=δ o/\T≠z/\T≠c/\T≠d/\T≠Dd)/\IsPair h u (.ref c) (.ref d)/\iz ξ h c a i/\iz ξ h d b i/\lX ξ h a x/\lX ξ h b y
def Eu{Dd:η}{Q:FC ζ->θ->Prop}(D:Cm z u v c d a b)(l:Dd < -s)(S:FQ s.heap z u v c d a b Dd J Y k)(L:J[k]?=δ x)(M:Y[k]?=δ y)
  (N:∀h,FQ h z u v c d a b Dd J Y (k+1)->IsPair h (-s) x y->h.objs.size=-s+1->(∀e o,e≠z->e≠v->e≠c->e≠d->s.heap.get? e=δ o->h.get? e=δ o)->Q (δ$ .ref (-s)) (s<|h)):!A (pyNext$ .ref z) Q E s:=by
 let(H,g,j,m,G,i):=S;let(oc,n,_):=j.ob;let(od,r,_):=m.ob;rcases H with ⟨H,p,q,U⟩ | ⟨T,f,o,H,O,t,P,R,V⟩
 .erw[Es D H g U j m G i L M λh B v1 I C t F K=>N h #[.inr #[-s,ξ,_,B,t,Tc$ RT H,Tc$ RT n,Tc$ RT r,Tc l],K _ _ D.uz D.uv D.uc D.ud g,I,C,G.kp λo e=>K _ _ D.az D.av D.ac D.ad e,i.kp λo e=>K _ _ D.bz D.bv D.bc D.bd e] t F K]
 .erw[Er D H #[o,O] g j m G i L M λh B I C W F K=>N h #[.inr #[T,μ,o,B,K _ _ t P R O,t,P,R,V],K _ _ D.uz D.uc D.ud g,I,C,G.kp λo e=>K _ _ D.az D.ac D.ad e,i.kp λo e=>K _ _ D.bz D.bc D.bd e] W F λe o X n2 n3 n4 w=>K e o X n3 n4 w]
def Lm{Dd:η}{Q:FC ζ->θ->Prop}(g:A.handled=ι)(D:Cm z u v c d a b)(n:FQ s.heap z u v c d a b Dd x ys k)(i:x[k]?=ι)
  (j:∀H,(∀e o,e≠z->e≠v->e≠c->e≠d->s.heap.get? e=δ o->H.get? e=δ o)->Q ι (s<|H)):!A (pyNext$ .ref z) Q E s:=by
 let(h,l,m,B,G,C):=n;rcases h with ⟨h,p,q,F⟩ | ⟨T,f,o,h,r,I,J,L,M⟩
 .rwa[Lk (b2:=ξ) (p:=p) (q:=q) (ys:=ys) g D h l m G i j]
 .rwa[Lj (b2:=ξ) (ys:=ys) g D h #[o,r] l m G i λH K=>j H λe o N O t y w=>K e o N t y w]
structure NW(D z u v c d a b:η):Prop where
 z:D≠z
 u:D≠u
 v:D≠v
 c:D≠c
 d:D≠d
 a:D≠a
 b:D≠b
def FQ.keep{h j:df}{Dd:η}(F:NW Dd z u v c d a b)(k:∀e o,e≠Dd->h.get? e=δ o->j.get? e=δ o)(st:FQ h z u v c d a b Dd x y i):FQ j z u v c d a b Dd x y i:=by
 let(H,l,m,n,G,r):=st;erw[?_,k _ _ F.u.symm l,m.kp λo e=>k _ _ F.c.symm e,n.kp λo e=>k _ _ F.d.symm e,G.kp λo e=>k _ _ F.a.symm e,r.kp λo e=>k _ _ F.b.symm e];rcases H with ⟨H,p,q,B⟩ | ⟨T,f,o,H,g,C,D,I,t⟩
 .rwa[.inl #[k _ _ F.z.symm H,p,q,k _ _ F.v.symm B]]
 .rwa[.inr #[T,f,o,k _ _ F.z.symm H,k _ _ t g,C,D,I,t]]
def QU{K:Type}[DecidableEq K]{knd:KeyKind prog w K}{R:Result->θ->Prop}{Dd:η}{x:Array ζ}(X:A.handled=ι)(D:Cm z u v c d a b)(F:NW Dd z u v c d a b)(m:FA (K×ζ))(Y:ο m=x.size)(h0:x.size<=υ)
  (hP:∀(i:Nat),i < x.size->∃f V k,x[i]?=δ f/\ys[i]?=δ V/\knd.is k f=μ/\m[i]?=δ (k,V)):
  ∀(j i:Nat) (s:θ) (n:Int),x.size - i=j->i<=x.size->FQ s.heap z u v c d a b Dd x ys i->s.heap.DictOf knd Dd (merged []$ m.take i)->
   (∀h T,(∀e o,e≠Dd->e≠z->e≠v->e≠c->e≠d->s.heap.get? e=δ o->h.get? e=δ o)->h.DictOf knd Dd (merged [] m)->R (.ok$ .ret .none) { s with heap:=h,toks:=T })->
   iu (χ prog w) A (.builtin "dict.update.loop" #[[.ref Dd,.ref z,.int n 0,.none],[]]) R s:=by
 intro j;induction j with
 |zero=>
  intro i s n hj hi st q C;let e:i=x.size:=P'
  subst e;erw[TJ Ks ?_];rw[Tg qc];show π _ A.in1 (pyNext (.ref z) >>= _) _ _ s;apply Lm (X:) D st P9 λh g=>?_;show π _ A.in1 (Builtin.Dict.addKeywords Dd [] >>= λ_=>ret Ξ) _ _ (s<|h);erw[RG ?_];unfold Builtin.Dict.addKeywords;erw[RM$ RM$ C h s.toks (λe o _ N t y B w=>g e o N t y B w) ?_];rw[<- Y,Su]at q;let(o,es,ep,ho,r):=q;rwa[o,es,ep,g _ _ F.z F.v F.c F.d ho,r]
 |succ j ih=>
  intro i s n hj hi st q C;let M:i < x.size:=P'
  let(f,V,k,hx,hy,O,hm):=hP i M;erw[TJ Ks ?_];rw[Tg qc];show π _ A.in1 (pyNext (.ref z) >>= _) _ _ s;let(oD,G,I,H,rD):=id q;let L:Dd < -s:=RT H;apply Eu D L st hx hy λl S P N g=>?_;let hb:Shared.TypeIs (s<|l) (.ref (-s)) "tuple":=#[_,P,Z];let J:l.DictOf knd Dd (merged []$ m.take i):=#[oD,G,I,g _ _ F.z F.v F.c F.d H,rD];dsimp only;apply Sj ?_;apply wpAny_tryCatch ?_;unfold Builtin.Dict.pairItems;apply Ud hb ?_;rw[RV Ra];apply Th P Z$ RM ?_;show π _ A.in1 (kw [f,V]$ dictSet Dd f V) _ _ (s<|l);unfold dictSet;erw[Sj$ Sj$ RG$ knd.pyHash O ?_];let Q:(merged ([]:FA (K×ζ))$ m.take i).length<=i:=by let:=merged_length_le ([]:FA (K×ζ)) (m.take i);rw[Se]at this;simp only[UY]at this;omega
  erw[wpAny_dictSetHashed_pairs (s:={ s with heap:=l,toks:=s.toks+1 }) O J (λh p sb=>?_) P'];rw[<- merged_take_succ [] m i (k,V) hm]at p;let U:∀e o,e≠Dd->l.get? e=δ o->h.get? e=δ o:=λe o ne w=>(sb.2 e ne).trans w;erw[RM #[Us qc _,ih (i+1) _ (n+1) P' M (S.keep F U) p λh2 T k2 d2=>C h2 T (λe o W N t y B w=>k2 e o W N t y B (U _ _ W$ g e o N t y B w)) d2]]
def Q8{K:Type}[DecidableEq K]{knd:KeyKind prog w K}{more:FA (K×ζ)}{Q:ζ->θ->Prop}(N:A.handled=ι)(D:Cm z u v c d a b)
  (j:IsZip s.heap z u v .none) (P:IsPair s.heap u (.ref c) (.ref d)) (m:∃p q,IsPair s.heap v p q) (U:iz ξ s.heap c a 0) (V:iz ξ s.heap d b 0) (W:lX ξ s.heap a x) (X:lX ξ s.heap b ys)
  (hn:ο more=x.size) (n:x.size<=υ) (hP:∀(i:Nat),i < x.size->∃Y vu k,x[i]?=δ Y/\ys[i]?=δ vu/\knd.is k Y=μ/\more[i]?=δ (k,vu))
  (h:∀l t,l.DictOf knd (-s) (merged [] more)->(∀e o,e≠z->e≠v->e≠c->e≠d->s.heap.get? e=δ o->l.get? e=δ o)->Q (.ref (-s)) { s with heap:=l,toks:=t }):
  !A (call (.type "dict") [.ref z]) Q E s:=by
 erw[callType_codes (Q₁:=λO S=>O= .ref (-s)/\S=(s<|s.heap.push ("dict"<|.dict (ε [])))) PySem.F.kt_called_dict (PySem.F.kt_typeCall_dict_1 _) PySem.F.entry_dict_init (kt_code_dict_new _ #[22]) ?_];rintro O S ⟨rfl,rfl⟩;let f:(s.heap.push ("dict"<|.dict (ε []))).DictOf knd (-s) []:=Heap.DictOf.new s.heap;erw[f.typeIs,PySem.F.args_dict_init_2 _ _,?_];unfold dw.«dict.__init__»;erw[RG ?_];unfold Builtin.Dict.selfAndRest;apply wpAny_notOrdered_dict f.typeIs ?_;show !_ (pure (-s,[Φ z])) _ _ _;erw[RM ?_];show !_ (Builtin.Dict.updateFrom "dict.__init__" (-s) (.ref z) [] .none) _ _ _;unfold Builtin.Dict.updateFrom;generalize hH:s.heap.push ("dict"<|.dict (ε []))=H at f ⊢;let G:∀b o,s.heap.get? b=δ o->H.get? b=δ o:=λb o e=>by rw[<- hH];rwa[RL _ e]
 apply Ud #[_,G _ _ j,Z] ?_;rw[RV Ra];apply CZ (s:=(s<|H)) (G _ _ j) (N:) λM t k1=>?_;simp only[Option.isNone_none,Vm];apply Uj ?_;let g:∀b o,s.heap.get? b=δ o->M.get? b=δ o:=λb o e=>k1 _ _ (G _ _ e);apply wpAny_pyIter_zip (s:={ s with heap:=M,toks:=t }) (g _ _ j) ?_;let(oD,eD,y,B,rD):=f;let(p,q,m):=m;let(oc,C,_):=U.ob;let(od,I,_):=V.ob;let(oa,J,_):=id W;let(ob,L,_):=id X;let F:NW (-s) z u v c d a b:=#[Tc$ RT j,Tc$ RT P,Tc$ RT m,Tc$ RT C,Tc$ RT I,Tc$ RT J,Tc$ RT L];refine RM #[Us qc _,UV (QU (knd:=knd) (A:=A.in1) (R:=λr s'=>r= .ok (.ret .none)/\Q (.ref (-s)) s') (N:) D F more hn n hP x.size 0 { s with heap:=M,toks:=t } 0 Z (R4 _)
  #[.inl #[g _ _ j,p,q,g _ _ m],g _ _ P,U.kp λo e=>g _ _ e,V.kp λo e=>g _ _ e,W.kp λo e=>g _ _ e,X.kp λo e=>g _ _ e] #[oD,eD,y,k1 _ _ B,rD] λl T k2 d2=>#[Z,?_]) λr s' q=>?_]
 .rwa[h l T d2 λe o n1 n2 n3 n4 w=>k2 e o (R6$ RT w) n1 n2 n3 n4 (g _ _ w)]
 .let(rfl,q):=q;rwa[Z,q]
end
section
variable {X:Cx}{e1 e2:dr}{ta:TA}{p p2 pos pos2:Pos}
inductive Nq(K:γ)(Q:VK)(e:FA V)(c:Hp):Prop
 |mk(a b:η)(d:FA a9)(f:FA V)(_:e=[.ref a,.ref b])(_:aC K c a (d.map kV))(_:aC K c b f)(_:ο d=ο f)(_:∀l,c l=ι->Q (.ref l) (af c l (.dK (dF [] (d.zip f)))))
def PM(K:γ)(ta:TA):TE:=λa H Q=>ta a H (Nq K Q)
theorem sM{P:Δ}{w:cv}:∀{K:FA a9} {U:FA ζ},aw (K.map kV) U->∀(i:Nat) (k:a9),K[i]?=δ k->∃u,U[i]?=δ u/\(aP P w).is k u=μ
 | [],_,_,i,k,h=>by simp at h
 |k0::K,_,.cons (b:=u) h t,0,k,e=>by
  let E:k0=k:=by simpa using e
  subst E;rwa[u,Z,KQ h]
 |k0::K,_,.cons h t,i+1,k,e=>by simpa using sM (P:=P) (w:=w) t i k (e:)
theorem yl:∀{K:FA a9} {y:FA V} {u:FA ζ},aw y u->KV (K.zip y) (K.zip u)
 | [],_,_,_=>by simp only[List.zip_nil_left];rwa[.nil]
 |_::_,_,_,.nil=>by simp only[List.zip_nil_right];rwa[.nil]
 |k::K,_,_,.cons h t=>.cons #[Z,h] (yl t)
def tE(m:Gl X "dict")(n:X.mg "dict"=ι)(t:Gl X "zip")(v:X.mg "zip"=ι)(N:X.calm=μ)(O:PA X [e1,e2] ta)
  (T:↥(Ψ [e1,e2] X.env=(ξ,eval e1 X.env)::Ψ [e2] X.env)) (U:↥((fz pos2$ Ψ [e2] X.env).any (·.1)=ξ))
  (f:↥(Ψ [Expr.Call (.Name "zip" p2) [e1,e2] [] pos2] X.env=(ξ,eval (.Call (.Name "zip" p2) [e1,e2] [] pos2) X.env)::Ψ [] X.env)) (x:↥((fz pos$ Ψ [] X.env).any (·.1)=ξ)):
  PE X (.Call (.Name "dict" p) [.Call (.Name "zip" p2) [e1,e2] [] pos2] [] pos) (PM X.K ta):=by
 intro P s V H Q I h;erw[S0$ zH I m n PyProof.Rows.boot_dict ?_];erw[SO ?_ f x];rw[f];show !_ (spliced ((ξ,eval _ X.env)::fz pos (Ψ [] X.env))) _ _ s;erw[Ub ?_];erw[S0$ zH I t v PyProof.Rows.boot_zip ?_];erw[SO (aS (O pos2 P s V H _ I h) λus S z=>?_) T U];let(vs,H1,d,W,Y):=z;let(a,b,c,ys,e,gx,gy,hl,q):=Y;subst e;cases W with
 |cons r rr=>
  cases rr with
  |cons r' y=>
   cases y;cases r;cases r';let(A,F,G,z1):=d.tuple gx;let(j,R,C,z2):=d.tuple gy;let l1:=F.length;let l2:=R.length;rw[RJ]at l1 z1;let la:a < -S:=by let(o,D,_):=G;rwa[RT D]
   let lb:b < -S:=by let(o,D,_):=C;rwa[RT D]
   erw[Ll (b1:=ξ) (b2:=ξ) (xs:=A.toArray) (ys:=j.toArray) G C λE J u' v' i1 i2 k=>?_];erw[Uz ?_];let Dz:=Et (-S) a b la lb;erw[Q8 (s:=(S<|E)) (knd:=aP X.prog X.w) (more:=c.zip j) (d.ok.hd N) Dz J u' #[11,v'] i1 i2 (lX.kp (b:=ξ) G λo e=>k _ _ e) (lX.kp (b:=ξ) C λo e=>k _ _ e) (by rw[WL,RS];omega) (by rw[RS];omega) (λi hi=>?_) λh2 tk dd k2=>?_]
   .rw[RS]at hi;let L:i < ο c:=by omega
    let M:i < ο j:=P'
    let(u,hu,ku):=sM F i _ (RI L);erw[u,j[i],c[i],(hu:),by simp [M],ku,?_];rw[ww];rwa[RI L,RI M]
   .let g:KV (dF []$ c.zip ys) (merged []$ c.zip j):=KV.merge (yl R) .nil;let zl:(dF []$ c.zip ys).length<=υ:=by rw[g.length];let:=merged_length_le ([]:FA (a9×ζ)) (c.zip j);rw[WL]at this;simp only[UY]at this;omega
    let k3:∀e o,S.heap.get? e=δ o->h2.get? e=δ o:=λe o w=>by let l:=RT w;rwa[k2 e o (R6$ Si l$ UN _ _) (R6$ Si l$ UN _ _) (R6 l) (R6$ Si l$ UN _ _)$ k _ _ w]
    let B:-S<=E.objs.size:=Uo (TZ (UN _ 4)$ RT J);rwa[.ref E.objs.size,_,d.laid k3 B$ XJ zl (beq_eq_false_iff_ne.mpr$ Sx$ R6$ Si d.big B) g dd,Z,q _$ d.hok.fresh B]
end
section
variable {X:Cx}{st:de}{ss:FA de}{e:dr}{es:FA dr}
def PL:TS:=λ_ _ _=>False
def An:nZ X ss PL:=λ_ _ _ _ _ _ h=>False.elim h
end
end _L
namespace _L
open PySem PySem.Spec PyProof.Rows PySem.SeqAt
inductive MW(K:γ)(x y:V)(H:Hp)(Q:VK):Prop
 |mk(a b d e:_)(_:x= .ref a)(_:y= .ref b)(_:aC K H a d)(_:aC K H b e)(_:(d.all dB=μ/\e.all dB=μ/\Q (.bl (xQ d e)) H)∨∃(w:ρ) (c:η) (zs:FA V) (u:ρ) (i:Int),d=[.str w,.ref c]/\aC K H c zs/\e=[.str u,.int i]/\Q (.bl ξ) H)
def Ih{X:Cx}(d:X.A.units+1 < cLine):gu X (compareOp .Eq) (MW X.K):=by
 intro p s m H x y v U Q I f g h;obtain⟨a,b,n,Y,rfl,rfl,k,l,h | ⟨w,c,M,u,i,rfl,o,rfl,q⟩⟩:=h
 .rwa[Ig (Ww d) p s m H _ _ v U Q I f g #[a,b,n,Y,22,k,l,h.1,h.2.1,h.2.2]]
 cases f;cases g;let(N,r,P,_):=I.tuple k;let(O,R,t,_):=I.tuple l;let(S,V,z,_):=I.tuple o;cases r with
 |cons B r=>
  cases r with
  |cons C r=>
   cases r;cases R with
   |cons D R=>
    cases R with
    |cons E R=>
     cases R;let(T,rfl):=B;cases C;let(F,rfl):=D;let(G,rfl):=E;erw[eq_tupleAt (e:=λj=>if j=0 then w==u else ξ) (show s.heap.IsTuple a _ from P) (show s.heap.IsTuple b _ from t) (Ww d) (λj J L=>?_) ?_]
     .match j,J,L with
      |0,_,_=>rwa[EqAt.str_str w T u F]
      |1,_,_=>rwa[EqAt.tuple_int i G (show s.heap.IsTuple c _ from z) (by simpa [Around.in1,Around.units] using d)]
     .let e:((dg$ min 2 2).all (λj=>if j=0 then w==u else ξ)&&(2:Nat)==2)=ξ:=by show((if 0=0 then w==u else ξ)&&((if 1=0 then w==u else ξ)&&μ)&&μ)=ξ;simp
      rwa[.bl ξ,H,I,SQ ms e,q]
end _L
namespace _L
open PySem PySem.Spec PyProof.Rows
def Zp(l:η)(i:Array ζ)(n:Nat)(D:FC η)(S:Array (FC ζ)):
  Meets (dw.«enumerate.__new__» #[[.type "enumerate",.ref l],[]]) (λ_ R s=>s.heap.get? l=δ { cls:=.type "tuple",dict:=D,data:=.seq i n,slots:=S }/\
   R (.ok$ .ret$ .ref (s.heap.push ("tuple_iterator"<|.fields (ε [.ref l,.int 0 0]))).objs.size)
    (s<|(s.heap.push ("tuple_iterator"<|.fields (ε [.ref l,.int 0 0]))).push ("enumerate"<|.fields (ε [.none,.bool ξ,.ref (-s),rawInt 0,.none,.none])))):=
 .of_wp λp w A R s h=>by
  let(e,g,d,t,os):=s;let(H,h):=h;let b:=sub_enumerate;let a:Heap.IsTuple (Shared.heap #[e,g,d,t,os]) l i:=#[_,H,Z,n,Z];wp_walk using TU H;erw[wpAny_stack_any λst=>RM ?_];split
  .rename_i c _ _ _ _ _
   cases (c==dO "enumerate")
   .wp_walk using TU H,U8 a;rwa[12,h]
   .wp_walk using TU H,U8 a;rwa[12,h]
  .wp_walk using TU H,U8 a;rwa[12,h]
section
#print v
def pE{Q:ζ->θ->Prop}(j:s.heap.IsTuple l i)
  (h:∀H,IsEnum H (-s+1) (-s) 0 .none->H.IsTupleIter (-s) l 0->(∀b o,s.heap.get? b=δ o->H.get? b=δ o)->Q (.ref$ -s+1) (s<|H)):
  !A (call (.type "enumerate") [.ref l]) Q E s:=by
 obtain⟨⟨c,d,D,S⟩,k,a,n,e⟩:=j;replace a:c= .type "tuple":=a;replace e:D= .seq i n:=e;subst a e;erw[callType_new PySem.F.called_enumerate Ra (PySem.F.typeCall_enumerate_1 _) (PySem.F.newCall_enumerate_1 _) (λO=>Vk O _) PySem.F.entry_enumerate_new (Zp l i n d S) #[k,?_]];let f:(s.heap.push ("tuple_iterator"<|.fields (ε [.ref l,.int 0 0]))).objs.size=-s+1:=SW ..;show _/\_;rw[f];let g:IsEnum ((s.heap.push ("tuple_iterator"<|.fields (ε [.ref l,.int 0 0]))).push ("enumerate"<|.fields (ε [.none,.bool ξ,.ref (-s),rawInt 0,.none,.none]))) (-s+1) (-s) 0 .none:=by let:=RQ (s.heap.push ("tuple_iterator"<|.fields (ε [.ref l,.int 0 0]))) (o:=("enumerate"<|.fields (ε [.none,.bool ξ,.ref (-s),rawInt 0,.none,.none]))) Z;rw[f]at this;rwa[this]
 rwa[#[_,g,Z],h _ g #[_,RL _$ RQ _ Z,22] λb o x=>RL _ (RL _ x)]
def BO{c:Type}{Q:c->θ->Prop}(d:A.handled=ι)
  (h:∀H (e:η),(∀b o,s.heap.get? b=δ o->H.get? b=δ o)->Shared.TypeIs (s<|H) (.ref e) "StopIteration"->E (.ref e) (s<|H)):
  !A (do raiseNew (<- newExc (.type "StopIteration") []):Sem c) Q E s:=by
 erw[RG ?_];simp only[newExc,newTuple];apply SE ?_ (by size_fits);erw[RG (m:=firstArgMember _ _)$ Vn (a:=Ξ) ?_ ?_]
 .first |rfl | (simp only[firstArgMember];rfl)
 erw[SE ?_ (by size_fits)];simp only[raiseNew];apply wpAny_handled ?_;rw[d];apply RM$ wpAny_throw$ h _ _ (λb o e=>RL _ (RL _ e)) ?_;rwa[_,RQ _ Z,Z]
def QF{J T:η}{i:Nat}{I:Array ζ}{Q:ζ->θ->Prop}(g:A.handled=ι)(H:s.heap.IsTupleIter J T i)(j:s.heap.IsTuple T I)(l:I[i]?=ι)
  (q:∀h (e:η),mL J s.heap h->Shared.TypeIs (s<|h) (.ref e) "StopIteration"->E (.ref e) (s<|h)):!A (bm$ .ref J) Q E s:=by
 let(o,a,p,c):=id H;let(O,d,_,N,f):=j;unfold bm;apply SD (name:=Str.ofString "__next__") H.typeIs Tq$ Sv Tq H.typeIs UW (show !_ (field (.ref J) 0 >>= _) _ _ s from ?_)$ UP _;apply Ss a c (x:=.ref T) Z (show !_ (if (Φ T==Ξ)=μ then _ else _) _ _ s from ?_);rw[RU (show ¬((Φ T==Ξ)=μ) from RZ)];erw[(show !_ (field (.ref J) 1 >>= _) _ _ s from RG$ Ss a c (x:=.int i 0) Z (show !_ (seqItems? (.ref T) >>= _) _ _ s from RG$ Th d f ?_))];simp only[SJ,l];apply Uj$ RG$ SR a c P9 ?_;erw[BO (g:) λh e k t=>q h e (λb o m n=>k b o ?_) t];exact(Sl _ _$ Sx m).trans n
def vf(m:A.handled=ι)(a l:η)(d:l≠a)(I:Array ζ):
  Draws prog w A a [a,l] I.size (λi v=>I[i]?=δ v) (λi h=>h.IsTupleIter a l i/\h.IsTuple l I) where
 live:=λ_ _ st=>let #[o,H,_]:=st.1;#[o,H]
 frame:=λ_ _ _ st g=>#[st.1.at λo e=>g a P9 o e,let #[o,H,r]:=st.2;#[o,g l P9 o H,r]]
 item:=λi s Q E j st n=>QE st.1 st.2 (x:=I[i]) (by simp [j]) λf b c=>n _ f s.toks (by simp [j]) #[b,let #[o,H,r]:=st.2;#[o,c.extBut l o d H,r]] c
 done:=λs Q E st p=>QF m st.1 st.2 P9 λf e k t=>p f e k t
def pJ(c:A.handled=ι)(a l:η)(I:Array ζ)(i:Nat)(d:I[i]?=ι):
  Draws prog w A a [a,l] i (λ_ _=>True) (λj h=>j=i/\h.IsTupleIter a l i/\h.IsTuple l I) where
 live:=λ_ _ st=>let #[o,H,_]:=st.2.1;#[o,H]
 frame:=λ_ _ _ st b=>#[st.1,st.2.1.at λo e=>b a P9 o e,let #[o,H,r]:=st.2.2;#[o,b l P9 o H,r]]
 item:=λj s Q E f st n=>absurd st.1 (R6 f)
 done:=λs Q E st g=>QF c st.2.1 st.2.2 d λm e k t=>g m e k t
end
def FH(K:γ)(a:η):It:=
 #[λi H=>∃X x,aC K H a X/\X[i]?=δ x,λi H x h=>∃p v,x= .ref p/\H p=ι/\h=af H p (.tup [.int i,v])/\∀X,aC K H a X->X[i]?=δ v,λi H=>∃X,aC K H a X/\ο X<=i]
def rC{P:Δ}{K:γ}(a e g:η)(r:e≠g):oh P w K (.Tuple e0 kx tp) (FH K a) [e,g] e (λi h=>(∃O,IsEnum h e g i O)/\h.IsTupleIter g a i) where
 mem:=by simp
 obj:=λi h st b hb=>by
  obtain⟨⟨O,j⟩,⟨o,ei,c,d⟩⟩:=st;rcases ω.mp hb with rfl |hb
  .exact#[_,j,λv z=>by cases (show Data.fields _=Data.cell v from z)]
  .let q:b=g:=by simpa using hb
   subst q;rwa[o,ei,λv z=>by rw[d]at z;cases z]
 keep:=λi h A st k=>#[let #[O,j]:=st.1;#[O,k e P9 _ j],st.2.at λo q=>k g P9 o q]
 item:=by
  intro X Q S T U i f s J H E I L st W;subst Q S T;obtain⟨⟨O,j⟩,l⟩:=st;let(xs,x,M,N):=W;let(m,R,p,hz):=I.tuple M;let(u,hu,ru):=R.get N;let Y:e < -s:=RT j;let l0:g < -s:=by let(_,q,_):=l;rwa[RT q]
  let h0:a≠g:=λz=>by rw[z]at p;let(o1,e1,c1,_):=l;let(o2,B,c2,_):=p;rw[e1]at B;cases B;rwa[absurd (c1.symm.trans c2) Ra]
  let h1:e∉[g,a]:=λz=>by
   rcases ω.mp z with z |z
   .rwa[r z]
   .rw[τ.mp z]at j;let(o2,B,c2,_):=p;unfold IsEnum at j;rw[j]at B;cases B;rwa[absurd (show dO "enumerate"=dO "tuple" from c2) Ra]
  erw[wpAny_pyNext_enum_itemD (vf (I.ok.hd U:) g a h0 m.toArray) j #[l,p] (by let:=R.length;let:=(ν.mp N).1;simp;omega) r h1 λx' A t C ho y hT h4 hk=>#[12,?_]];let D:=y.1;let ex:u=x':=by
   let h2:m.toArray[i]?=δ u:=by simpa using hu
   rw[h2]at C;rwa[SK C]
  subst ex;let hn:H (-s)=ι:=I.hok.fresh (RO _);let I1:aq X f J H { s with heap:=A,toks:=t+1 }:=I.turnedN L λb o hb q=>hk b o (λz=>hb (by simp [z])) (λz=>hb (by simp [z])) q;let r2:aw [Da i,x] [gs i t,u]:=.cons #[12] (.cons ru .nil);let I2:aq X f J (af H (-s)$ .tup [.int i,x]) { s with heap:=A,toks:=t+1 }:=
   I1.track (I.fpOk (RO _) hn) I.sz #[by show 2<=υ;decide,_,r2,_,hT,212]
  let F:∀b∈[e,g],gw X f (af H (-s)$ .tup [.int i,x]) b:=λb hb=>by
   let(f0,f1):=L b hb;erw[?_,f1];rw[jh]
   .rwa[f0]
   .rcases ω.mp hb with rfl |hb
    .rwa[R6 Y]
    .let q:b=g:=by simpa using hb
     subst q;rwa[R6 l0]
  erw[wpAny_letOwnedTupleGo_enum (s:={ s with heap:=A,toks:=t+1 }) ho λG h3 n=>?_];replace n:eC e A G:=n;let I3:aq X f J (af H (-s)$ .tup [.int i,x]) { s with heap:=G,toks:=t+1 }:=I2.turnedN F λb o hb q=>(n.2 b λz=>hb (by simp [z])).trans q;erw[.ref (-s),_,I3,Z,#[_,x,Z,hn,Z,λys hy=>by rw[I.tuple_inj hy M];rwa[N]],#[#[u,(h3:)],D.at λo q=>(n.2 g r.symm).trans q],λb hb=>(F b hb).1]
 done:=by intro X Q S T U i f s J H E I L st W;subst Q S T;obtain⟨⟨O,j⟩,l⟩:=st;let(xs,M,N):=W;let(m,R,p,hz):=I.tuple M;let hl:=R.length;erw[wpAny_pyNext_enum_endD (pJ (I.ok.hd U:) g a m.toArray i (by simp;omega)) j #[Z,l,p] λA eb=>#[Z,?_]];rwa[I.turnedN (t':=s.toks) L λb o hb q=>eb b o (λz=>hb (by simp [z])) q]
 self:=λ_ _ _ _ _ st h=>by obtain⟨⟨O,j⟩,_⟩:=st;rwa[wpAny_pyIter_enum j h]
section
variable {X:Cx}{elts:FA dr}{kx:Nat}{tp:Pos}
inductive sE(K:γ)(R:It->Hp->Prop)(c:FA V)(b:Hp):Prop
 |mk(a:_)(_:c=[.ref a])(_:∃xs,aC K b a xs)(_:R (FH K a) b)
def Gz(K:γ)(t:TA):TI:=λa H R=>t a H (sE K R)
def Qo(g:Gl X "enumerate")(j:X.mg "enumerate"=ι)(k:PA X [a] t)(m:↥(Ψ [a] X.env=[(ξ,eval a X.env)])):PI X (.Tuple elts kx tp) (.Call (.Name "enumerate" p) [a] [] c) (Gz X.K t):=by
 intro P s n H R I h;erw[Call_$ zH I g j PyProof.Rows.boot_enumerate$ SO (aS (k c P s n H _ I h) λU S z=>?_) m Z];let(V,o,i,u,Q):=z;obtain⟨l,e,⟨A,v⟩,q⟩:=Q;subst e;cases u with
 |cons r w=>
  cases w;cases r;let(x,B,p,C):=i.tuple v;erw[pE p λD f d y=>?_];erw[wpAny_pyIter_enum f ?_];erw[-S+1,[-S+1,-S],11,o,Z,i.kept (t':=S.toks) y,rC l _ _$ Tc$ Tz _,#[#[_,f],d],λb hb=>?_,q];rcases ω.mp hb with rfl |hb
  .rwa[i.fpOk (SY _)$ i.hok.fresh$ SY _]
  .let e:b=-S:=by simpa using hb
   subst e;rwa[i.fpOk (RO _)$ i.hok.fresh$ RO _]
end
def Js{K:γ}{xs:FA V}{g:TG}{t:TS}{D:a8}(Pv:Nat->St->Hp->Prop)(j:Pv 0 b H)(k:∀i b H,i<=ο xs->Pv i b H->aC K H a xs)
  (l:∀E:a8,E.rt=D.rt->∀i x p b H,xs[i]?=δ x->H p=ι->(∀c e,Pv (i+1) c e->E.nx c e)->∀G:Prop,((g (.ref p) b (af H p$ .tup [.int i,x]) λf n=>t E f n)->G)->Pv i b H->G) (o:∀b H,Pv xs.length b H->D.nx b H):pj (FH K a) g t D b H:=by
 erw[λi m b H=>m=ο xs - i/\i<=ο xs/\Pv i b H,#[xs.length,P9,R4 _,j],?_];rintro i m b H ⟨rfl,s,p⟩;let q:=k i b H s p;by_cases d:i < ο xs
 .erw[.inr #[#[xs,xs[i],q,RI d],Pv$ i+1,λc e P=>#[ο xs - (i+1),N09,Z,d,P],λx e y=>?_]];let(r,v,rfl,u,rfl,w):=y;rwa[l { D with nx:=Pv (i+1),ct:=Pv (i+1),bk:=D.nx } Z i v r b H (w xs q) u (λ_ _ h=>h) _ (λz=>z) p]
 .rwa[.inl #[#[xs,q,P'],o _ _ (by rw[show ο xs=i by omega];rwa[p])]]
abbrev Pt(K:γ)(i j:Nat):TG:=vo K 2 (dR (bo i)$ dR (bo j) x6)
def Mv{t:St}(h:ο t=2):∃a b,t=[a,b]:=by
 cases t with
 |nil=>cases h
 |cons a r=>
  cases r with
  |nil=>cases h
  |cons b R=>
   cases R with
   |nil=>rwa[a,b,Z]
   |cons _ _=>cases h
def Zq{K:γ}{X:FA V}{t:TE}{n:FA V->Hp->Prop}(f:Nat->V)(u:ο X<=υ)(b:aE K H a X)
  (p:∀(i:Nat) (x:V),X[i]?=δ x->∃q y z,x= .ref q/\aC K H q [y,z]/\∀Q:VK,Q (f i) H->t (δ y::δ z::c) H Q) (r:n ((dg X.length).map f) H):
  eQ (BR K a) 2 c (Pt K 0 1) nO t n H:=by
 erw[λi m o d=>m=ο X - i/\i<=ο X/\o=(dg i).map f/\d=H,#[X.length,P9,R4 _,P9,Z],?_];rintro i m o d ⟨rfl,w,rfl,rfl⟩;by_cases h:i < ο X
 .refine .inr #[#[X,X[i],b,RI h],?_,λY g=>Y=(dg$ i+1).map f/\g=d,λY g #[P,s]=>#[ο X - (i+1),P',Z,h,P,s],λv g T j y=>?_]
  .rw[RJ,UC];omega
  let(e,y):=y;subst e;let(q,A,B,rfl,k,l):=p i v (y X b);let(C,D,rfl):=Mv j;erw[q,12,k,21121122,#[[δ _,δ _],22],l _ #[?_,Z]];rw[List.range_succ,RP];rfl
 .let e:i=ο X:=by omega
  subst e;rwa[.inl #[#[X,b,RO _],r]]
def FD(K:γ)(A:η)(t:N8)(b:TS):TS:=λD a H=>t D (λx C d _ h=>mroIn K C (.ref A)=δ μ/\∀T,h T=ι->b D a (af (af h T$ hV T) x$ iH C d T x)) a H
section
variable {X:Cx}{st a₀ b₀:de}{as bs:FA de}{tb:N8}{ta tc:TS}{ca cb:ρ}{np np' hp hp' pos:Pos}{A B:η}
def DE(a:X.stack=X.env::X.outer)(J:X.env.frame=δ X.env.locals)(hb:O9 X st tb)(hg:Gl X ca)(hm:X.mg ca=↑A)(hA:clsIn X.K A≠ι)(tA:typeIn X.K (.ref A)=δ (.type "type"))(mA:mroIn X.K A (.type "BaseException")=δ μ)
  (hs:∀e,nZ (X.mark e λ_ _=>False) (a₀::as) ta) (L:↥((ca==("__debug__":ρ))=ξ)):
  PS X (.Try [st] [.ExceptHandler (δ$ .Name ca np) ι (a₀::as) hp] [] [] pos) (FD X.K A tb ta):=by
 intro p s M H D I h;erw[wpAny_Try_except$ Y'$ Ti (hb p s M H D _ I h) (λf b q=>?_) λe b q=>?_]
 .cases f with
  |next=>rwa[U6 (U6 q)]
  |ret v |brk |cont=>rwa[q]
 let(x,C,d,T,N,rfl,l,hx,hT,m,q):=q;obtain⟨⟨ox,vs,h1,h2,h3,h4,O,h6,P⟩,_⟩:=l.hok x _ hx;obtain⟨⟨oT,G,t1,t2,t3⟩,_⟩:=l.hok T _ hT;let o:=(bx.mp h6).1;let R:X.A.frames=δ (X.env::X.outer):=by rw[<- a];rwa[l.ok.frames]
 let U:b.heap.FunFrames X.base (X.env::X.outer):=by rw[<- a];rwa[l.stack]
 erw[Xu (base:=X.base) R U J h1 O h6 m t1 t2 t3 λg2 Nd=>?_];let u:(fb T b.heap).get? x=δ ox:=(Sl _ _ m).trans h1;erw[GU (s:=(b<|g2)) Nd u O o λg3 V=>?_];let(t,hn,E,i):=(l.cleared hT t1 t2 t3).noted (C:=C) (d:=d) (t':=b.toks) hx u h2 h4 O o P (by unfold ij;rw[a];rwa[V]);let i:aq X p M (af (af N t$ hV t) x$ iH C d t x) (b<|g3):=i;obtain⟨⟨o0,v0,k1,k2,k3,k4,k5,k6,k0⟩,_⟩:=i.hok x _ jc;let F:af (af N t$ hV t) x (iH C d t x) t=δ (hV t):=by rw[jh E,jc]
 obtain⟨⟨o1,t0,u1,u2,u3⟩,_⟩:=i.hok t _ F;let g:∀{E':ζ->θ->Prop} {c:de} {W:FA de} {G:TS} {hp:Pos},(∀e,nZ (X.mark e λ_ _=>False) (c::W) G)->G D M (af (af N t$ hV t) x$ iH C d t x)->iu (χ X.prog X.w) (X.A.mark$ ↑x) (Code.handlers (.ref x) [.ExceptHandler ι ι (c::W) hp] X.env) (λr S=>match r with | .ok f=>SP X p D f S | .error y=>cameBackBy (χ X.prog X.w) X.A X.env E' y S) (b<|g3):=by
  intro E' c W G hp hz qz;erw[codeAny_handlers_suite ?_];unfold setFlight;apply Ss k1 k5 k6 ?_;rw[RV (show(Φ t != Ξ)=μ from by simp)];erw[SR u1 u2 (bx.mp u3).1 ?_];let I4:=i.cleared F u1 u2 u3;erw[Ti (hz (.ref x) p _ _ _ D (I4.mark (.ref x) λ_ _=>False) qz) (λf s6 Q=>?_) λ_ _ z=>z.elim];cases f with
  |next |brk |cont=>let(j,Y,k,n):=Q;rwa[11,k.unmark I.ok,n]
  |ret v=>let(y,j,Y,k,rv,n):=Q;rwa[y,11,k.unmark I.ok,rv,n]
 let(mC,q):=q;erw[wpAny_handleBy_cons (codeAny_handlers_test ?_) FI];erw[zX (i.mark (.ref x) λ_ _=>False) hg hm ?_ L];erw[Q0 i.kIn k1 k2 hA tA mA mC _ _ _ _ (λ_ _ e=>e) ?_];rwa[g hs$ q t hn]
end
section
variable {X:Cx}
inductive Xz(x:V)(c:FA V)(H:Hp)(Q:VK):Prop
 |mk(a:η)(b:FA (a9×V))(k:a9)(v:V)(_:x= .ref a)(_:c=[kV k])(_:H a=δ (.dK b))(_:bV b k=δ v)(_:Q v (af H a (.dK (mn b k))))
def CV:LH X "dict.pop" Xz:=by intro p s d H x f v U Q I r R h;let(a,K,k,V,rfl,rfl,e,l,q):=h;let(u,rfl,b):=aw.one R;cases r;rwa[Mc I e b l (.inl Z) λw S i c=>#[V,_,i,c,q]]
end
section
variable {X:Cx}{tg:dr}
def aw.rev(r:aw x u):aw x.reverse u.reverse:=by
 induction r with
 |nil=>rwa[.nil]
 |cons a _ i=>rw[UB,UB];rwa[i.append (.cons a .nil)]
def Al(i:Array ζ):slicePick i ι ι (δ 1)=i:=by let e:slicePick i ι ι (δ 1)=slicePick i ι ι ι:=rfl;rw[e,Jf,HT.sIx_none,HT.sIx_none];show(List.take (i.size - 0) i.toList).toArray=i;rw[Tk P9]
end
section
variable {X:Cx}{e es:dr}{te ts:TE}{lo hi:FC dr}{tl th:TO}{pos p2:Pos}
inductive Fz(K:γ)(Q:VK)(x:V)(l u:FC Int)(z:V)(c:Hp):Prop
 |mk(a d b:_)(_:x= .ref a)(_:l=ι)(_:u=ι)(_:z= .int (if b=μ then -1 else 1))(_:aE K c a d)(_:∀p,c p=ι->Q (.ref p) (af c p (.lst (if b=μ then d.reverse else d))))
def OQ(K:γ)(te:TE)(tl th:TO)(ts:TE):TE:=λa H Q=>te a H λx h=>tl a h λl b=>th a b λu c=>ts a c (Fz K Q x l u)
def wj(y:PE X e te)(A:PO X lo tl)(B:PO X hi th)(C:PE X es ts)(g:∀o r,letTemporaryGo e o r=pure ():=by intro _ _;rfl):PE X (.Subscript e (.Slice lo hi (δ es) p2) pos) (OQ X.K te tl th ts):=by
 intro p s d H Q I h;erw[wpAny_Subscript_Slice_step slot_list_getitem.lookup (aS (y p s d H _ I h) λv D c=>?_) g];let(x,F,G,R,J):=c;erw[wpAny_Slice$ aS (A p D d F _ G J) λV L #[l,M,N,P,O]=>aS (B p L d M _ N O) λk T c=>?_];let(u,U,Y,pu,q3):=c;rw[evalPart_some];erw[aS (C p T d U _ Y q3) λvs S c=>?_];let(z,H4,I4,rz,a,f,b,ex,el,eu,ez,hq,q):=c;subst ex el eu ez;cases R;let(t,rfl):=(show ∃t,vs=gs (if b=μ then -1 else 1) t from rz);let j:aq X p d H4 (S<|S.heap.push ("slice"<|.fields (ε [V,k,.int (if b=μ then -1 else 1) t]))):=I4.kept (t':=S.toks) λb ob q=>RL _ q;let(i,r,m,h0):=j.list hq;let rp:∃w:FA ζ,slicePick i.toArray ι ι (δ (if b=μ then -1 else 1))=w.toArray/\aw (if b=μ then f.reverse else f) w/\ο w=ο i:=by
  cases b with
  |true=>rwa[i.reverse,by rw[RV Z,PySem.W.krv_pick],by rw[RV Z];rwa[r.rev],Wk]
  |false=>rwa[i,by rw[RU Ra,Al],by rw[RU Ra];rwa[r],Z]
 let(w,e1,E,e3):=rp;let n:=r.length;erw[m.isList.typeIs,wpAny_getItem_list_slice m.isList (VP ..) P pu (.int _ t) (by cases b<;>decide) ?_ (by rw[RS];omega)];rw[e1];erw[.ref (S.heap.push ("slice"<|.fields (ε [V,k,.int (if b=μ then -1 else 1) t]))).objs.size,_,j.laid (t':=S.toks) (o:=.lst (if b=μ then f.reverse else f)) (λb ob q=>RL _ q) (RO _) ?_,Z,q _$ j.hok.fresh$ RO _];rwa[by rw[E.length];omega,_,0,E,RQ _ Z]
end
end _L
namespace _L
open PySem PySem.Spec PyProof.Rows PySem.SeqAt PySem.W
noncomputable def dJ:FA Int->FA Int->Bool
 | [],[]=>ξ
 | [],_::_=>μ
 |_::_,[]=>ξ
 |a::p,b::q=>if a=b then dJ p q else decide (a < b)
theorem JJ:∀{p q:FA Int},dJ p q=μ->dJ q p=ξ
 | [],[],h=>by cases h
 | [],_::_,_=>rfl
 |_::_,[],h=>by cases h
 |a::p,b::q,h=>by
  let h:(if a=b then dJ p q else decide (a < b))=μ:=h;show(if b=a then dJ q p else decide (b < a))=ξ;by_cases e:a=b
  .rw[RV e]at h;rw[RV e.symm];rwa[JJ h]
  .rw[RU e]at h;rw[RU$ Sx e];let:=SF h;rwa[RW P']
section
variable {prog:Δ}{w:cv}{A:bU}{E:ζ->θ->Prop}{s:θ}{Q:Bool->θ->Prop}
def wg(f:Bool)(h:Q (decide$ a < b) s):!A (oneLt' f (.int a t)$ .int b u) Q E s:=by
 cases f with
 |true=>rwa[oneLt_int h]
 |false=>rwa[kat_one _ _ (lt_int h)]
theorem YL:∀{p q:FA Int} {U v:FA ζ},aw (p.map Da) U->aw (q.map Da) v->∀i,f=decide (ο p < ο q)->Q (dJ p q) s->KatLex prog w A b f Q (U.zip v) i s
 | [],[],_,_,.nil,.nil,_,e,h | [],_::_,_,_,.nil,.cons _ _,_,e,h |_::_,[],_,_,.cons _ _,.nil,_,e,h=>by subst e;rwa[h]
 |x::p,y::q,_,_,.cons #[t,c] r,.cons #[u,d] R,i,e,h=>by
  subst c;subst d;let h:Q (if x=y then dJ p q else decide (x < y)) s:=h;erw[kat_cons$ EqAt.int_int x t y u prog w _ _ ?_];by_cases H:x=y
  .rw[RV H]at h;rw[beq_iff_eq.mpr H];erw[kat_yes$ YL r R (i+1) ?_ h];rw[e];show decide (ο p+1 < ο q+1)=_;by_cases a:ο p < ο q
   .rw[R0 a,R0 P']
   .rw[RW a,RW P']
  .rw[RU H]at h;rw[beq_eq_false_iff_ne.mpr H];rwa[kat_no$ wg _ h]
def nV(h:df)(v:ζ)(p:FA Int):Prop:=∃a o u n,v= .ref a/\h.get? a=δ o/\o.cls= .type "tuple"/\o.data= .seq u n/\aw (p.map Da) u.toList
def Nv(c:nV s.heap x p)(d:nV s.heap y q)(h:Q (dJ p q) s):!A (keyLt' (tuples' b) x y) Q E s:=by let(a,o,U,n,rfl,e,_,f,H):=c;let(i,O,u,N,rfl,K,_,g,k):=d;erw[kat_lt e f K g$ YL H k 0 ?_ h];let l:=H.length;let L:=k.length;rw[RJ]at l L;rw[<- Sb,<- Sb,<- l,<- L]
def bY(l:Nat->Nat->Bool)(n:Nat){b:Type}(R:b->Prop):KasT b->Prop
 | .ret a=>R a
 | .ask i j k=>i < n/\j < n/\bY l n R (k (l i j))
theorem bY.bind{b c:Type}{R:b->Prop}{S:c->Prop}{f:b->KasT c}(H:∀a,R a->bY l n S (f a)):∀{t:KasT b},bY l n R t->bY l n S (t.bind f)
 | .ret _,h=>H _ h
 | .ask _ _ _,z=>by let(d,e,g):=z;rwa[d,e,bY.bind H g]
theorem bY.wp{l:Nat->Nat->Bool}{n:Nat}{b:Type}{R:b->Prop}{c:Nat->Nat->(Bool->θ->Prop)->θ->Prop}(H:∀i j (C:Bool->θ->Prop),i < n->j < n->C (l i j) s->c i j C s){G:b->θ->Prop}(d:∀a,R a->G a s):∀{t:KasT b},bY l n R t->t.kasWp c G s
 | .ret _,h=>d _ h
 | .ask i j _,z=>by let(e,f,g):=z;rwa[H i j _ e f (bY.wp H d g)]
theorem uS:∀{vs:FA ζ} {ps:FA (FA Int)},ο vs=ο ps->(∀(i:Nat) (v:ζ) (p:FA Int),vs[i]?=δ v->ps[i]?=δ p->nV h v p/\p≠[])->∃F:FA ζ,ο F=ο vs/\(∀f∈F,∃i t,f= .int i t)/\KatTups h vs F
 | [],[],_,_=>#[[],Z,λ_ z=>(nomatch z),trivial]
 | [],_::_,e,_ |_::_,[],e,_=>by cases e
 |v::vs,p::ps,e,k=>by
  let(F,g,j,l):=uS (vs:=vs) (ps:=ps) (e:) λi v p b c=>k (i+1) v p (b:) (c:);obtain⟨⟨a,o,U,n,rfl,b,c,m,H⟩,q⟩:=k 0 v p Z Z;cases p with
  |nil=>rwa[absurd Z q]
  |cons i p=>
   cases d:U.toList with
   |nil=>rw[d]at H;cases H
   |cons u r=>
    rw[d]at H;cases H with
    |cons R y=>
     let(t,rfl):=(show ∃t,u=gs i t from R);let x:U[0]?=δ (gs i t):=by rw[<- TR,d];rfl
     exact#[gs i t::F,by simp [g],λf hf=>by
      rcases ω.mp hf with rfl |hf
      .exact#[112]
      .rwa[j f hf],KatTups.cons b c m x l]
def pP{V:FA ζ}{d:FA (FA Int)}{P:Fin->θ->Prop}(u:s.heap.get? a=δ (seqObj "list" V.toArray n))(I:ο V=ο d)(N:2<=ο V)(y:ο V < 64)
  (O:∀(i:Nat) (v:ζ) (p:FA Int),V[i]?=δ v->d[i]?=δ p->nV s.heap v p/\p≠[]/\v≠ .ref a) {R:Array Nat->Prop} (U:bY (λi j=>dJ (d.getD i []) (d.getD j [])) d.length R (kas_sort d.length))
  (h:∀p,R p->P (.done$ .ret .none) (s<|sortedHeap s.heap a V (p.toList.map λi=>V.getD i Ξ).toArray)):
  !A (dw.«list.sort» #[[.ref a],[]]) P E s:=by
 rw[Wi];let la:a < -s:=RT u;apply WP u Z ?_;apply UG u Z ?_;obtain⟨g,J⟩:∃g,(s.heap.update a$ Ω λ_=>(ε [])).get? a=δ (seqObj "list" (ε []) g):=#[_,Wj u (λ_=>(ε []))];apply U' J Z ?_;apply UO ?_ (by show ο V<=_;rw[TK];omega);apply Uq ?_;erw[Sj ?_];let K:(((s.heap.update a$ Ω λ_=>(ε [])).push$ seqObj "tuple" V.toArray 0).push$ seqObj "list" (ε []) 0).get? a=δ (seqObj "list" (ε []) g):=RL _ (RL _ J);let k:∀c v,c≠a->s.heap.get? c=δ v->(((s.heap.update a$ Ω λ_=>(ε [])).push$ seqObj "tuple" V.toArray 0).push$ seqObj "list" (ε []) 0).get? c=δ v:=λc v W e=>
  RL _ (RL _ (by rw[Vl _ _ _ _ W];rwa[e]))
 show !A _ P E (s<|((s.heap.update a$ Ω λ_=>(ε [])).push$ seqObj "tuple" V.toArray 0).push (seqObj "list" (ε []) 0));dsimp only;let H:∀(i:Nat) (v:ζ) (p:FA Int),V[i]?=δ v->d[i]?=δ p->nV (((s.heap.update a$ Ω λ_=>(ε [])).push$ seqObj "tuple" V.toArray 0).push$ seqObj "list" (ε []) 0) v p/\p≠[]:=λi v p B x=>by obtain⟨⟨b,o,X,m,rfl,Y,b2,b3,b4⟩,l,D⟩:=O i v p B x;rwa[#[b,o,X,m,Z,k _ _ (λz=>D (by rw[z])) Y,b2,b3,b4],l]
 let(fs,f1,f2,f3):=uS I H;let q:¬V.toArray.size < 2:=by rw[RS];omega
 rw[RU q,RU q];apply kat_kind (T:=.type "int") f3 P' (λf hf=>?_) Ra ?_
 .let(i,t,rfl):=f2 f hf;rwa[Looks.of_pure Z]
 refine RG (Ti (kat_run (Q:=λS r=>r=(s<|((s.heap.update a$ Ω λ_=>(ε [])).push$ seqObj "tuple" V.toArray 0).push (seqObj "list" (ε []) 0))/\∃p,R p/\(arrOf S).map (·.2)=(p.toList.map λi=>V.getD i Ξ).toArray/\failedOf S=ι/\(arrOf S).size=ο V)
  (G:=λp r=>r=(s<|((s.heap.update a$ Ω λ_=>(ε [])).push$ seqObj "tuple" V.toArray 0).push (seqObj "list" (ε []) 0))/\R p) Z N y (λp S r B x a3 L=>#[L.1,p,L.2,?_,a3,?_]) (bY.wp (n:=d.length) (R:=R) (λi j C F hj hC=>?_) (λp l=>#[Z,l]) (by rw[I];rwa[U]))) ?_ λ_ _ e=>e)
 .rw[kat_snds Z x]
 .rw[x,V9,B]
 .let M:∀i,i < ο d->nV (((s.heap.update a$ Ω λ_=>(ε [])).push$ seqObj "tuple" V.toArray 0).push$ seqObj "list" (ε []) 0) (V.getD i Ξ) (d.getD i []):=λi F=>by
   let g:V[i]?=δ (V.getD i Ξ):=by rw[RY,RI (P':i < ο V)];rfl
   let e2:d[i]?=δ (d.getD i []):=by rw[RY,RI F];rfl
   exact(H i _ _ g e2).1
  rwa[Nv (M i F) (M j hj) hC]
 rintro ⟨⟨⟩,S⟩ r ⟨rfl,p,l,q1,q2,q3⟩;dsimp only;apply U' K Z ?_;apply UG K Z ?_ (hsz2:=by rw[V9,q3,TK];omega);rw[q2];simp only[Tx,R8,Te];erw[RM ?_];rw[q1];rwa[h p l]
end
section
#print v
def pN{P:Fin->θ->Prop}(H:s.heap.get? a=δ (seqObj "list" ([]:FA ζ).toArray n))
  (h:P (.done$ .ret .none) (s<|sortedHeap s.heap a ([]:FA ζ) (ε []))):!A (dw.«list.sort» #[[.ref a],[]]) P E s:=by
 rw[Wi];apply WP H Z ?_;apply UG H Z ?_;obtain⟨e,b⟩:∃e,(s.heap.update a$ Ω λ_=>(ε [])).get? a=δ (seqObj "list" (ε []) e):=#[_,Wj H (λ_=>(ε []))];apply U' b Z ?_;apply UO ?_;apply Uq ?_;erw[Sj ?_];let g:(((s.heap.update a$ Ω λ_=>(ε [])).push$ seqObj "tuple" ([]:FA ζ).toArray 0).push$ seqObj "list" (ε []) 0).get? a=δ (seqObj "list" (ε []) e):=RL _ (RL _ b);show !A _ P E (s<|((s.heap.update a$ Ω λ_=>(ε [])).push$ seqObj "tuple" ([]:FA ζ).toArray 0).push (seqObj "list" (ε []) 0));dsimp only;let S:([]:FA ζ).toArray.size < 2:=by show 0 < 2;decide
 rw[RV S,RV S];apply RM ?_;rw[StateT.run_pure];apply RM ?_;dsimp only;apply U' g Z ?_;let c:(arrOf$ SortSt.mk' general' (([]:FA ζ).toArray.zip ([]:FA ζ).toArray) (ε []) 7 ι).map (·.2)=(ε []):=by show(([]:FA ζ).toArray.zip ([]:FA ζ).toArray).map (·.2)=(ε []);simp
 rw[c];apply UG g Z ?_ (hsz2:=by show 0<=υ+1;omega);simp only[Tx,R8,Te];rwa[RM h]
def Ed{vs:FA ζ}{ps:FA (FA Int)}{Q:ζ->θ->Prop}(q:s.heap.IsList l vs.toArray)(H:ο vs=ο ps)(r:2<=ο vs)(b:ο vs < 64)
  (t:∀(i:Nat) (v:ζ) (p:FA Int),vs[i]?=δ v->ps[i]?=δ p->nV s.heap v p/\p≠[]) {R:Array Nat->Prop} (u:bY (λi j=>dJ (ps.getD i []) (ps.getD j [])) ps.length R (kas_sort ps.length))
  (h:∀p,R p->Q (.ref$ -s+1) (s<|sortedAll s.heap vs (p.toList.map λi=>vs.getD i Ξ).toArray)):!A (call (.builtin "sorted") [.ref l]) Q E s:=by
 erw[Uh Wq Wc We (Wf _) ?_];unfold dw.«sorted»;erw[RG (m:=checkCount "sorted" 1 1 _)$ RM ?_];apply WQ q ?_ (by rw[TK];omega);apply Uq ?_ (by rw[TK];omega);let f:((s.heap.push$ seqObj "list" (ε []) 0).update (-s)$ Ω (·++vs.toArray)).objs.size=-s+1:=by rw[VO,WG]
 let g:(((s.heap.push$ seqObj "list" (ε []) 0).update (-s)$ Ω (·++vs.toArray)).push$ seqObj "list" vs.toArray 0).get? (-s+1)=δ (seqObj "list" vs.toArray 0):=by rw[<- f];rwa[RQ _ Z]
 let k:∀c v,s.heap.get? c=δ v->(((s.heap.push$ seqObj "list" (ε []) 0).update (-s)$ Ω (·++vs.toArray)).push$ seqObj "list" vs.toArray 0).get? c=δ v:=λc v e=>
  RL _ (by rw[Vl _ _ _ _$ R6$ RT e];rwa[RL _ e])
 show !_ _ _ _ (s<|((s.heap.push$ seqObj "list" (ε []) 0).update (-s)$ Ω (·++vs.toArray)).push (seqObj "list" vs.toArray 0));rw[f];apply Sj$ Sv VD #[_,g,Z] Vt (pP g H r b (λi v p x y=>?_) u λp d=>#[12,?_]) (VF _)
 .obtain⟨⟨a,o,U,n,rfl,B,C,D,F⟩,d⟩:=t i v p x y;rwa[#[a,o,U,n,Z,k _ _ B,C,D,F],d,λz=>by injection z with z;rwa[absurd z$ R6$ T3$ RT B]]
 .rwa[RM #[12,h p d]]
def ur{Q:ζ->θ->Prop}(H:s.heap.IsList l ([]:FA ζ).toArray)
  (h:Q (.ref$ -s+1) (s<|sortedAll s.heap [] (ε []))):!A (call (.builtin "sorted") [.ref l]) Q E s:=by
 erw[Uh Wq Wc We (Wf _) ?_];unfold dw.«sorted»;erw[RG (m:=checkCount "sorted" 1 1 _)$ RM ?_];apply WQ H ?_;apply Uq ?_;let z:((s.heap.push$ seqObj "list" (ε []) 0).update (-s)$ Ω (·++([]:FA ζ).toArray)).objs.size=-s+1:=by rw[VO,WG]
 let g:(((s.heap.push$ seqObj "list" (ε []) 0).update (-s)$ Ω (·++([]:FA ζ).toArray)).push$ seqObj "list" ([]:FA ζ).toArray 0).get? (-s+1)=δ (seqObj "list" ([]:FA ζ).toArray 0):=by rw[<- z];rwa[RQ _ Z]
 show !_ _ _ _ (s<|((s.heap.push$ seqObj "list" (ε []) 0).update (-s)$ Ω (·++([]:FA ζ).toArray)).push (seqObj "list" ([]:FA ζ).toArray 0));rw[z];apply Sj$ Sv VD #[_,g,Z] Vt (pN g #[12,?_]) (VF _);rwa[RM #[12,h]]
end
section
variable {X:Cx}
def Zz(I:aq X b f H s){p:FA Int}(h:H a= ~~~(p.map Da)):nV s.heap (.ref a) p:=by let(i,r,P,_):=I.tuple (aC.of (K:=X.K) h);let(o,c,d,n,e):=P;rwa[a,o,i.toArray,n,Z,c,d,e,r]
end
end _L
namespace _L
open PySem PySem.W PySem.Spec PyProof.Rows
theorem bY.weak{c:Type}{R S:c->Prop}(h:∀a,R a->S a):∀{t:KasT c},bY l n R t->bY l n S t
 | .ret _,k=>h _ k
 | .ask _ _ _,z=>by let(a,b,k):=z;rwa[a,b,bY.weak h k]
def YM{a:Array Nat}{u v i:Nat}(b:u < a.size)(c:v < a.size):(a.swapIfInBounds u v).getD i 0=if i=v then a.getD u 0 else if i=u then a.getD v 0 else a.getD i 0:=by
 unfold Array.swapIfInBounds;rw[dif_pos b,dif_pos c];simp only[Array.getD_eq_getD_getElem?,Array.getElem?_swap];by_cases h:v=i<;>by_cases H:u=i
 .subst h;subst H;simp [b]
 .subst h;let E:¬v=u:=λe=>H e.symm;simp [b,c,H,E]
 .subst H;let d:¬u=v:=λe=>h e.symm;simp [b,c,h,d]
 .let d:¬i=v:=λe=>h e.symm;let E:¬i=u:=λe=>H e.symm;simp [b,c,h,H,d,E]
theorem QG(a:Array Nat)(k:Nat)(c:k < a.size):∀(d:Nat),d<=k->∀i,(bubble a k d).getD i 0=if i=k - d then a.getD k 0 else if k - d < i/\i<=k then a.getD (i - 1) 0 else a.getD i 0
 |0,_,i=>by
  show a.getD i 0=_;by_cases e:i=k - 0
  .rw[RV e,e,U9]
  .rw[RU e,RU P']
 |d+1,f,i=>by
  let I:=QG a k c d P';rw[bubble_succ,YM (by rw[bubble_size];omega) (by rw[bubble_size];rwa[N09]),I,I,I];by_cases H:i=k - d - 1
  .rw[RV H,RV Z,RV N09]
  .rw[RU H,RU (show ¬i=k - (d+1) by rwa[N09])];by_cases h:i=k - d
   .rw[RV h,RU P',RU N09,RV N09];congr 1;rwa[N09]
   .rw[RU h,RU h];by_cases b:k - d < i/\i<=k
    .rw[RV b,RV N09]
    .rw[RU b,RU P']
theorem QH(a:Array Nat)(k:Nat)(c:k<=a.size):∀(d:Nat),2*d<=k->∀i,(mirror a 0 k d).getD i 0=if i < d∨(k - d<=i/\i < k) then a.getD (k - 1 - i) 0 else a.getD i 0
 |0,_,i=>by show a.getD i 0=_;rw[RU P']
 |d+1,e,i=>by
  let I:=QH a k c d P';rw[mirror_succ,YM (by rw[mirror_size];omega) (by rw[mirror_size];rwa[N09]),I,I,I];by_cases h:i=k - 1 - d
  .rw[RV h,RU P',RV P'];congr 1;rwa[N09]
  .rw[RU h];by_cases H:i=0+d
   .rw[RV H,RU P',RV P'];congr 1;omega
   .rw[RU H];by_cases b:i < d∨(k - d<=i/\i < k)
    .rw[RV b,RV N09]
    .rw[RU b,RU P']
def tQ{a:Array Nat}{k:Nat}(b:k<=a.size)(i:Nat):(kas_rev a 0 k).getD i 0=if i < k then a.getD (k - 1 - i) 0 else a.getD i 0:=by
 unfold kas_rev;rw[QH a k b _ P'];by_cases h:i < k
 .rw[RV h];by_cases H:i < (k - 0) / 2∨(k - (k - 0) / 2<=i/\i < k)
  .rw[RV H]
  .rw[RU H];congr 1;omega
 .rw[RU h,RU P']
structure O5(lt:Nat->Nat->Bool)(n:Nat):Prop where
 tot:∀i j,i < n->j < n->i≠j->lt i j=ξ->lt j i=μ
 tr:∀i j k,i < n->j < n->k < n->lt i j=μ->lt j k=μ->lt i k=μ
 asy:∀i j,i < n->j < n->lt i j=μ->lt j i=ξ
structure nU(n:Nat)(p:Array Nat):Prop where
 z:p.size=n
 m:∀i,i < n->p.getD i 0 < n
 inj:∀i j,i < n->j < n->p.getD i 0=p.getD j 0->i=j
 pm:p.toList.Perm (dg n)
def gf(l:Nat->Nat->Bool)(p:Array Nat)(m:Nat):Prop:=∀i,i+1 < m->l (p.getD i 0) (p.getD (i+1) 0)=μ
def uW(l:Nat->Nat->Bool)(p:Array Nat)(m:Nat):Prop:=∀i,i+1 < m->l (p.getD (i+1) 0) (p.getD i 0)=μ
def Ft{n:Nat}{p:Array Nat}(h:p.toList.Perm (dg n)):nU n p:=by
 let a:p.size=n:=by let:=h.length_eq;simpa using this
 let N:p.toList.Nodup:=h.nodup_iff.mpr List.nodup_range;let g:∀i (H:i < n),p.getD i 0=p.toList[i]'((P':i < p.size):):=λi H=>by simp [Array.getD,show i < p.size by omega]
 erw[a,λi H=>?_,λi j H b e=>?_,h]
 .rw[g i H];let:=h.mem_iff.mp (UK (l:=p.toList) (n:=i) ((P':i < p.size):));simpa using this
 .rw[g i H,g j b]at e;let L:i < ο p.toList:=by simpa using (P':i < p.size)
  let c:j < ο p.toList:=by simpa using (P':j < p.size)
  exact(Vy L N).mp (by rw[RI L,RI c,e])
def nU.of{n:Nat}{p q:Array Nat}(h:nU n p)(k:q.Perm p):nU n q:=Ft (k.toList.trans h.pm)
section
variable {lt:Nat->Nat->Bool}{n:Nat}(O:O5 lt n)
include O
theorem xp{p:Array Nat}(h:nU n p){m:Nat}(b:m<=n)(a:gf lt p m):∀(d i:Nat),i+d+1 < m->lt (p.getD i 0) (p.getD (i+d+1) 0)=μ
 |0,i,H=>a i H
 |d+1,i,H=>O.tr _ _ _ (h.m _ P') (h.m _ P') (h.m _ P') (xp h b a d i P') (a (i+d+1) N09)
def Jz{p:Array Nat}(h:nU n p){m:Nat}(H:m<=n)(a:gf lt p m){i j:Nat}(b:i < j)(c:j < m):lt (p.getD i 0) (p.getD j 0)=μ:=by let z:=xp O h H a (j - i - 1) i N09;rw[show i+(j - i - 1)+1=j by rwa[N09]]at z;rwa[z]
theorem y7{p:Array Nat}(h:nU n p):∀f m,1<=m->m+f<=n->gf lt p m->bY lt n (λr=>m<=r/\r<=m+f/\gf lt p r/\(r < m+f->lt (p.getD r 0) (p.getD (r - 1) 0)=μ)) (kas_asc p f m)
 |0,m,b,d,a=>#[RO _,RO _,a,λz=>absurd z P']
 |f+1,m,b,d,a=>by
  erw[h.m _ P',h.m _ P',?_];by_cases c:lt (p.getD m 0) (p.getD (m - 1) 0)=μ
  .rw[c];rwa[RO _,P',a,λ_=>c]
  .let C:lt (p.getD m 0) (p.getD (m - 1) 0)=ξ:=by simpa using c
   rw[C];let t:=O.tot _ _ (h.m m P') (h.m (m - 1) P') (λe=>by let:=h.inj _ _ P' P' e;omega) C;let A:gf lt p (m+1):=λi g=>by
    by_cases e:i+1 < m
    .rwa[a i e]
    .rw[show i=m - 1 by omega,show m - 1+1=m by omega];rwa[t]
   rwa[bY.weak (λr H=>#[N09,N09,H.2.2.1,λz=>H.2.2.2 N09])$ y7 h f (m+1) P' P' A]
theorem y8{p:Array Nat}(h:nU n p):∀f m,2<=m->m+f=n->uW lt p m->bY lt n (λr:Array Nat×Nat×Nat=>r.1=p/\r.2.2=0/\m<=r.2.1/\r.2.1<=n/\uW lt p r.2.1) (kas_desc f p m 0)
 |0,m,b,d,a=>#[22,RO _,(by show m<=n;omega),a]
 |f+1,m,b,d,a=>by
  erw[h.m _ P',h.m _ P',?_];by_cases c:lt (p.getD m 0) (p.getD (m - 1) 0)=μ
  .rw[c];let A:uW lt p (m+1):=λi g=>by
    by_cases e:i+1 < m
    .rwa[a i e]
    .rw[show i=m - 1 by omega,show m - 1+1=m by omega];rwa[c]
   rwa[bY.weak (λr H=>#[H.1,H.2.1,Nat.le_of_succ_le H.2.2.1,H.2.2.2])$ y8 h f (m+1) P' P' A]
  .let C:lt (p.getD m 0) (p.getD (m - 1) 0)=ξ:=by simpa using c
   rw[C];let t:=O.tot _ _ (h.m m P') (h.m (m - 1) P') (λe=>by let:=h.inj _ _ P' P' e;omega) C;erw[h.m _ P',h.m _ P',?_];rw[t];rwa[22,RO _,(by show m<=n;omega),a]
def Il{p:Array Nat}(h:nU n p){k:Nat}(c:1<=k)(H:k<=n)(a:uW lt p k):bY lt n (λr:Nat×Array Nat=>nU n r.2/\1<=r.1/\r.1<=n/\gf lt r.2 r.1) (kas_tail3 k n p):=by
 let b:nU n (kas_rev p 0 k):=h.of (mirror_perm _ _ _ _);let A:gf lt (kas_rev p 0 k) k:=λi d=>by rw[tQ (by rw[h.z];rwa[H]),tQ (by rw[h.z];rwa[H]),RV P',RV d];let z:=a (k - 1 - (i+1)) N09;rw[show k - 1 - (i+1)+1=k - 1 - i by omega]at z;rwa[z]
 erw[bY.bind (R:=λr=>k<=r/\r<=k+(n - k)/\gf lt (kas_rev p 0 k) r/\(r < k+(n - k)->lt ((kas_rev p 0 k).getD r 0) ((kas_rev p 0 k).getD (r - 1) 0)=μ)) (λr e=>?_)$ y7 O b _ _ c P' A];rwa[b,by show 1<=r;rwa[N09],by show r<=n;rwa[N09],e.2.2.1]
def Du{p:Array Nat}(h:nU n p)(k:1<=n):bY lt n (λr:Nat×Array Nat=>nU n r.2/\1<=r.1/\r.1<=n/\gf lt r.2 r.1) (kas_count n p):=by
 erw[bY.bind (R:=λr=>1<=r/\r<=1+(n - 1)/\gf lt p r/\(r < 1+(n - 1)->lt (p.getD r 0) (p.getD (r - 1) 0)=μ)) (λr H=>?_)$ y7 O h _ _ (RO 1) N09 (λi a=>absurd a P')];by_cases e:r=n
 .rw[RV (by simp [e])];rwa[h,H.1,P',H.2.2.1]
 .rw[RU (by simp [e])];by_cases g:r > 1
  .rw[RV g];erw[h.m _ P',h.m _ N09,?_];rw[Jz O h N09 H.2.2.1 (show 0 < r - 1 by rwa[N09]) N09];rwa[h,H.1,N09,H.2.2.1]
  .rw[RU g];let b:r=1:=by rwa[N09]
   subst b;let d:uW lt p 2:=λi a=>by rw[show i=0 by omega];rwa[H.2.2.2 P']
   erw[bY.bind (R:=λr:Array Nat×Nat×Nat=>r.1=p/\r.2.2=0/\2<=r.2.1/\r.2.1<=n/\uW lt p r.2.1) (λr H=>?_)$ y8 O h _ _ (RO 2) P' d];let(E,c,l,f,j):=H;rw[c,RU$ Tf 0,E];rwa[Il O h P' f j]
theorem X9{p:Array Nat}(h:nU n p){k:Nat}(H:k < n)(a:gf lt p k):∀f l r,l<=r->r<=k->r - l<=f->(∀i,i < l->lt (p.getD i 0) (p.getD k 0)=μ)->(∀i,r<=i->i < k->lt (p.getD k 0) (p.getD i 0)=μ)->
  bY lt n (λq=>q<=k/\(∀i,i < q->lt (p.getD i 0) (p.getD k 0)=μ)/\∀i,q<=i->i < k->lt (p.getD k 0) (p.getD i 0)=μ) (kas_place p k f l r)
 |0,l,r,u,s,v,b,d=>#[P',b,λi j=>d i P']
 |f+1,l,r,u,s,v,b,d=>by
  unfold kas_place;by_cases g:l≥r
  .rw[RV g];rwa[P',b,λi j=>d i P']
  .rw[RU g];erw[h.m _ N09,h.m _ P',?_];by_cases c:lt (p.getD k 0) (p.getD ((l+r) / 2) 0)=μ
   .show bY lt n _ (if lt (p.getD k 0) (p.getD ((l+r) / 2) 0)=μ then _ else _);rw[RV c];erw[X9 h H a f l ((l+r) / 2) P' P' N09 b λi j o=>?_];by_cases e:i=(l+r) / 2
    .rw[e];rwa[c]
    .rwa[O.tr _ _ _ (h.m _ H) (h.m _ P') (h.m _ P') c$ Jz O h P' a P' o]
   .let C:lt (p.getD k 0) (p.getD ((l+r) / 2) 0)=ξ:=by simpa using c
    show bY lt n _ (if lt (p.getD k 0) (p.getD ((l+r) / 2) 0)=μ then _ else _);rw[RU c];let t:=O.tot _ _ (h.m k H) (h.m ((l+r) / 2) P') (λe=>by let:=h.inj _ _ H P' e;omega) C;erw[X9 h H a f ((l+r) / 2+1) r P' s N09 (λi j=>?_) d];by_cases e:i=(l+r) / 2
    .rw[e];rwa[t]
    .rwa[O.tr _ _ _ (h.m _ P') (h.m _ P') (h.m _ H) (Jz O h P' a (show i < (l+r) / 2 by omega) P') t]
theorem Fe:∀f {p:Array Nat} (_:nU n p) k,1<=k->k+f=n->gf lt p k->bY lt n (λq=>nU n q/\gf lt q n) (kas_bin f p k)
 |0,p,h,k,d,e,a=>#[h,by rw[<- e];rwa[a]]
 |f+1,p,h,k,d,e,a=>by
  erw[bY.bind (R:=λq=>q<=k/\(∀i,i < q->lt (p.getD i 0) (p.getD k 0)=μ)/\∀i,q<=i->i < k->lt (p.getD k 0) (p.getD i 0)=μ) (λl j=>?_)$ X9 O h P' a k 0 k (R4 _) (RO _) P' (λi H=>absurd H P') (λi H m=>absurd H P')];let(lk,L,o):=j;erw[Fe f (h.of$ bubble_perm _ _ _) (k+1) P' P' λi H=>?_];let g:=QG p k (by rw[h.z];omega) (k - l) P';rw[g,g];by_cases c:i=k - (k - l)
  .rw[RV c,RU P',RV P',show i+1 - 1=i by omega];rwa[o i P' P']
  .rw[RU c];by_cases C:k - (k - l) < i/\i<=k
   .rw[RV C,RU P',RV P',show i+1 - 1=i - 1+1 by omega];rwa[a (i - 1) P']
   .rw[RU C];by_cases b:i+1=k - (k - l)
    .rw[RV b];rwa[L i P']
    .rw[RU b,RU P'];rwa[a i P']
def y9(b:1<=n):bY lt n (λq=>nU n q/\gf lt q n) (kas_sort n):=by
 erw[bY.bind (R:=λr:Nat×Array Nat=>nU n r.2/\1<=r.1/\r.1<=n/\gf lt r.2 r.1) (λr c=>?_)$ Du O (p:=ε (dg n)) (Ft P9) b];let(h,a,d,H):=c;by_cases g:r.1 < n
 .rw[RV g,Nat.max_eq_left a];rwa[Fe O _ h _ a P' H]
 .rw[RU g];rwa[h,by rw[show r.1=n by omega]at H;rwa[H]]
end
theorem sS:∀{p q:FA Int},p≠q->dJ p q=ξ->dJ q p=μ
 | [],[],h,_=>absurd Z h
 | [],_::_,_,z=>by cases z
 |_::_,[],_,_=>rfl
 |a::p,b::q,h,z=>by
  let z:(if a=b then dJ p q else decide (a < b))=ξ:=z;show(if b=a then dJ q p else decide (b < a))=μ;by_cases e:a=b
  .rw[RV e]at z;rw[RV e.symm];rwa[sS (λw=>h (by rw[e,w])) z]
  .rw[RU e]at z;rw[RU$ Sx e];let:=Vh z;rwa[R0 P']
theorem yx:∀{p q r:FA Int},dJ p q=μ->dJ q r=μ->dJ p r=μ
 | [],[],_,h,_=>by cases h
 | [],_::_,[],_,k=>by cases k
 | [],_::_,_::_,_,_=>rfl
 |_::_,[],_,h,_=>by cases h
 |_::_,_::_,[],_,k=>by cases k
 |a::p,b::q,c::r,h,k=>by
  let h:(if a=b then dJ p q else decide (a < b))=μ:=h;let k:(if b=c then dJ q r else decide (b < c))=μ:=k;show(if a=c then dJ p r else decide (a < c))=μ;by_cases e:a=b
  .rw[RV e]at h;by_cases E:b=c
   .rw[RV E]at k;rw[RV$ e.trans E];rwa[yx h k]
   .rw[RU E]at k;rw[RU P'];let:=SF k;rwa[R0 P']
  .rw[RU e]at h;let h:=SF h;by_cases E:b=c
   .rw[RU P'];rwa[R0 P']
   .rw[RU E]at k;let k:=SF k;rw[RU P'];rwa[R0 P']
def YN{p:FA (FA Int)}(n:p.Nodup){i j:Nat}(h:i < ο p)(H:j < ο p)(e:p.getD i []=p.getD j []):i=j:=by rw[RY,RY,RI h,RI H]at e;exact(Vy h n).mp (by rw[RI h,RI H];rwa[SQ δ e])
def XL{p:FA (FA Int)}(N:p.Nodup):O5 (λi j=>dJ (p.getD i []) (p.getD j [])) p.length:=
 #[λi j H c n h=>sS (λe=>n (YN N H c e)) h,λi j k _ _ _ a b=>yx a b,λi j _ _ a=>JJ a]
def QV(p:FA (FA Int)):(dg p.length).map (λi=>p.getD i [])=p:=by
 erw[Wu λi=>?_];rw[RX];by_cases h:i < ο p
 .rw[List.getElem?_range h,RI h];show δ (p.getD i [])=_;rw[RY,RI h];rfl
 .rw[SM (by rw[UC];omega),SM P'];rfl
def ZA{a b:FA (FA Int)}(c:a.Pairwise λx y=>dJ x y=μ)(d:b.Pairwise λx y=>dJ x y=μ)(h:a.Perm b):a=b:=
 h.eq_of_pairwise (λx y _ _ e H=>by rw[JJ e]at H;cases H) c d
section
variable {X:Cx}
inductive pW(K:γ)(d:FA V)(H:Hp)(Q:VK):Prop
 |mk(l:η)(c:FA V)(b:FA (FA Int))(_:d=[.ref l])(_:aE K H l c)(_:ο c=ο b)(_:ο c < 64)(_:∀(i:Nat) (v:V) (p:FA Int),c[i]?=δ v->b[i]?=δ p->∃a:η,v= .ref a/\H a= ~~~(p.map Da)/\p≠[])(_:b.Nodup)(_:∀(r:η) (ws:FA V) (qs:FA (FA Int)),H r=ι->qs.Perm b->(qs.Pairwise λx y=>dJ x y=μ)->ο ws=ο qs->(∀(i:Nat) (v:V) (p:FA Int),ws[i]?=δ v->qs[i]?=δ p->∃a:η,v= .ref a/\H a= ~~~(p.map Da)/\p≠[])->Q (.ref r) (af H r (.lst ws)))
def kQ:dy X (.builtin "sorted") (pW X.K):=by
 intro C s σ H xs us Q I r h;let(l,vs,ps,rfl,hl,J,M,N,nd,k):=h;let(u,rfl,rx):=eG r;cases rx;let(b,R,P,_):=I.list hl;let L:=R.length;let f:∀(o:FA ζ) (W:FA V) (t:FA (FA Int)),aw W o->ο W < 64->t.Perm ps->(t.Pairwise λx y=>dJ x y=μ)->ο W=ο t->(∀(i:Nat) (v:V) (p:FA Int),W[i]?=δ v->t[i]?=δ p->∃a:η,v= .ref a/\H a= ~~~(p.map Da)/\p≠[])->EP X C σ Q (.ref$ -s+1) (s<|sortedAll s.heap b o.toArray):=λo W t rw lw g1 g2 g3 g4=>by let(c,hc):=sortedAll_at s.heap b o.toArray;rwa[.ref$ -s+1,_,I.laid (t':=s.toks) (λ_ _ e=>sortedAll_old e) (SY _) (show aK X.prog X.w _ _ _ (.lst W) from #[by rw[TK];omega,o,c,rw,hc]),Z,k _ W t (I.hok.fresh$ SY _) g1 g2 g3 g4]
 let pk:∀i,i < ο vs->∃v u,vs[i]?=δ v/\b[i]?=δ u/\aB v u:=λi d=>by let(u',D,A):=R.get (RI d);rwa[_,u',RI d,D,A]
 by_cases F:2<=ο b
 .refine Ed (vs:=b) (ps:=ps) P.isList P' F P' (λi v p G O=>?_) (y9 (XL nd) P') λp T=>?_
  .let d:i < ο vs:=by let:=(ν.mp G).1;omega
   let(v',u',D,A,U):=pk i d;rw[G]at A;cases A;let(a,ea,ha,hn):=N i v' p D O;subst ea;cases U;rwa[Zz I ha,hn]
  .let(S,Y):=T;let n:∀x∈p.toList,x < ο ps:=λx B=>by simpa using S.pm.mem_iff.mp B
   erw[f _ (p.toList.map λi=>vs.getD i .non) (p.toList.map λi=>ps.getD i []) ?_ (by rw[RJ,Sb,S.z];omega) ?_ ?_ (by rw[RJ,RJ]) (λi v q e1 e2=>?_)]
   .generalize p.toList=l at n;induction l with
    |nil=>rwa[.nil]
    |cons i l ih=>have d:=n i Sa;let(v,u,D,A,U):=pk i P';erw[.cons ?_$ ih λx B=>n x (Sd _ B)];show aB (vs.getD i V.non) (b.getD i Ξ);rw[RY,RY,D,A];rwa[U]
   .let z:=S.pm.map (λi=>ps.getD i []);rw[QV]at z;rwa[z]
   .rw[Vv];intro i j d hj h0;rw[RJ,Sb,S.z]at d hj;let z:=Jz (XL nd) S (RO _) Y h0 hj;let g:∀(m:Nat) (n:m < ο ps) (h1:m < (p.toList.map λi=>ps.getD i []).length),(p.toList.map λi=>ps.getD i [])[m]'h1=ps.getD (p.getD m 0) []:=λm n h1=>by rw[WF];congr 1;simp [Array.getD,show m < p.size by rw[S.z];exact n]
    rw[g i d,g j hj];rwa[z]
   .rw[RX]at e1 e2;let(x,B,rfl):=cJ.mp e1;rw[B]at e2;cases e2;let h3:=n x (Sc B);let G:vs[x]?=δ (vs.getD x .non):=by rw[RY,RI P'];rfl
    let O:ps[x]?=δ (ps.getD x []):=by rw[RY,RI h3];rfl
    rwa[N x _ _ G O]
 .match b,R,P,L,f,F with
  | [],R,P,L,f,_=>have e:ps=[]:=mT.mp (by rw[<- J];rwa[L]);erw[ur (P.isList:)$ f [] [] [] .nil Ra (by rw[e]) .nil Z (λi v p h=>by simp at h)]
  | [v],R,P,L,f,_=>
   let l1:ο ps=1:=by rw[<- J];rwa[L]
   erw[ut (P.isList:)$ f [v] vs ps R M (Tt _) ?_ J N]
   match ps,l1 with
   | [x],_=>rwa[List.pairwise_singleton _ _]
  |v1::v2::E,R,P,L,f,F=>rwa[absurd (by show 2<=ο E+2;omega) F]
end
end _L
namespace _L
open PySem PySem.W PySem.Spec PyProof.Rows PySem.SeqAt
theorem sO:∀(p q:FA Int),HT.lexLt p q=dJ p q
 | [],[] | [],_::_ |_::_,[]=>rfl
 |x::p,y::q=>by show(if x=y then HT.lexLt p q else _)=(if x=y then dJ p q else _);rw[sO p q]
theorem YO:∀(p:FA Int),dJ p p=ξ
 | []=>rfl
 |x::p=>by show(if x=x then dJ p p else _)=ξ;rw[RV Z,YO p]
section
variable {prog:Δ}{w:cv}{A:bU}{E:ζ->θ->Prop}{s:θ}{Q:Bool->θ->Prop}
def nV.tup{h:df}{a:η}{p:FA Int}(x:nV h (.ref a) p):∃u:Array ζ,h.IsTuple a u/\aw (p.map Da) u.toList:=by let(f,o,u,n,e,H,b,c,d):=x;cases e;rwa[u,#[o,H,b,n,c],d]
def nV.uniq{h:df}{a:η}{p q:FA Int}(x:nV h (.ref a) p)(y:nV h (.ref a) q):p=q:=by let(i,o,U,n,e,H,j,c,d):=x;let(l,O,u,N,f,k,m,K,g):=y;cases e;cases f;rw[H]at k;cases k;rw[c]at K;cases K;let z:=aw.inj d g;exact(List.map_inj_right (λa b e=>by injection e)).mp z
def xS{a b:η}{p q:FA Int}(l:A.units < cLine)(H:nV s.heap (.ref a) p)(c:nV s.heap (.ref b) q):EqAt A s (.ref a) (.ref b) (decide$ p=q):=by
 by_cases e:a=b
 .subst e;rw[R0$ H.uniq c];rwa[EqAt.same _]
 let(u,t,V):=H.tup;let(v,T,d):=c.tup;let L:ο p=u.size:=by let:=V.length;rw[RJ]at this;simpa using this
 let m:ο q=v.size:=by let:=d.length;rw[RJ]at this;simpa using this
 erw[.of_refs e ?_];let h:=RcAt.tuples (A:=A) (e:=λj=>decide (p[j]?=q[j]?)) t T l (λj C D=>?_)
 .let z:((dg$ min u.size v.size).all (λj=>decide (p[j]?=q[j]?))&&u.size==v.size)=decide (p=q):=by
   rw[<- L,<- m];by_cases k:p=q
   .subst k;simp
   .rw[RW k,Wv];intro z;rw[Tp,Vd,beq_iff_eq]at z;erw[k$ Wu λi=>?_];by_cases F:i < ο p
    .rwa[SF$ z.1 i$ mu.mpr P']
    .rw[SM P',SM P']
  rw[z]at h;rwa[h]
 .let g:j < ο p:=by omega
  let G:j < ο q:=P'
  let(U,n,r):=V.get (i:=j) (x:=.int p[j]) (by rw[RX,RI g];rfl);let(f,o,R):=d.get (i:=j) (x:=.int q[j]) (by rw[RX,RI G];rfl);let y:u[j]=U:=by let(_,e):=ν.mp n;simpa using e
  let B:v[j]=f:=by let(_,e):=ν.mp o;simpa using e
  rw[y,B];show EqAt A.in1 s U f (decide$ p[j]?=q[j]?);rw[RI g,RI G];let:=vg (A:=A.in1) (s:=s) r R;simpa using this
inductive Ck(h:df)(v:ζ)(p q:FA Int):Prop
 |mk(x o a b n:_)(_:v= .ref x)(_:h.get? x=δ o)(_:o.cls= .type "tuple")(_:o.data= .seq (ε [.ref a,.ref b]) n)(_:nV h (.ref a) p)(_:nV h (.ref b) q)
def Nu{x y:ζ}{p q P l:FA Int}(H:A.units < cLine)(m:Ck s.heap x p q)(r:Ck s.heap y P l)(N:p=P->x=y)(h:Q (dJ p P) s):!A (keyLt' (tuples' ξ) x y) Q E s:=by
 let(a,o,z,B,n,rfl,c,_,d,f,g):=m;let(b,O,C,D,F,rfl,k,_,K,i,j):=r;erw[kat_lt c d k K$ kat_cons$ xS H f i prog w _ _ ?_];by_cases e:p=P
 .cases N e;rw[c]at k;cases k;rw[d]at K;cases K;let t:=g.uniq j;rw[R0 e];erw[kat_yes$ kat_cons$ xS H g j prog w _ _ ?_];rw[R0 t];erw[kat_yes$ kat_nil ?_];rw[<- e,YO]at h;rwa[h]
 .rw[RW e];erw[kat_no$ kat_one _ _ ?_];let(U,T,v):=f.tup;let(G,u,V):=i.tup;erw[HT.lt_tupInts T u (QA v) (QA V) H ?_];rw[sO];rwa[h]
theorem Bz{h:df}:∀{vs:FA ζ} {ps:FA (FA Int×FA Int)},ο vs=ο ps->(∀(i:Nat) (v:ζ) (p:FA Int×FA Int),vs[i]?=δ v->ps[i]?=δ p->Ck h v p.1 p.2)->∃F:FA ζ,ο F=ο vs/\(∀f∈F,∃a p,f= .ref a/\nV h (.ref a) p)/\KatTups h vs F
 | [],[],_,_=>#[[],Z,λ_ z=>(nomatch z),trivial]
 | [],_::_,e,_ |_::_,[],e,_=>by cases e
 |v::vs,p::ps,e,k=>by
  let(F,d,g,j):=Bz (vs:=vs) (ps:=ps) (e:) λi v p H c=>k (i+1) v p (H:) (c:);let(x,o,a,b,n,rfl,H,c,l,m,_):=k 0 v p Z Z;exact#[.ref a::F,by simp [d],λf hf=>by
   rcases ω.mp hf with rfl |hf
   .exact#[a,12,m]
   .rwa[g f hf],KatTups.cons H c l Z j]
def pO{a:η}{V:FA ζ}{n:Nat}{L:Nat->Nat->Bool}{T:ζ}{P:Fin->θ->Prop}(g:s.heap.get? a=δ (seqObj "list" V.toArray n))(u:2<=ο V)(l:ο V < 64)(x:(T==T)=μ)
  (y:∀H:df,(∀c v,c≠a->s.heap.get? c=δ v->H.get? c=δ v)->(∃F:FA ζ,ο F=ο V/\(∀f∈F,Looks (χ prog w) H (typeOf f) T)/\KatTups H V F)/\
   ∀i j (C:Bool->θ->Prop) (z:ζ->θ->Prop),i < ο V->j < ο V->C (L i j) (s<|H)->!A (keyLt' (tuples'$ T != dO "tuple") (V.getD i Ξ)$ V.getD j Ξ) C z (s<|H)) {R:Array Nat->Prop} (B:bY L V.length R (kas_sort V.length))
  (h:∀p,R p->P (.done$ .ret .none) (s<|sortedHeap s.heap a V (p.toList.map λi=>V.getD i Ξ).toArray)):
  !A (dw.«list.sort» #[[.ref a],[]]) P E s:=by
 rw[Wi];let la:a < -s:=RT g;apply WP g Z ?_;apply UG g Z ?_;obtain⟨m,o⟩:∃m,(s.heap.update a$ Ω λ_=>(ε [])).get? a=δ (seqObj "list" (ε []) m):=#[_,Wj g (λ_=>(ε []))];apply U' o Z ?_;apply UO ?_ (by show ο V<=_;rw[TK];omega);apply Uq ?_;erw[Sj ?_];let q:(((s.heap.update a$ Ω λ_=>(ε [])).push$ seqObj "tuple" V.toArray 0).push$ seqObj "list" (ε []) 0).get? a=δ (seqObj "list" (ε []) m):=RL _ (RL _ o);let k:∀c v,c≠a->s.heap.get? c=δ v->(((s.heap.update a$ Ω λ_=>(ε [])).push$ seqObj "tuple" V.toArray 0).push$ seqObj "list" (ε []) 0).get? c=δ v:=λc v N e=>
  RL _ (RL _ (by rw[Vl _ _ _ _ N];rwa[e]))
 show !A _ P E (s<|((s.heap.update a$ Ω λ_=>(ε [])).push$ seqObj "tuple" V.toArray 0).push (seqObj "list" (ε []) 0));dsimp only;obtain⟨⟨F,f1,D,I⟩,J⟩:=y _ k;let b:¬V.toArray.size < 2:=by rw[RS];omega
 rw[RU b,RU b];apply kat_kind (T:=T) I P' D x ?_;refine RG (Ti (kat_run (Q:=λS d=>d=(s<|((s.heap.update a$ Ω λ_=>(ε [])).push$ seqObj "tuple" V.toArray 0).push (seqObj "list" (ε []) 0))/\∃p,R p/\(arrOf S).map (·.2)=(p.toList.map λi=>V.getD i Ξ).toArray/\failedOf S=ι/\(arrOf S).size=ο V)
  (G:=λp d=>d=(s<|((s.heap.update a$ Ω λ_=>(ε [])).push$ seqObj "tuple" V.toArray 0).push (seqObj "list" (ε []) 0))/\R p) Z u l (λp S d K r M t=>#[t.1,p,t.2,?_,M,?_]) (bY.wp (n:=V.length) (R:=R) (λi j C O U W=>J i j C _ O U W) (λp H=>#[Z,H]) B)) ?_ λ_ _ e=>e)
 .rw[kat_snds Z r]
 .rw[r,V9,K]
 rintro ⟨⟨⟩,S⟩ d ⟨rfl,p,H,X,Y,q3⟩;dsimp only;apply U' q Z ?_;apply UG q Z ?_ (hsz2:=by rw[V9,q3,TK];omega);rw[Y];simp only[Tx,R8,Te];erw[RM ?_];rw[X];rwa[h p H]
def Ec{l:η}{vs:FA ζ}{lt:Nat->Nat->Bool}{T:ζ}{Q:ζ->θ->Prop}(n:s.heap.IsList l vs.toArray)(o:2<=ο vs)(a:ο vs < 64)(r:(T==T)=μ)
  (t:∀H:df,(∀c v,s.heap.get? c=δ v->H.get? c=δ v)->(∃F:FA ζ,ο F=ο vs/\(∀f∈F,Looks (χ prog w) H (typeOf f) T)/\KatTups H vs F)/\
   ∀(d:bU) i j (C:Bool->θ->Prop) (b:ζ->θ->Prop),d.units<=A.units+8->i < ο vs->j < ο vs->C (lt i j) (s<|H)->π (χ prog w) d (keyLt' (tuples'$ T != dO "tuple") (vs.getD i Ξ)$ vs.getD j Ξ) C b (s<|H)) {R:Array Nat->Prop} (u:bY lt vs.length R (kas_sort vs.length))
  (h:∀p,R p->Q (.ref$ -s+1) (s<|sortedAll s.heap vs (p.toList.map λi=>vs.getD i Ξ).toArray)):!A (call (.builtin "sorted") [.ref l]) Q E s:=by
 erw[Uh Wq Wc We (Wf _) ?_];unfold dw.«sorted»;erw[RG (m:=checkCount "sorted" 1 1 _)$ RM ?_];apply WQ n ?_ (by rw[TK];omega);apply Uq ?_ (by rw[TK];omega);let g:((s.heap.push$ seqObj "list" (ε []) 0).update (-s)$ Ω (·++vs.toArray)).objs.size=-s+1:=by rw[VO,WG]
 let G:(((s.heap.push$ seqObj "list" (ε []) 0).update (-s)$ Ω (·++vs.toArray)).push$ seqObj "list" vs.toArray 0).get? (-s+1)=δ (seqObj "list" vs.toArray 0):=by rw[<- g];rwa[RQ _ Z]
 let k:∀c v,s.heap.get? c=δ v->(((s.heap.push$ seqObj "list" (ε []) 0).update (-s)$ Ω (·++vs.toArray)).push$ seqObj "list" vs.toArray 0).get? c=δ v:=λc v e=>
  RL _ (by rw[Vl _ _ _ _$ R6$ RT e];rwa[RL _ e])
 show !_ _ _ _ (s<|((s.heap.push$ seqObj "list" (ε []) 0).update (-s)$ Ω (·++vs.toArray)).push (seqObj "list" vs.toArray 0));rw[g];apply Sj$ Sv VD #[_,G,Z] Vt (pO G o a r (λH K=>?_) u λp H=>#[12,?_]) (VF _)
 .let(z,c):=t H λc v e=>K c v (R6$ T3$ RT e) (k c v e);rwa[z,λi j C b x y q=>c _ i j C b (by simp only[PySem.Around.in1,PySem.Around.units];omega) x y q]
 .rwa[RM #[12,h p H]]
end
inductive LN(H:Hp)(v:V)(p:FA Int×FA Int):Prop
 |mk(q a b:_)(_:v= .ref q)(_:H q= ~~~[.ref a,.ref b])(_:H a= ~~~(p.1.map Da))(_:H b= ~~~(p.2.map Da))
section
variable {X:Cx}
def Lb{P:FA (η×gb)}{c:St}{H:Hp}{s:θ}(I:aq X P c H s){v:V}{u:ζ}{p:FA Int×FA Int}(h:LN H v p)(r:aB v u):Ck s.heap u p.1 p.2:=by
 let(q,a,b,rfl,d,e,f):=h;cases r;let(i,r,g,_):=I.tuple (aC.of (K:=X.K) d);let(o,E,j,n,k):=g;cases r with
 |cons l R=>
  cases R with
  |cons R m=>cases m;cases l;cases R;rwa[q,o,a,b,n,Z,E,j,k,Zz I e,Zz I f]
def Ck.keep{h H:df}{v:ζ}{p q:FA Int}(k:∀c o,h.get? c=δ o->H.get? c=δ o)(x:Ck h v p q):Ck H v p q:=by obtain⟨y,o,a,b,n,e,d,f,g,⟨A,O,u,N,E,K,i⟩,⟨B,j,U,l,m,r,s⟩⟩:=x;rwa[y,o,a,b,n,e,k _ _ d,f,g,#[A,O,u,N,E,k _ _ K,i],#[B,j,U,l,m,k _ _ r,s]]
inductive Aq(K:γ)(c:FA V)(H:Hp)(Q:VK):Prop
 |mk(l:η)(b:FA V)(a:FA (FA Int×FA Int))(_:c=[.ref l])(_:aE K H l b)(_:ο b=ο a)(_:ο b < 64)(_:∀(i:Nat) (v:V) (p:FA Int×FA Int),b[i]?=δ v->a[i]?=δ p->LN H v p)(_:(a.map (·.1)).Nodup)(_:∀(r:η) (ws:FA V) (qs:FA (FA Int×FA Int)),H r=ι->qs.Perm a->(qs.Pairwise λx y=>dJ x.1 y.1=μ)->ο ws=ο qs->(∀(i:Nat) (v:V) (p:FA Int×FA Int),ws[i]?=δ v->qs[i]?=δ p->LN H v p)->Q (.ref r) (af H r (.lst ws)))
def Yo(hu:X.A.units+16 < cLine):dy X (.builtin "sorted") (Aq X.K):=by
 intro N s σ H xs us Q I r h;let(l,vs,ps,rfl,hl,lp,h3,hp,nd,k):=h;let(u,rfl,rx):=eG r;cases rx;let(b,R,P,_):=I.list hl;let L:=R.length;let F:∀(O:FA ζ) (W:FA V) (D:FA (FA Int×FA Int)),aw W O->ο W < 64->D.Perm ps->(D.Pairwise λx y=>dJ x.1 y.1=μ)->ο W=ο D->(∀(i:Nat) (v:V) (p:FA Int×FA Int),W[i]?=δ v->D[i]?=δ p->LN H v p)->EP X N σ Q (.ref$ -s+1) (s<|sortedAll s.heap b O.toArray):=λO W D r0 h8 g1 g2 g3 g4=>by let(c,hc):=sortedAll_at s.heap b O.toArray;rwa[.ref$ -s+1,_,I.laid (t':=s.toks) (λ_ _ e=>sortedAll_old e) (SY _) (show aK X.prog X.w _ _ _ (.lst W) from #[by rw[TK];omega,O,c,r0,hc]),Z,k _ W D (I.hok.fresh$ SY _) g1 g2 g3 g4]
 let pk:∀i,i < ο vs->∃v u,vs[i]?=δ v/\b[i]?=δ u/\aB v u:=λi d=>by let(u',U,Y):=R.get (RI d);rwa[_,u',RI d,U,Y]
 let tq:∀i,i < ο b->∃p,ps[i]?=δ p/\Ck s.heap (b.getD i Ξ) p.1 p.2:=λi d=>by let(v,u,U,Y,q3):=pk i P';erw[ps[i]'P',RI _,?_];rw[RY,Y];rwa[Lb I (hp i v _ U$ RI P') q3]
 by_cases h2:2<=ο b
 .let lF:(ps.map (·.1)).length=ο b:=by rw[RJ];omega
  erw[Ec (vs:=b) (lt:=λi j=>dJ ((ps.map (·.1)).getD i []) ((ps.map (·.1)).getD j [])) (T:=.type "tuple") P.isList h2 P' Ra (λh0 kp=>#[?_,λA' i j C E' hA d G hC=>?_]) (by let z:=y9 (XL nd) P';rw[lF]at z;rwa[z]) λp h4=>?_]
  .let(fs,f1,f2,f3):=Bz (h:=h0) (vs:=b) (ps:=ps) P' λi v p a1 a2=>by let d:=(ν.mp a1).1;let(p',E,t):=tq i d;rw[a2]at E;cases E;rw[RY,a1]at t;exact t.keep kp
   erw[fs,f1,λf hf=>?_,f3];let(a,p,rfl,a',o,us,n,ea,b1,b2,_):=f2 f hf;cases ea;rw[<- b2];exact(Looks.ld b1).andThen .now
  .let(p,E,t1):=tq i d;let(q,J,t2):=tq j G;refine Nu (s:=(s<|h0)) P' (t1.keep kp) (t2.keep kp) (λe=>?_) ?_
   .let:i=j:=YN nd (by rw[lF];rwa[d]) (by rw[lF];rwa[G]) (by rw[RY,RY,RX,RX,E,J];rwa[e]);rw[this]
   .let z:dJ ((ps.map (·.1)).getD i []) ((ps.map (·.1)).getD j [])=dJ p.1 q.1:=by rw[RY,RY,RX,RX,E,J];rfl
    rw[<- z];rwa[hC]
  .let(S,a0):=h4;let B:∀x∈p.toList,x < ο ps:=λx M=>by let z:=S.pm.mem_iff.mp M;rw[mu]at z;omega
   erw[F _ (p.toList.map λi=>vs.getD i .non) (p.toList.map λi=>ps.getD i ([],[])) ?_ (by rw[RJ,Sb,S.z];omega) ?_ ?_ (by rw[RJ,RJ]) (λi v q E J=>?_)]
   .generalize p.toList=l at B;induction l with
    |nil=>rwa[.nil]
    |cons i l ih=>have d:=B i Sa;let(v,u,U,Y,q3):=pk i P';erw[.cons ?_$ ih λx M=>B x (Sd _ M)];show aB (vs.getD i V.non) (b.getD i Ξ);rw[RY,RY,U,Y];rwa[q3]
   .let z:=S.pm.map (λi=>ps.getD i ([],[]));let e:(dg b.length).map (λi=>ps.getD i ([],[]))=ps:=by erw[VL (by rw[RJ,UC];omega) λi h1 h2=>?_];rw[WF,List.getElem_range,RY,RI h2];rfl
    rw[e]at z;rwa[z]
   .rw[Vv];intro i j d G h5;rw[RJ,Sb,S.z]at d G;let z:=Jz (by let z:=XL nd;rw[lF]at z;rwa[z]) S (RO _) a0 h5 G;let g:∀(m:Nat) (B:m < ο b) (h6:m < (p.toList.map λi=>ps.getD i ([],[])).length),((p.toList.map λi=>ps.getD i ([],[]))[m]'h6).1=(ps.map (·.1)).getD (p.getD m 0) []:=λm B h6=>by
     let E:p.toList[m]'(by rw[Sb,S.z];rwa[B])=p.getD m 0:=by simp [Array.getD,show m < p.size by rw[S.z];rwa[B]]
     rw[WF,E,RY,RY,RX];cases ps[p.getD m 0]?<;>rfl
    rw[g i d,g j G];rwa[z]
   .rw[RX]at E J;let(x,M,rfl):=cJ.mp E;rw[M]at J;cases J;let h7:=B x (Sc M);let a1:vs[x]?=δ (vs.getD x .non):=by rw[RY,RI P'];rfl
    let a2:ps[x]?=δ (ps.getD x ([],[])):=by rw[RY,RI h7];rfl
    rwa[hp x _ _ a1 a2]
 .clear tq pk
  match b,R,P,L,F,h2 with
  | [],R,P,L,F,_=>have e:ps=[]:=mT.mp (by rw[<- lp];rwa[L]);rwa[ur (P.isList:)$ F [] [] [] .nil Ra (by rw[e]) .nil Z (λi v p h=>by simp at h)]
  | [v],R,P,L,F,_=>
   let l1:ο ps=1:=by rw[<- lp];rwa[L]
   erw[ut (P.isList:)$ F [v] vs ps R h3 (Tt _) ?_ lp hp]
   match ps,l1 with
   | [x],_=>rwa[List.pairwise_singleton _ _]
  |_::_::r,R,P,L,F,h=>rwa[absurd P9 h]
end
end _L
namespace _L
open PySem PySem.Spec PyProof.Rows
section
#print v
def yk{I D:η}{i n b:Nat}{o:gb}{a}{Q:FC ζ->θ->Prop}(k:s.heap.IsKeyIter I D i n b)(e:s.heap.get? D=δ o)(f:o.data= .dict a b)(z:a.size=n)(H:i < a.size)
  (q:∀h,h.IsKeyIter I D (i+1) n b->eC I s.heap h->Q (δ a[i].key) (s<|h)):!A (pyNext$ .ref I) Q E s:=by
 let(u,c,C,d):=id k;let N:Builtin.Dict_items.ownsTuple "dict_keyiterator"=ξ:=Ra
 let K:(s.heap.update I$ fy (·.setIfInBounds 1 (rawInt ((i:Int)+1)))).IsKeyIter I D (i+1) n b:=
  #[_,SH _ c$ Ta$ Sy d _,(UD ..).trans C,by rw[Sy d];simp [rawInt]]
 unfold pyNext;apply Ur$ SD (name:=Str.ofString "__next__") k.typeIs T8$ Sv T8 k.typeIs V' (RG$ RM ?_)$ V8 _;apply RG ?_;first |refine RG (Ux k.typeIs$ RM ?_) |refine RG (U4 k.typeIs$ RM ?_)
 apply Vf c d ?_;rw[N,RU RZ];show !_ (if (Φ D==Ξ)=μ then _ else _) _ _ s;rw[RU (show ¬((Φ D==Ξ)=μ) from RZ)];apply RM$ RG$ WO e f ?_;rw[RU (by rw[z];simp)];apply RM$ RG$ wpAny_dictEpoch e f ?_;rw[RU P9];erw[RM ?_];simp only[show ¬((i:Int) < 0) from by omega,Te,SJ,TB H];erw[RG ?_];first |refine RG (Ux k.typeIs$ RM ?_) |refine RG (U4 k.typeIs$ RM ?_)
 apply wpAny_isOneOf_keyiter k.typeIs ?_;show !_ (setField (.ref I) 1 (rawInt ((i:Int)+1)) >>= _) _ _ s;apply SR c d P9$ RG$ Sj ?_;apply wpAny_isOneOf_keyiter (s:=(s<|s.heap.update I (fy (·.setIfInBounds 1 (rawInt ((i:Int)+1)))))) K.typeIs ?_;show !_ (pure a[i].key) _ _ _;rwa[RM$ RM #[12,RM$ q _ K$ Tv ..]]
def CS{I D:η}{i n d:Nat}{o:gb}{c}{Q:FC ζ->θ->Prop}(H:A.handled=ι)(k:s.heap.IsKeyIter I D i n d)(e:s.heap.get? D=δ o)(f:o.data= .dict c d)(z:c.size=n)(l:c.size<=i)
  (q:∀h,mL I s.heap h->Q ι (s<|h)):!A (pyNext$ .ref I) Q E s:=by
 let(u,g,C,j):=id k;let N:Builtin.Dict_items.ownsTuple "dict_keyiterator"=ξ:=Ra
 unfold pyNext;apply Ur$ SD (name:=Str.ofString "__next__") k.typeIs T8$ Sv T8 k.typeIs V' (RG$ RM ?_)$ V8 _;apply RG ?_;first |refine RG (Ux k.typeIs$ RM ?_) |refine RG (U4 k.typeIs$ RM ?_)
 apply Vf g j ?_;rw[N,RU RZ];show !_ (if (Φ D==Ξ)=μ then _ else _) _ _ s;rw[RU (show ¬((Φ D==Ξ)=μ) from RZ)];apply RM$ RG$ WO e f ?_;rw[RU (by rw[z];simp)];apply RM$ RG$ wpAny_dictEpoch e f ?_;rw[RU P9];erw[RM ?_];simp only[show ¬((i:Int) < 0) from by omega,Te,SJ,U5 l];erw[RG ?_];first |refine RG (Ux k.typeIs$ RM ?_) |refine RG (U4 k.typeIs$ RM ?_)
 show !_ (setField (.ref I) 0 .none >>= _) _ _ s;apply SR g j P9 ?_;show !_ (newExc (.type "StopIteration") [] >>= _) _ _ _;erw[RG ?_];simp only[newExc,newTuple];apply SE (RG (m:=firstArgMember _ _)$ Vn (a:=Ξ) (by first |rfl | (simp only[firstArgMember];rfl))$ SE ?_ (by size_fits)) (by size_fits);unfold raiseNew;apply wpAny_handled ?_;rw[show A.in1.handled=ι from H];apply RM$ wpAny_throw ?_;apply Ug (b:=μ) (T:="StopIteration") #[_,RQ _ Z,Z] VE ?_;rwa[RM$ q _ (((Tv ..).extBut.push _).push _)]
def YQ{D:η}{a:Nat}{O:gb}{c}{Q:ζ->θ->Prop}(H:(D==sysModules)=ξ)(e:s.heap.get? D=δ O)(f:O.ExactDict)(d:O.data= .dict c a)
  (q:∀h:df,(∀b o,s.heap.get? b=δ o->h.get? b=δ o)->h.IsKeyIter (-s) D 0 c.size a->Q (.ref (-s)) (s<|h)):!A (pyIter$ .ref D) Q E s:=by
 let t:s.TypeIs (.ref D) "dict":=#[O,e,f.1];erw[VX t xa$ Sv xa t PySem.F.entry_dict_iter ?_$ PySem.F.args_dict_iter_1 _];unfold dw.«dict.__iter__»;erw[RG ?_];unfold Builtin.Dict.dictSlotNone;apply wpAny_notOrdered_dict t ?_;show !_ (pure$ Φ D) _ _ s;erw[RM ?_];show !_ (Builtin.Dict.showsAll D >>= _) _ _ s;unfold Builtin.Dict.showsAll;rw[RU (by rw[H];rwa[RZ])];apply RM$ RG$ WO e d$ RG$ wpAny_dictEpoch e d ?_;apply SE$ RM #[12,"dict_keyiterator",_,#[_,RQ _ Z,Z],(PySem.F.slot_dict_keyiterator_next).lookup,?_];rwa[q _ (λb o z=>RL _ z) #[_,RQ _ Z,Z,by simp [rawInt]]]
end
section
variable {X:Cx}{pins:FA (η×gb)}{σ:St}{H:Hp}{s:θ}
def aq.freezeT{a:η}{o:gb}{K:FA (FA a9×V)}(I:aq X pins σ H s)(e:H a=δ (.dT K))(l:s.heap.get? a=δ o):aq X pins σ (af H a$ .frz o$ .dT K) s:=by
 let f:∀b,H b=ι->b≠a:=λb n z=>by rw[z,e]at n;cases n
 let N:∀b u,H b=δ u->u≠ .dT K->b≠a:=λb u q d z=>by rw[z,e]at q;rwa[d (SK q).symm]
 erw[I.ok,I.os,I.bare,#[I.base.keep,I.base.slot,λb O q n i=>?_,I.base.there,λb g q=>?_,λb O u q=>?_,λb P q=>?_],I.loc,I.cell,?_,λx c q=>?_,λp h=>?_,λb u q=>?_,I.len]
 .rw[jh$ f b$ I.base.free b O q n i];rwa[I.base.free b O q n i]
 .rw[jh$ N b _ (I.base.tups b g q) (by intro k;cases k)];rwa[I.base.tups b g q]
 .rw[jh$ N b _ (I.base.frzs b O u q) (by intro k;cases k)];rwa[I.base.frzs b O u q]
 .let(m,z):=I.base.tbls b P q;rwa[m,by rw[jh$ N b _ z (by intro k;cases k)];rwa[z]]
 .rw[jh$ f _ I.free];rwa[I.free]
 .rw[jh$ f _$ I.freeC x c q];rwa[I.freeC x c q]
 .exact#[(I.pin p h).1,by rw[jh$ f _ (I.pin p h).2.1];exact(I.pin p h).2.1,(I.pin p h).2.2]
 .by_cases j:b=a
  .subst j;rw[jc]at q;cases q;refine#[l,(I.hok b _ e).stay (λ_ _ _ z=>z) (λc z=>?_) λc g z=>?_]
   .rw[jh$ N c _ z (by intro k;cases k)];rwa[z]
   .rw[jh$ N c _ z (by intro k;cases k)];rwa[z]
  .rw[jh j]at q;exact(I.hok b u q).stay (λ_ _ _ z=>z) (λc z=>by rw[jh$ N c _ z (by intro k;cases k)];rwa[z]) λc g z=>by rw[jh$ N c _ z (by intro k;cases k)];rwa[z]
def wY(a:η)(o:gb)(K:FA (FA a9×V)):It:=
 #[λi H=>i < ο K/\H a=δ (.frz o$ .dT K),λi H x h=>h=H/\∃b k v,K[i]?=δ (k,v)/\x= .ref b/\H b= ~~~(k.map kV),λi H=>i=ο K/\H a=δ (.frz o$ .dT K)]
theorem KT.get:∀{K:FA (FA a9×V)} {x:FA (FA a9×η×ζ)},KT H K x->∀{i:Nat},i < ο K->∃k v b u,K[i]?=δ (k,v)/\x[i]?=δ (k,b,u)/\H b= ~~~(k.map kV)
 |_,_,.nil,_,h=>absurd h (Uv _)
 |_,_,.cons (a:=p) (b:=q) r t,0,h=>#[p.1,p.2,q.2.1,q.2.2,Z,by let(e,_):=r;rw[e];rfl,r.2.1]
 |_,_,.cons r t,i+1,h=>by let(k,v,b,u,c,d,f):=KT.get t (i:=i) (Nat.lt_of_succ_lt_succ h);rwa[k,v,b,u,(c:),(d:),f]
def QI{P:Δ}{w:cv}{K:γ}{W:dr}{a f:η}{o:gb}{g:FA (FA a9×V)}{l:Array PySem.DictEntry}{L:Nat}(p:o.data= .dict l L)(M:l.size=ο g):
  oh P w K W (wY a o g) [f] f (λi h=>h.IsKeyIter f a i g.length L) where
 mem:=by simp
 obj:=λi h st b j=>by
  let e:b=f:=by simpa using j
  subst e;let(o,e,c,d):=st;rwa[o,e,λv z=>by rw[d]at z;cases z]
 keep:=λi h r st k=>st.at λo e=>k f P9 o e
 item:=by
  intro X t x y N i pins s σ H E I m st A;subst t x y;let(O,B):=A;let(n,_,_,xs,R,o',Y,e0,Q,e2,T,e4,e5):=I.hok a _ B;rw[n]at Q;cases Q;rw[p]at T;cases T;let(k,v,b,u,h1,h2,h3):=KT.get R O;let(F,C,f2,D,G,J):=m f P9;let ek:l[i]'P'=entryOfKey (tupleKind$ aP X.prog X.w) (k,b,u):=by
   let z:l.toList[i]?=δ (entryOfKey (tupleKind$ aP X.prog X.w) (k,b,u)):=by rw[e4,RX,h2];rfl
   let U:l[i]?=δ (entryOfKey (tupleKind$ aP X.prog X.w) (k,b,u)):=by simpa using z
   rw[TB P']at U;rwa[SK U]
  erw[yk st n p M P' λr S sb=>?_];let I1:aq X pins σ H (s<|r):=I.turned (t':=s.toks) (λb q j e=>(sb.2 b j).trans e) F C D G J;erw[.ref b,by rw[ek];rfl,?_];let(oi,ei,ci,di):=id S;rwa[Yr ei ci di Ra #[.ref b,H,I1,Z,#[Z,b,k,v,h1,Z,h3],S,λb j=>(m b j).1]]
 done:=by intro X t x y N i pins s σ H E I m st A;subst t x y;let(O,B):=A;let n:s.heap.get? a=δ o:=(I.hok a _ B).1;let(F,C,f2,D,G,J):=m f P9;rwa[CS (I.ok.hd N) st n p M P' λr eb=>#[Z,I.turned (t':=s.toks) (λb q j e=>eb b q j e) F C D G J]]
 self:=λ_ _ _ _ _ st h=>wpAny_pyIter_keyiter st h
inductive sC(R:It->Hp->Prop)(x:V)(c:Hp):Prop
 |mk(a b:_)(_:x= .ref a)(_:c a=δ (.dT b))(_:∀o,R (wY a o b) (af c a (.frz o (.dT b))))
def Gy(t:TE):TI:=λσ H R=>t σ H (sC R)
inductive su(R:It->Hp->Prop)(x:V)(c:Hp):Prop
 |mk(a o b:_)(_:x= .ref a)(_:c a=δ (.frz o (.dT b)))(_:R (wY a o b) c)
def Gx(t:TE):TI:=λσ H R=>t σ H (su R)
def Ah{T l:dr}{t:TE}(n:PE X l t):PI X T l (Gx t):=by
 intro pins s σ H R I h;erw[aS (n pins s σ H _ I h) λv S z=>?_];let(x,F,i,p,a,o,k,u,w,q):=z;subst u;cases p;let(E,_,d,G,r,O,y,J,f,A,g,B,K):=id (i.hok a _ w);rw[E]at f;cases f;let j:y.size=ο k:=by let m:=SQ hJ B;rw[RJ,Sb]at m;rw[m,<- r.length]
 erw[YQ d E A g λL C c=>?_];rw[j]at c;erw[-S,[-S],1112,i.kept (t':=S.toks) C,QI g j,c,λb D=>?_,q];let e:b=-S:=by simpa using D
 subst e;rwa[i.fpOk (RO _)$ i.hok.fresh$ RO _]
def Ai{T l:dr}{t:TE}(p:PE X l t):PI X T l (Gy t):=by
 intro pins s σ H R I h;erw[aS (p pins s σ H _ I h) λv S z=>?_];let(x,F,f,u,a,k,w,g,q):=z;subst w;cases u;let(_,d,G,r,o,y,J,E,A,j,B,K):=id (f.hok a _ g);let i:=f.freezeT g E;let m:y.size=ο k:=by let n:=SQ hJ B;rw[RJ,Sb]at n;rw[n,<- r.length]
 erw[YQ d E A j λL C c=>?_];rw[m]at c;erw[-S,[-S],1112,i.kept (t':=S.toks) C,QI j m,c,λb D=>?_,q o];let e:b=-S:=by simpa using D
 subst e;rwa[i.fpOk (RO _)$ i.hok.fresh$ RO _]
def vk{a:η}{o:gb}{K:FA (FA a9×V)}{g:TG}{t:TS}{D:a8}{σ:St}{H:Hp}(Pv:Nat->St->Hp->Prop)(j:Pv 0 σ H)(n:∀i σ H,Pv i σ H->H a=δ (.frz o$ .dT K))
  (r:∀E:a8,E.rt=D.rt->∀i b k v σ H,K[i]?=δ (k,v)->H b= ~~~(k.map kV)->(∀c d,Pv (i+1) c d->E.nx c d)->∀G:Prop,((g (.ref b) σ H λf u=>t E f u)->G)->Pv i σ H->G) (w:∀σ H,Pv K.length σ H->D.nx σ H):pj (wY a o K) g t D σ H:=by
 erw[λi m σ H=>m=ο K - i/\i<=ο K/\Pv i σ H,#[K.length,Z,R4 _,j],?_];rintro i m σ H ⟨rfl,C,p⟩;let q:=n i σ H p;by_cases l:i < ο K
 .erw[.inr #[#[l,q],Pv$ i+1,λc d P=>#[ο K - (i+1),N09,Z,l,P],λx d y=>?_]];let(rfl,b,k,v,A,rfl,B):=y;rwa[r { D with nx:=Pv (i+1),ct:=Pv (i+1),bk:=D.nx } Z i b k v σ d A B (λ_ _ h=>h) _ (λz=>z) p]
 .let e:i=ο K:=by omega
  rwa[.inl #[#[e,q],w _ _ (by rw[<- e];rwa[p])]]
end
end _L
namespace _L
open PySem PySem.Spec PyProof.Rows
def bX.m(r:bX k A)(h:autoParam (j<=k) P'._auto_1):bX j A:=r.mono h
def bP{N P:FA ρ}{s:gO}(a:↥(s.kind=.function))(b:↥(s.isCoroutine=ξ))(c:↥(s.isGenerator=ξ))(d:autoParam N.Nodup P8._auto_1)(e:↥(N.take (ο P)=P))(f:autoParam (∀x∈P,s.names.lookup x=δ .local ∨ s.names.lookup x=δ .cell) P8._auto_1)(g:autoParam (∀y∈s.names,y.2≠.free) P8._auto_1):al N P s:=#[a,b,c,d,e,f,g]
def pe{N:FA ρ}{s t:gO}{M:FA ρ}{i:FA Nat}(a:autoParam (∀y∈t.names,y.2≠.cell) P8._auto_1)(b:↥(t.kind=.function))(c:autoParam (∀y∈t.names,y.2=.local->t.names.lookup y.1=δ .local) P8._auto_1)(d:autoParam (∀y∈t.names,y.2=.free->s.names.lookup y.1=δ .cell) P8._auto_1)(e:autoParam (M.drop n=i.map (λi=>N.getD i Str.empty)) P8._auto_1)(f:↥(ο M=n+ο i))(g:autoParam (∀j∈i,t.names.lookup (N.getD j Str.empty)=δ .free) P8._auto_1):a5 N s t M n i:=#[a,b,c,d,e,f,g]
end _L
local macro_rules|`(tactic|left)=>`(tactic|try refine let s:=_;(?_:(_:_L.TS) _ s _))
local macro_rules|`(tactic|sleep $n)=>do{let f (i:Nat):=Lean.mkIdent (.num `t i);let mut t←`((?_:_L.dq _ $(f 1) _ _ _));let m:=n.getNat;for i in[1:m+1]do{t←if i==m then `(let $(f i):ident:=_;$t) else `(let $(f i):ident:=_L.dq _ $(f (i+1));$t)};`(tactic|refine $t)}
local macro_rules|`(tactic|symm)=>do{let g:=Lean.mkIdent `ℊ;`(tactic|first|with_reducible refine (?_:$g)|refine let $g:ident:Prop:=_;(?_:$g)|skip)}
local macro_rules|`(tactic|right)=>do{let g:=Lean.mkIdent `ℊ;`(tactic|try unfold $g)}
local macro_rules|`(tactic|obtain $p:rcasesPat:=$t)=>`(tactic|(refine _L.aQ λG k=>?_;rcases $t:term with $p:rcasesPat<;>(refine k ?_;clear k)))
local macro_rules|`(⇑$n)=>do{let i:=Lean.mkIdent;`(_L.ai $(i `P) $(i `w) $(i `K) $(i `mg) $(i `base) _L.ay $n)}
namespace _K
open PySem PySem.Spec PyProof.Rows _L
noncomputable abbrev z0z:FA ρ:=["_law_box_here","_law_wide"]
noncomputable abbrev z1z:FA ρ:=["term"]
noncomputable abbrev z2z:FA ρ:=["_law_box_here"]
noncomputable abbrev z3z:FA ρ:=["statement","behind"]
noncomputable abbrev z4z:FA ρ:=["self","old_path","old","new_path","new"]
noncomputable abbrev z5z:FA ρ:=["statement"]
noncomputable abbrev z6z:FA ρ:=["_law_pair"]
noncomputable abbrev z7z:FA ρ:=["_law_box_here","_law_names_here","_law_heads","_law_spare","_law_deep"]
noncomputable abbrev z8z:FA ρ:=["path","what"]
noncomputable abbrev z9z:FA ρ:=["self","statement","behind"]
noncomputable abbrev z10z:FA ρ:=["term","held"]
noncomputable abbrev z11z:FA ρ:=["_law_box_here","_law_names_here","_law_deep"]
noncomputable abbrev z12z:FA ρ:=["self","body","behind"]
noncomputable abbrev z13z:FA ρ:=["part","n","held"]
noncomputable abbrev z14z:FA ρ:=["self","part","args","deep"]
noncomputable abbrev z15z:FA ρ:=["body","behind"]
noncomputable abbrev z16z:FA ρ:=["_law_box_here","_law_a","_law_b"]
noncomputable abbrev z17z:FA ρ:=["_law_chain","_law_at_here"]
noncomputable abbrev z18z:FA ρ:=["name","params","body"]
noncomputable abbrev z19z:FA ρ:=["_law_box_here","_law_f","_law_inner_here","_law_w"]
noncomputable abbrev z20z:FA ρ:=["self","deed","deep"]
noncomputable abbrev z21z:FA ρ:=["self","path","chain","begin","end"]
noncomputable abbrev z22z:FA ρ:=["self","statement","place","behind"]
noncomputable abbrev z23z:FA ρ:=["sign","left","right"]
noncomputable abbrev z24z:FA ρ:=["self","cells","most"]
noncomputable abbrev z25z:FA ρ:=["self","parts","cells","most"]
noncomputable abbrev z26z:FA ρ:=["_law_box_here","_law_total"]
noncomputable abbrev z27z:FA ρ:=["_law_box_here","_law_names_here"]
noncomputable abbrev z28z:FA ρ:=["parts","f","args","cells","most"]
noncomputable abbrev z29z:FA ρ:=["_law_box_here","_law_total","_law_letters","_law_wide","_law_spot_here","_law_signs","_law_first","_law_form","_law_found","_law_k","_law_one","_law_word","_law_some","_law_odd"]
noncomputable abbrev z30z:FA ρ:=["_law_k","_law_box_here","_law_letters"]
noncomputable abbrev z31z:FA ρ:=["_law_j","_law_box_here","_law_letters"]
noncomputable abbrev z32z:FA ρ:=["num","var","op","go","ask","back","chain","sets","iff","ends","calls","reads","gives"]
noncomputable abbrev z33z:FA ρ:=["_law_one","_law_box_here","_law_names_here"]
noncomputable abbrev z34z:FA ρ:=["_law_box_here","_law_total","_law_room"]
noncomputable abbrev z35z:FA ρ:=["_law_box_here","_law_f","_law_g","_law_w"]
noncomputable abbrev z36z:FA ρ:=["_law_parts","_law_f","_law_args","_law_cells_here"]
noncomputable abbrev z37z:FA ρ:=["_law_told","_law_pairs","_law_rows","_law_likes"]
noncomputable abbrev z38z:FA ρ:=["_law_new","_law_told","_law_words","_law_k","_law_pair","_law_path","_law_ahead","_law_within","_law_anew"]
noncomputable abbrev z39z:FA ρ:=["_law_box_here","_law_names_here","_law_heads","_law_spare","_law_deep","_law_kind","_law_x","_law_f","_law_params","_law_body_here"]
noncomputable abbrev z40z:FA ρ:=["_law_box_here","_law_f","_law_inner_here","_law_w","_law_n","_law_i","_law_s","_law_x","_law_y","_law_body_here","_law_spot_here","_law_start","_law_loop"]
noncomputable abbrev z41z:FA ρ:=["_law_box_here","_law_f","_law_inner_here","_law_w","_law_n","_law_i","_law_s","_law_x","_law_y","_law_spot_here","_law_body_here","_law_kept","_law_some","_law_start","_law_loop"]
noncomputable abbrev z42z:FA ρ:=["_law_box_here","_law_program","_law_total","_law_f","_law_params","_law_body_here"]
variable {P:Δ}{w:cv}{K:γ}{mg:ρ->FC ζ}{base:df}
noncomputable def bN(i:Nat):de:=PySem.Challenge.pw_againbook_k35_whole_likes_in_order.main.body.getD i (.Pass #[0,0,0,0])
abbrev IC:de:=bN 58
abbrev AS:de:=bN 59
abbrev i8:de:=bN 61
def aA(p:η)(H h:Hp):Prop:=∀b o,b≠p->H b=δ o->h b=δ o
def aA.refl:aA p H H:=λ_ _ _ h=>h
def aA.trans(a:aA p H d)(b:aA p d e):aA p H e:=λc o n h=>b c o n (a c o n h)
def aA.of_eq{H a:Hp}(h:∀b,b≠p->a b=H b):aA p H a:=λb o n e=>by rw[h b n];rwa[e]
def aA.upd_new{o:HO}(a:aA p H h)(n:h r=ι):aA p H (af h r o):=λb u N e=>by let q:=a b u N e;rw[jh$ jk q n];rwa[q]
def aA.upd_own(a:aA p H h)(n:H r=ι):aA p H (af h r o):=λb u N e=>by rw[jh$ jk e n];rwa[a b u N e]
structure ar(H:Hp)(p:η):Prop where
 ob:∃a b:Int,0<=a/\1<=b/\b<=2147483646/\H p=[.int a,.int b]⁻¹
def ar.eq{c:Hp}(B:ar H p)(e:c p=H p):ar c p:=by let(a,b,d,f,g,h):=B.ob;rwa[a,b,d,f,g,by rw[e];rwa[h]]
def ar.upd_new{o:HO}(B:ar H p)(n:H r=ι):ar (af H r o) p:=by let(a,b,c,d,e,h):=B.ob;rwa[B.eq (by rw[jh$ jk h n])]
def ar.ne(B:ar H p)(n:H r=ι):r≠p:=by let(a,b,c,d,e,h):=B.ob;rwa[Sx$ jk h n]
inductive aZ(c:FA V)(H:Hp)(Q:VK)(a:XK):Prop
 |mk(p:η)(w:Int)(_:c=[.ref p,.int w])(_:ar H p)(_:0 < w)(_:w<=1000000000000000000)(_:∀(d:Int) (H':Hp),0<=d->d < w->ar H' p->(∀b,b≠p->H' b=H b)->Q (.int d) H')
inductive uA(K:γ)(e:FA V)(H:Hp)(Q:VK)(c:XK):Prop
 |mk(a:η)(d:FA Int)(k:Int)(_:e=[.ref a,.int k])(_:aE K H a (d.map Da))(_:0<=k)(_:k < 1000)(_:∀(r:η) (H':Hp),H r=ι->ar H' r->(∀b,b≠r->H' b=H b)->Q (.ref r) H')
def uQ:(10:Int) ^ (18:Int).toNat=1000000000000000000:=Ra
def yh{ns:FA Int}{k:Int}(H:0<=k)(a:k < (ns.length:Int)):∃v:Int,dQ (ns.map Da) k=δ (.int v):=by
 let h:k.toNat < ο ns:=P'
 let e:k=((k.toNat:Nat):Int):=P'
 let q:dQ (ns.map Da) ((k.toNat:Nat):Int)=δ (.int ns[k.toNat]):=jO (by rw[RX,RI h];rfl);rw[<- e]at q;rwa[_,q]
structure Cl(P:Δ)(w:cv)(K:γ)(mg:ρ->FC ζ)(base:df)(L:Nat)(f:η)(fd:dN)(ps:FA ρ)(sp:Sp)(py:ρ):Prop where
 g:⇑L f fd ps sp
 b:ax K fd ps []
 k:ii K (.ref f)=μ
 m:mg py=↑f
def Cl.e{X:Cx}{e:dr}(c:Cl X.prog X.w X.K X.mg X.base L f o q s a)(i:bX L X.A)(j:PA X (e::E) t)(l:↥(Gl X a))(h:↥((a==("__debug__":ρ))=ξ))(n:↥(Ψ (e::E) X.env=(ξ,eval e X.env)::Ψ E X.env))(H:↥((fz d$ Ψ E X.env).any (·.1)=ξ)):PE X (.Call (.Name a p) (e::E) [] d) (eV s [] E0 t):=za c.g i l c.m c.k c.b .nil bg j h n H
def jz{X:Cx}(h:PE X a t):PE X (.Subscript a (.Constant (.int i) j p) b) (eW (dY X.K) t$ tC$ .int i):=jv jG h jf λ_ _=>Z
def jA{X:Cx}{p:Pos}(i:Nat)(h:X.N.Nodup)(H:PE X e t)(b:↥(X.N[i]?=δ x))(c:autoParam (wZ X.env.scope x) _L.FW._auto_1)(d:↥(swapsWith e (δ$ .Name x a) p.line X.env=pure ξ))(f:autoParam (X.fn x=μ∨X.env.scope.names.lookup x=δ .local) Wx._auto_1):PS X (.Assign [.Name x a] e p) (dP t$ bo i):=zf h b c H d f
def ju{K:γ}{H:Hp}{Q:VK}(h:H p= ~~~x)(a:dQ x n=δ v)(q:Q v H)(e:↥(b[i]?=δ (↑p))):eW (dY K) (ba i) (tC$ .int n) b H Q:=#[_,e,p,x,n,v,22,aC.of h,a,q]
def ke{X:Cx}(h:PE X a t):PT X (.Compare a [.Eq] [.Constant (.str x) j p] b) (mG$ eW MU t$ tC$ .str x):=jB Jd h jl Z
def zj{X:Cx}(h:PE X a t):PT X (.Compare a [.Eq] [.Constant (.int x) j p] b) (mG$ eW MU t$ tC$ .int x):=jB Jd h jf Z
def lg:al ["_law_box_here","_law_wide","_law_digit","_law_one","_law_mixed"] z0z (ae AS):=bP
def Dm(F:Fr K "_law_take" AS f x):⇑1 f x z0z aZ:=by
 erw[F.ok lg λC A o s H V Q E z h=>?_]
 let(p,W,rfl,B,d,g,q):=h;let(a,b,l,i,j,e):=B.ob;refine#[_,jd (jy (jB Kg (jv jw (pv 0) jf ∅) jf$ aF _)
   (jd (jA 2 lg.nd$ jx zp (jv jw (pv 0) jf ∅)$ pv 1)
   (jd (zA (jx Qn (jv jw (pv 0) jf ∅)$ pv 1)$ Jm (pv 0) jf zN)
   (jg$ jm$ pv 2))) jo)
  (jd (jA 3 lg.nd$ jx zp (jx zI (jv jw (pv 0) jf ∅) jf) jf)
  (jd (zA (jx jY (jx zp (jx jY (jx zI (pv 3) jf) jf) jf) jf)$ Jm (pv 0) jf zN)
  (jd (jA 4 lg.nd$ jx Qn (jx jY (jx zI (pv 3) jf)$ jv jw (pv 0) jf ∅) jf)
  (jd (jy (jB Kg (pv 1) (jx JX jf jf)$ aF _) (jg$ jA 4 lg.nd$ jx zI (pv 4)$ pv 4) jo)
  (jg$ jm$ jx zp (pv 4)$ pv 1))))),?_]
 erw[12,p,11122,aE.of e,2112212,?_];erw[cf (λc=>?_) (λc=>?_)]
 .let D:(0:Int) < a:=SF c;erw[12,p,11122,aE.of e,2121122,d,?_];erw[12,p,11122,aE.of e,2121122,#[d,g],12,p,11,0,22,e,212,?_];erw[q (a % W) _ (Tn _ P') (SU _ d) #[a / W,b,Int.ediv_nonneg l P',i,j,jc] λb n=>jh n]
 .let I:0<=b*69621 % 2147483647:=Tn _ Ra;let J:b*69621 % 2147483647 < 2147483647:=SU _ Ra;erw[12,p,11122,aE.of e,21122,.inr #[Ra,Ra],1122,(by show(0:Int) < 2147483647;decide),?_];erw[121122,.inr #[Ra,Ra],11221122,(by show(0:Int) < 2147483646;decide),112212,p,11,1,22,e,Z,?_];generalize m:b*69621 % 2147483647=one at*;let N:0<=(one*48271+30103) % 2147483646:=Tn _ Ra;let L:(one*48271+30103) % 2147483646 < 2147483646:=SU _ Ra;generalize r:(one*48271+30103) % 2147483646=t at*;erw[121122,.inr #[Ra,Ra],12,p,11122,aE.of jc,211221122,#[Ra,Ra],?_];let X:0<=(one*2147483647+(t+1)) / 8191:=by omega
  let O:(one*2147483647+(t+1)) / 8191 < 18446744073709551616:=P'
  generalize u:(one*2147483647+(t+1)) / 8191=M at*;erw[121122,#[Ra,Ra,Ra],112212,?_];let v:ar (af H p$ .lst [.int a,.int$ t+1]) p:=#[a,t+1,l,P',P',jc];erw[cf (λy=>?_) (λy=>?_)]
  .erw[#[12121122,.inl #[N09,N09],?_]];erw[12121122,d,?_];rwa[q _ _ (Tn _ P') (SU _ d) v λb n=>jh n]
  .erw[#[12121122,d,?_]];rwa[q _ _ (Tn _ P') (SU _ d) v λb n=>jh n]
def oB:al ["_law_script","_law_k","_law_cell","_law_seed"] ["_law_script","_law_k"] (ae IC):=bP
def Hv(F:Fr K "_law_box" IC f I)(m:mg "len"=ι)(M:mg "int"=ι):⇑1 f I ["_law_script","_law_k"] (uA K):=by
 erw[F.ok oB λJ A o s H W Q E X h=>?_]
 let(a,ns,k,rfl,d,i,L,q):=h;refine#[_,jd (jA 2 oB.nd$ jx jY (jx zI jf$ pv 1) jf)
  (jd (jy (jB Xd (pv 1) (jJ jN Z m Tb$ ja (pv 0) jb)$ aF _)
   (jg$ jA 2 oB.nd$ jv jw (pv 0) (pv 1) ∅)
   (jg (jy (jB Kg (jJ jN Z m Tb$ ja (pv 0) jb) jf$ aF _)
    (jg$ jA 2 oB.nd$ jx jY (pv 2)$ jx zI (jx zp (jv jw (pv 0) (jx zp (pv 1)$ jJ jN Z m Tb$ ja (pv 0) jb) ∅) jf) jf) jo)))
  (jd (jA 3 oB.nd$ jx jY (jx zp (jx jY (jx zI (jx zp (pv 2) jf) jf)$ jx zI jf$ pv 1) jf) jf)
  (jg$ jm$ jE$ ja (jx zI (pv 2)$ jI Ka Z M boot_int$ ja (qZ yY (pv 2) (jx JX jf jf)$ aF _) jb)$ ja (pv 3) jb))),?_]
 let e:(ns.map Da).length=ο ns:=RJ _;let T:∀c:Int,∃v:V,∃x:Int,v= .int x/\1<=x/\x<=2147483646/\v= .int ((c % 2147483629*48271+40692*k) % 2147483646+1):=λc=>by let N:0<=(c % 2147483629*48271+40692*k) % 2147483646:=Tn _ Ra;let O:(c % 2147483629*48271+40692*k) % 2147483646 < 2147483646:=SU _ Ra;rwa[112,P',P',Z]
 let j:∀(c:Int) (r:η),H r=ι->Q (.ref r) (af H r$ .lst [.int$ c*(if decide ((10:Int) ^ (18:Int).toNat<=c)=μ then 1 else 0),.int ((c % 2147483629*48271+40692*k) % 2147483646+1)]):=λc r R=>by
  erw[q r _ R #[11,?_,?_,?_,jc] λb n=>jh n]
  .rw[uQ];by_cases h:(1000000000000000000:Int)<=c
   .rw[R0 h,RV Z];omega
   .rw[RW h,RU RZ];omega
  .let N:0<=(c % 2147483629*48271+40692*k) % 2147483646:=Tn _ Ra;omega
  .let O:(c % 2147483629*48271+40692*k) % 2147483646 < 2147483646:=SU _ Ra;omega
 let B:∀c:Int,BY c (if decide ((10:Int) ^ (18:Int).toNat<=c)=μ then 1 else 0):=λc=>.inr (by split<;>decide);erw[aj λF0 u=>#[121122,.inl #[Ra,Ra],1122,u _ _ ?_]];erw[aj λS y=>?_];let l:∀c:Int,S [↑a,δ$ .int k,δ$ .int c,ι] H:=λc=>y _ _ (aj λF2 U=>#[121122,(by show(0:Int) < 2147483629;decide),1122,.inr #[Ra,Ra],121122,.inl #[Ra,Ra],11221122,(by show(0:Int) < 2147483646;decide),1122,U _ _ (#[12121122,#[Ra,Ra,Ra],1122,.inr #[121122,B c,12,b8,j c]])]);erw[sF λG g=>#[1212,a,12,.inl d,112212,g _ _ ?_]];erw[cf (λc=>?_) (λc=>?_)]
 .let C:k < (((ns.map Da).length:Nat):Int):=SF c;rw[e]at C;let(v,p):=yh (ns:=ns) i C;rwa[1212,a,11122,d,p,l v]
 .let C:¬k < (((ns.map Da).length:Nat):Int):=Vh (mS.mpr c);rw[e]at C;erw[sF λG g=>#[12,a,12,.inl d,112212,g _ _ ?_]];refine cf (λz=>?_) (λz=>?_)
  .let D:(0:Int) < (((ns.map Da).length:Nat):Int):=SF z;let(v,p):=yh (ns:=ns) (k:=k % (((ns.map Da).length:Nat):Int)) (Tn _ P') (by let:=SU k D;rw[e]at this;rw[e];rwa[this]);rwa[12121212,a,12,.inl d,1122,D,a,11122,d,p,1122,(by show(0:Int) < 2147483629;decide),1122,.inr #[Ra,Ra],1122,l _]
  .rwa[l _]
def rA(i j:ρ):(i++j).length=i.length+j.length:=by show(i.cps++j.cps).size=i.cps.size+j.cps.size;rwa[Ws]
def zO:1000000<=υ:=by rw[TK];decide
def ap{H:Hp}{o:HO}(h:H b=δ u)(n:H r=ι):af H r o b=δ u:=by rw[jh$ jk h n];rwa[h]
def Bl{z:ρ}{k:Int}(H:0<=k)(a:k < (z.length:Int)):∃c:Nat,dQ z.cps.toList k=δ c:=by
 let b:ο z.cps.toList=z.length:=Sb;let h:k.toNat < ο z.cps.toList:=P'
 let e:k=((k.toNat:Nat):Int):=P'
 let q:dQ z.cps.toList ((k.toNat:Nat):Int)=δ z.cps.toList[k.toNat]:=jO (RI h);rw[<- e]at q;rwa[_,q]
def Qd{ys:FA ρ}{k:Int}(H:0<=k)(a:k < (ys.length:Int)):∃y∈ys,dQ (ys.map Cv) k=δ (.str y):=by
 let h:k.toNat < ο ys:=P'
 let e:k=((k.toNat:Nat):Int):=P'
 let q:dQ (ys.map Cv) ((k.toNat:Nat):Int)=δ (.str ys[k.toNat]):=jO (by rw[RX,RI h];rfl);rw[<- e]at q;rwa[_,UK h,q]
def bE(s:FA ρ)(lo h:FC Int):FA ρ:=(s.drop$ HT.sIx s.length 0 lo).take (HT.sIx s.length s.length h - HT.sIx s.length 0 lo)
def zP(s:FA ρ)(lo h:FC Int):aN (s.map Cv) lo h=(bE s lo h).map Cv:=by unfold aN bE;rw[RJ,Uw,List.map_drop]
def qi{lo:FC Int}(h:y∈bE s lo H):y∈s:=List.mem_of_mem_drop (Tj h)
def qR(s:FA ρ)(lo h:FC Int):(bE s lo h).length<=ο s:=by unfold bE;rw[Se,Td];omega
theorem JA:∀{ys:FA ρ},(∀y∈ys,y.length<=1)->(ys.map (·.length)).sum<=ο ys
 | [],_=>RO _
 |y::r,h=>by let a:=h y Sa;let b:=JA (ys:=r) λz H=>h z (Sd _ H);rw[SN,List.sum_cons,So];omega
def JB{z:ρ}{ys:FA ρ}(H:z.length=0)(h:∀y∈ys,y.length<=1):(Txt.join z ys).length<=ο ys:=by show(Builtin.Str.glued z ys).length<=_;rw[size_glued,H,Nat.mul_zero,Nat.add_zero];rwa[JA h]
noncomputable def dS:ρ:="abcdefghijklmnopqrstuvwxyz"
def Kt:dS.length=26:=P8
noncomputable def vF(d:Int)(k:Nat):Nat:=97+((d+5*(0+(k:Int))) % 26).toNat
def CT(H:i < 20)(a:j < 20)(h:vF d i=vF d j):i=j:=by unfold vF at h;omega
def GY(H:0<=k)(a:k < 26)(h:dQ dS.cps.toList k=δ c):c=97+k.toNat:=by
 let q:∀m:Fin 26,dQ dS.cps.toList (m.val:Int)=δ (97+m.val):=P8
 let e:=q #[k.toNat,P'];let E:((k.toNat:Nat):Int)=k:=P'
 dsimp only at e;rw[E,h]at e;injection e
def Sh(A S:ρ)(d:Int)(c:Nat)(w:ρ):Prop:=if d=2 then ∃R:ρ,w=R++#[(ε [c])] else w=A++#[(ε [c])]++S∨w=A++#[(ε [c])]++S++"z"∨w="qqqqqqq"++#[(ε [c])]
def zb(a b:ρ):(a++b).cps.toList=a.cps.toList++b.cps.toList:=by show(a.cps++b.cps).toList=_;rwa[Array.toList_append]
def YR{R:ρ}(h:R++(#[(ε [c])]:ρ)=r++#[(ε [C])]):c=C:=by let e:=SQ (nI ∘ Str.cps) h;let e:(R++(#[(ε [c])]:ρ)).cps.toList=(r++(#[(ε [C])]:ρ)).cps.toList:=e;rw[zb,zb]at e;let:=List.append_inj_right' e Z;injection this
def CU{S:ρ}(h:A++(#[(ε [c])]:ρ)++S=A++#[(ε [C])]++S):c=C:=by let e:=SQ (nI ∘ Str.cps) h;let e:(A++(#[(ε [c])]:ρ)++S).cps.toList=(A++(#[(ε [C])]:ρ)++S).cps.toList:=e;rw[zb,zb,zb,zb]at e;let:=VN (VA e);injection this
def Nc{A S : ρ}{d : Int}{c C : Nat}{w : ρ}(i : A.length + S.length <= 5)(h : Sh A S d c w)(H : Sh A S d C w) : c = C := by
  unfold Sh at h H;let l : ∀ c : Nat, (#[(ε [c])] : ρ).length = 1 :=λ_ => Z;let L : (Str.ofString "z").length = 1 := by decide +kernel
  let f : (Str.ofString "qqqqqqq").length = 7 := by decide +kernel
  split at h
  · rename_i a
    rw [RV a] at H;obtain ⟨R, rfl⟩ := h;obtain ⟨r, e⟩ := H;rwa[YR e]
  · rename_i a
    rw [RU a] at H;rcases h with rfl | rfl | rfl <;> rcases H with e | e | e
    · rwa[CU e]
    all_goals first
      | rwa[YR e]
      | (have g := SQ Str.length e
         simp only [rA, l, L, f] at g;omega)
      | skip
    let E := SQ (nI ∘ Str.cps) e;let E : (A ++ (#[(ε [c])] : ρ) ++ S ++ ("z" : ρ)).cps.toList = (A ++ (#[(ε [C])] : ρ) ++ S ++ ("z" : ρ)).cps.toList := E;rw [zb, zb (A ++ _ ++ S)] at E;let b := VA E;rw [zb, zb, zb, zb] at b;let := VN (VA b);injection this
def YS{y:FA ρ}:y.Nodup↔∀i j:Nat,i < j->j < ο y->y[i]?≠y[j]?:=by
 unfold List.Nodup;rw[Vv];erw[λh i j H a e=>?_,λh i j b a H e=>h i j H a ?_]
 .rw[RI (P':i < ο y),RI a]at e;injection e with e;rwa[h i j P' a H e]
 .rw[RI b,RI a,e]
def Bg{A S:ρ}{d D:Int}{Y:FA ρ}(b:A.length+S.length<=5)(g:Y.length<=20)(h:∀j y,Y[j]?=δ y->Sh A S D (vF d j) y):Y.Nodup:=by rw[YS];intro i j c H e;let a:=h i _ (RI (P':i < ο Y));let f:=h j _ (RI H);rw[RI (P':i < ο Y),RI H]at e;injection e with e;rw[e]at a;let:=CT P' P' (Nc b a f);omega
def vP{y:FA ρ}(h:y.Nodup)(b:a∉y):(y.set n a).Nodup:=by
 rw[YS]at h ⊢;intro i j H c e;rw[V2]at c;by_cases d:n=i
 .rw[d,U7 P',Um P']at e;rwa[b$ Sc e.symm]
 .by_cases f:n=j
  .rw[f,U7 N09,Um P']at e;rwa[b$ Sc e]
  .rw[Um d,Um f]at e;rwa[h i j H c e]
def C2{y:FA ρ}(h:sG (.str a) (y.map Cv)=ξ):a∉y:=λm=>by unfold sG at h;rw[List.any_eq_false]at h;rwa[h (.str a) (β.mpr #[a,m,Z]) (by show (a==a)=μ;simp)]
def Cy{ss:FA ρ}{d1 d2:Int}(h:ο ss=(1+d1).toNat)(a:0<=d2)(b:d2 < 1+d1):(bE ss ι$ δ d2).length+(bE ss (δ$ d2+1) ι).length<=d1.toNat:=by
 obtain⟨k,rfl⟩:∃k:Nat,d2=k:=#[d2.toNat,(Int.toNat_of_nonneg a).symm];obtain⟨n,rfl⟩:∃n:Nat,d1=n:=#[d1.toNat,(Int.toNat_of_nonneg P').symm];let H:k<=n:=P'
 let h:ο ss=n+1:=by rw[h];omega
 unfold bE;rw[show((k:Int)+1)=((k+1:Nat):Int) from Z,HT.sIx_nat,HT.sIx_nat,Se,Se,Td,h,TN$ TY H,TN$ Nat.le_succ_of_le H];erw[Sf (Nat.add_le_add (T5 _ _)$ T5 _ _) ?_];show k - 0+(n+1 - (k+1))<=n;rw[U9,Nat.add_sub_add_right,Nat.add_sub_cancel' H];rwa[RO _]
def OG{S:ρ}:Sh A S d c ("qqqqqqq"++#[(ε [c])]):=by
 unfold Sh;split
 .exact#[12]
 .rwa[.inr$ .inr Z]
def OH{A S:ρ}{d:Int}{c:Nat}{w:ρ}(h:if d=2 then ∃R:ρ,w=R++#[(ε [c])] else w=A++#[(ε [c])]++S∨w=A++#[(ε [c])]++S++"z"):Sh A S d c w:=by
 unfold Sh;split at h
 .rename_i e;rw[RV e];rwa[h]
 .rename_i e;rw[RU e];rwa[h.elim .inl λz=>.inr (.inl z)]
def pre(s:FA ρ)(d:Int):ρ:=Txt.join "" (bE s ι$ δ d)
def gq(s:FA ρ)(d:Int):ρ:=Txt.join "" (bE s (δ$ d+1) ι)
inductive gQ(b:FA V)(H:Hp)(Q:VK)(a:XK):Prop
 |mk(p:η)(n:Int)(_:b=[.ref p,.int n])(_:ar H p)(_:1<=n)(_:n<=20)(_:∀(r:η) (ys:FA ρ) (H':Hp),H r=ι->H' r=(ys.map Cv)⁻¹->(ys.length:Int)=n->(∀y∈ys,y.length<=20)/\ys.Nodup->ar H' p->aA p H H'->Q (.ref r) H')
def bh:al z29z z26z (ae i8):=bP
noncomputable def Q9:gO:=#[.function,[(".0",.local),("_law_k",.local),("_law_take",.globalImplicit),("_law_box_here",.free),("_law_letters",.free)],ξ,ξ,[]]
def pR:(z30z:FA ρ).Nodup:=P8
def pH:a5 z29z (ae i8) Q9 z30z 1 [0,2]:=pe
noncomputable def Xa:gO:=#[.function,[(".0",.local),("_law_j",.local),("_law_take",.globalImplicit),("_law_box_here",.free),("_law_letters",.free)],ξ,ξ,[]]
def pQ:(z31z:FA ρ).Nodup:=P8
def pG:a5 z29z (ae i8) Xa z31z 1 [0,2]:=pe
def JT{p:η}{Q:FA V->Hp->Prop}(o:n<=20)(B:ar f p)
  (q:∀(S:FA ρ) (H:Hp),ο S=n->(∀s∈S,s.length<=1)->ar H p->(∀b,b≠p->H b=f b)->Q (S.map Cv) H):
  eQ (BS 0 n) 1 [↑p,δ$ .str dS] (bo 0) nO (eW DK (ba 2)$ eV aZ [] E0$ ao (ba 1)$ ao (tC$ .int 26) aR) Q f:=by
 refine Zg (λi y H=>∃S:FA ρ,y=S.map Cv/\ο S=i/\(∀s∈S,s.length<=1)/\ar H p/\∀b,b≠p->H b=f b)
  #[[],22,(λ_ h=>nomatch h),B,λ_ _=>Z] (Sf o Ra) (λi y H #[S,e,l,_]=>by rw[e,RJ,l];rwa[RO _]) ?_ ?_
 .intro i y H x a;let(S,rfl,g,j,m,E):=a;erw[1212,p,(26),Z,m,Ra,Ra,λd A D r t u=>?_];let(c,v):=Bl (z:=dS) D (by rw[Kt];rwa[r]);erw[11,c,22,Ra,v,S++[#[(ε [c])]],by rw[RP];rfl,by rw[RN,g];rfl,λs hs=>?_,t,λb N=>(u b N).trans (E b N)];rcases ψ.mp hs with hs |hs
  .rwa[j s hs]
  .rw[τ.mp hs];rwa[RO 1]
 .intro y H a;let(S,rfl,g,j,m,E):=a;rwa[q S H g j m E]
def Rw(p g r:η)(n d D b e:Int)(i c:Nat)(s y:FA ρ)(H:Hp)(L:Nat)(Z:ρ->Prop):_L.St->Hp->Prop:=λa h=>∃W:ρ,(W.length<=L/\Z W)/\
 a=[↑p,δ$ .int n,δ$ .str dS,δ$ .int (1+d),δ$ .int D,↑g,δ$ .int b,δ$ .int e,↑r,δ$ .int (0+(i:Int)),δ$ .str #[(ε [c])],δ$ .str W,ι,ι]/\
 h g=(s.map Cv)⁻¹/\h r=(y.map Cv)⁻¹/\ar h p/\aA p H h
def Rf(p r:η)(n:Int)(H:Hp):_L.St->Hp->Prop:=λa h=>a[8]?=δ (↑r)/\∃Y:FA ρ,h r=(Y.map Cv)⁻¹/\(Y.length:Int)=n/\((∀y∈Y,y.length<=20)/\Y.Nodup)/\ar h p/\aA p H h
def XA(Y:FA ρ):(Y.map Cv).all dB=μ:=by rw[Vd];intro v h;let(y,_,rfl):=β.mp h;rfl
def Bc(Y:FA ρ)(j:Nat)(y:ρ):(Y.map Cv).set j (Cv y)=(Y.set j y).map Cv:=(List.map_set ..).symm
inductive NI(p g r:η)(n b c d e:Int)(v:FA ρ)(H:Hp)(i:Nat)(x:_L.St)(a:Hp):Prop
 |mk(s t u:FC V)(w:FA ρ)(f:x=[↑p,δ (.int n),δ (.str dS),δ (.int (1+b)),δ (.int c),↑g,δ (.int d),δ (.int e),↑r,s,t,u,ι,ι])(h:a g=(v.map Cv)⁻¹)(k:a r=(w.map Cv)⁻¹)(l:ο w=i)(m:(∀y∈w,y.length<=20)/\∀j y,w[j]?=δ y->Sh (pre v c) (gq v c) e (vF d j) y)(o:ar a p)(q:aA p H a)
def yP(F:Fr K "_law_names" i8 f fd)(GT:⇑1 fT f4 z0z aZ)(x:ax K f4 z0z [])(C:ii K (.ref fT)=μ)
  (M:mg "_law_take"=↑fT) (mr:mg "range"=ι):⇑2 f fd z26z gQ:=by
 erw[F.ok bh λc1 A o0 s H vs Q E D h=>?_]
 let cT:Cl P w K mg base 1 fT f4 z0z aZ "_law_take":=#[GT,x,C,M]
 symm;let(p,n,rfl,B,a4,a',q):=h;erw[_,(@jd _ _ _ _ _ (@zf _ _ 2 _ _ _ _ bh.nd Z (ge Z) jl P7$ .inl Z)$ @jd _ _ _ _ _ (@zf _ _ 3 _ _ _ _ bh.nd Z (Θ Z) (jx jY jf$ cT.e D$ ja (pv 0)$ ja jf jb) P7$ .inl Z)$ @jd _ _ _ _ _ (@zf _ _ 4 _ _ _ _ bh.nd Z (Θ Z) (cT.e D$ ja (pv 0)$ ja (pv 3) jb) P7$ .inl Z)$ @jd _ _ _ _ _ (@Jy _ _ _ _ _ _ _ _ _ _ 5 z30z 1 [0,2] _ _ _ _ bh.nd Z (Θ Z) Z (kP Z mr$ ja (pv 3) jb) pH (λ_ _ _ _ _=>jr (i:=0) pR Z$ Θ Z) (λ_ _ _ _ _=>kG) (λ_ _ _ _ _=>jv Qb (pv 2) (cT.e D$ ja (pv 1)$ ja jf jb) ∅) P7 FL FO)$ @jd _ _ _ _ _ (@zf _ _ 6 _ _ _ _ bh.nd Z (Θ Z) (cT.e D$ ja (pv 0)$ ja jf jb) P7$ .inl Z)$ @jd _ _ _ _ _ (@zf _ _ 7 _ _ _ _ bh.nd Z (Θ Z) (cT.e D$ ja (pv 0)$ ja jf jb) P7$ .inl Z)$ @jd _ _ _ _ _ (@zf _ _ 8 _ _ _ _ bh.nd Z (Θ Z) (@jE _ _ _ _ jb) P7$ .inl Z)$ @jd _ _ _ _ _ (jU Sq Z (kP Z mr$ ja (pv 1) jb) (jr (i:=9) bh.nd Z$ Θ Z)$ @jd _ _ _ _ _ (@zf _ _ 10 _ _ _ _ bh.nd Z (Θ Z) (jv Qb (pv 2) (jx zp (jx jY (pv 6)$ jx zI jf$ pv 9) jf) ∅) P7$ .inl Z)$ @jd _ _ _ _ _ (kf$ @zf _ _ 11 _ _ _ _ bh.nd Z (Θ Z) (jx zU (jx zU (@j9 _ _ _ _ _ _ _ _ _ _ _ _ VH VS VR X6 jl (ja (jF kL (pv 5) jS$ jD$ pv 4) jb) P7 P7 P7 P7 P7)$ pv 10)$ @j9 _ _ _ _ _ _ _ _ _ _ _ _ VH VS VR X6 jl (ja (jF kL (pv 5) (jD$ jx jY (pv 4) jf) jS) jb) P7 P7 P7 P7 P7) P7$ .inl Z)$ @jd _ _ _ _ _ (kf$ jy (PW.pt$ qd (zj$ pv 7)$ zY$ zj$ jx zp (pv 9) jf) (jg$ @zf _ _ 11 _ _ _ _ bh.nd Z (Θ Z) (jx zU (pv 11) jl) P7$ .inl Z) jo)$ @jd _ _ _ _ _ (kf$ jy (zj$ pv 7) (jg$ @zf _ _ 11 _ _ _ _ bh.nd Z (Θ Z) (jx zU (@j9 _ _ _ _ _ _ _ _ _ _ _ _ VH VS VR X6 jl (ja (@km _ _ _ _ _ _ _ z31z 1 [0,2] _ _ _ _ Z (kP Z mr$ ja (cT.e D$ ja (pv 0)$ ja jf jb) jb) pG (λ_ _ _ _ _=>jr (i:=0) pQ Z$ Θ Z) (λ_ _ _ _ _=>kG) (λ_ _ _ _ _=>jv Qb (pv 2) (cT.e D$ ja (pv 1)$ ja jf jb) ∅) FO) jb) P7 P7 P7 P7 P7)$ pv 10) P7$ .inl Z) jo)$ @jd _ _ _ _ _ (kf$ jy (jB zG (pv 11) (@ji _ _ _ _ _$ @X7 _ _ P7) Z) (jg$ @zf _ _ 11 _ _ _ _ bh.nd Z (Θ Z) (jx zU jl$ pv 10) P7$ .inl Z) jo)$ jg$ jK$ @j9 _ _ _ _ _ _ _ _ _ _ _ _ R9 Sn Sm jR (pv 8) (ja (pv 11) jb) P7 P7 P7 P7 P7)$ @jd _ _ _ _ _ (kf$ jy (jB Jd (cT.e D$ ja (pv 0)$ ja jf jb) jf$ aF _) (@jd _ _ _ _ _ (@zf _ _ 12 _ _ _ _ bh.nd Z (Θ Z) (@jE _ _ _ _$ @X7 _ _ P7) P7$ .inl Z)$ @jd _ _ _ _ _ (@zf _ _ 13 _ _ _ _ bh.nd Z (Θ Z) (jv jw (pv 12) (cT.e D$ ja (pv 0)$ ja jf jb) ∅) P7$ .inl Z)$ jg$ jy (jB JO (pv 13) (pv 8) Z) (jg$ zA (pv 13) (Jm (pv 8) (cT.e D$ ja (pv 0)$ ja (pv 1) jb) zN) P7 P7 P7) jo) jo)$ jg$ jm$ pv 8),?_];sleep 9;erw[gp λE0 f0=>f0 _ _ ?_];erw[gp λG a=>#[12,p,6,Z,B,Ra,Ra,λd1 H1 b0 b1 U e1=>#[1122,a _ _ ?_]]];erw[gp λE2 f2=>#[1212,p,12,U,P',P',λd2 H2 b2 b3 B2 e2=>f2 _ _ ?_]];erw[gp λG a=>#[1212,P',P',?_]];erw[JT (p:=p) P' B2 λss H3 a3 e B3 e3 g hg=>a _ _ ?_];left;let k3:aA p H H3:=(aA.of_eq e1).trans ((aA.of_eq e2).trans$ aA.of_eq e3);let v:g≠p:=B3.ne hg;erw[gp λG a=>#[12,p,(26),Z,B3.upd_new hg,Ra,Ra,λW H4 b4 b5 B4 e4=>a _ _ ?_]];erw[gp λE2 f2=>#[12,p,3,Z,B4,Ra,Ra,λI H5 b7 b9 B5 e5=>f2 _ _ ?_]];let h2:H5 g=(ss.map Cv)⁻¹:=by rw[e5 g v,e4 g v];rwa[jc]
 let k5:aA p H H5:=(k3.upd_new hg).trans ((aA.of_eq e4).trans$ aA.of_eq e5);erw[gp λG a=>#[Ra,λr u=>a _ _ ?_]];left;let m:r≠p:=B5.ne u;let h4:g≠r:=jk h2 u;let n3:H g=ι:=by
  cases z:H g with
  |none=>rfl
  |some o=>have:=k3 g o v z;rw[hg]at this;symm;cases this
 let X:H r=ι:=by
  cases z:H r with
  |none=>rfl
  |some o=>have:=k5 r o m z;rw[u]at this;symm;cases this
 let b':=zO;erw[gp λG a=>db λJ j=>#[1212,P',P',j _ _ ?_]];erw[kn (lo:=0) (NI p g r n d1 d2 W I ss H) #[ι,ι,ι,[],Z,ap h2 u,jc,Z,#[(λ_ h=>nomatch h),(λ_ _ h=>nomatch h)],B5.upd_new u,k5.upd_new u] ?_ ?_]
 .intro E0 _ i σ H' hi fE Gq T b;symm;let(ok,oo,ow,ys,rfl,L,Y,h0,d,B',k'):=b;left;symm;let(c,hc):=Bl (z:=dS) (k:=(W+5*(0+(i:Int))) % 26) (Tn _ Ra) (by rw[Kt];rwa[SU _ Ra]);erw[T ?_];show dq (dP _ _) _ E0 _ _;sleep 5;erw[gp λG a=>#[1212121122,.inl #[Ra,Ra],11221122,(by show(0:Int) < 26;decide),11,c,22,Ra,hc,a _ _ ?_]];left;let c2:(#[(ε [c])]:ρ).length=1:=rfl;let h5:c=vF W i:=GY (Tn _ Ra) (SU _ Ra) hc;refine gp λG a=>eB (Rw p g r n d1 d2 W I i c ss ys H 13 (·=pre ss d2++#[(ε [c])]++gq ss d2)) (λE2 _ t=>?_) λO H1 b=>?_
  .erw[#[2121212,g,12,aE.of L,λs1 n1=>?_]];let z1:=JA (ys:=bE ss ι (δ d2)) λy d=>e y (qi d);let z2:=qR ss ι (δ d2);erw[_,s1,bE ss ι$ δ d2,22,aE.of (by rw[jc,zP]),Ra,P',?_];let j1:=JB (z:="") (ys:=bE ss ι (δ d2)) P8 λy d=>e y (qi d);erw[121122,P',?_];erw[21212112212,g,12,aE.of$ ap L n1,λs2 n2=>?_];let z3:=JA (ys:=bE ss (δ$ d2+1) ι) λy d=>e y (qi d);let z4:=qR ss (δ$ d2+1) ι;erw[_,s2,bE ss (δ$ d2+1) ι,22,aE.of (by rw[jc,zP]),Ra,P',?_];let j2:=JB (z:="") (ys:=bE ss (δ$ d2+1) ι) P8 λy d=>e y (qi d);erw[1122,by rw[rA];omega,?_];rwa[t _ _ #[_,#[by show(Txt.join ("":ρ) (bE ss ι$ δ d2)++(#[(ε [c])]:ρ)++Txt.join ("":ρ) (bE ss (δ$ d2+1) ι)).length<=13;rw[rA,rA];omega,Z],Z,ap (ap L n1) n2,ap (ap Y n1) n2,(B'.upd_new n1).upd_new n2,(k'.upd_new n1).upd_new n2]]
  symm;obtain⟨w1,⟨c3,z1⟩,rfl,g1,r1,U,k1⟩:=b;erw[a _ _ ?_];left;sleep 3;erw[gp λG a=>eB (Rw p g r n d1 d2 W I i c ss ys H 14 (λw=>w=pre ss d2++#[(ε [c])]++gq ss d2∨w=pre ss d2++#[(ε [c])]++gq ss d2++"z")) (λE2 _ t=>?_) λO H2 b=>?_]
  .erw[#[12212,?_]];refine cf (λS=>?_) (λS=>?_)
   .erw[#[121122,(by show(0:Int) < 2;decide),212,?_]];refine cf (λcb=>?_) (λcb=>?_)
    .let hz:(Str.ofString "z").length=1:=by decide+kernel
     erw[121122,by rw[hz];omega,?_];rwa[t _ _ #[_,#[by rw[rA,hz];omega,.inr (by rw[z1])],Z,g1,r1,U,k1]]
    .rwa[t _ _ #[w1,#[P',.inl z1],Z,g1,r1,U,k1]]
   .rwa[pM$ t _ _ #[w1,#[P',.inl z1],Z,g1,r1,U,k1]]
  symm;obtain⟨w2,⟨c4,z2⟩,rfl,g2,r2,B2,k2⟩:=b;erw[a _ _ ?_];left;erw[gp λG a=>eB (Rw p g r n d1 d2 W I i c ss ys H 14 (λw=>if I=2 then ∃R:ρ,w=R++#[(ε [c])] else w=pre ss d2++#[(ε [c])]++gq ss d2∨w=pre ss d2++#[(ε [c])]++gq ss d2++"z")) (λE2 _ t=>?_) λO H3 b=>?_]
  .erw[#[12212,?_]];refine cf (λS=>?_) (λS=>?_)
   .erw[#[212,p,8,Z,B2,Ra,Ra,λd6 H6 d0 d3 B6 e6=>?_]];erw[12,P',P',?_];erw[JT (p:=p) P' B6 λtt H7 c5 h3 B7 e7 g7 n7=>?_];let jt:=JB (z:="") (ys:=tt) P8 h3;let zt:=JA h3;erw[_,g7,tt,22,aE.of jc,Ra,P',?_];erw[121122,P',?_];let g8:H7 g=(ss.map Cv)⁻¹:=by rw[e7 g v,e6 g v];exact g2
    let r8:H7 r=(ys.map Cv)⁻¹:=by rw[e7 r m,e6 r m];rwa[r2]
    let e5:I=2:=by injection SF S
    rwa[t _ _ #[_,#[by rw[rA];omega,(RV e5).mpr #[12]],Z,ap g8 n7,ap r8 n7,B7.upd_new n7,(k2.trans ((aA.of_eq e6).trans$ aA.of_eq e7)).upd_new n7]]
   .let e5:I≠2:=λz=>S (by rw[z];rwa[R0 Z]);rwa[t _ _ #[w2,#[N09,(RU e5).mpr z2],Z,g2,r2,B2,k2]]
  symm;obtain⟨w3,⟨c6,z3⟩,rfl,g3,r3,B3,k3⟩:=b;erw[a _ _ ?_];left;erw[gp λG a=>eB (Rw p g r n d1 d2 W I i c ss ys H 14$ Sh (pre ss d2) (gq ss d2) I c) (λE2 _ t=>?_) λO H4 b=>?_]
  .erw[#[12,Ra,λt0 N=>?_]];erw[t0,12,.inr$ aC.of jc,Z,vj P7,12,?_];refine cf (λS=>?_) (λS=>?_)
   .let hq:(Str.ofString "qqqqqqq").length=7:=by decide+kernel
    erw[121122,by rw[hq];omega,?_];rwa[t _ _ #[_,#[by rw[rA,hq];omega,OG],Z,ap g3 N,ap r3 N,B3.upd_new N,k3.upd_new N]]
   .rwa[t _ _ #[w3,#[P',OH z3],Z,ap g3 N,ap r3 N,B3.upd_new N,k3.upd_new N]]
  symm;obtain⟨w4,⟨c8,z4⟩,rfl,g4,r4,B4,k4⟩:=b;erw[a _ _ ?_];left;erw[12,.inl #[21,aE.of r4],12,r,1122,r4,by rw[RJ];omega,?_];erw[fE _ _ #[111,ys++[w4],Z,by rw[jh h4];rwa[g4],by rw[jc,RP];rfl,by rw[RN,h0];rfl,#[λy hm=>?_,λj y hj=>?_],B4.eq$ jh$ Sx m,k4.upd_own X]]
  .symm;rcases ψ.mp hm with hm |hm
   .rwa[d.1 y hm]
   .right;rw[τ.mp hm];omega
  .symm;by_cases h6:j < ο ys
   .rw[Ui h6]at hj;rwa[d.2 j y hj]
   .let lj:=(ν.mp hj).1;rw[RN,Uy]at lj;let ej:j=ο ys:=by omega
    rw[ej,Uc$ RO _,Vo]at hj;injection hj with hj;right;rw[<- hj,ej,h0,<- h5];rwa[z4]
 .intro σ H' b;symm;let(ok,oo,ow,ys,rfl,L,Y,h0,d,B',k'):=b;let h1:(ys.length:Int)=n:=by omega
  let f5:=Cy (ss:=ss) (d1:=d1) (d2:=d2) N09 N09 N09;let j1:(pre ss d2).length<=_:=JB (z:="") (ys:=bE ss ι (δ d2)) P8 λy d=>e y (qi d);let j2:(gq ss d2).length<=_:=JB (z:="") (ys:=bE ss (δ$ d2+1) ι) P8 λy d=>e y (qi d);let nd:=Bg P' P' d.2;let d:=d.1;erw[a _ _ ?_];left;erw[aj λF1 a=>eB (Rf p r n H) (λE2 _ t=>?_) λO H1 b=>?_]
  .left;erw[sF λG' g'=>#[12,p,6,Z,B',Ra,Ra,λd6 H6 d0 d3 B6 e6=>#[212,g' _ _ ?_]]];let r6:H6 r=(ys.map Cv)⁻¹:=by rw[e6 r m];exact Y
   let k6:aA p H H6:=k'.trans (aA.of_eq e6);erw[cf (λS=>?_) (λS=>?_)]
   .sleep 2;erw[gp λE3 f3=>#[Ra,λt0 N=>f3 _ _ ?_]];left;let t1:t0≠p:=B6.ne N;erw[gp λE4 f3=>#[1212,p,(13),Z,B6.upd_new N,Ra,Ra,λd7 H7 d' a0 B7 e7=>?_]];let t7:H7 t0=((z32z:FA ρ).map Cv)⁻¹:=((e7 t0 t1).trans jc).trans (SQ (λl=>δ (HO.lst l)) P8);let r7:H7 r=(ys.map Cv)⁻¹:=by rw[e7 r m];exact ap r6 N
    let k7:aA p H H7:=(k6.upd_new N).trans (aA.of_eq e7);symm;let(od,h7,h8):=Qd (ys:=(z32z:FA ρ)) d' (a0:);erw[t0,11122,aE.of t7,h8,f3 _ _ ?_];left;let h':od.length<=20:=by
     let:∀y∈(z32z:FA ρ),y.length<=20:=P8
     rwa[this od h7]
    erw[sF λG' g'=>#[1212,r,12,.inl$ aE.of r7,Z,XA _,12,g' _ _ ?_]];erw[cf (λcb=>?_) (λcb=>?_)]
    .erw[#[12121212,p,n,Z,B7,P',P',λd8 H8 a1 c9 B8 e8=>?_]];let r8:H8 r=(ys.map Cv)⁻¹:=by rw[e8 r m];exact r7
     let k8:aA p H H8:=k7.trans (aA.of_eq e8);erw[r,_,d8,d8.toNat,22,r8,?_,?_]
     .unfold on;rw[RV a1,RJ,RV P']
     erw[t _ _ #[Z,ys.set d8.toNat od,by rw[jc,Bc],by rw[V2];rwa[h1],#[λy hm=>?_,vP nd$ C2 (by let c0:(!sG (.str od) (ys.map Cv))=μ:=cb;rw[Bool.not_eq_true']at c0;rwa[c0])],B8.eq$ jh$ Sx m,k8.upd_own X]];symm;rcases List.mem_or_eq_of_mem_set hm with hm |hm
     .rwa[d y hm]
     .right;rw[hm];rwa[h']
    .rwa[t _ _ #[Z,ys,r7,h1,#[d,nd],B7,k7]]
   .rwa[t _ _ #[Z,ys,r6,h1,#[d,nd],B6,k6]]
  symm;let(a2,y0,r1,l1,y1,U,k1):=b;erw[a _ _ ?_];left;rwa[_,a2,q r y0 H1 X r1 l1 y1 U k1]
def am(H h:Hp):Prop:=∀b x,H b= ~~~x->h b= ~~~x
def aa.tm(a:aa H c):am H c:=λb x h=>a b _ h
def je{H:Hp}{o:HO}(n:H p=ι):aa H (af H p o):=λb u e=>ap e n
def cw{b:Bool}{A B:Prop}(h:b=μ)(x:A):if b=μ then A else B:=by rw[RV h];rwa[x]
def aW{b:Bool}{A B:Prop}(h:b=ξ)(x:B):if b=μ then A else B:=by rw[h,RU RZ];rwa[x]
def aI:υ=16777216:=by rw[TK]
def ar.same(B:ar H p)(s:aa H c):ar c p:=by let(a,b,d,e,f,h):=B.ob;rwa[a,b,d,e,f,s _ _ h]
def aA.of_same(s:aa H h):aA p H h:=λb o _ e=>s _ _ e
def aA.tm(k:aA p H h)(B:ar H p):am H h:=λb x e=>by let(a,c,_,_,_,f):=B.ob;rwa[k b _ (jQ e f (by intro w;cases w)) e]
def aA.none(k:aA p H h)(B:ar h p)(n:h r=ι):H r=ι:=by
 cases z:H r with
 |none=>rfl
 |some o=>have:=k _ _ (B.ne n) z;rw[n]at this;cases this
def zi{K:γ}{a:η}{xs:FA V}{t:TE}{Q:FA V->Hp->Prop}(u:ο xs<=υ)(Pv:Nat->FA V->Hp->Prop)(l:Pv 0 [] H)
  (n:∀i Y h,Pv i Y h->aE K h a xs/\ο Y<=i) (o:∀i x Y h,xs[i]?=δ x->Pv i Y h->t (δ x::d) h λy c=>Pv (i+1) (Y++[y]) c) (q:∀Y h,Pv xs.length Y h->Q Y h):
  eQ (BR K a) 1 d (bo 0) nO t Q H:=by
 erw[λi m Y h=>m=ο xs - i/\i<=ο xs/\Pv i Y h,#[xs.length,P9,R4 _,l],?_];intro i m Y h f;let(rfl,z,p):=f;let(g,A):=n i Y h p;by_cases b:i < ο xs
 .erw[.inr #[#[xs,xs[i],g,RI b],P',Pv$ i+1,λr c s=>#[ο xs - (i+1),P',Z,b,s],λv c T j y=>?_]];let(e,y):=y;subst e;let(w,rfl):=vE j;rwa[#[[δ _],22],o i v Y c (y xs g) p]
 .let e:i=ο xs:=by omega
  subst e;rwa[.inl #[#[xs,g,RO _],q Y h p]]
def Jc{K:γ}{xs:FA V}{t:TE}{Q:FA V->Hp->Prop}(u:ο xs<=υ)(Pv:Nat->FA V->Hp->Prop)(l:Pv 0 [] H)
  (n:∀i Y h,Pv i Y h->aC K h a xs/\ο Y<=i) (o:∀i x Y h,xs[i]?=δ x->Pv i Y h->t (δ x::d) h λy c=>Pv (i+1) (Y++[y]) c) (q:∀Y h,Pv xs.length Y h->Q Y h):
  eQ (Cb K a) 1 d (bo 0) nO t Q H:=by
 erw[λi m Y h=>m=ο xs - i/\i<=ο xs/\Pv i Y h,#[xs.length,P9,R4 _,l],?_];intro i m Y h f;let(rfl,z,p):=f;let(g,A):=n i Y h p;by_cases b:i < ο xs
 .erw[.inr #[#[xs,xs[i],g,RI b],P',Pv$ i+1,λr c s=>#[ο xs - (i+1),P',Z,b,s],λv c T j y=>?_]];let(e,y):=y;subst e;let(w,rfl):=vE j;rwa[#[[δ _],22],o i v Y c (y xs g) p]
 .let e:i=ο xs:=by omega
  subst e;rwa[.inl #[#[xs,g,RO _],q Y h p]]
abbrev mX:de:=bN 60
abbrev t9:de:=bN 62
inductive Tm where
 |num (n:Int) |var (x:ρ) |op (i:Nat) (a b:Tm)
noncomputable def Tm.depth:Tm->Nat
 | .num _ | .var _=>0
 | .op _ a b=>max a.depth b.depth+1
noncomputable def nj:ρ:="+-*/<="
def Bf:nj.length=6:=P8
def OF(i:Nat):ρ:=#[(ε [nj.cps.toList.getD i 0])]
def IU(H:0<=d)(a:d < 6):dQ nj.cps.toList d=δ (nj.cps.toList.getD d.toNat 0):=by
 let b:ο nj.cps.toList=6:=P8
 let h:d.toNat < ο nj.cps.toList:=P'
 let e:d=((d.toNat:Nat):Int):=P'
 let q:dQ nj.cps.toList ((d.toNat:Nat):Int)=δ (nj.cps.toList.getD d.toNat 0):=jO (by rw[RY,RI h];rfl);rw[<- e]at q;rwa[q]
def Tm.Good(y:FA ρ):Tm->Prop
 | .num n=>0<=n/\n < 1000000000000000000
 | .var x=>x∈y
 | .op i a b=>i < 6/\a.Good y/\b.Good y
def bu(H:Hp):Tm->η->Prop
 | .num n,p=>H p= ~~~[.str "num",.int n]
 | .var x,p=>H p= ~~~[.str "var",.str x]
 | .op i a b,p=>∃q r,H p= ~~~[.str "op",.str (OF i),.ref q,.ref r]/\bu H a q/\bu H b r
theorem bu.mono{H a:Hp}(h:∀b x,H b= ~~~x->a b= ~~~x):∀{t:Tm} {p:η},bu H t p->bu a t p
 | .num _,_,e | .var _,_,e=>h _ _ e
 | .op _ _ _,_,z=>by let(q,r,e,E,c):=z;rwa[q,r,h _ _ e,bu.mono h E,bu.mono h c]
def bu.same(h:aa H a)(e:bu H t p):bu a t p:=e.mono λb x z=>h b _ z
def bu.but(B:ar H p)(k:aA p H h)(e:bu H t a):bu h t a:=e.mono λb X z=>by let(x,y,_,_,_,d):=B.ob;rwa[k b _ (jQ z d (by intro q;cases q)) z]
def bu.new{H:Hp}{o:HO}(n:H r=ι)(e:bu H t a):bu (af H r o) t a:=e.mono λb x z=>ap z n
inductive iG(c:FA V)(H:Hp)(Q:VK)(a:XK):Prop
 |mk(p:η)(_:c=[.ref p])(_:ar H p)(_:∀(d:Int) (H':Hp),0<=d->d < 1000000000000000000->ar H' p->(∀b,b≠p->H' b=H b)->Q (.int d) H')
inductive dm(n:Nat)(b:FA V)(H:Hp)(Q:VK)(a:XK):Prop
 |mk(p g:η)(d:Int)(c:FA ρ)(_:b=[.ref p,.ref g,.int d])(_:ar H p)(_:H g=(c.map Cv)⁻¹)(_:1<=ο c)(_:c.length<=20)(_:0<=d)(_:d < (n:Int))(_:∀(r:η) (T:Tm) (H':Hp),bu H' T r->(T.depth:Int)<=d->T.Good c->ar H' p->aA p H H'->Q (.ref r) H')
def qM{Y:FA ρ}(B:ar H p)(h:H g=(Y.map Cv)⁻¹):g≠p:=by
 let(x,y,_,_,_,b):=B.ob;erw[jQ h b λz=>?_];injection z with z
 match Y,z with
 |a::r,z=>injection z with c _;cases c
def A3:al z2z z2z (ae mX):=bP
def v6(F:Fr K "_law_number" mX f t)(C:Cl P w K mg base 1 I u z0z aZ "_law_take"):⇑2 f t z2z iG:=by
 erw[F.ok A3 (λx A o s H v Q E a h=>?_)]
 let(p,rfl,B,q):=h;erw[_,%[Z|_cmB C.e a _a0ajbdk C.e a _a0an JX _jjbsdk C.e a _a0ajb],?_];erw[12,p,4,Z,B,Ra,Ra,λL M y G m r=>#[212,?_]];erw[cf (λc=>?_) (λc=>?_)]
 .erw[#[121122,#[Ra,Ra,Ra],p,12,m,Ra,Ra,λD g d i j k=>?_]];let z:=uQ;rwa[q D g d P' j λb n=>(k b n).trans (r b n)]
 .erw[#[12,p,9,Z,m,Ra,Ra,λD g d i j k=>?_]];rwa[q D g d P' j λb n=>(k b n).trans (r b n)]
def rj:al ["_law_box_here","_law_names_here","_law_deep","_law_kind","_law_one"] z11z (ae t9):=bP
def Dn(F:Fr K "_law_term" t9 f fd)(cF:Cl P w K mg base (n+2) f fd z11z (dm n) "_law_term")(S:Cl P w K mg base 1 fT f0 z0z aZ "_law_take")(cN:Cl P w K mg base 2 fN f2 z2z iG "_law_number")(ml:mg "len"=ι):⇑(n+3) f fd z11z (dm$ n+1):=by
 erw[F.ok rj λc0 A T s H vs Q E u h=>?_]
 let(p,g,d,ys,rfl,B,hg,v,x,h1,h2,q):=h;erw[_,%[rj|_ce3 S.e u.m _a0ajbcNm (PW.pt$ KP %[rj|_u Xd _3jw _]$ JW$ PW.pt %[rj|_Xu Kg _3jw _ _νB2]) _dkfaoa cN.e u.m _a0bbscmu Xd _3jw _ _dkfaoaly1 S.e u.m _a0aCψg ml _σa1bbpbsce4 cF.e u _a0a1anε2jbdkfaoal Qb _o S.e u.m _a0ajbpa4a cF.e u _a0a1anε2jbb],?_];let b0:=zO;let j:g≠p:=qM B hg;erw[aj λF1 l=>#[12,p,6,Z,B,Ra,Ra,λM O k0 k1 R e1=>l _ _ ?_]];let k:O g=(ys.map Cv)⁻¹:=by rw[e1 g j];rwa[hg]
 let U:aA p H O:=aA.of_eq e1;let num:∀(D:Int) (a:Hp) (r:η),0<=D->D < 1000000000000000000->ar a p->(∀b,b≠p->a b=O b)->a r=ι->Q (.ref r) (af a r$ .tup [.str "num",.int D]):=λD a r C I i o N=>
  q r (.num D) _ jc (by show((0:Nat):Int)<=d;rwa[N09]) #[C,I] (i.upd_new N) ((U.trans$ aA.of_eq o).upd_new N)
 erw[aj λF1 l=>eB (λJ H'=>J=[↑p,↑g,δ$ .int d,δ$ .int M,ι]/\H'=O/\(M<=3∨d≠0)) (λE2 eR fm=>?_) λJ H' W=>?_]
 .erw[sF λG' G=>#[12112212,?_]];refine cf (λc=>?_) (λc=>?_)
  .erw[G _ _$ yj ?_];show gZ _ E2 _ _;unfold gZ;rw[eR];rwa[12,p,Z,R,λD a C I i o=>#[b8,λr N=>num D a r C I i o N]]
  erw[12112212,?_];erw[cf (λc2=>?_) (λc2=>?_)]
  .erw[#[12212,G _ _ ?_]];refine cf (λc3=>?_) (λc3=>?_)
   .show gZ _ E2 _ _;unfold gZ;rw[eR];rwa[12,p,Z,R,λD a C I i o=>#[b8,λr N=>num D a r C I i o N]]
   .rwa[fm _ _ #[22,.inr λz=>c3 (by rw[z];rfl)]]
  .let c1:¬(3:Int) < M:=Vh (mS.mpr c2);rwa[G _ _$ pM$ fm _ _ #[22,.inl P']]
 let(rfl,eH,hk):=W;rw[eH];erw[l _ _ ?_];erw[aj λF1 l=>sF λG' G=>#[12112212,G _ _ ?_]];erw[cf (λc=>?_) (λc=>l _ _ ?_)]
 .-- a variable
  erw[121212,g,12,.inl$ aE.of k,p,12,R,by rw[RJ];omega,by rw[RJ];omega,λD a X L i o=>?_];rw[RJ]at L;let(y,hy,Y):=Qd (ys:=ys) X L;let t:a g=(ys.map Cv)⁻¹:=by rw[o g j];rwa[k]
  erw[g,11122,aE.of t,Y,b8,λr N=>?_];rwa[q r (.var y) _ jc (by show((0:Nat):Int)<=d;omega) hy (i.upd_new N) ((U.trans$ aA.of_eq o).upd_new N)]
 .let c':¬M < (4:Int):=Vh (mS.mpr c);let hd:d≠0:=hk.resolve_left P';erw[1212121122,p,g,d - 1,ys,Z,R,k,v,x,P',P',λr1 T1 a t1 d3 g0 i k2=>?_];let t:a g=(ys.map Cv)⁻¹:=k2 g _ j k;erw[12,p,6,Z,i,Ra,Ra,λs3 H3 s0 s1 B3 e3=>?_];let h0:H3 g=(ys.map Cv)⁻¹:=by rw[e3 g j];exact t
  let k3:aA p a H3:=aA.of_eq e3;erw[nj,1122,(by rw[Bf];omega),IU s0 s1,?_];erw[121212121122,p,g,d - 1,ys,Z,B3,h0,v,x,P',P',λr2 T2 H4 t2 d4 g1 B4 k4=>?_];erw[wW,λr N=>?_];let t0:bu H4 T1 r1:=(t1.but i k3).but B3 k4;erw[q r (.op s3.toNat T1 T2) _ #[r1,r2,jc,t0.new N,t2.new N] ?_ #[P',g0,g1] (B4.upd_new N) (((U.trans k2).trans$ k3.trans k4).upd_new N)];show((max T1.depth T2.depth+1:Nat):Int)<=d;omega
def C1:⇑2 f e z11z (dm 0):=by
 let n:∀v H Q E,¬dm 0 v H Q E:=λv H Q E h=>by let(p,g,d,y,_,_,_,_,_,i,b,_):=h;let c:d < ((0:Nat):Int):=b;omega
 rwa[λv H Q E h=>absurd h (n v H Q E),λA o s H a u v Q E _ _ _ _ h=>absurd h (n v H Q E)]
theorem FE(F:Fr K "_law_term" t9 f a)(b:ax K a z11z [])(m:mg "_law_term"=↑f)(c:Cl P w K mg base 1 g d z0z aZ "_law_take")(C:Cl P w K mg base 2 h e z2z iG "_law_number")(M:mg "len"=ι):
  ∀n:Nat,⇑(n+2) f a z11z (dm n)
 |0=>C1
 |n+1=>Dn F #[(FE F b m c C M n),b,F.kp,m] c C M
end _K
namespace _K
open PySem PySem.Spec PyProof.Rows _L
variable {P:Δ}{w:cv}{K:γ}{mg:ρ->FC ζ}{base:df}
local macro_rules(kind:=«term{_}»)|`({$n})=>do{let i:=Lean.mkIdent;`(_K.Cl $(i `P) $(i `w) $(i `K) $(i `mg) $(i `base) $n)}
noncomputable def Tm.vars:Tm->FA ρ
 | .num _=>[]
 | .var x=>[x]
 | .op _ a b=>a.vars++b.vars
theorem kM:∀{t:Tm},t.Good y->∀x∈t.vars,x∈y
 | .num _,_,_,h=>nomatch h
 | .var _,g,_,h=>by rw[τ.mp h];rwa[g]
 | .op _ _ _,g,_,h=>(ψ.mp h).elim (kM g.2.1 _) (kM g.2.2 _)
theorem kC:∀{l m:FA ρ},l.Nodup->(∀x∈l,x∈m)->ο l<=ο m
 | [],_,_,_=>R4 _
 |x::l,m,n,h=>by rw[WK]at n;let H:=h x Sa;let q:=kC (l:=l) (m:=m.erase x) n.2 λy a=>(List.mem_erase_of_ne (λe=>n.1 (by rw[<- e];rwa[a]))).mpr (h y$ Sd _ a);rw[List.length_erase_of_mem H]at q;let:0 < ο m:=List.length_pos_of_mem H;rw[So];omega
theorem QJ:∀{l m:FA ρ},l.Nodup->m.Nodup->(∀x,x∈l↔x∈m)->l.Perm m
 | [],[],_,_,_=>.nil
 | [],y::m,_,_,h=>absurd ((h y).mpr Sa) P9
 |x::l,m,n,N,h=>by
  rw[WK]at n;let a:x∈m:=(h x).mp Sa;erw[(tz x$ QJ n.2 (N.erase x) λy=>?_).trans (List.perm_cons_erase a).symm];rw[N.mem_erase_iff];constructor
  .intro H;rwa[λe=>n.1 (by rw[<- e];rwa[H]),(h y).mp$ Sd _ H]
  .rintro ⟨b,H⟩;exact(ω.mp ((h y).mpr H)).resolve_left b
theorem XB:∀{p:ρ} {l:FA ρ},risingS p l=μ->(p::l).Pairwise λa b=>a.cps.toList<=b.cps.toList
 |p,[],_=>by simp
 |p,x::r,h=>by
  let H:(!ltCps x.cps.toList p.cps.toList&&risingS x r)=μ:=h;rw[Tp]at H;let i:=XB H.2;let c:p.cps.toList<=x.cps.toList:=by let z:=H.1;rw[ltCps_eq]at z;simpa using z
  rw[hY]at i ⊢;erw[λy hy=>?_,hY.mpr i];rcases ω.mp hy with rfl |hy
  .rwa[c]
  .rwa[List.le_trans c$ i.1 y hy]
def XC(h:sortedS l=μ):l.Pairwise λa b=>a.cps.toList<=b.cps.toList:=by
 cases l with
 |nil=>rwa[.nil]
 |cons x r=>rwa[XB h]
def Zr{l:FA ρ}(p:l.Perm m)(h:sortedS l=μ)(H:sortedS m=μ):l=m:=by erw[rb.eq_of_pairwise (λa b _ _ x y=>?_) (XC h) (XC H) p];let e:=List.le_antisymm x y;cases a;cases b;rwa[SQ Str.mk$ Array.toList_inj.mp e]
inductive Lf where
 |rd (x:ρ) (t:η) (T:Tm)
 |st (x:ρ) (t:η) (T:Tm)
 |wr (t u:η) (T U:Tm)
 |cl (x f:ρ) (q:η) (ts:FA (η×Tm))
 |gv (t:η) (T:Tm)
def Cc(H:Hp):Lf->FA V->Prop
 | .rd x t T,v=>v=[.str "read",.str x,.ref t]/\bu H T t
 | .st x t T,v=>v=[.str "set",.str x,.ref t]/\bu H T t
 | .wr t u T U,v=>v=[.str "write",.ref t,.ref u]/\bu H T t/\bu H U u
 | .cl x f q a,v=>v=[.str "call",.str x,.str f,.ref q]/\H q= ~~~(a.map λc=>Fa c.1)/\∀c∈a,bu H c.2 c.1
 | .gv t T,v=>v=[.str "give",.ref t]/\bu H T t
def Cc.mono(k:am H a)(h:Cc H l v):Cc a l v:=by
 cases l with
 |rd x t T |st x t T |gv t T=>rwa[h.1,h.2.mono k]
 |wr t u T U=>rwa[h.1,h.2.1.mono k,h.2.2.mono k]
 |cl x f q d=>rwa[h.1,k _ _ h.2.1,λc b=>(h.2.2 c b).mono k]
inductive Bd where
 |nil
 |lf (p:η) (l:Lf) (r:Bd)
 |ite (p t:η) (T:Tm) (a b r:Bd)
 |loop (p t:η) (T:Tm) (a r:Bd)
noncomputable def Bd.app:Bd->Bd->Bd
 | .nil,s=>s
 | .lf p l r,s=>.lf p l (r.app s)
 | .ite p t T a b r,s=>.ite p t T a b (r.app s)
 | .loop p t T a r,s=>.loop p t T a (r.app s)
noncomputable def Bd.size:Bd->Nat
 | .nil=>0
 | .lf _ _ r=>r.size+1
 | .ite _ _ _ a b r=>a.size+b.size+r.size+1
 | .loop _ _ _ a r=>a.size+r.size+1
noncomputable def Bd.dep:Bd->Nat
 | .nil=>0
 | .lf _ _ r=>r.dep
 | .ite _ _ _ a b r=>max (max a.dep b.dep+1) r.dep
 | .loop _ _ _ a r=>max (a.dep+1) r.dep
def dM(y:FA ρ)(T:Tm):Prop:=T.Good y/\T.depth < 6
def Lf.Ok(y:FA ρ):Lf->Prop
 | .rd x _ T | .st x _ T=>x∈y/\dM y T
 | .wr _ _ T U=>dM y T/\dM y U
 | .cl x _ _ t=>x∈y/\ο t<=6/\∀c∈t,dM y c.2
 | .gv _ T=>dM y T
def Bd.Ok(y:FA ρ):Bd->Prop
 | .nil=>True
 | .lf _ l r=>l.Ok y/\r.Ok y
 | .ite _ _ T a b r=>dM y T/\a.Ok y/\b.Ok y/\r.Ok y
 | .loop _ _ T a r=>dM y T/\a.Ok y/\r.Ok y
abbrev iW:=FA (ρ×Nat)
def Lf.Cs(F:iW):Lf->Prop
 | .cl _ f _ t=>(f,t.length)∈F
 |_=>True
def Bd.Cs(F:iW):Bd->Prop
 | .nil=>True
 | .lf _ l r=>l.Cs F/\r.Cs F
 | .ite _ _ _ a b r=>a.Cs F/\b.Cs F/\r.Cs F
 | .loop _ _ _ a r=>a.Cs F/\r.Cs F
theorem Qe{F:iW}:∀{a b:Bd},a.Cs F->b.Cs F->(a.app b).Cs F
 | .nil,_,_,h=>h
 | .lf _ _ _,_,h,k=>#[h.1,Qe h.2 k]
 | .ite _ _ _ _ _ _,_,h,k=>#[h.1,h.2.1,Qe h.2.2 k]
 | .loop _ _ _ _ _,_,h,k=>#[h.1,Qe h.2 k]
theorem kN{F:iW}(k:∀f∈F,f∈G):∀{a:Bd},a.Cs F->a.Cs G
 | .nil,_=>trivial
 | .lf _ l _,h=>#[by cases l<;>first |exact k _ h.1 |trivial,kN k h.2]
 | .ite _ _ _ _ _ _,h=>#[kN k h.1,kN k h.2.1,kN k h.2.2]
 | .loop _ _ _ _ _,h=>#[kN k h.1,kN k h.2]
noncomputable def Lf.calls:Lf->iW
 | .cl _ f _ t=>[(f,t.length)]
 |_=>[]
noncomputable def Bd.calls:Bd->iW
 | .nil=>[]
 | .lf _ l r=>l.calls++r.calls
 | .ite _ _ _ a b r=>a.calls++(b.calls++r.calls)
 | .loop _ _ _ a r=>a.calls++r.calls
theorem zQ:∀b:Bd,b.Cs b.calls
 | .nil=>trivial
 | .lf _ l r=>#[by cases l<;>first |exact lO _ List.mem_cons_self |trivial,kN (λ_ h=>ic _ h) (zQ r)]
 | .ite _ _ _ a b r=>#[kN (λ_ h=>lO _ h) (zQ a),kN (λ_ h=>ic _ (lO _ h)) (zQ b),kN (λ_ h=>ic _ (ic _ h)) (zQ r)]
 | .loop _ _ _ a r=>#[kN (λ_ h=>lO _ h) (zQ a),kN (λ_ h=>ic _ h) (zQ r)]
theorem zR{F:iW}:∀{b:Bd},b.Cs F->∀f∈b.calls,f∈F
 | .nil,_,_,h=>nomatch h
 | .lf _ l r,k,f,h=>(ψ.mp h).elim (λh=>by cases l<;>first | (rw[τ.mp h];rwa[k.1]) |exact nomatch h) (zR k.2 f)
 | .ite _ _ _ a b r,k,f,h=>(ψ.mp h).elim (zR k.1 f) λh=>(ψ.mp h).elim (zR k.2.1 f) (zR k.2.2 f)
 | .loop _ _ _ a r,k,f,h=>(ψ.mp h).elim (zR k.1 f) (zR k.2 f)
theorem j6:∀(a b:Bd),(a.app b).size=a.size+b.size
 | .nil,b=>by show b.size=0+b.size;omega
 | .lf _ _ r,b=>by let:=j6 r b;show(r.app b).size+1=r.size+1+b.size;omega
 | .ite _ _ _ x y r,b=>by let:=j6 r b;show x.size+y.size+(r.app b).size+1=x.size+y.size+r.size+1+b.size;omega
 | .loop _ _ _ x r,b=>by let:=j6 r b;show x.size+(r.app b).size+1=x.size+r.size+1+b.size;omega
theorem zD:∀(a b:Bd),(a.app b).dep=max a.dep b.dep
 | .nil,b=>(Nat.zero_max b.dep).symm
 | .lf _ _ r,b=>zD r b
 | .ite _ _ _ x y r,b | .loop _ _ _ x r,b=>by show max _ (r.app b).dep=max (max _ r.dep) b.dep;rw[zD r b,Nat.max_assoc]
theorem Qg:∀{a b:Bd},a.Ok y->b.Ok y->(a.app b).Ok y
 | .nil,_,_,h=>h
 | .lf _ _ _,_,g,h=>#[g.1,Qg g.2 h]
 | .ite _ _ _ _ _ _,_,g,h=>#[g.1,g.2.1,g.2.2.1,Qg g.2.2.2 h]
 | .loop _ _ _ _ _,_,g,h=>#[g.1,g.2.1,Qg g.2.2 h]
inductive dZi(H:Hp)(p t:η)(T:Tm)(a b R:FA V->Prop)(x:FA V):Prop|mk(q Q A B y:_)(_:x= .ref p::y)(_:H p= ~~~[.str "if",.ref t,.ref q,.ref Q])(_:bu H T t)(_:H q= ~~~A)(_:H Q= ~~~B)(_:a A)(_:b B)(_:R y)
inductive dZl(H:Hp)(p t:η)(T:Tm)(a R:FA V->Prop)(x:FA V):Prop|mk(q A y:_)(_:x= .ref p::y)(_:H p= ~~~[.str "while",.ref t,.ref q])(_:bu H T t)(_:H q= ~~~A)(_:a A)(_:R y)
def dZ(H:Hp):Bd->FA V->Prop
 | .nil,x=>x=[]
 | .lf p l r,x=>∃v y,x= .ref p::y/\H p= ~~~v/\Cc H l v/\dZ H r y
 | .ite p t T a b r,x=>dZi H p t T (dZ H a) (dZ H b) (dZ H r) x
 | .loop p t T a r,x=>dZl H p t T (dZ H a) (dZ H r) x
def dZ.mono(k:am H m):∀{x:FA V},dZ H a x->dZ m a x:=by
 induction a with
 |nil=>exactλh=>h
 |lf p l r n=>rintro x ⟨v,y,e,c,d,f⟩;rwa[v,y,e,k _ _ c,d.mono k,n f]
 |ite p t T a b r i o I=>rintro x ⟨q,Q,A,B,y,e,c,g,d,f,j,s,u⟩;rwa[q,Q,A,B,y,e,k _ _ c,g.mono k,k _ _ d,k _ _ f,i j,o s,I u]
 |loop p t T a r i I=>rintro x ⟨q,A,y,e,c,g,d,f,j⟩;rwa[q,A,y,e,k _ _ c,g.mono k,k _ _ d,i f,I j]
def dZ.app(k:dZ H b y):∀{x:FA V},dZ H a x->dZ H (a.app b) (x++y):=by
 induction a with
 |nil=>intro x h;let e:x=[]:=h;rw[e];rwa[k]
 |lf p l r I=>rintro x ⟨v,z,e,c,d,f⟩;rwa[v,z++y,by rw[e];rfl,c,d,I f]
 |ite p t T a b r _ _ i=>rintro x ⟨q,Q,A,B,z,e,c,g,d,f,j,m,n⟩;rwa[q,Q,A,B,z++y,by rw[e];rfl,c,g,d,f,j,m,i n]
 |loop p t T a r _ i=>rintro x ⟨q,A,z,e,c,g,d,f,j⟩;rwa[q,A,z++y,by rw[e];rfl,c,g,d,f,i j]
def dZ.len:∀{x:FA V},dZ H a x->ο x<=a.size:=by
 induction a with
 |nil=>intro x h;let e:x=[]:=h;rw[e];rwa[RO 0]
 |lf p l r I=>rintro x ⟨v,y,e,d,f,c⟩;rw[e];rwa[TY (I c)]
 |ite p t T a b r _ _ i=>rintro x ⟨q,Q,A,B,y,e,d,j,f,c,g,m,k⟩;rw[e];rwa[TY (Sf (i k) (Nat.le_add_left _ _))]
 |loop p t T a r _ i=>rintro x ⟨q,A,y,e,d,j,f,c,g⟩;rw[e];rwa[TY (Sf (i g) (Nat.le_add_left _ _))]
inductive iN(H:Hp):V->Bd->Prop
 |lf (p:η) (l:Lf) (vs:FA V) (h1:H p= ~~~vs) (h2:Cc H l vs):iN H (.ref p) (.lf p l .nil)
 |ite (p t:η) (T:Tm) (a b:Bd) (qa qb:η) (as bs:FA V) (h1:H p= ~~~[.str "if",.ref t,.ref qa,.ref qb]) (h0:bu H T t) (h2:H qa= ~~~as) (h3:H qb= ~~~bs) (h4:dZ H a as) (h5:dZ H b bs):iN H (.ref p) (.ite p t T a b .nil)
 |loop (p t:η) (T:Tm) (a:Bd) (qa:η) (as:FA V) (h1:H p= ~~~[.str "while",.ref t,.ref qa]) (h0:bu H T t) (h2:H qa= ~~~as) (h3:dZ H a as):iN H (.ref p) (.loop p t T a .nil)
def iN.bd(h:iN H v s):dZ H s [v]:=by
 cases h with
 |lf p l V c d=>rwa[V,[],Z,c,d,Z]
 |ite p t T a b q Q A B c e d f g i=>rwa[q,Q,A,B,[],Z,c,e,d,f,g,i,Z]
 |loop p t T a q A c e d f=>rwa[q,A,[],Z,c,e,d,f,Z]
def iN.mono(k:am H g)(h:iN H v s):iN g v s:=by
 cases h with
 |lf p l V c d=>rwa[.lf p l V (k _ _ c) (d.mono k)]
 |ite p t T a b q Q A B c e d f i j=>rwa[.ite p t T a b q Q A B (k _ _ c) (e.mono k) (k _ _ d) (k _ _ f) (i.mono k) (j.mono k)]
 |loop p t T a q A c e d f=>rwa[.loop p t T a q A (k _ _ c) (e.mono k) (k _ _ d) (f.mono k)]
def dZ.last:∀{x:FA V},dZ H a x->x=[]/\a= .nil∨∃z v b s,x=z++[v]/\a=b.app s/\dZ H b z/\iN H v s:=by
 induction a with
 |nil=>exactλh=>.inl #[h,Z]
 |lf p l r i=>
  rintro x ⟨u,y,e,f,g,n⟩;rcases i n with ⟨E,d⟩ | ⟨z,v,b,s,E,d,j,k⟩
  .rwa[.inr #[[],.ref p,.nil,.lf p l .nil,by rw[e,E];rfl,by rw[d];rfl,Z,.lf p l u f g]]
  .rwa[.inr #[.ref p::z,v,.lf p l b,s,by rw[e,E];rfl,by rw[d];rfl,#[u,z,Z,f,g,j],k]]
 |ite p t T a b r _ _ i=>
  rintro x ⟨q,Q,A,B,y,e,f,m,g,n,G,C,o⟩;rcases i o with ⟨E,d⟩ | ⟨z,v,c,s,E,d,j,k⟩
  .rwa[.inr #[[],.ref p,.nil,.ite p t T a b .nil,by rw[e,E];rfl,by rw[d];rfl,Z,.ite p t T a b q Q A B f m g n G C]]
  .rwa[.inr #[.ref p::z,v,.ite p t T a b c,s,by rw[e,E];rfl,by rw[d];rfl,#[q,Q,A,B,z,Z,f,m,g,n,G,C,j],k]]
 |loop p t T a r _ i=>
  rintro x ⟨q,A,y,e,f,m,g,G,o⟩;rcases i o with ⟨E,d⟩ | ⟨z,v,c,s,E,d,j,k⟩
  .rwa[.inr #[[],.ref p,.nil,.loop p t T a .nil,by rw[e,E];rfl,by rw[d];rfl,Z,.loop p t T a q A f m g G]]
  .rwa[.inr #[.ref p::z,v,.loop p t T a c,s,by rw[e,E];rfl,by rw[d];rfl,#[q,A,z,Z,f,m,g,G,j],k]]
theorem qf:∀{a b:Bd},(a.app b).Ok y->a.Ok y/\b.Ok y
 | .nil,_,h=>#[trivial,h]
 | .lf _ _ _,_,h=>#[#[h.1,(qf h.2).1],(qf h.2).2]
 | .ite _ _ _ _ _ _,_,h=>#[#[h.1,h.2.1,h.2.2.1,(qf h.2.2.2).1],(qf h.2.2.2).2]
 | .loop _ _ _ _ _,_,h=>#[#[h.1,h.2.1,(qf h.2.2).1],(qf h.2.2).2]
structure Nm(ss:FA ρ)(M:ρ->Prop):Prop where
 nd:ss.Nodup
 so:sortedS ss=μ
 mem:∀x,x∈ss↔M x
def Nm.uniq(h:Nm a M)(g:Nm s M):a=s:=Zr (QJ h.nd g.nd λx=>(h.mem x).trans (g.mem x).symm) h.so g.so
open Classical in
def canon(M:ρ->Prop):FA ρ:=if h:∃s,Nm s M then Classical.choose h else []
def Nm.canon(h:Nm s M):s=canon M:=by let e:∃s,Nm s M:=#[s,h];unfold _K.canon;rw[dif_pos e];rwa[h.uniq$ Classical.choose_spec e]
def Nm.len{s y:FA ρ}{M:ρ->Prop}(h:Nm s M)(H:∀x,M x->x∈y):ο s<=ο y:=kC h.nd λx a=>H x ((h.mem x).mp a)
def Lf.use(M:ρ->Prop):Lf->ρ->Prop
 | .rd x _ T,y | .st x _ T,y=>(M y/\y≠x)∨y∈T.vars
 | .wr _ _ T U,y=>M y∨y∈T.vars∨y∈U.vars
 | .cl x _ _ t,y=>(M y/\y≠x)∨∃c∈t,y∈c.2.vars
 | .gv _ T,y=>y∈T.vars
def Bd.use:Bd->(ρ->Prop)->ρ->Prop
 | .nil,M=>M
 | .lf _ l r,M=>l.use (r.use M)
 | .ite _ _ T a b r,M=>λy=>(a.use (r.use M) y∨b.use (r.use M) y)∨y∈T.vars
 | .loop _ _ T a r,M=>λy=>(a.use (λ_=>False) y∨r.use M y)∨y∈T.vars
theorem KC:∀(a b:Bd) (M:ρ->Prop),(a.app b).use M=a.use (b.use M)
 | .nil,_,_=>rfl
 | .lf _ l r,b,M=>by show l.use ((r.app b).use M)=l.use (r.use (b.use M));rw[KC r b M]
 | .ite _ _ T x y r,b,M=>by show(λz=>(x.use ((r.app b).use M) z∨y.use ((r.app b).use M) z)∨z∈T.vars)=λz=>(x.use (r.use (b.use M)) z∨y.use (r.use (b.use M)) z)∨z∈T.vars;rw[KC r b M]
 | .loop _ _ T x r,b,M=>by show(λz=>(x.use (λ_=>False) z∨(r.app b).use M z)∨z∈T.vars)=λz=>(x.use (λ_=>False) z∨r.use (b.use M) z)∨z∈T.vars;rw[KC r b M]
def Lf.use_in{M:ρ->Prop}{l:Lf}(h:l.Ok Y)(a:∀x,M x->x∈Y):∀y,l.use M y->y∈Y:=by
 intro y H;cases l with
 |rd x t T |st x t T=>rwa[H.elim (λz=>a y z.1) (kM h.2.1 y)]
 |wr t u T U=>rwa[H.elim (a y) λz=>z.elim (kM h.1.1 y) (kM h.2.1 y)]
 |cl x f q d=>rwa[H.elim (λz=>a y z.1) λ#[c,b,z]=>kM (h.2.2 c b).1 y z]
 |gv t T=>rwa[kM h.1 y H]
theorem Bd.use_in:∀{b:Bd} {M:ρ->Prop},b.Ok Y->(∀x,M x->x∈Y)->∀y,b.use M y->y∈Y
 | .nil,_,_,H,y,c=>H y c
 | .lf _ l r,_,h,H,y,c=>Lf.use_in h.1 (Bd.use_in h.2 H) y c
 | .ite _ _ T a b r,_,h,H,y,c=>c.elim (λz=>z.elim (Bd.use_in h.2.1 (Bd.use_in h.2.2.2 H) y) (Bd.use_in h.2.2.1 (Bd.use_in h.2.2.2 H) y)) (kM h.1.1 y)
 | .loop _ _ T a r,_,h,H,y,c=>c.elim (λz=>z.elim (Bd.use_in h.2.1 (λ_ w=>w.elim) y) (Bd.use_in h.2.2 H y)) (kM h.1.1 y)
abbrev fh:de:=bN 14
abbrev II:de:=bN 39
abbrev AT:de:=bN 40
abbrev DY:de:=bN 41
abbrev DX:de:=bN 42
inductive dH(n:Nat)(c:FA V)(H:Hp)(Q:VK)(b:XK):Prop
 |mk(a:η)(T:Tm)(d:FA ρ)(_:c=[.ref a])(_:bu H T a)(_:T.depth < n)(_:T.Good d)(_:ο d<=21)(_:∀(r:η) (ss:FA ρ) (H':Hp),H r=ι->H' r=(ss.map Cv)⁻¹->ss.Nodup->(∀x,x∈ss↔x∈T.vars)->sortedS ss=μ->aa H H'->Q (.ref r) H')
def A2:al z1z z1z (ae fh):=bP
def Dh{f:η}{o:dN}(F:Fr K "names_in" fh f o){n:Nat}(C:{n+1} f o z1z (dH n) "names_in")(M:mg "set"=ι)(p:mg "sorted"=ι):⇑(n+2) f o z1z (dH$ n+1):=by
 erw[F.ok A2 (λc0 A O s H vs Q E v h=>?_)]
 let(a,T,Y,rfl,t,dp,g,j,q):=h;erw[_,%[Z|_cmrh0dkqbscmrh0dkqah0bsdkC (qI Z) _g p _ωaF (Jr Z) _g M boot_set _anρ C.e v _ah0b C.e v _ah0bbb],?_];cases T with
 |num m=>have b:H a= ~~~[.str "num",.int m]:=t;erw[(ju b Z #[212,cw P8 ?_])];rwa[Ra,λr N=>q r [] _ N jc Vp (λx=>Wn) Z (je N)]
 |var x=>have b:H a= ~~~[.str "var",.str x]:=t;erw[(ju b Z #[212,aW P8 ?_])];erw[(ju b Z #[212,cw P8 ?_])];exact(ju b Z #[l7,λr N=>q r [x] _ N jc P9 (λy=>Wn) Z (je N)])
 |op i B D=>let(p1,p2,b,h1,h2):=t;let d0:max B.depth D.depth+1 < n+1:=dp;erw[(ju b Z #[212,aW P8 ?_])];erw[(ju b Z #[212,aW P8 ?_])];erw[(ju b Z #[p1,B,Y,Z,h1,P',g.2.1,j,λr1 S H1 n1 e1 d1 G o1 u=>?_])];erw[(ju (u _ _ b) Z #[p2,D,Y,Z,h2.same u,P',g.2.2,j,λr2 k H2 n2 e2 d2 I o2 J=>?_])];let l1:ο S<=21:=Sf (kC d1 λx d=>kM g.2.1 x ((G x).mp d)) j;let l2:ο k<=21:=Sf (kC d2 λx d=>kM g.2.2 x ((I x).mp d)) j;let b0:=zO;erw[r1,r2,1122,J _ _ e1,e2,(by rw[RJ,RJ];omega),λc nc=>?_];erw[c,S++k,Z,aE.of (by rw[jc,RP]),(λL nd hs=>TZ (TY$ kC nd hs) (by rw[RN];show ο S+ο k+1 < 4096;omega)),λl L nl dL R=>?_];let lL:=kC dL λx d=>(R x).mp d;rw[RN]at lL;erw[l,L,Z,jc,P',λz ss U W dz oz=>?_];let X:aa H (af (af H2 c$ .lst$ S.map Cv++k.map Cv) l$ NJ P w l L):=(u.trans J).trans ((je nc).trans$ je nl);erw[q z ss _ (X.free U) jc (W.nodup_iff.mpr dz) (λx=>?_) oz$ X.trans$ je U];rw[W.mem_iff,R x,Tw,G x,I x];rwa[ψ.symm]
def C0:⇑1 f d z1z (dH 0):=by
 let n:∀v H Q E,¬dH 0 v H Q E:=λv H Q E h=>by let(a,T,y,_,_,c,_):=h;rwa[absurd c$ Uv _]
 rwa[λv H Q E h=>absurd h (n v H Q E),λA o s H b u v Q E _ _ _ _ h=>absurd h (n v H Q E)]
theorem Fd(F:Fr K "names_in" fh f a)(b:ax K a z1z [])(c:mg "names_in"=↑f)(m:mg "set"=ι)(M:mg "sorted"=ι):
  ∀n:Nat,⇑(n+1) f a z1z (dH n)
 |0=>C0
 |n+1=>Dh F #[(Fd F b c m M n),b,F.kp,c] m M
noncomputable def Lf.own:Lf->FA (η×Tm)
 | .rd _ t T | .st _ t T=>[(t,T)]
 | .wr t u T U=>[(t,T),(u,U)]
 | .cl _ _ _ a=>a
 | .gv t T=>[(t,T)]
def Bd.own:Bd->FA (η×Tm)
 | .nil=>[]
 | .lf _ l _=>l.own
 | .ite _ t T _ _ _ | .loop _ t T _ _=>[(t,T)]
noncomputable def rT(c:η×Tm):V:=.ref c.1
inductive oN(b:FA V)(H:Hp)(Q:VK)(a:XK):Prop
 |mk(v:V)(s:Bd)(_:b=[v])(_:iN H v s)(_:∀(r:η) (H':Hp),H' r= ~~~(s.own.map rT)->aa H H'->Q (.ref r) H')
def rJ:aN (a::b::r) (δ 1) (δ 2)=[b]:=by
 unfold aN;let e:(1:Int)=((1:Nat):Int):=rfl;let E:(2:Int)=((2:Nat):Int):=rfl;rw[E,e,HT.sIx_nat,HT.sIx_nat,So,So];let c:min 1 (ο r+1+1)=1:=P'
 let d:min 2 (ο r+1+1) - 1=1:=P'
 rw[c,d];rfl
def Fn:al ["statement","word"] z5z (ae II):=bP
def HR{f:η}{j:dN}(F:Fr K "own_terms" II f j):⇑1 f j z5z oN:=by
 erw[F.ok Fn λC A o s H V Q E d h=>?_]
 let(v,st,rfl,m,q):=h;erw[_,%[Fn|_ce1h0cmu zG _1faoaobgdkAα0xjQscmr1dkAα0xjQscmr1dkh0sdkAα0xjxj],?_];cases m with
 |lf p l V c g=>
  cases l with
  |rd x t T |st x t T=>let(rfl,i):=g;erw[(ju c Z #[12,b8,λl n=>#[l,12,.inr$ aC.of jc,2212,cw P8 ?_]])];rwa[1212,p,12,ap c n,λr e d s=>q r e d ((je n).trans s)]
  |wr t u T U=>let(rfl,i,L):=g;erw[(ju c Z #[12,b8,λl n=>#[l,12,.inr$ aC.of jc,2212,aW P8 ?_]])];erw[12212,cw P8 ?_];rwa[1212,p,12,ap c n,λr e d s=>q r e d ((je n).trans s)]
  |cl x M y N=>let(rfl,z,i):=g;erw[(ju c Z #[12,b8,λl n=>#[l,12,.inr$ aC.of jc,2212,aW P8 ?_]])];erw[12212,aW P8 ?_];erw[12212,cw P8 ?_];exact(ju (ap c n) Z$ q y _ (ap z n)$ je n)
  |gv t T=>let(rfl,i):=g;erw[(ju c Z #[12,b8,λl n=>#[l,12,.inr$ aC.of jc,2212,aW P8 ?_]])];erw[12212,aW P8 ?_];erw[12212,aW P8 ?_];rwa[121212,p,12,ap c n,λr e d s=>q r e (by rw[rJ]at d;rwa[d]) ((je n).trans s)]
 |ite p t T a b B O D R c G g I S W |loop p t T a B D c G g I=>erw[(ju c Z #[12,b8,λl n=>#[l,12,.inr$ aC.of jc,2212,aW P8 ?_]])];erw[12212,aW P8 ?_];erw[12212,aW P8 ?_];rwa[121212,p,12,ap c n,λr e d s=>q r e (by rw[rJ]at d;rwa[d]) ((je n).trans s)]
def QK{K:γ}{a:η}{Y:FA ρ}{t:TT}{T:TE}{q:FA V->Hp->Prop}{b:_L.St}{H:Hp}(f:ρ->Bool)(L:ο Y<=1000)(A:H a=(Y.map Cv)⁻¹)
  (B:∀y g (Q:Bool->Hp->Prop),y∈Y->aa H g->(∀j,aa g j->Q (f y) j)->t (δ (.str y)::b) g Q)
  (C:∀y g (Q:VK),y∈Y->Q (.str y) g->T (δ (.str y)::b) g Q) (D:∀c,aa H c->q ((Y.filter f).map Cv) c):eQ (BR K a) 1 b (bo 0) t T q H:=by
 let F:=zO;erw[λi m n c=>m=ο Y - i/\i<=ο Y/\n=((Y.take i).filter f).map Cv/\aa H c,#[Y.length,P9,R4 _,P9,aa.refl H],?_];rintro i m n c ⟨rfl,M,rfl,k⟩;let d:aE K c a (Y.map Cv):=aE.of (k _ _ A);by_cases h:i < ο Y
 .let o:(Y.map Cv)[i]?=δ (.str Y[i]):=by rw[RX,RI h];rfl
  erw[.inr #[#[11,d,o],?_,λz j=>z=((Y.take$ i+1).filter f).map Cv/\aa H j,λz j #[G,I]=>#[ο Y - (i+1),P',Z,h,G,I],λv j N l y=>?_]]
  .rw[RJ];let:=Vb f (Y.take i);rw[Se]at this;omega
  let(e,y):=y;subst e;let p:=y _ d;rw[o]at p;cases p;let(w,rfl):=vE l;let r:Y[i]∈Y:=UK h;let s:Y.take (i+1)=Y.take i++[Y[i]]:=by rw[SG,RI h];rfl
  erw[#[[δ _],22],B Y[i] _ _ r k λJ u=>?_];cases x:f Y[i] with
  |true=>
   erw[cw Z$ C Y[i] J _ r #[?_,k.trans u]];rw[s,U1,RP];let E:[Y[i]].filter f=[Y[i]]:=by simp [x]
   rw[E];rfl
  |false=>
   erw[aW Z #[?_,k.trans u]];rw[s,U1,RP];let E:[Y[i]].filter f=[]:=by simp [x]
   rw[E];simp
 .let e:i=ο Y:=by omega
  subst e;erw[.inl #[#[_,d,P9],?_]];rw[Tk$ RO _];rwa[D c k]
def Lf.bt(M:ρ->Prop):Lf->ρ->Prop
 | .rd x _ _,y | .st x _ _,y=>M y/\y≠x
 | .wr _ _ _ _,y=>M y
 | .cl x _ _ _,y=>M y/\y≠x
 | .gv _ _,_=>False
def Bd.bt(M:ρ->Prop):Bd->ρ->Prop
 | .nil,y=>M y
 | .lf _ l _,y=>l.bt M y
 | .ite _ _ _ a b _,y=>a.use M y∨b.use M y
 | .loop _ _ _ a _,y=>a.use (λ_=>False) y∨M y
def BF(h:iN H v s)(M:ρ->Prop)(y:ρ):s.use M y↔s.bt M y∨∃c∈s.own,y∈c.2.vars:=by
 cases h with
 |lf p l V _ _=>
  cases l with
  |rd x t T |st x t T=>rwa[λz=>z.elim .inl λw=>.inr #[_,τ.mpr Z,w],λz=>z.elim .inl λ#[c,hc,w]=>.inr (by rw[τ.mp hc]at w;rwa[w])]
  |wr t u T U=>
   erw[λz=>z.elim .inl λw=>.inr (w.elim (λw=>#[_,Sa ..,w]) λw=>#[_,Sd _$ τ.mpr Z,w]),λz=>z.elim .inl λ#[c,hc,w]=>.inr ?_];rcases ω.mp hc with e |hc
   .rw[e]at w;rwa[.inl w]
   .rw[τ.mp hc]at w;rwa[.inr w]
  |cl x f q d=>rwa[Wn]
  |gv t T=>rwa[λw=>.inr #[_,τ.mpr Z,w],λz=>z.elim False.elim λ#[c,hc,w]=>by rw[τ.mp hc]at w;rwa[w]]
 |ite p t T a b Q g A B _ _ _ _ _ _ |loop p t T a Q A _ _ _ _=>rwa[λz=>z.elim .inl λw=>.inr #[_,τ.mpr Z,w],λz=>z.elim .inl λ#[c,hc,w]=>.inr (by rw[τ.mp hc]at w;rwa[w])]
structure NL(H:Hp)(g:η)(ss:FA ρ)(M:ρ->Prop)(ys:FA ρ):Prop where
 at':H g=(ss.map Cv)⁻¹
 nm:Nm ss M
 sub:∀x,M x->x∈ys
 y20:ο ys<=21
def NL.len{H:Hp}{g:η}{s:FA ρ}{M:ρ->Prop}{y:FA ρ}(h:NL H g s M y):ο s<=21:=Sf (h.nm.len h.sub) h.y20
def NL.same(h:NL H g a M y)(s:aa H b):NL b g a M y:=#[s _ _ h.at',h.nm,h.sub,h.y20]
structure NU(H:Hp)(g:η)(ss:FA ρ)(M:ρ->Prop)(ys:FA ρ):Prop where
 at':H g=(ss.map Cv)⁻¹
 nd:ss.Nodup
 mem:∀x,x∈ss↔M x
 sub:∀x,M x->x∈ys
 y20:ο ys<=21
def NL.nu(h:NL H g s M y):NU H g s M y:=#[h.at',h.nm.nd,h.nm.mem,h.sub,h.y20]
inductive Bj(n:Nat)(c:FA V)(H:Hp)(Q:VK)(a:XK):Prop
 |mk(v:V)(g:η)(s:Bd)(b:FA ρ)(M:ρ->Prop)(d:FA ρ)(_:c=[v,.ref g])(_:iN H v s)(_:NL H g b M d)(_:s.Ok d)(_:s.dep < n+1)(_:s.size<=10000000)(_:∀(r:η) (zs:FA ρ) (H':Hp),H' r=(zs.map Cv)⁻¹->(∀y,y∈zs↔s.bt M y)->ο zs<=50->aa H H'->Q (.ref r) H')
inductive gV(n:Nat)(c:FA V)(H:Hp)(Q:VK)(a:XK):Prop
 |mk(v:V)(g:η)(s:Bd)(b:FA ρ)(M:ρ->Prop)(d:FA ρ)(_:c=[v,.ref g])(_:iN H v s)(_:NL H g b M d)(_:s.Ok d)(_:s.dep < n+1)(_:s.size<=10000000)(_:∀(r:η) (zs:FA ρ) (H':Hp),H r=ι->NL H' r zs (s.use M) d->aa H H'->Q (.ref r) H')
inductive lS(n:Nat)(e:FA V)(H:Hp)(Q:VK)(c:XK):Prop
 |mk(a g:η)(b:Bd)(f:FA V)(d:FA ρ)(M:ρ->Prop)(h:FA ρ)(_:e=[.ref a,.ref g])(_:H a= ~~~f)(_:dZ H b f)(_:NU H g d M h)(_:b.Ok h)(_:b.dep < n)(_:b.size<=10000000)(_:∀(r:η) (zs:FA ρ) (H':Hp),H r=ι->NL H' r zs (b.use M) h->aa H H'->Q (.ref r) H')
def Nm.empty:Nm [] (λ_=>False):=#[Vp,Z,λx=>#[λh=>absurd h Sz,False.elim]]
def Fq:al ["statement","behind","word"] z3z (ae AT):=bP
noncomputable def A9:gO:=#[.function,[(".0",.local),("name",.local),("statement",.free)],ξ,ξ,[]]
def Mx:(["name","statement"]:FA ρ).Nodup:=P8
def L9:a5 ["statement","behind","word"] (ae AT) A9 ["name","statement"] 1 [0]:=pe
def yS{L n:Nat}(F:Fr K "used_behind_terms" AT f fd)(J:{L} fA f0 z15z (lS n) "used_ahead"):⇑(L+1) f fd z3z (Bj n):=by
 erw[F.ok Fq λc0 A O s H vs Q E R h=>?_]
 let(v,g,st,G,M,Y,rfl,hs,c,W,hd,hz,q):=h;erw[_,%[Fq|_ce2h0cmu zG _2faoaoaobgdk (@km _ _ _ _ _ _ _ ["name","statement"] 1 [0] _ _ _ _ Z (jZ$ pv 1) L9 (λ_ _ _ _ _=>jr (i:=0) Mx Z$ Θ Z) (λ_ _ _ _ _=>@Zy _ _ _ %[Fq|_u Ys _0ζ (r:=dY K) _I1jpw _]) (λ_ _ _ _ _=>pv 0) FO) _scmr2dknρ J.e R.m _ah0a1b J.e R.m _ah0a1bscmr2dknρ J.e R.m _ah0aqbb1scmr2dkqbsdk1],?_];let g0:=c.len;cases hs with
 |lf p l vs d B=>
  cases l with
  |rd x t T |st x t T=>
   let(rfl,X):=B;erw[(ju d Z #[12,ip,λl N=>#[l,12,.inr$ aC.of jc,2212,cw P8 ?_]])];let S:aa H (af H l$ .tup [.str "set",.str "read",.str "call"]):=je N;erw[12,g,Z,#[_,aE.of$ S _ _ c.at'],QK (λy=>!decide (Cv y=Cv x)) P' (S _ _ c.at') (λy I Q' hy k C=>?_) (λy I Q' hy C=>#[12,C]) λH' k r j=>?_]
   .exact#[12,ju (k _ _$ S _ _ d) Z #[212,C _$ aa.refl _]]
   .erw[q r _ _ jc (λy=>?_) (Sf (Vb ..) P') ((S.trans k).trans$ je j)];rw[UX,c.nm.mem y];exact and_congr_right λ_=>by simp
  |wr t u T U=>let(rfl,X,hU):=B;erw[(ju d Z #[12,ip,λl N=>#[l,12,.inr$ aC.of jc,2212,aW P8 ?_]])];erw[12212,aW P8 ?_];erw[12212,aW P8 ?_];erw[12212,aW P8 ?_];rwa[12,q g G _ (ap c.at' N) c.nm.mem P'$ je N]
  |cl x f' q' ts=>
   let(rfl,h8,X):=B;erw[(ju d Z #[12,ip,λl N=>#[l,12,.inr$ aC.of jc,2212,cw P8 ?_]])];let S:aa H (af H l$ .tup [.str "set",.str "read",.str "call"]):=je N;erw[12,g,Z,#[_,aE.of$ S _ _ c.at'],QK (λy=>!decide (Cv y=Cv x)) P' (S _ _ c.at') (λy I Q' hy k C=>?_) (λy I Q' hy C=>#[12,C]) λH' k r j=>?_]
   .exact#[12,ju (k _ _$ S _ _ d) Z #[212,C _$ aa.refl _]]
   .erw[q r _ _ jc (λy=>?_) (Sf (Vb ..) P') ((S.trans k).trans$ je j)];rw[UX,c.nm.mem y];exact and_congr_right λ_=>by simp
  |gv t T=>let(rfl,X):=B;erw[(ju d Z #[12,ip,λl N=>#[l,12,.inr$ aC.of jc,2212,aW P8 ?_]])];erw[12212,aW P8 ?_];erw[12212,aW P8 ?_];erw[12212,cw P8 ?_];rwa[iT,λr j=>q r [] _ jc (λy=>#[λh=>absurd h Sz,λh=>(show False from h).elim]) (R4 _) ((je N).trans$ je j)]
 |ite p t T a b qa qb as bs d h0 B h3 h4 h5=>erw[(ju d Z #[12,ip,λl N=>#[l,12,.inr$ aC.of jc,2212,aW P8 ?_]])];erw[12212,cw P8 ?_];let S:aa H (af H l$ .tup [.str "set",.str "read",.str "call"]):=je N;let h6:max (max a.dep b.dep+1) 0 < n+1:=hd;let h7:a.size+b.size+0+1<=10000000:=hz;erw[(ju (S _ _ d) Z #[12,qa,g,a,as,G,M,Y,Z,S _ _ B,h4.mono$ aa.tm S,(c.same S).nu,W.2.1,P',P',λr1 z1 I _ D k1=>?_])];let z:=S.trans k1;erw[(ju (z _ _ d) Z #[12,qb,g,b,bs,G,M,Y,Z,z _ _ h3,h5.mono$ aa.tm z,(c.same z).nu,W.2.2.1,P',P',λr2 z2 H2 _ n2 k2=>?_])];let l1:=D.len;let l2:=n2.len;let b0:=zO;erw[r1,r2,1122,k2 _ _ D.at',n2.at',by rw[RJ,RJ];omega,λr j=>q r (z1++z2) _ (by rw[jc,RP]) (λy=>?_) (by rw[RN];omega) ((z.trans k2).trans$ je j)];rw[Tw,D.nm.mem y,n2.nm.mem y];rwa[Wn]
 |loop p t T a qa as d h0 B h3=>erw[(ju d Z #[12,ip,λl N=>#[l,12,.inr$ aC.of jc,2212,aW P8 ?_]])];erw[12212,aW P8 ?_];erw[12212,cw P8 ?_];let S:aa H (af H l$ .tup [.str "set",.str "read",.str "call"]):=je N;let h6:max (a.dep+1) 0 < n+1:=hd;let h7:a.size+0+1<=10000000:=hz;erw[(ju (S _ _ d) Z #[iT,λe ne=>?_])];let z:=S.trans (je (o:=.lst []) ne);erw[qa,e,a,as,[],λ_=>False,Y,Z,z _ _ B,h3.mono$ aa.tm z,(NL.nu #[jc,Nm.empty,λ_ w=>w.elim,c.y20]),W.2.1,P',P',λr1 z1 I _ D k1=>?_];let l1:=D.len;let s3:=z.trans k1;let b0:=zO;erw[12,r1,g,1122,D.at',s3 _ _ c.at',by rw[RJ,RJ];omega,λr j=>q r (z1++G) _ (by rw[jc,RP]) (λy=>?_) (by rw[RN];omega) (s3.trans$ je j)];rw[Tw,D.nm.mem y,c.nm.mem y];rwa[Wn]
def Ij(h:iN H v s):∀c∈s.own,bu H c.2 c.1:=by
 cases h with
 |lf p l V _ d=>
  cases l with
  |rd x t T |st x t T |gv t T=>intro c hc;rw[τ.mp hc];rwa[d.2]
  |wr t u T U=>
   intro c hc;rcases ω.mp hc with e |hc
   .rw[e];rwa[d.2.1]
   .rw[τ.mp hc];rwa[d.2.2]
  |cl x f q i=>rwa[d.2.2]
 |ite p t T a b Q j A B _ g _ _ _ _ |loop p t T a Q A _ g _ _=>intro c hc;rw[τ.mp hc];rwa[g]
def Ik(h:iN H v s)(o:s.Ok y):ο s.own<=100/\∀c∈s.own,dM y c.2:=by
 let one:∀(t:η) (T:Tm),dM y T->[(t,T)].length<=100/\∀c∈[(t,T)],dM y c.2:=λt T h=>#[by show 1<=100;omega,λc hc=>by rw[τ.mp hc];rwa[h]];cases h with
 |lf p l V _ g=>
  cases l with
  |rd x t T |st x t T=>rwa[one t T o.1.2]
  |wr t u T U=>
   erw[by show 2<=100;omega,λc hc=>?_];rcases ω.mp hc with e |hc
   .rw[e];rwa[o.1.1]
   .rw[τ.mp hc];rwa[o.1.2]
  |cl x f q i=>rwa[Sf o.1.2.1 Ra,o.1.2.2]
  |gv t T=>rwa[one t T o.1]
 |ite p t T a b Q j A B _ d _ _ _ _ |loop p t T a Q A _ d _ _=>rwa[one t T o.1]
theorem app_assoc:∀(a b c:Bd),(a.app b).app c=a.app (b.app c)
 | .nil,_,_=>rfl
 | .lf p l r,b,c=>by show Bd.lf p l ((r.app b).app c)=_;rw[app_assoc r b c];rfl
 | .ite p t T x y r,b,c=>by show Bd.ite p t T x y ((r.app b).app c)=_;rw[app_assoc r b c];rfl
 | .loop p t T x r,b,c=>by show Bd.loop p t T x ((r.app b).app c)=_;rw[app_assoc r b c];rfl
theorem app_nil:∀(a:Bd),a.app .nil=a
 | .nil=>rfl
 | .lf p l r=>by show Bd.lf p l (r.app .nil)=_;rw[app_nil r]
 | .ite p t T x y r=>by show Bd.ite p t T x y (r.app .nil)=_;rw[app_nil r]
 | .loop p t T x r=>by show Bd.loop p t T x (r.app .nil)=_;rw[app_nil r]
inductive OI(v:V)(g r k:η)(s:Bd)(M:ρ->Prop)(b:Hp)(i:Nat)(n:_L.St)(a:Hp):Prop
 |mk(l:FC V)(m:FA ρ)(d:n=[δ v,↑g,↑k,l])(e:a k=(m.map Cv)⁻¹)(f:∀y,y∈m↔s.bt M y∨∃c∈s.own.take i,y∈c.2.vars)(h:ο m<=50+21*i)(j:aA k b a)
def A6:al ["statement","behind","names","term"] z3z (ae DY):=bP
def yU{L:Nat}(F:Fr K "used_ahead_of" DY f fd)(cB:{L+9} fB f0 z3z (Bj n) "used_behind_terms")(cO:{1} fO f2 z5z oN "own_terms")(cN:{7} fN f3 z1z (dH 6) "names_in")(m0:mg "list"=ι)(m2:mg "set"=ι)(m3:mg "sorted"=ι):⇑(L+10) f fd z3z (gV n):=by
 erw[F.ok A6 λc0 A o0 s H vs Q E t h=>?_]
 let(v,g,st,ss,M,Y,rfl,j,u,U,hd,hz,q):=h;erw[_,%[A6|_ce2F JP _gβ boot_list _a cB.e t.m _a0a1bbcDOgT cO.e t.m _a0bi3dzER TX TW qt _2a cN.e t.m _a3bbdkC (qI Z) _g m3 _ωaF (Jr Z) _g m2 boot_set _a2bb],?_];erw[aj λF1 C=>#[1212,v,g,st,ss,M,Y,Z,j,u,U,hd,hz,λr1 G H1 e1 m1 l1 k1=>#[r1,12,.inl$ aE.of e1,λN I=>C _ _ ?_]]];let s2:aa H (af H1 N$ .lst$ G.map Cv):=k1.trans (je I);let J:=j.mono (aa.tm s2);let(o1,O):=Ik j U;let a:af H1 N (.lst$ G.map Cv) N=(G.map Cv)⁻¹:=jc;let h0:H N=ι:=k1.free I;generalize af H1 N (.lst$ G.map Cv)=H2 at s2 J a;erw[aj λF1 C=>?_];erw[db λF kF=>#[12,v,st,Z,J,λr H3 t W=>#[r,Z,#[_,aC.of t],kF _ _ ?_]]];let r0:r≠N:=jQ t (W _ _ a) FI;let s3:=s2.trans W;let b0:=zO;erw[qQ (K:=K) (xs:=st.own.map rT) (OI v g r N st M H3) #[_,G,Z,W _ _ a,λy=>?_,N09,aA.refl] (λi σ H' hi h=>?_) ?_ (λσ H' h=>C _ _ ?_)]
 .rw[m1 y];rwa[.inl,λz=>z.elim (λw=>w) λ#[c,p,_]=>absurd p Sz]
 .let(_,_,_,_,_,_,k):=h;rwa[aC.of$ k _ _ r0 t]
 .intro E _ i x σ H4 B fE Gq D h;let(o3,X,rfl,h1,R,h3,k4):=h;rw[RX]at B;cases p:st.own[i]? with
  |none=>rw[p]at B;cases B
  |some c=>
   rw[p]at B;cases B;erw[D ?_];let cm:=Sc p;let hi:i < ο st.own:=by
    rcases V0 i st.own.length with z |z
    .rwa[z]
    .rw[SM z]at p;cases p
   let tm:am H3 H4:=λb xs e=>k4 b _ (jQ e (W _ _ a) FI) e;show uP _ E [δ v,↑g,↑N,δ$ .ref c.1] H4;erw[12,.inl #[21,aE.of h1],12,c.1,c.2,Y,Z,((Ij j c cm).mono$ aa.tm s3).mono tm,(O c cm).2,(O c cm).1,u.y20,λr5 s5 H5 n5 e5 d5 m5 o5 k5=>?_];let l5:ο s5<=21:=Sf (kC d5 λx B=>kM (O c cm).1 x ((m5 x).mp B)) u.y20;erw[N,r5,1122,k5 _ _ h1,e5,by rw[RJ,RJ];omega,fE _ _ #[_,X++s5,Z,by rw[jc,RP],λy=>?_,by rw[RN];omega,λb o nb e=>?_]]
   .rw[Tw,R y,m5 y,SG,p];erw[λz=>z.elim (λz=>z.elim .inl λ#[d,hd,w]=>.inr #[d,Sr _ hd,w]) λw=>.inr #[c,R3 _$ τ.mpr Z,w],λz=>z.elim (λw=>.inl (.inl w)) λ#[d,hd,w]=>?_];rcases ψ.mp hd with hd |hd
    .rwa[.inl$ .inr #[d,hd,w]]
    .let ed:d=c:=τ.mp hd;rw[ed]at w;rwa[.inr w]
   .rw[jh nb];rwa[k5 _ _$ k4 b o nb e]
 .let(o3,X,rfl,h1,R,h3,k4):=h;rw[RJ]at R h3;let s4:aa H H':=λb o e=>k4 b o (jk e h0) (s3 _ _ e);erw[12,N,X,Z,aE.of h1,(λL nd j=>TZ (TY$ kC nd j) (by show ο X+1 < 4096;omega)),λl L S h4 hm=>?_];let sub:∀y∈L,y∈Y:=λy hy=>Bd.use_in U u.sub y ((BF j M y).mpr (by let:=(R y).mp ((hm y).mp hy);rw[Su]at this;assumption));let lL:=Sf (kC h4 sub) u.y20;erw[l,L,Z,jc,P',λr' s0 T pm nd so=>?_];erw[q r' s0 _ ((s4.trans$ je S).free T) #[jc,#[pm.nodup_iff.mpr nd,so,λy=>?_],Bd.use_in U u.sub,u.y20] ((s4.trans$ je S).trans$ je T)];rw[pm.mem_iff,hm y,R y,BF j M y,Su]
def none_of(s:aa H h)(n:h r=ι):H r=ι:=by
 cases z:H r with
 |none=>rfl
 |some o=>have:=s _ _ z;rw[n]at this;cases this
inductive UI(a g:η)(b:Bd)(p:FA V)(M:ρ->Prop)(q:FA ρ)(H:Hp)(i:Nat)(s:_L.St)(d:Hp):Prop
 |mk(m:η)(o:FC V)(c n:Bd)(r:FA ρ)(e:s=[↑a,↑g,↑m,o])(f:b=c.app n)(h:dZ H c (p.take (ο p - i)))(j:NL d m r (n.use M) q)(k:aa H d)(l:H m=ι)
def um:al ["body","behind","names","statement"] z15z (ae DX):=bP
def Ia{L:Nat}(F:Fr K "used_ahead" DX f fd)(cU:{L+10} fU f0 z3z (gV n) "used_ahead_of")(J:mg "sorted"=ι)(N:mg "reversed"=ι):⇑(L+11) f fd z15z (lS$ n+1):=by
 erw[F.ok um λc0 A O s H vs Q E hr h=>?_]
 let(a,g,b,xs,R,M,Y,rfl,ha,hb,d,ho,hd,hz,q):=h;erw[_,%[um|_ce2C Yi _g J _ωa1bcDOg (@Aj _ _ _ _ _ _ _ Z N boot_reversed (pv 0) Ra Ra P7 P7) _i3de2 cU.e hr.m _a3a2bdk2],?_];let g0:ο R<=21:=Sf (kC d.nd λx o=>d.sub x ((d.mem x).mp o)) d.y20;let b0:=aI;erw[aj λF1 t=>#[12,g,R,Z,aE.of d.at',P',λl c nl pm so=>t _ _ ?_]];let T:Nm c M:=#[pm.nodup_iff.mpr d.nd,so,λx=>pm.mem_iff.trans (d.mem x)];let U:aa H (af H l$ .lst$ c.map Cv):=je nl;let u:NL (af H l$ .lst$ c.map Cv) l c M Y:=#[jc,T,d.sub,d.y20];generalize af H l (.lst$ c.map Cv)=H1 at U u;let xl:=hb.len;erw[aj λF1 t=>?_];erw[db λF kF=>#[12,a,xs,Z,aC.of$ U _ _ ha,kF _ _ ?_]];erw[YK (K:=K) (xs:=xs) (UI a g b xs M Y H) #[l,_,b,.nil,c,Z,(app_nil b).symm,by rw[U9,Su];rwa[hb],u,U,nl] (λi σ H' hi h=>?_) ?_ (λσ H' h=>t _ _ ?_)]
 .let(_,_,_,_,_,_,_,_,_,k,_):=h;rwa[aC.of$ k _ _ ha]
 .intro E _ i x σ H2 o fE Gq p h;let(I,o3,pre,gq,W,rfl,j,y,X,B,n2):=h;let hi:i < ο xs:=by
   rcases V0 i xs.length with z |z
   .rwa[z]
   .rw[SM (z:)]at o;cases o
  rw[Vc hi]at o;let et:xs.take (ο xs - i)=xs.take (ο xs - (i+1))++[x]:=by
   let C:ο xs - i=(ο xs - 1 - i)+1:=P'
   let e2:ο xs - (i+1)=ο xs - 1 - i:=P'
   rw[C,e2,SG,o];rfl
  rw[et]at y;rcases y.last with ⟨e,_⟩ | ⟨ws,v,D,S,C,e2,h4,h5⟩
  .rwa[absurd e P9]
  let(ew,ev):=VM C Z;cases ev;subst e2;let h0:=qf (j▸ho);let G:=qf h0.1;let a1:b.dep=max (D.app S).dep gq.dep:=by rw[j,zD]
  let a2:(D.app S).dep=max D.dep S.dep:=zD ..;let h6:S.dep<=b.dep:=by rw[a1,a2];rwa[Sf (UM ..)$ U0 ..]
  let h7:S.size<=b.size:=by rw[j,j6,j6];omega
  erw[p ?_];show dP _ _ E [↑a,↑g,↑I,δ x] H2;erw[1212,x,I,S,W,gq.use M,Y,Z,h5.mono$ aa.tm B,X,G.2,P',P',λr z H3 nr n3 k3=>fE _ _ #[r,_,D,S.app gq,z,Z,by rw[j,app_assoc],?_,by rw[KC];rwa[n3],B.trans k3,none_of B nr]];rw[ew];rwa[h4]
 .let(I,o3,pre,gq,W,rfl,j,y,X,B,n2):=h;rw[Vo]at y;let ep:pre= .nil:=by
   rcases y.last with ⟨_,e⟩ | ⟨ws,v,D,S,C,_⟩
   .rwa[e]
   .rwa[absurd C P9]
  rw[ep]at j;erw[12,q I W H' n2 ?_ B];rw[j];rwa[X]
def Hj:⇑k f e z15z (lS 0):=by
 let n:∀v H Q E,¬lS 0 v H Q E:=λv H Q E h=>by let(a,g,b,x,S,M,y,_,_,_,_,_,d,_):=h;rwa[absurd d$ Uv _]
 rwa[λv H Q E h=>absurd h (n v H Q E),λA o s H c u v Q E _ _ _ _ h=>absurd h (n v H Q E)]
theorem Nw(F:Fr K "used_ahead" DX f e)(FB:Fr K "used_behind_terms" AT r g)(d:Fr K "used_ahead_of" DY o b)
  (B:ax K e z15z []) (i:mg "used_ahead"=↑f) (j:ax K g z3z []) (k:mg "used_behind_terms"=↑r) (p:ax K b z3z []) (q:mg "used_ahead_of"=↑o) (C:{1} u s z5z oN "own_terms") (l:{7} v t z1z (dH 6) "names_in") (M:mg "list"=ι) (a:mg "set"=ι) (m:mg "sorted"=ι) (c:mg "reversed"=ι):
  ∀n:Nat,⇑(3*n+8) f e z15z (lS n)/\⇑(3*n+10) o b z3z (gV n)
 |0=>by let h:⇑8 f e z15z (lS 0):=Hj;let H:=yS (L:=8) (n:=0) FB #[h,B,F.kp,i];rwa[h,yU (L:=0) d #[H,j,FB.kp,k] C l M a m]
 |n+1=>by
  let I:=(Nw F FB d B i j k p q C l M a m c n).2;let h:=Ia (L:=3*n) F #[I,p,d.kp,q] m c;let E:3*n+11=3*(n+1)+8:=P'
  rw[E]at h;let H:=yS (L:=3*(n+1)+8) (n:=n+1) FB #[h,B,F.kp,i];rwa[h,yU (L:=3*(n+1)) d #[H,j,FB.kp,k] C l M a m]
abbrev IA:de:=bN 44
abbrev AG:de:=bN 47
abbrev Aw:de:=bN 48
abbrev nh:de:=bN 49
abbrev AM:de:=bN 50
noncomputable def Lf.cut:Lf->Nat
 | .st _ _ _ | .gv _ _=>0
 |_=>1
noncomputable def Bd.cuts:Bd->Nat
 | .nil=>0
 | .lf _ l r=>l.cut+r.cuts
 | .ite _ _ _ a b r=>1+a.cuts+b.cuts+r.cuts
 | .loop _ _ _ a r=>1+a.cuts+r.cuts
def Bd.inn:Bd->Bd
 | .ite _ _ _ a b _=>a.app b
 | .loop _ _ _ a _=>a
 |_=>.nil
theorem qj:∀(a b:Bd),(a.app b).cuts=a.cuts+b.cuts
 | .nil,b=>by show b.cuts=0+b.cuts;omega
 | .lf _ l r,b=>by let:=qj r b;show l.cut+(r.app b).cuts=l.cut+r.cuts+b.cuts;omega
 | .ite _ _ _ x y r,b=>by let:=qj r b;show 1+x.cuts+y.cuts+(r.app b).cuts=1+x.cuts+y.cuts+r.cuts+b.cuts;omega
 | .loop _ _ _ x r,b=>by let:=qj r b;show 1+x.cuts+(r.app b).cuts=1+x.cuts+r.cuts+b.cuts;omega
inductive oG(b:FA V)(H:Hp)(Q:VK)(a:XK):Prop
 |mk(v:V)(s:Bd)(_:b=[v])(_:iN H v s)(_:s.size<=10000000)(_:∀(r:η) (xs:FA V) (H':Hp),H' r= ~~~xs->dZ H' s.inn xs->aa H H'->Q (.ref r) H')
inductive io(d:FA V)(H:Hp)(Q:VK)(c:XK):Prop
 |mk(a:η)(b:Bd)(e:FA V)(_:d=[.ref a])(_:H a= ~~~e)(_:dZ H b e)(_:b.size<=10000000)(_:∀H',aa H H'->Q (.int (b.cuts:Int)) H')
def M5:al z5z z5z (ae IA):=bP
def Ht(F:Fr K "bodies_in" IA f y):⇑1 f y z5z oG:=by
 erw[F.ok M5 λC A o s H V Q E j h=>?_]
 let(v,st,rfl,z,B,q):=h;erw[_,%[Z|_cmrh0dknWh0h0scmrh0dkh0sdkfb],?_];let D:=aI;cases z with
 |lf p l V c d=>
  cases l with
  |rd x t T |st x t T |wr t u T U |cl x f R S |gv t T=>let(rfl,_):=d;erw[(ju c Z #[212,aW P8 ?_])];erw[(ju c Z #[212,aW P8 ?_])];rwa[iT,λr N=>q r [] _ jc Z (je N)]
 |ite p t T a b e G g I c J d i m n=>erw[(ju c Z #[212,cw P8 ?_])];let L:a.size+b.size+0+1<=10000000:=B;let W:=m.len;let X:=n.len;exact(ju c Z$ ju c Z #[e,G,g,I,22,d,i,P',λr M j s=>q r _ M j ((n.mono$ aa.tm s).app$ m.mono$ aa.tm s) s])
 |loop p t T a e g c J d i=>erw[(ju c Z #[212,aW P8 ?_])];erw[(ju c Z #[212,cw P8 ?_])];exact(ju c Z$ q e g H d i$ aa.refl H)
def Ef(h:iN H v s):s.inn.size < s.size/\∃(p:η) (w:ρ) (r:FA V),v= .ref p/\H p= ~~~(.str w::r)/\s.cuts=(if sG (.str w) [.str "set",.str "give"]=μ then 0 else 1)+s.inn.cuts:=by
 cases h with
 |lf p l i c d=>
  erw[Nat.zero_lt_succ _,?_];cases l with
  |rd x t T |wr t u T U |cl x f Q j=>let(rfl,_):=d;rwa[p,112,c,by rw[RU P8];rfl]
  |st x t T |gv t T=>let(rfl,_):=d;rwa[p,112,c,by rw[RV P8];rfl]
 |ite p t T a b q k A B c e d g m n=>erw[by show(a.app b).size < a.size+b.size+0+1;rw[j6];omega,p,112,c,?_];rw[RU P8];show 1+a.cuts+b.cuts+0=1+(a.app b).cuts;rw[qj];omega
 |loop p t T a q A c e d g=>erw[by show a.size < a.size+0+1;omega,p,112,c,?_];rw[RU P8];show 1+a.cuts+0=1+a.cuts;omega
def fV:dQ (v::y) 0=δ v:=jO (j:=0) Z
inductive MI(a n:η)(b:Bd)(H:Hp)(m:Nat)(p:_L.St)(c:Hp):Prop
 |mk(l:FC V)(W:Bd)(o:FA V)(k:Nat)(d:m=W.size)(e:p=[↑a,δ (.int (k:Int)),↑n,l])(f:c n=o⁻¹)(g:dZ c W o)(h:k+W.cuts=b.cuts)(i:W.size<=10000000)(j:aA n H c)
def j':al ["body","many","todo","statement"] ["body"] (ae AG):=bP
def Dg(F:Fr K "many_cuts" AG f fd)(cB:{1} fB f0 z5z oG "bodies_in")(m0:mg "list"=ι):⇑2 f fd ["body"] io:=by
 erw[F.ok j' λc0 A o0 s H vs Q E hr h=>?_]
 let(a,b,xs,rfl,ha,hb,hz,q):=h;erw[_,%[j'|_ce1jce2F JP _gβ boot_list _a0bc (YA Sq (@Ao _ _ _ (pv 2) (λ_=>Z)) %[j'|_ce3 (Iq R9 PySem.F.slot_list_pop PySem.F.type_list_pop G8$ pv 2) _cNmu JO _h3faoaobgd (Iv (i:=1) j'.nd Z (Θ Z) jf GG) _sdzER TX TW Z9 _2a cB.e hr.m _a3bb]) _dk1],?_];let b0:=aI;erw[aj λU d=>d _ _ ?_];erw[aj λU d=>#[12,a,12,.inr$ aC.of ha,λt C=>d _ _ ?_]];let s0:aa H (af H t$ .lst xs):=je C;erw[aj λU d=>?_];erw[BM (MI a t b H) b.size #[_,b,xs,0,22,jc,hb.mono$ aa.tm s0,P',hz,λc o N e=>s0 _ _ e] ?_];intro m σ D E _ fE F X Y Gq y h;let(o3,W,zs,k,rfl,rfl,x,h2,h3,h4,h5):=h;erw[y #[12,!zs.isEmpty,.inl #[zs,aE.of x,Z],?_]];rcases h2.last with ⟨e1,e2⟩ | ⟨g,v,B,n,e1,e2,g1,g2⟩
 .rw[e1];erw[Y _$ d _ _ #[12,?_]];rw[e2]at h3;let e3:k=b.cuts:=by let:k+0=b.cuts:=h3;rwa[N09]
  rw[e3];rwa[q _ λc o e=>h5 c o (jk e C) e]
 .rw[e1];let ne:(!(g++[v]).isEmpty)=μ:=by cases g<;>rfl
  rw[ne];erw[X _ ?_];let h6:W.size=B.size+n.size:=by rw[e2,j6]
  let h7:W.cuts=B.cuts+n.cuts:=by rw[e2,qj]
  let(h8,p,w',r,rfl,hp,hc):=Ef g2;rw[e1]at x;erw[aj λU d=>#[12,.inl #[21,aE.of x],t,_,.ref p,22,x,P9,d _ _ ?_]];rw[List.dropLast_concat];let T:am D (af D t$ .lst g):=λc ys e=>by rw[jh$ jQ e x FI];rwa[e]
  let t2:af D t (.lst g) t=g⁻¹:=jc;let u:=g1.mono T;let I:=g2.mono T;let J:=T _ _ hp;let k2:aA t H (af D t$ .lst g):=λc o N e=>by rw[jh N];rwa[h5 c o N e]
  generalize af D t (.lst g)=H2 at t2 u I J k2;let R:∀(j:Nat) (H3:Hp),aa H2 H3->j+B.cuts+n.inn.cuts=b.cuts->uP (OK K "list" (i6 K) (ba 2)$ ao (eV oG [] E0$ ao (ba 3) aR) aR) E [↑a,δ$ .int (j:Int),↑t,↑p] H3:=λj H3 L hk=>by
   let g0:=I.mono (aa.tm L);erw[12,.inl #[21,aE.of$ L _ _ t2],12,.ref p,n,Z,g0,P',λr' ys H4 h0 hy s4=>?_];let S:=L.trans s4;let l1:=u.len;let l2:=hy.len;erw[t,r',g,ys,22,S _ _ t2,aC.of h0,P',fE (B.app n.inn).size _ _ (by rw[j6];omega) #[_,B.app n.inn,g++ys,j,22,jc,?_,by rw[qj];omega,by rw[j6];omega,λc o N e=>?_]]
   .let M:am H4 (af H4 t$ .lst$ g++ys):=λc z0 e=>by rw[jh$ jQ e (S _ _ t2) FI];exact e
    exact(hy.mono M).app ((u.mono$ aa.tm S).mono M)
   .rw[jh N];rwa[S _ _$ k2 c o N e]
  erw[aj λU d=>eB (λO H'=>∃j:Nat,O=[↑a,δ$ .int (j:Int),↑t,↑p]/\aa H2 H'/\j+B.cuts+n.inn.cuts=b.cuts) (λE2 _ fm=>?_) λO H' h=>?_]
  .erw[iX λG X Y=>(ju J fV #[b8,λl nl=>#[l,12,.inr$ aC.of jc,2212,?_]])];cases hv:sG (.str w') [.str "set",.str "give"] with
   |true=>rw[hv,RV Z]at hc;rwa[Y _$ fm _ _ #[k,Z,je nl,P']]
   |false=>rw[hv,RU RZ]at hc;erw[X _ #[121122,fm _ _ #[k+1,?_,je nl,P']]];show [_,δ$ Da ((k:Int)+1),_,_]=[_,δ$ Da ((k+1:Nat):Int),_,_];rfl
  .let(j,rfl,L,hk):=h;rwa[d _ _$ R j H' L hk]
inductive ND where
 |go (n:Int) |give (t:η)
structure Wy where
 sets:FA (ρ×η)
 goal:ND
inductive Dd where
 |st (p:η) |ask (t:η)
structure Ct where
 M:ρ->Prop
 d:Dd
 ws:FA Wy
structure Pc where
 M:ρ->Prop
 w:Wy
inductive aTt(H:Hp)(l:Tr)(W:V->FA V->Prop)(x:V):Prop|mk(_:l.isL=μ)(a X:_)(_:x= .ref a)(_:H a= ~~~X)(_:W .non X)
inductive aTc(h t:Tr)(W R:V->FA V->Prop)(X:FA V):Prop|mk(_:h.isL=ξ)(_:t.isL=μ)(y Y:_)(_:X=y::Y)(_:W y [])(_:R .non Y)
def aT(H:Hp):Tr->V->FA V->Prop
 | .lf v,x,_=>x=v/\Pz v=μ
 | .tp l,x,_=>aTt H l (aT H l) x
 | .nil,_,X=>X=[]
 | .cons h t,_,X=>aTc h t (aT H h) (aT H t) X
def aT.mono(k:am H d):∀{t:Tr} {x:V} {X:FA V},aT H t x X->aT d t x X:=by
 intro t;induction t with
 |lf v |nil=>exactλh=>h
 |tp l f=>rintro x X ⟨h,a,Y,e,b,c⟩;rwa[h,a,Y,e,k _ _ b,f c]
 |cons h t i I=>rintro x X ⟨E,g,y,Y,e,b,c⟩;rwa[E,g,y,Y,e,i b,I c]
noncomputable def aG:FA Tr->Tr
 | []=>.nil
 |t::T=>.cons t (aG T)
def XD:∀t:FA Tr,(aG t).isL=μ
 | [] |_::_=>rfl
def aJ(t:FA Tr):Tr:=.tp (aG t)
noncomputable def a7(x:ρ):Tr:=.lf (.str x)
noncomputable def wu(a:η):Tr:=.lf (.ref a)
noncomputable def aH(n:Int):Tr:=.lf (.int n)
section
variable {H:Hp}
def jH:aT H (aG []) .non []:=rfl
def jp{t:Tr}(h:t.isL=ξ)(a:aT H t y [])(b:aT H (aG T) .non Y):aT H (aG (t::T)) .non (y::Y):=#[h,XD T,y,Y,Z,a,b]
def jM(h:H a= ~~~x)(b:aT H (aG t) .non x):aT H (aJ t) (.ref a) []:=#[XD t,a,x,Z,h,b]
def kh:aT H (a7 x) (.str x) []:=#[22]
def JY:aT H (wu a) (.ref a) []:=#[22]
def zg:aT H (aH n) (.int n) []:=#[22]
theorem KD(a:aT H (aG s) .non Y):∀{T:FA Tr} {x:FA V},aT H (aG T) .non x->aT H (aG$ T++s) .non (x++Y)
 | [],x,h=>by let e:x=[]:=h;rw[e];rwa[a]
 |t::T,x,h=>by let(E,_,y,z,e,b,c):=h;rw[e];rwa[jp E b (KD a c)]
theorem zu:∀{T:FA Tr} {x:FA V},aT H (aG T) .non x->ο x=ο T
 | [],x,h=>by let e:x=[]:=h;rw[e];rfl
 |t::T,x,h=>by let(_,_,y,z,e,_,a):=h;rw[e,So,So,zu a]
theorem YT:∀(S:FA ρ),aT H (aG$ S.map a7) .non (S.map Cv)
 | []=>rfl
 |s::S=>jp Z kh (YT S)
theorem uR:∀{T:FA Tr} {x:FA V},aT H (aG T) .non x->aT H (aG T.reverse) .non x.reverse
 | [],x,h=>by let e:x=[]:=h;rw[e];rfl
 |t::T,x,h=>by let(E,_,y,z,e,a,b):=h;rw[e,UB,UB];rwa[KD (jp E a jH)$ uR b]
theorem Jn:∀{T:FA Tr} {X:FA V},aT H (aG T) .non X->∀(i:Nat) (x:V),X[i]?=δ x->∃t,T[i]?=δ t/\aT H t x []
 | [],X,h,i,x,a=>by let e:X=[]:=h;rw[e]at a;simp at a
 |t::T,X,h,0,x,a=>by let(_,_,y,z,e,b,c):=h;rw[e]at a;cases a;rwa[t,Z,b]
 |t::T,X,h,i+1,x,a=>by let(_,_,y,z,e,b,c):=h;rw[e]at a;simpa using Jn c i x (a:)
end
def setT(s:ρ×η):Tr:=aJ [a7 s.1,wu s.2]
def CN:ND->Tr
 | .go n=>aJ [a7 "go",aH n]
 | .give t=>aJ [a7 "give",wu t]
def iK(w:Wy):Tr:=aJ [aJ$ w.sets.map setT,CN w.goal]
def NM:Dd->Tr
 | .st p=>wu p
 | .ask t=>aJ [a7 "ask",wu t]
def Ma(c:Ct):Tr:=aJ [aJ ((canon c.M).map a7),NM c.d,aJ$ c.ws.map iK]
def Gv(g:ND):(CN g).isL=ξ:=by cases g<;>rfl
def Md(d:Dd):(NM d).isL=ξ:=by cases d<;>rfl
inductive oZ(H:Hp)(p:Pc)(v:V)(g:η)(y:FA ρ):Prop|mk(r s W:_)(_:v= .ref r)(_:H r= ~~~[.ref g,W])(_:NL H g s p.M y)(_:aT H (iK p.w) W [])
def oZ.same(h:oZ H p v g y)(s:aa H a):oZ a p v g y:=by let(r,S,W,e,b,c,d):=h;rwa[r,S,W,e,s _ _ b,c.same s,d.mono$ aa.tm s]
def oZ.but(h:oZ H p v g y)(k:aA f H c)(d:H f=C⁻¹)(n:g≠f):oZ c p v g y:=by let(r,s,W,e,i,a,j):=h;let t:am H c:=λb x e=>k b _ (jQ e d FI) e;rwa[r,s,W,e,t _ _ i,#[k _ _ n a.at',a.nm,a.sub,a.y20],j.mono t]
noncomputable def Lf.isCut:Lf->Bool
 | .st _ _ _ | .gv _ _=>ξ
 |_=>μ
noncomputable def Bd.deed:Bd->Dd
 | .lf p _ _=>.st p
 | .ite _ t _ _ _ _ | .loop _ t _ _ _=>.ask t
 | .nil=>.st 0
inductive lE(b:FA V)(H:Hp)(Q:VK)(a:XK):Prop
 |mk(v:V)(s:Bd)(_:b=[v])(_:iN H v s)(_:∀(d:V) (H':Hp),aT H' (NM s.deed) d []->aa H H'->Q d H')
inductive gU(b:FA V)(H:Hp)(Q:VK)(a:XK):Prop
 |mk(t:η)(T:Tm)(c:FA ρ)(_:b=[.ref t])(_:bu H T t)(_:dM c T)(_:ο c<=21)(_:∀(v:V) (g:η) (H':Hp),oZ H' #[λx=>x∈T.vars,#[[],.give t]] v g c->H g=ι->aa H H'->Q v H')
inductive uH(K:γ)(c:FA V)(H:Hp)(Q:VK)(b:XK):Prop
 |mk(a:η)(_:c=[.ref a])(_:aC K H a [.str "num",.int 0])(_:∀(r:η),H r=ι->Q (.ref r) (af H r (.lst [])))
inductive uJ(K:γ)(b:FA V)(H:Hp)(Q:VK)(a:XK):Prop
 |mk(t:η)(c:FA ρ)(_:b=[.ref t])(_:aC K H t [.str "num",.int 0])(_:ο c<=21)(_:∀(v:V) (g:η) (H':Hp),oZ H' #[λx=>x∈(Tm.num 0).vars,#[[],.give t]] v g c->H g=ι->aa H H'->Q v H')
open Classical in
def lh(x:ρ)(t:η)(p:Pc):Wy:=if p.M x then #[(x,t)::p.w.sets,p.w.goal] else p.w
inductive lP(d:FA V)(H:Hp)(Q:VK)(a:XK):Prop
 |mk(v b:V)(p t:η)(x:ρ)(T:Tm)(c:Pc)(g:η)(e:FA ρ)(_:d=[v,b])(_:iN H v (.lf p (.st x t T) .nil))(_:oZ H c b g e)(_:x∈e)(_:dM e T)(_:ο c.w.sets<=10000000)(_:∀(v':V) (g':η) (H':Hp),oZ H' #[(Lf.st x t T).use c.M,lh x t c] v' g' e->H g'=ι->aa H H'->Q v' H')
def IM:al z5z z5z (ae Aw):=bP
def C6(F:Fr K "deed_of" Aw f e):⇑1 f e z5z lE:=by
 erw[F.ok IM λC A o s H V Q E z h=>?_]
 let(v,st,rfl,g,q):=h;erw[_,%[Z|_cmu zG _h0faoaobgdkfaoah0bsdk0],?_];cases g with
 |lf p l V c d=>
  cases l with
  |rd x t T |st x t T |wr t u T U |cl x f B D |gv t T=>let(rfl,_):=d;erw[(ju c Z #[b8,λl n=>#[l,12,.inr$ aC.of jc,2212,aW P8 ?_]])];rwa[12,q _ _ JY$ je n]
 |ite p t T a b i I j J c m d y L M |loop p t T a i j c m d y=>erw[(ju c Z #[b8,λl n=>#[l,12,.inr$ aC.of jc,2212,cw P8 ?_]])];erw[(ju (ap c n) Z #[b8,λr N=>?_])];rwa[q _ _ (jM jc$ jp Z kh$ jp Z JY jH) ((je n).trans$ je N)]
def HP{fN:η}{fdN:dN}(F:Fr K "names_in" fh f b)(c:{n+1} f b z1z (dH n) "names_in")(m:mg "set"=ι)(M:mg "sorted"=ι):⇑(n+2) f b z1z (uH K):=by
 erw[F.ok A2 (λC A o s H v Q E d h=>?_)]
 let(a,rfl,g,q):=h;erw[_,%[Z|_cmrh0dkqbscmrh0dkqah0bsdkC (qI Z) _g M _ωaF (Jr Z) _g m boot_set _anρ c.e d _ah0b c.e d _ah0bbb],?_];erw[12,a,11122,g,2212,cw P8 ?_];rwa[iT,λr N=>q r N]
def uk:al z1z z1z (ae nh):=bP
def yQ(F:Fr K "place_of_give" nh f d)(C:{7} U i z1z (dH 6) "names_in"):⇑8 f d z1z gU:=by
 erw[F.ok uk λj A o s H V Q E l h=>?_]
 let(t,T,y,rfl,p,O,b,q):=h;erw[_,%[Z|_dkfa C.e l.m _a0bafafbafaoa0bbb],?_];erw[12,t,T,y,Z,p,O.2,O.1,b,λg v a z B D M G I=>?_];let J:NL a g v (λx=>x∈T.vars) y:=#[B,#[D,G,M],kM O.1,b];erw[iT,λe L=>#[12,b8,λu c=>#[b8,λx N=>#[b8,λr n=>?_]]]];let S:aa a (af (af (af (af a e$ .tup []) u$ .tup [.str "give",.ref t]) x$ .tup [.ref e,.ref u]) r$ .tup [.ref g,.ref x]):=(((je L).trans$ je c).trans$ je N).trans (je n);erw[q _ g _ #[r,_,.ref x,Z,jc,J.same S,?_] z (I.trans S)];rwa[jM (ap jc n)$ jp Z (jM (ap (ap (ap jc c) N) n) jH)$ jp Z (jM (ap (ap jc N) n)$ jp Z kh$ jp Z JY jH) jH]
def HU(F:Fr K "place_of_give" nh f j)(C:{7} G l z1z (uH K) "names_in"):⇑8 f j z1z (uJ K):=by
 erw[F.ok uk λp A o s H V Q E v h=>?_]
 let(t,y,rfl,z,B,q):=h;erw[_,%[Z|_dkfa C.e v.m _a0bafafbafaoa0bbb],?_];erw[12,t,Z,z,λg a=>?_];let b:aa H (af H g$ .lst []):=je a;let c:NL (af H g$ .lst []) g [] (λx=>x∈(Tm.num 0).vars) y:=#[jc,#[Vp,Z,λx=>Wn],λx h=>absurd h Sz,B];generalize af H g (.lst [])=d at b c;erw[iT,λe D=>#[12,b8,λu i=>#[b8,λx N=>#[b8,λr n=>?_]]]];let S:aa d (af (af (af (af d e$ .tup []) u$ .tup [.str "give",.ref t]) x$ .tup [.ref e,.ref u]) r$ .tup [.ref g,.ref x]):=(((je D).trans$ je i).trans$ je N).trans (je n);erw[q _ g _ #[r,_,.ref x,Z,jc,c.same S,?_] a (b.trans S)];rwa[jM (ap jc n)$ jp Z (jM (ap (ap (ap jc i) N) n) jH)$ jp Z (jM (ap (ap jc N) n)$ jp Z kh$ jp Z JY jH) jH]
def CP{Y:FA ρ}:sG (.str x) (Y.map Cv)=decide (x∈Y):=by
 by_cases h:x∈Y
 .rw[R0 h];unfold sG;rw[List.any_eq_true];rwa[.str x,β.mpr #[x,h,Z],by show (x==x)=μ;simp]
 .rw[RW h];unfold sG;rw[Wv];intro z;rw[List.any_eq_true]at z;let(v,a,e):=z;let(y,H,rfl):=β.mp a;let E:x=y∨y=x:=by
   first
    |exact .inl (by have e:(_==_)=μ:=e;simpa using e)
    |exact .inr (by have e:(_==_)=μ:=e;simpa using e)
  rcases E with rfl |rfl
  .rwa[h H]
  .rwa[h H]
def Li{H:Hp}{w:Wy}{v:V}(h:aT H (iK w) v []):∃(W s:η) (S:FA V) (y:V),v= .ref W/\H W= ~~~[.ref s,y]/\H s= ~~~S/\aT H (aG$ w.sets.map setT) .non S/\aT H (CN w.goal) y []:=by obtain⟨_,W,x,rfl,a,_,_,l,b,e,⟨_,s,S,c,d,f⟩,_,_,g,Y,E,i,j⟩:=h;let k:Y=[]:=j;rw[k]at E;rw[E]at e;rw[e,c]at a;rwa[W,s,S,g,Z,a,d,f,i]
def rh:al ["statement","behind","way"] z3z (ae AM):=bP
def Dk(F:Fr K "place_of_set" AM f fd)(cU:{10} fU f0 z3z (gV 0) "used_ahead_of"):⇑11 f fd z3z lP:=by
 erw[F.ok rh λc0 A O s H vs Q E hr h=>?_]
 let(v,bv,p,t,x,T,C,g,Y,rfl,X,hp,hx,ok,hl,q):=h;erw[_,%[rh|_ce2h1cNmu zG _h0h1gde2fanWfaAα0xjQbh2ah2bsdkfa cU.e hr.m _a0ah1ba2b],?_];let b0:=aI;let(r,ss,wv,rfl,b,B,hW):=hp;let h0:=X;cases X with
 |lf _ _ vs h1 h2=>
  let(rfl,hT):=h2;let(wa,sa,sx,y,rfl,i,D,j,hy):=Li hW;erw[aj λF1 d=>(ju b Z$ d _ _ ?_)];let sl:=zu j;rw[RJ]at sl;erw[aj λF1 d=>eB (λl I=>∃W:V,l=[↑p,↑r,δ W]/\aT I (iK$ lh x t C) W []/\aa H I) (λE2 _ fm=>?_) λl I h=>?_]
  .erw[iX λG kT kF=>(ju h1 Z$ ju b Z #[g,12,.inl$ aE.of B.at',Z,XA _,12,?_])];rw[CP];by_cases a:x∈ss
   .rw[R0 a];erw[kT _ #[1212,p,12,h1,λs1 H1 J k1=>#[l7,λu nu=>?_]]];let L:=k1.trans (je (o:=.tup [.ref s1]) nu);erw[(ju (L _ _ i) Z #[u,sa,1122,jc,L _ _ D,by show 1+ο sx<=_;omega,λc H2 hc z=>?_])];let R:=L.trans z;erw[(ju (R _ _ i) Z #[b8,λnw n=>fm _ _ #[.ref nw,Z,?_,R.trans$ je n]])];let tm:=aa.tm (R.trans$ je (o:=.tup [.ref c,y]) n);unfold lh;rw[RV ((B.nm.mem x).mp a)];erw[jM jc$ jp Z (jM (ap hc n)$ jp Z ?_$ j.mono tm)$ jp (Gv _) (hy.mono tm) jH];rwa[jM (ap (z _ _$ ap J nu) n)$ jp Z kh$ jp Z JY jH]
   .rw[RW a];erw[kF _$ fm _ _ #[12,?_,aa.refl _]];unfold lh;rw[RU λw=>a ((B.nm.mem x).mpr w)];rwa[hW]
  .let(W,rfl,S,k):=h;erw[d _ _ ?_];erw[12,ju (k _ _ b) Z #[.ref p,g,.lf p (.st x t T) .nil,ss,C.M,Y,Z,h0.mono$ aa.tm k,B.same k,#[#[hx,ok],trivial],(by show 0 < 1;decide),(by show 0+1<=10000000;decide),λg' zs H3 n3 N3 z=>?_]];erw[12,b8,λr' N=>q _ g' _ #[r',zs,W,Z,jc,N3.same$ je N,S.mono$ aa.tm$ z.trans$ je N] (k.free n3) ((k.trans z).trans$ je N)]
abbrev DP:de:=bH (bN 51) 1
abbrev DW:de:=bH (bN 51) 2
abbrev DQ:de:=bH (bN 51) 3
abbrev DZ:de:=bH (bN 51) 4
abbrev Ay:de:=bH (bN 51) 0
def pL(m:Int)(p:η)(l:Lf)(q:Pc×FA Ct):Pc×FA Ct:=match l with
 | .gv t T=>(#[λx=>x∈T.vars,#[[],.give t]],q.2)
 | .st x t T=>(#[(Lf.st x t T).use q.1.M,lh x t q.1],q.2)
 | .rd x t T=>(#[(Lf.rd x t T).use q.1.M,#[[],.go (m - (q.2.length:Int) - 1)]],q.2++[#[(Lf.rd x t T).use q.1.M,.st p,[q.1.w]]])
 | .wr t u T U=>(#[(Lf.wr t u T U).use q.1.M,#[[],.go (m - (q.2.length:Int) - 1)]],q.2++[#[(Lf.wr t u T U).use q.1.M,.st p,[q.1.w]]])
 | .cl x f a b=>(#[(Lf.cl x f a b).use q.1.M,#[[],.go (m - (q.2.length:Int) - 1)]],q.2++[#[(Lf.cl x f a b).use q.1.M,.st p,[q.1.w]]])
def pB(m:Int):Bd->Pc->FA Ct->Pc×FA Ct
 | .nil,c,f=>(c,f)
 | .lf p l r,c,f=>pL m p l (pB m r c f)
 | .ite p t T a b r,c,f=>
  let q:=pB m r c f
  let o:=pB m b q.1 q.2
  let s:=pB m a q.1 o.2
  (#[(Bd.ite p t T a b .nil).use q.1.M,#[[],.go$ m - (q.2.length:Int) - ((Bd.ite p t T a b .nil).cuts:Int)]],s.2++[#[(Bd.ite p t T a b .nil).use q.1.M,.ask t,[s.1.w,o.1.w]]])
 | .loop p t T a r,c,f=>
  let q:=pB m r c f
  let d:Pc:=#[(Bd.loop p t T a .nil).use q.1.M,#[[],.go$ m - (q.2.length:Int) - ((Bd.loop p t T a .nil).cuts:Int)]]
  let s:=pB m a d q.2
  (d,s.2++[#[(Bd.loop p t T a .nil).use q.1.M,.ask t,[s.1.w,q.1.w]]])
theorem Qh(m:Int):∀(a b:Bd) (c:Pc) (f:FA Ct),pB m (a.app b) c f=pB m a (pB m b c f).1 (pB m b c f).2
 | .nil,_,_,_=>rfl
 | .lf p l r,b,c,f=>by show pL m p l (pB m (r.app b) c f)=pL m p l (pB m r _ _);rw[Qh m r b c f]
 | .ite p t T x y r,b,c,f=>by let e:=Qh m r b c f;show pB m (.ite p t T x y$ r.app b) c f=_;unfold pB;rw[e]
 | .loop p t T x r,b,c,f=>by let e:=Qh m r b c f;show pB m (.loop p t T x$ r.app b) c f=_;unfold pB;rw[e]
theorem kH(m:Int):∀(b:Bd) (c:Pc) (F:FA Ct),(pB m b c F).2.length=ο F+b.cuts
 | .nil,_,_=>rfl
 | .lf p l r,c,F=>by
  let e:=kH m r c F;show(pL m p l$ pB m r c F).2.length=ο F+(l.cut+r.cuts);cases l with
  |rd x t T |wr t u T U |cl x f a d=>show((pB m r c F).2++[_]).length=ο F+(1+r.cuts);rw[RN,e];show _+1=_;omega
  |st x t T |gv t T=>show(pB m r c F).2.length=ο F+(0+r.cuts);omega
 | .ite p t T x y r,c,F=>by let e:=kH m r c F;show((pB m x _ (pB m y _ _).2).2++[_]).length=_;rw[RN,kH m x,kH m y,e];show _+1=ο F+(1+x.cuts+y.cuts+r.cuts);omega
 | .loop p t T x r,c,F=>by let e:=kH m r c F;show((pB m x _ _).2++[_]).length=_;rw[RN,kH m x,e];show _+1=ο F+(1+x.cuts+r.cuts);omega
def YU(x:ρ)(t:η)(p:Pc):(lh x t p).sets.length<=ο p.w.sets+1:=by
 unfold lh;split
 .rwa[RO _]
 .rwa[SY _]
theorem tj(m:Int):∀(b:Bd) (a:Pc) (f:FA Ct),(pB m b a f).1.w.sets.length<=ο a.w.sets+b.size
 | .nil,_,_=>RO _
 | .lf p l r,a,f=>by
  let e:=tj m r a f;show(pL m p l$ pB m r a f).1.w.sets.length<=ο a.w.sets+(r.size+1);cases l with
  |st x t T=>have:=YU x t (pB m r a f).1;show(lh x t (pB m r a f).1).sets.length<=_;omega
  |_=>rwa[R4 _]
 | .ite p t T x y r,a,f | .loop p t T x r,a,f=>R4 _
theorem zc:∀b:Bd,b.cuts<=b.size
 | .nil=>RO _
 | .lf _ l r=>by
  let:=zc r;let h:l.cut<=1:=by cases l<;>first |exact RO _ |exact R4 _
  show l.cut+r.cuts<=r.size+1;omega
 | .ite _ _ _ a b r=>by let:=zc a;let:=zc b;let:=zc r;show 1+a.cuts+b.cuts+r.cuts<=a.size+b.size+r.size+1;omega
 | .loop _ _ _ a r=>by let:=zc a;let:=zc r;show 1+a.cuts+r.cuts<=a.size+r.size+1;omega
structure CK(K:γ)(C:η):Prop where
 cl:rE K C
 nm:be K C "many"
 nf:be K C "found"
structure Cg(H:Hp)(C ia dx fa:η)(m:Int)(cts:FA Ct)(cs:FA V):Prop where
 ins:H ia=δ (.ins C dx [("many",.int m),("found",.ref fa)])
 fd:H fa=cs⁻¹
 tr:aT H (aG$ cts.map Ma) .non cs
def Cg.same(h:Cg H C i d f m c a)(s:aa H b):Cg b C i d f m c a:=#[s _ _ h.ins,s _ _ h.fd,h.tr.mono$ aa.tm s]
def Cg.len(h:Cg H C i d f m c a):ο a=ο c:=by rw[zu h.tr,RJ]
def Cg.tm(h:Cg H C i d f m c g)(k:aA f H a):am H a:=λb x e=>k b _ (jQ e h.fd FI) e
structure Ca(H:Hp)(C ia dx fa:η)(m:Int)(cts:FA Ct)(cs:FA V)(pc:Pc)(bv:V)(g:η)(ys:FA ρ)(b:Bd):Prop where
 c:Cg H C ia dx fa m cts cs
 p:oZ H pc bv g ys
 ng:g≠fa
 ok:b.Ok ys
 sz:ο cts+ο pc.w.sets+b.size<=10000000
def xg(H:Hp)(C i d f:η)(m:Int)(y:FA ρ)(q:Pc×FA Ct)(Q:VK):Prop:=∀(v:V) (g:η) (c:FA V) (h:Hp),oZ h q.1 v g y->g≠f->Cg h C i d f m q.2 c->aA f H h->Q v h
inductive oO(C:η)(n:Nat)(l:FA V)(H:Hp)(Q:VK)(c:XK):Prop
 |mk(j h i a g:η)(m:Int)(d:FA Ct)(f o:FA V)(k:Pc)(e:V)(p:FA ρ)(b:Bd)(_:l=[.ref j,.ref a,e])(_:Ca H C j h i m d f k e g p b)(_:H a= ~~~o)(_:dZ H b o)(_:b.dep < n)(_:xg H C j h i m p (pB m b k d) Q)
inductive IW(C:η)(n:Nat)(j:FA V)(H:Hp)(Q:VK)(a:XK):Prop
 |mk(h e f g:η)(m:Int)(b:FA Ct)(d:FA V)(i:Pc)(v c:V)(k:FA ρ)(s:Bd)(_:j=[.ref h,v,c])(_:Ca H C h e f m b d i c g k s)(_:iN H v s)(_:s.dep < n+1)(_:xg H C h e f m k (pB m s i b) Q)
def Bd.isCut:Bd->Bool
 | .lf _ l _=>l.isCut
 | .nil=>ξ
 |_=>μ
inductive Ee(C:η)(n:Nat)(j:FA V)(H:Hp)(Q:VK)(a:XK):Prop
 |mk(h e f g:η)(m:Int)(b:FA Ct)(d:FA V)(i:Pc)(v c:V)(k:FA ρ)(s:Bd)(_:j=[.ref h,v,c])(_:Ca H C h e f m b d i c g k s)(_:iN H v s)(_:s.dep < n+1)(_:s.isCut=μ)(_:xg H C h e f m k (pB m s i b) Q)
def iq(m:Int)(c:Pc)(p:Pc)(f:FA Ct):Bd->FA Wy×FA Ct
 | .ite _ _ _ a b _=>([(pB m a p (pB m b p f).2).1.w,(pB m b p f).1.w],(pB m a p (pB m b p f).2).2)
 | .loop _ _ _ a _=>([(pB m a c f).1.w,p.w],(pB m a c f).2)
 |_=>([p.w],f)
inductive IX(C:η)(n:Nat)(o:FA V)(H:Hp)(Q:VK)(a:XK):Prop
 |mk(i e f g h:η)(m:Int)(b:FA Ct)(d:FA V)(j k:Pc)(v c l:V)(p:FA ρ)(s:Bd)(_:o=[.ref i,v,l,c])(_:Ca H C i e f m b d j c g p s)(_:oZ H k l h p)(_:h≠f)(_:k.w.sets=[])(_:iN H v s)(_:s.dep < n+1)(_:∀(wv:V) (cs':FA V) (H':Hp),aT H' (aJ ((iq m k j b s).1.map iK)) wv []->Cg H' C i e f m (iq m k j b s).2 cs'->aA f H H'->Q wv H')
def ZB(h:iN H v s)(g:s.isCut=μ)(m:Int)(c:Pc)(F:FA Ct):
  pB m s c F=(#[s.use c.M,#[[],.go$ m - (F.length:Int) - (s.cuts:Int)]],(iq m #[s.use c.M,#[[],.go$ m - (F.length:Int) - (s.cuts:Int)]] c F s).2++[#[s.use c.M,s.deed,(iq m #[s.use c.M,#[[],.go$ m - (F.length:Int) - (s.cuts:Int)]] c F s).1]]):=by
 cases h with
 |lf p l V d e=>
  cases l with
  |rd x t T |wr t u T U |cl x f a k=>rfl
  |st x t T |gv t T=>cases g
 |ite p t T a b q Q A B d i e j n o |loop p t T a q A d i e j=>rfl
def BL(h:oZ H p v g y):∃(r:η) (W:V),v= .ref r/\H r= ~~~[.ref g,W]/\aT H (iK p.w) W []:=by let(r,s,W,e,a,c,b):=h;rwa[r,W,e,a,b]
def M':al ["self","statement","place","behind","other"] z22z (ae DZ):=bP
def MJ(F:aM K "ways_of" "Cutting.ways_of" DZ f fd)(X:CK K C)(GB:⇑(4*n+31) fB f0 z12z (oO C n))(bB:ax K f0 z12z [])(hB:bq K C "place_of_body" fB):⇑(4*n+32) f fd z22z (IX C n):=by
 erw[F.ok M' λc3 A o0 s H vs Q E hr h=>?_]
 let(i,D,R,g,g2,m,d,S,y,pl,v,bv,G,Y,st,rfl,I,h6,n0,h7,hs,hd,q):=h;erw[_,%[M'|_cmrh1ce4M0 X.cl hB GB hr.m bB .nil _γah1a3bdkfalIM0 X.cl hB GB hr.m bB .nil _γah1a3bjpah4bscmrh1dkfalIM0 X.cl hB GB hr.m bB .nil _γah1a2bjpah3bsdkfah3b],?_];let b0:=aI;let(br,bw,rfl,J,L):=BL I.p;cases hs with
 |lf p l vs e M=>
  let f2:gZ (cn$ ao (eW (dY K) (ba 3)$ tC$ Da 1) aR) { nx:=λx H'=>Q V.non H',rt:=Q } [↑i,↑p,δ G,↑br,ι] H:=by erw[(ju J Z #[l7,λr N=>q (.ref r) S _ (jM jc$ jp Z (L.mono$ aa.tm$ je N) jH) (I.c.same$ je N) (aA.of_same$ je N)])]
  cases l with
  |rd x t T |st x t T |wr t u T U |cl x f q2 ts |gv t T=>let(rfl,_):=M;erw[(ju e Z #[212,aW P8 ?_])];erw[(ju e Z #[212,aW P8 ?_])];rwa[f2]
 |ite p t T a b qa qb as bs e h0 M h3 h4 h5=>erw[(ju e Z #[212,cw P8 ?_])];let h8:max (max a.dep b.dep+1) 0 < n+1:=hd;let hz:ο d+ο y.w.sets+(a.size+b.size+0+1)<=10000000:=I.sz;let W:=I.ok;erw[aj λF1 f1=>#[12,i,D,12,I.c.ins,Z,ju e Z #[12,i,D,R,qb,g,m,d,S,bs,y,.ref br,Y,b,Z,#[I.c,I.p,I.ng,W.2.2.1,P'],h3,h5,P',λv1 g1 j H1 p1 n1 O z=>f1 _ _ ?_]]];let B:=I.c.tm z;let lc:=kH m b y d;let cb:=zc b;erw[12,i,D,12,O.ins,Z,ju (B _ _ e) Z #[12,i,D,R,qa,g,m,_,j,as,y,.ref br,Y,a,Z,#[O,I.p.but z I.c.fd I.ng,I.ng,W.2.1,P'],B _ _ M,h4.mono B,P',λv2 g2 c0 H2 p2 n2 c2 k2=>?_]];let(r2,w2,rfl,h',a0):=BL p2;let(r1,w1,rfl,k,o):=BL (p1.but k2 O.fd n1);erw[r2,11122,aC.of h',Z,ju k Z #[b8,λr N=>q (.ref r) c0 _ (jM jc$ jp Z (a0.mono$ aa.tm$ je N)$ jp Z (o.mono$ aa.tm$ je N) jH) (c2.same$ je N) ((z.trans k2).trans$ aA.of_same$ je N)]]
 |loop p t T a qa as e h0 M h3=>erw[(ju e Z #[212,aW P8 ?_])];erw[(ju e Z #[212,cw P8 ?_])];let h8:max (a.dep+1) 0 < n+1:=hd;let hz:ο d+ο y.w.sets+(a.size+0+1)<=10000000:=I.sz;let W:=I.ok;erw[12,i,D,12,I.c.ins,Z,ju e Z #[12,i,D,R,qa,g2,m,d,S,as,pl,G,Y,a,Z,#[I.c,h6,n0,W.2.1,by rw[h7];show ο d+0+a.size<=_;omega],M,h3,P',λv1 g1 j H1 p1 n1 O z=>?_]];let(r1,w1,rfl,k,o):=BL p1;let B:=I.c.tm z;erw[r1,11122,aC.of k,Z,ju (B _ _ J) Z #[b8,λr N=>q (.ref r) j _ (jM jc$ jp Z (o.mono$ aa.tm$ je N)$ jp Z ((L.mono B).mono$ aa.tm$ je N) jH) (O.same$ je N) (z.trans$ aA.of_same$ je N)]]
def AU:al ["self","statement","behind","n","names","place","ways"] z9z (ae DQ):=bP
def MF(F:aM K "place_of_cut" "Cutting.place_of_cut" DQ f fd)(y:CK K C)(h7:n<=7)(GW:⇑(4*n+32) fW f0 z22z (IX C n))(bW:ax K f0 z22z [])(hW:bq K C "ways_of" fW)(cM:{2} fM f2 ["body"] io "many_cuts")(cU:{31} fU f3 z3z (gV 7) "used_ahead_of")(cD:{1} fD f4 z5z lE "deed_of")(ml:mg "len"=ι)(m0:mg "tuple"=ι):⇑(4*n+33) f fd z9z (Ee C n):=by
 erw[F.ok AU λc0 A o0 s H vs Q E Y h=>?_]
 let(z,L,l,g,m,a,cs,j,v,bv,ys,st,rfl,I,B,hd,hc,q):=h;erw[_,%[AU|_ce3nεnεJ0gCψg ml _σaJ0gb cM.e Y.m _afa1bbce4 cU.e Y.m _a1ah2bce5fa4afafbafaoa3bbbce6M0 y.cl hW GW Y.m bW .nil _γa1a5a2bczERηθδJ0gafaFοgβιa4ba cD.e Y.m _a1ba6bbdk5],?_];let b0:=aI;let(br,ss,bw,rfl,h0,hN,h1):=id I.p;let hz:=I.sz;let lc:=I.c.len;erw[aj λF1 i=>#[12,z,C,L,112,I.c.ins,y.cl,y.nm,212,z,C,L,112,I.c.ins,y.cl,y.nf,Z,l,12,.inl$ aE.of I.c.fd,112212,l7,λu nu=>?_]];let s1:aa H (af H u$ .tup [v]):=je nu;erw[u,st,12,jc,(B.mono$ aa.tm s1).bd,P',λH1 k1=>#[1122,i _ _ ?_]];let S:=s1.trans k1;rw[lc];erw[aj λF1 i=>#[12,ju (S _ _ h0) Z #[v,g,st,ss,j.M,ys,Z,B.mono$ aa.tm S,hN.same S,I.ok,P',P',λG zs H2 n2 N2 k2=>i _ _ ?_]]];let s3:=S.trans k2;let N:G≠l:=λe=>by rw[e,S _ _ I.c.fd]at n2;cases n2
 erw[aj λF1 i=>#[12,iT,λe ne=>#[12,b8,λU O=>#[b8,λx nx=>#[b8,λr nr=>i _ _ ?_]]]]];let s4:aa H2 (af (af (af (af H2 e$ .tup []) U$ .tup [.str "go",.int$ m - (a.length:Int) - (st.cuts:Int)]) x$ .tup [.ref e,.ref U]) r$ .tup [.ref G,.ref x]):=(((je ne).trans$ je O).trans$ je nx).trans (je nr);let P4:oZ (af (af (af (af H2 e$ .tup []) U$ .tup [.str "go",.int$ m - (a.length:Int) - (st.cuts:Int)]) x$ .tup [.ref e,.ref U]) r$ .tup [.ref G,.ref x]) #[st.use j.M,#[[],.go$ m - (a.length:Int) - (st.cuts:Int)]] (.ref r) G ys:=
  #[r,zs,.ref x,Z,jc,N2.same s4,jM (ap jc nr)$ jp Z (jM (ap (ap (ap jc O) nx) nr) jH)$ jp Z (jM (ap (ap jc nx) nr)$ jp Z kh$ jp Z zg jH) jH]
 generalize af (af (af (af H2 e$ .tup []) U$ .tup [.str "go",.int$ m - (a.length:Int) - (st.cuts:Int)]) x$ .tup [.ref e,.ref U]) r (.tup [.ref G,.ref x])=H4 at s4 P4;let R:=s3.trans s4;let c5:=I.c.same R;erw[aj λF1 i=>#[12,z,L,12,c5.ins,2121212,z,L,l,g,G,m,a,cs,j,_,v,.ref br,.ref r,ys,st,Z,#[c5,I.p.same R,I.ng,I.ok,I.sz],P4,N,Z,B.mono$ aa.tm R,hd,λwv D H6 w6 c6 k6=>i _ _ ?_]];let t0:=c5.tm k6;let p6:=P4.but k6 c5.fd N;let z6:H6 G=(zs.map Cv)⁻¹:=k6 _ _ N (s4 _ _ N2.at');let ez:=N2.nm.canon;let l6:=c6.len;let lw:(iq m #[st.use j.M,#[[],.go$ m - (a.length:Int) - (st.cuts:Int)]] j a st).2.length+1=ο a+st.cuts:=by let:=kH m st j a;rw[ZB B hc m j a,RN]at this;rwa[this]
 let cl:=zc st;erw[aj λF1 i=>#[12,z,C,L,112,c6.ins,y.cl,y.nf,Z,.inl #[21,aE.of c6.fd],12,G,12,.inl #[aE.of z6,λnt n0=>?_]]];let s7:aa H6 (af H6 nt$ .tup$ zs.map Cv):=je n0;erw[12,v,st,Z,((B.mono$ aa.tm R).mono t0).mono$ aa.tm s7,λd H8 d8 k8=>#[12,ip,λW J=>?_]];let X:=(s7.trans k8).trans (je (o:=.tup [.ref nt,d,wv]) J);let t:=c6.same X;erw[l,D,122,t.fd,P',i _ _ ?_];let T9:aT (af H8 W$ .tup [.ref nt,d,wv]) (Ma #[st.use j.M,st.deed,(iq m #[st.use j.M,#[[],.go$ m - (a.length:Int) - (st.cuts:Int)]] j a st).1]) (.ref W) []:=by erw[jM jc$ jp Z (jM (ap (k8 _ _ jc) J) ?_)$ jp (Md _) (d8.mono$ aa.tm$ je J)$ jp Z (w6.mono$ aa.tm X) jH];rw[<- ez];rwa[YT zs]
 let p9:=p6.same X;generalize af H8 W (.tup [.ref nt,d,wv])=H9 at X t T9 p9;let k:aA l H9 (af H9 l$ .lst$ D++[.ref W]):=λb o nb e=>by rw[jh nb];rwa[e]
 let T:=t.tm k;let n1:z≠l:=λe=>by let:=t.ins;rw[e,t.fd]at this;cases this
 erw[12,q (.ref r) G (D++[.ref W]) _ ?_ N ?_ (λb o nb e=>k b o nb (X _ _$ k6 b o nb$ R _ _ e))]
 .rw[ZB B hc m j a];rwa[p9.but k t.fd N]
 .rw[ZB B hc m j a];erw[k _ _ n1 t.ins,jc,?_];rw[RP];rwa[KD (jp Z (T9.mono T) jH)$ t.tr.mono T]
inductive BI(C u j s a:η)(m:Int)(c:FA Ct)(x:Pc)(f:V)(z:FA ρ)(b:Bd)(y:FA V)(H:Hp)(i:Nat)(A:_L.St)(e:Hp):Prop
 |mk(d t:Bd)(v:V)(g:η)(h:FA V)(w:FC V)(k:A=[↑u,↑a,δ f,δ v,w])(l:b=d.app t)(n:dZ H d (y.take (ο y - i)))(o:oZ e (pB m t x c).1 v g z)(p:g≠s)(q:Cg e C u j s m (pB m t x c).2 h)(r:aA s H e)
theorem KE(m:Int):∀(b:Bd) (c:Pc) (F:FA Ct),(pB m b c F).2.length+(pB m b c F).1.w.sets.length<=ο F+ο c.w.sets+b.size
 | .nil,_,_=>RO _
 | .lf p l r,c,F=>by
  let e:=KE m r c F;show(pL m p l$ pB m r c F).2.length+(pL m p l$ pB m r c F).1.w.sets.length<=ο F+ο c.w.sets+(r.size+1);cases l with
  |st x t T=>have:=YU x t (pB m r c F).1;show(pB m r c F).2.length+(lh x t (pB m r c F).1).sets.length<=_;omega
  |gv t T=>show(pB m r c F).2.length+0<=_;omega
  |rd x t T |wr t u T U |cl x f a d=>show((pB m r c F).2++[_]).length+0<=_;rw[RN];show _+1+0<=_;omega
 | .ite p t T x y r,c,F=>by let e:=KE m r c F;let h:=zc x;let H:=zc y;show((pB m x _ (pB m y _ _).2).2++[_]).length+0<=ο F+ο c.w.sets+(x.size+y.size+r.size+1);rw[RN,kH m x,kH m y];show _+1+0<=_;omega
 | .loop p t T x r,c,F=>by let e:=KE m r c F;let h:=zc x;show((pB m x _ _).2++[_]).length+0<=ο F+ο c.w.sets+(x.size+r.size+1);rw[RN,kH m x];show _+1+0<=_;omega
def OE:al z9z z9z (ae DW):=bP
def MH(F:aM K "place_of" "Cutting.place_of" DW f fd)(ck:CK K C)(GC:⇑(4*n+33) fC D z9z (Ee C n))(bC:ax K D z9z [])(hC:bq K C "place_of_cut" fC)(cG:{8} fG f0 z1z gU "place_of_give")(cS:{11} fS f1 z3z lP "place_of_set"):⇑(4*n+34) f fd z9z (IW C n):=by
 erw[F.ok OE λc0 A O s H vs Q E G h=>?_]
 let(r,J,fa,g,m,j,z,L,v,B,y,st,rfl,I,M,hd,q):=h;erw[_,%[Z|_cmrh1dk cG.e G.m _ah1bscmrh1dk cS.e G.m _a1a2bsdkM0 ck.cl hC GC G.m bC .nil _γa1a2b],?_];let hz:=I.sz;let R:=M;let i:st.isCut=μ->gZ (Br C "place_of_cut" (Ee C n) [] E0 (ba 0)$ ao (ba 1)$ ao (ba 2) aR) { nx:=λx k=>Q V.non k,rt:=Q } [↑r,δ v,δ B] H:=λhc=>
  #[12,r,J,12,I.c.ins,21212,r,J,fa,g,m,j,z,L,v,B,y,st,Z,I,M,hd,hc,q]
 cases M with
 |lf p l vs d o=>
  cases l with
  |rd x t T |wr t u T U |cl x f q2 ts=>let(rfl,_):=o;erw[(ju d Z #[212,aW P8 ?_])];erw[(ju d Z #[212,aW P8 ?_])];rwa[i Z]
  |gv t T=>
   let(rfl,hT):=o;erw[(ju d Z #[212,cw P8 ?_])];let Y:ο y<=21:=by let(_,_,_,_,_,hN,_):=I.p;rwa[hN.y20]
   exact(ju d Z #[t,T,y,Z,hT,I.ok.1,Y,λW X k p' N S=>q W X z k p' (λe=>by rw[e,I.c.fd]at N;cases N) (I.c.same S) (aA.of_same S)])
  |st x t T=>let(rfl,hT):=o;erw[(ju d Z #[212,aW P8 ?_])];erw[(ju d Z #[212,cw P8 ?_])];rwa[1212,.ref p,B,p,t,x,T,L,g,y,Z,R,I.p,I.ok.1.1,I.ok.1.2,P',λW X k p' N S=>q W X z k p' (λe=>by rw[e,I.c.fd]at N;cases N) (I.c.same S) (aA.of_same S)]
 |ite p t T a b qa qb as bs d h0 o h3 h4 h5 |loop p t T a qa as d h0 o h3=>erw[(ju d Z #[212,aW P8 ?_])];erw[(ju d Z #[212,aW P8 ?_])];rwa[i Z]
def D4:al ["self","body","behind","place","statement"] z12z (ae DP):=bP
def ME(F:aM K "place_of_body" "Cutting.place_of_body" DP f fd)(ck:CK K C)(GO:⇑(4*n+34) fO T z9z (IW C n))(bO:ax K T z9z [])(hO:bq K C "place_of" fO)(R:mg "reversed"=ι):⇑(4*n+35) f fd z12z (oO C$ n+1):=by
 erw[F.ok D4 λc1 A U s H vs Q E hr h=>?_]
 let(r,J,V,a,g,m,d,cs,xs,l,L,Y,b,rfl,I,ha,hb,hd,q):=h;erw[_,%[D4|_ce32cDOg (@Aj _ _ _ _ _ _ _ Z R boot_reversed (pv 1) Ra Ra P7 P7) _i4de3M0 ck.cl hO GO hr.m bO .nil _γa4a3bdk3],?_];let b0:=aI;let hz:=I.sz;let xl:=hb.len;erw[aj λF1 u=>#[12,u _ _ ?_]];erw[aj λF1 u=>?_];erw[db λF kF=>#[12,a,xs,Z,aC.of ha,kF _ _ ?_]];erw[YK (K:=K) (xs:=xs) (BI C r J V a m d l L Y b xs H) #[b,.nil,L,g,cs,12,(app_nil b).symm,by rw[U9,Su];rwa[hb],I.p,I.ng,I.c,aA.refl] (λi σ H' hi h=>?_) ?_ (λσ H' h=>u _ _ ?_)]
 .let(_,_,_,_,_,_,_,_,_,_,_,_,k):=h;rwa[aC.of$ I.c.tm k _ _ ha]
 .intro E _ i x σ H2 M fE Gq t h;let(pre,gq,v,W,o,o4,rfl,j,y,X,h4,N,O):=h;let hi:i < ο xs:=by
   rcases V0 i xs.length with z |z
   .rwa[z]
   .rw[SM (z:)]at M;cases M
  rw[Vc hi]at M;let et:xs.take (ο xs - i)=xs.take (ο xs - (i+1))++[x]:=by
   let D:ο xs - i=(ο xs - 1 - i)+1:=P'
   let e2:ο xs - (i+1)=ο xs - 1 - i:=P'
   rw[D,e2,SG,M];rfl
  rw[et]at y;rcases y.last with ⟨e,_⟩ | ⟨ws,v',B,S,D,e2,h6,h7⟩
  .rwa[absurd e P9]
  let(ew,ev):=VM D Z;cases ev;subst e2;let h0:=qf (j▸I.ok);let G:=qf h0.1;let a1:b.dep=max (B.app S).dep gq.dep:=by rw[j,zD]
  let a2:(B.app S).dep=max B.dep S.dep:=zD ..;let h8:S.dep<=b.dep:=by rw[a1,a2];rwa[Sf (UM ..)$ U0 ..]
  let h':b.size=B.size+S.size+gq.size:=by rw[j,j6,j6]
  let hl:=kH m gq l d;let a0:=zc gq;let a3:=tj m gq l d;let a4:(pB m gq l d).1.w.sets.length+(pB m gq l d).2.length+S.size<=10000000:=by let:=KE m gq l d;omega
  erw[t ?_];let tm:=I.c.tm O;show dP _ _ E [↑r,↑a,δ L,δ v,δ x] H2;erw[12,r,J,12,N.ins,21212,r,J,V,W,m,_,o,_,x,v,Y,S,Z,#[N,X,h4,G.2,P'],h7.mono tm,P',λv3 g3 c0 H3 p3 n3 c3 k3=>fE _ _ #[B,S.app gq,v3,g3,c0,12,by rw[j,app_assoc],?_,by rw[Qh];rwa[p3],n3,by rw[Qh];rwa[c3],O.trans k3]];rw[ew];rwa[h6]
 .let(pre,gq,v,W,o,o4,rfl,j,y,X,h4,N,O):=h;rw[Vo]at y;let ep:pre= .nil:=by
   rcases y.last with ⟨_,e⟩ | ⟨ws,v,B,S,D,_⟩
   .rwa[e]
   .rwa[absurd D P9]
  rw[ep]at j;erw[12,q v W o H' ?_ h4 ?_ O]
  .rw[j];rwa[X]
  .rw[j];rwa[N]
def Mz:⇑k f i z12z (oO C 0):=by
 let n:∀v H Q E,¬oO C 0 v H Q E:=λv H Q E h=>by let(I,D,F,a,g,m,d,j,x,p,B,y,b,_,_,_,_,e,_):=h;rwa[absurd e$ Uv _]
 rwa[λv H Q E h=>absurd h (n v H Q E),λA o s H c u v Q E _ _ _ _ h=>absurd h (n v H Q E)]
theorem Ph(c:CK K C)(FB:aM K "place_of_body" "Cutting.place_of_body" DP g f)(F:aM K "place_of" "Cutting.place_of" DW A a)(i:aM K "place_of_cut" "Cutting.place_of_cut" DQ D b)(j:aM K "ways_of" "Cutting.ways_of" DZ E d)
  (B:ax K f z12z []) (H:bq K C "place_of_body" g) (k:ax K a z9z []) (l:bq K C "place_of" A) (o:ax K b z9z []) (p:bq K C "place_of_cut" D) (q:ax K d z22z []) (r:bq K C "ways_of" E)
  (s:{2} T G ["body"] io "many_cuts") (t:{31} U I z3z (gV 7) "used_ahead_of") (u:{1} Y J z5z lE "deed_of") (v:{8} fG L z1z gU "place_of_give") (x:{11} fS N z3z lP "place_of_set") (y:mg "len"=ι) (m:mg "tuple"=ι) (M:mg "reversed"=ι):
  ∀n:Nat,n<=8->⇑(4*n+31) g f z12z (oO C n)
 |0,_=>Mz
 |n+1,h=>by
  let O:=Ph c FB F i j B H k l o p q r s t u v x y m M n P';let Q:=MJ j c O B H;let R:=MF i c P' Q q r s t u y m;let S:=MH F c R o p v x;let z:=ME FB c S k l M;let e:4*n+35=4*(n+1)+31:=P'
  rw[e]at z;rwa[z]
def tH{X:Cx}{K:γ}{n:Nat}(a:X.K=K)(b:X.calm=μ)(h:Lq X e t)
  (c:(assignEach e X.env).length=n) (H:(assignEach e X.env).findIdx? (·.1)=ι):PG X (.Tuple e k p) (vo K n t):=by
 subst a;rwa[zz b h c H]
def MY(K:γ):FA V->Hp->VK->Prop:=zV K
def uZ{X:Cx}{K:γ}(h:X.K=K):dy X (.builtin "len") (MY K):=by subst h;rwa[jN]
abbrev g3(K:γ)(i j k:Nat):TG:=vo K 3 (dR (bo i)$ dR (bo j)$ dR (bo k) x6)
def len3{t:_L.St}(h:ο t=3):∃a b c,t=[a,b,c]:=by
 cases t with
 |nil=>cases h
 |cons a r=>
  cases r with
  |nil=>cases h
  |cons b R=>
   cases R with
   |nil=>cases h
   |cons c d=>
    cases d with
    |nil=>rwa[a,b,c,Z]
    |cons _ _=>cases h
abbrev AH:de:=bN 52
abbrev tW:de:=bN 53
structure Df where
 f:ρ
 p:η
 pa:η
 pb:η
 b:Bd
def Ex(H:Hp)(d:Df)(v:V):Prop:=∃B,v= .ref d.p/\H d.p= ~~~[.str d.f,.ref d.pa,.ref d.pb]/\H d.pb= ~~~B/\dZ H d.b B
inductive cVc(W:V->Prop)(R:FA V->Prop)(a:FA V):Prop|mk(v r:_)(_:a=v::r)(_:W v)(_:R r)
def cV(H:Hp):FA Df->FA V->Prop
 | [],a=>a=[]
 |d::D,a=>cVc (Ex H d) (cV H D) a
def Ex.mono(k:am H a)(h:Ex H d v):Ex a d v:=by let(b,e,c,f,g):=h;rwa[b,e,k _ _ c,k _ _ f,g.mono k]
def cV.mono(k:am H b):∀{a:FA V},cV H D a->cV b D a:=by
 induction D with
 |nil=>exactλh=>h
 |cons d D i=>rintro a ⟨v,r,e,c,f⟩;rwa[v,r,e,c.mono k,i f]
theorem cV.snoc{d:Df}(a:Ex H d v):∀{D:FA Df} {b:FA V},cV H D b->cV H (D++[d]) (b++[v])
 | [],_,h=>by let e:_=[]:=h;rw[e];rwa[v,[],Z,a,Z]
 |_::_,_,z=>by let(u,r,e,c,f):=z;rwa[u,r++[v],by rw[e];rfl,c,cV.snoc a f]
theorem cV.len:∀{d:FA Df} {v:FA V},cV H d v->ο v=ο d
 | [],_,h=>by let e:_=[]:=h;rw[e];rfl
 |_::_,_,z=>by let(u,r,e,b,a):=z;rw[e,So,So,cV.len a]
theorem cV.at:∀{D:FA Df} {b:FA V},cV H D b->∀(i:Nat) (v:V),b[i]?=δ v->∃d,D[i]?=δ d/\Ex H d v
 | [],_,h,i,v,a=>by let e:_=[]:=h;rw[e]at a;simp at a
 |d::_,_,q,0,v,a=>by let(u,r,e,c,f):=q;rw[e]at a;cases a;rwa[d,Z,c]
 |_::D,_,q,i+1,v,a=>by let(u,r,e,c,f):=q;rw[e]at a;simpa using cV.at f i v (a:)
def ph(d:Df):Prop:=(∃y:FA ρ,y.length<=20/\d.b.Ok y)/\d.b.dep < 8/\d.b.size<=3000
def Oy(n:η):Pc:=#[λx=>x∈(Tm.num 0).vars,#[[],.give n]]
def iD(n:η)(d:Df):Pc×FA Ct:=pB (d.b.cuts:Int) d.b (Oy n) []
def fX(n:η)(d:Df):Tr:=aJ [a7 d.f,wu d.pa,iK (iD n d).1.w,aJ ((iD n d).2.reverse.map Ma)]
def pw(K:γ)(n:η):Prop:=∀H:Hp,aC K H n [.str "num",.int 0]
inductive uD(C:η)(f:FA V)(H:Hp)(Q:VK)(c:XK):Prop
 |mk(e d a:η)(b:Bd)(g:FA V)(_:f=[.ref e,.ref a])(_:H e=δ (.ins C d []))(_:H a= ~~~g)(_:dZ H b g)(_:b.size<=10000000)(_:∀(fa:η) (H':Hp),H fa=ι->Cg H' C e d fa (b.cuts:Int) [] []->aA e H H'->Q .non H')
inductive nL(K:γ)(c:η)(e:FA V)(H:Hp)(Q:VK)(a:XK):Prop
 |mk(d:Df)(b:FA V)(_:e=[.str d.f,.ref d.pa,.ref d.pb])(_:H d.pb= ~~~b)(_:dZ H d.b b)(_:ph d)(_:∀(v:V) (H':Hp),aT H' (fX c d) v []->aa H H'->Q v H')
inductive nH(K:γ)(e:η)(f:FA V)(H:Hp)(Q:VK)(b:XK):Prop
 |mk(a:η)(c:FA Df)(g:FA V)(_:f=[.ref a])(_:H a= ~~~g)(_:cV H c g)(_:ο c<=1000)(_:∀d∈c,ph d)(_:∀(v:V) (H':Hp),aT H' (aJ (c.map (fX e))) v []->aa H H'->Q v H')
def u7{K:γ}{t:TE}{Q:FA V->Hp->Prop}{H:Hp}(x:H a= ~~~g)(u:cV H D g)(R:ο D<=1000)
  (Pv:Nat->FA V->Hp->Prop) (z:Pv 0 [] H) (A:∀i Y h,Pv i Y h->aa H h/\ο Y<=i)
  (C:∀i d B Y h,D[i]?=δ d->h d.pb= ~~~B->dZ h d.b B->Pv i Y h->t (δ (.str d.f)::δ (.ref d.pa)::δ (.ref d.pb)::l) h λy j=>Pv (i+1) (Y++[y]) j)
  (E:∀Y h,Pv D.length Y h->Q Y h):eQ (Cb K a) 3 l (g3 K 0 1 2) nO t Q H:=by
 let F:=aI;let S:=u.len;erw[λi m Y h=>m=ο D - i/\i<=ο D/\Pv i Y h,#[D.length,P9,R4 _,z],?_];intro i m Y h c;let(rfl,T,p):=c;let(s,U):=A i Y h p;let c:aC K h a g:=aC.of (s _ _ x);by_cases n:i < ο D
 .let I:i < ο g:=by omega
  erw[.inr #[#[g,g[i],c,RI I],P',Pv$ i+1,λJ j L=>#[ο D - (i+1),P',Z,n,L],λv j W o y=>?_]];let(e,y):=y;subst e;let q:=y g c;let(d,r,B,rfl,M,N,O):=(u.mono$ aa.tm s).at i v q;let(X,t2,t3,rfl):=len3 o;erw[d.p,12,aC.of M,21121121122,#[[δ _,δ _,δ _],22],?_];rwa[C i d B Y j r N O p]
 .let e:i=ο D:=by omega
  subst e;rwa[.inl #[#[g,c,P'],E Y h p]]
def M7:al ["self","body"] ["self","body"] (ae Ay):=bP
def HI(F:aM K "__init__" "Cutting.__init__" Ay f t)(d:CK K C)(u:{2} M v ["body"] io "many_cuts"):⇑3 f t ["self","body"] (uD C):=by
 erw[F.ok M7 λy A O s H V Q E B h=>?_]
 let(i,D,a,b,x,rfl,G,I,J,L,q):=h;erw[_,%[Z|_c (@zJ _ _ _ _ _ _ _ _ (pv 0) (u.e B.m %[Z|_a1b]) Z) _d (@zJ _ _ _ _ _ _ _ _ (pv 0) (jE jb) Z)],?_];erw[aj λS l=>#[12,a,b,x,Z,I,J,L,λT k=>#[12,i,C,D,12,k _ _ G,d.cl,d.nm,Ra,l _ _ ?_]]];erw[iT,λg n=>#[12,i,C,D,12,ap jc n,d.cl,d.nf,(by show 1 < 1000;decide),?_]];let N:g≠i:=λe=>by rw[e,jc]at n;cases n
 let p:H g=ι:=by
  cases e:H g with
  |none=>rfl
  |some o=>rw[jh N,k _ _ e]at n;cases n
 erw[q g _ p #[jc,by rw[jh N,jc],Z] λc o r e=>?_];rw[jh r,jh (λz=>by rw[z,p]at e;cases e),jh r];rwa[k _ _ e]
def rg:al ["name","params","body","cutting","first"] z18z (ae AH):=bP
def Di(F:Fr K "part_made" AH f fd)(t:CK K C)(mk:Mk K C fI)(GI:⇑3 fI u ["self","body"] (uD C))(bI:ax K u ["self","body"] [])(mC:mg "Cutting"=↑C)(M:mg "NOUGHT"=↑n)(no:pw K n)(GB:⇑63 fB x z12z (oO C 8))(bB:ax K x z12z [])(hB:bq K C "place_of_body" fB)(cG:{8} fG f0 z1z (uJ K) "place_of_give")(y:mg "tuple"=ι)(z:mg "reversed"=ι):⇑64 f fd z18z (nL K n):=by
 erw[F.ok rg λc0 A O s H vs Q E B h=>?_]
 let(d,G,rfl,hb,a,I,q):=h;erw[_,%[rg|_ce3 (tF mk GI B.m Z mC bI .nil bg %[rg|_a2b]) _ce4M3 t.cl hB GB B.m bB .nil _γa2a cG.e B.m _a (Jw (v:=.ref n) Z M Z) _bbdkfa0a1ah4a (@wm _ _ _ _ _ _ _ _ _ Z Z y TQ Z z boot_reversed %[rg|_J3g] Ra Ra Ra Ra P7 P7 P7 P7) _b],?_];let b0:=aI;obtain⟨⟨ys,y0,ok⟩,J,hz⟩:=I;erw[aj λF1 j=>#[12,λi D N L n0=>?_]];let S:aa H (af (af H D$ .own i) i$ .ins C D []):=λc o e=>by rw[jh$ jk e N,jh$ jk e L];rwa[e]
 erw[i,D,d.pb,d.b,G,Z,jc,S _ _ hb,a.mono$ aa.tm S,P',λp H1 nf R k1=>#[Z,j _ _ ?_]];let s1:aa H H1:=λc o e=>k1 c o (jk e N) (S _ _ e);let T:H p=ι:=S.free nf;erw[aj λF1 j=>#[12,i,D,12,R.ins,212,n,ys,Z,no _,P',λv g H2 p2 n2 k2=>?_]];let ng:g≠p:=λe=>by rw[e,R.fd]at n2;cases n2
 let U:=s1.trans k2;erw[i,D,p,d.pb,g,_,[],[],G,Oy n,v,ys,d.b,Z,#[R.same k2,p2,ng,ok,by show 0+0+d.b.size<=_;omega],U _ _ hb,a.mono$ aa.tm U,J,λv3 g3 k V p3 n3 W k3=>j _ _ ?_];let(r3,w3,rfl,X,Y):=BL p3;let s3:aa H V:=λc o e=>k3 c o (jk e T) (U _ _ e);erw[1212,ju X Z #[12,i,C,D,112,W.ins,t.cl,t.nf,Z,p,k,Z,aE.of W.fd,λl nl=>#[wW,λr nr=>?_]]];let s5:aa V (af (af V l$ .tup k.reverse) r$ .tup [.str d.f,.ref d.pa,w3,.ref l]):=(je nl).trans (je nr);erw[q (.ref r) _ ?_$ s3.trans s5];erw[jM jc$ jp Z kh$ jp Z JY$ jp Z (Y.mono$ aa.tm s5)$ jp Z (jM (ap jc nr) ?_) jH];let e:=uR (W.tr.mono$ aa.tm s5);rw[<- List.map_reverse]at e;rwa[e]
def IP:al ["program"] ["program"] (ae tW):=bP
noncomputable def A8:gO:=#[.function,[(".0",.local),("name",.local),("params",.local),("body",.local),("part_made",.globalImplicit)],ξ,ξ,[]]
def yA:(z18z:FA ρ).Nodup:=P8
def LZ:a5 ["program"] (ae tW) A8 z18z 3 []:=pe
def De(F:Fr K "made" tW f p)(C:{64} U t z18z (nL K N) "part_made")(M:mg "tuple"=ι):⇑65 f p ["program"] (nH K N):=by
 erw[F.ok IP λu A o s H V Q E x h=>?_]
 let(a,D,X,rfl,g,y,B,O,q):=h;erw[_,%[Z|_dkFοg M _ιa (@km _ _ _ _ _ _ _ z18z 3 [] _ _ _ _ Z (qe$ pv 0) LZ (λ_ _ _ _ _=>tH (K:=K) (n:=3) Z Z %[Z|_tG (i:=0) yA _g (Θ Z) _tG (i:=1) yA _g (Θ Z) _tG (i:=2) yA _g (Θ Z) _κ] Z Z) (λ_ _ _ _ _=>@kG _) (λ_ _ _ _ _=>C.e x.m %[Z|_a0a1a2b]) FO) _b],?_];erw[12,a,Z,#[_,aC.of g],?_];erw[u7 g y B (λi V b=>aT b (aG ((D.take i).map$ fX N)) .non V/\aa H b/\i<=ο D) #[Z,aa.refl _,R4 _] (λi V b h=>#[h.2.1,?_]) (λi d G V b c I J h=>?_) (λV b h l L=>?_)]
 .rw[zu h.1,RJ,Se];rwa[T5 ..]
 .let R:i < ο D:=by
   rcases V0 i D.length with z |z
   .rwa[z]
   .rw[SM z]at c;cases c
  erw[121212,d,G,Z,I,J,O d$ Sc c,λv Y T j=>#[?_,h.2.1.trans j,R]];rw[SG,c,RP];rwa[KD (jp Z T jH)$ h.1.mono$ aa.tm j]
 .erw[#[l,V,Z,.inl #[aE.of jc,λr S=>?_]]];let s:aa b (af (af b l$ .lst V) r$ .tup V):=(je L).trans (je S);erw[q (.ref r) _ (jM jc ?_)$ h.2.1.trans s];let e:=h.1;rw[Su]at e;rwa[e.mono$ aa.tm s]
abbrev AN:de:=bN 63
abbrev AO:de:=bN 64
abbrev tS:de:=bN 65
def aX(p q:η)(H h:Hp):Prop:=∀b o,b≠p->b≠q->H b=δ o->h b=δ o
def aX.refl:aX p q H H:=λ_ _ _ _ h=>h
def aX.trans(a:aX p q H d)(b:aX p q d e):aX p q H e:=λc o n m h=>b c o n m (a c o n m h)
def aA.two(a:aA p H b):aX p q H b:=λc o n _ h=>a c o n h
def aX.of_same(a:aa H b):aX p q H b:=λc o _ _ h=>a c o h
def aX.at{q:η}:aX p q H (af H q o):=λb u _ m e=>by rw[jh m];rwa[e]
def dW(H:Hp)(q:η):Prop:=∃k:Int,H q=[.int k]⁻¹
def dW.new{o:HO}(h:dW H q)(n:H r=ι):dW (af H r o) q:=by let(k,e):=h;rwa[k,ap e n]
def dW.ne(h:dW H q)(B:ar H p):q≠p:=by let(k,e):=h;let(a,b,_,_,_,d):=B.ob;rwa[jQ e d FI]
def dW.but(h:dW H q)(B:ar H p)(k:aA p H a):dW a q:=by let n:=h.ne B;let(z,e):=h;rwa[z,k _ _ n e]
def aX.tm(k:aX p q H h)(B:ar H p)(s:dW H q):am H h:=λb x e=>by let(a,c,_,_,_,f):=B.ob;let(z,g):=s;rwa[k b _ (jQ e f (by intro w;cases w)) (jQ e g (by intro w;cases w)) e]
noncomputable def h9(H:Hp)(q:η):Int:=match H q with
 |some (.lst [.int k])=>k
 |_=>0
def JZ{H:Hp}(e:H q=[.int k]⁻¹):h9 H q=k:=by unfold h9;rw[e]
def ZC{h:Hp}(s:dW H q)(k:∀o,H q=δ o->h q=δ o):h9 h q=h9 H q:=by let(z,e):=s;rw[JZ e,JZ$ k _ e]
def kO(B:ar H p)(s:dW H q)(k:aA p H h):h9 h q=h9 H q:=ZC s λo e=>k _ _ (s.ne B) e
def kJ(s:dW H q)(k:aa H h):h9 h q=h9 H q:=ZC s λo e=>k _ _ e
def NE(H:Hp)(c:ρ×FA ρ)(v:V):Prop:=∃p t,v= .ref p/\H p= ~~~[.str c.1,.ref t]/\H t= ~~~(c.2.map Cv)
def eM(H:Hp):FA (ρ×FA ρ)->FA V->Prop
 | [],a=>a=[]
 |c::C,a=>cVc (NE H c) (eM H C) a
theorem eM.mono(k:am H b):∀{c:FA (ρ×FA ρ)} {a:FA V},eM H c a->eM b c a
 | [],_,h=>h
 |_::_,_,z=>by obtain⟨v,r,e,⟨p,t,E,d,f⟩,g⟩:=z;rwa[v,r,e,#[p,t,E,k _ _ d,k _ _ f],eM.mono k g]
theorem eM.snoc(a:NE H c v):∀{C:FA (ρ×FA ρ)} {b:FA V},eM H C b->eM H (C++[c]) (b++[v])
 | [],_,h=>by let e:_=[]:=h;rw[e];rwa[v,[],Z,a,Z]
 |_::_,_,z=>by let(u,r,e,d,f):=z;rwa[u,r++[v],by rw[e];rfl,d,eM.snoc a f]
theorem eM.len:∀{c:FA (ρ×FA ρ)} {v:FA V},eM H c v->ο v=ο c
 | [],_,h=>by let e:_=[]:=h;rw[e];rfl
 |_::_,_,z=>by let(u,r,e,b,a):=z;rw[e,So,So,eM.len a]
theorem eM.at:∀{C:FA (ρ×FA ρ)} {b:FA V},eM H C b->∀(i:Nat) (v:V),b[i]?=δ v->∃c,C[i]?=δ c/\NE H c v
 | [],_,h,i,v,a=>by let e:_=[]:=h;rw[e]at a;simp at a
 |c::_,_,q,0,v,a=>by let(u,r,e,d,f):=q;rw[e]at a;cases a;rwa[c,Z,d]
 |_::C,_,q,i+1,v,a=>by let(u,r,e,d,f):=q;rw[e]at a;simpa using eM.at f i v (a:)
def Ix(h:eM H C a)(i:0<=k)(j:k < (a.length:Int)):∃v c,dQ a k=δ v/\c∈C/\NE H c v:=by
 let b:k.toNat < ο a:=P'
 let d:k=((k.toNat:Nat):Int):=P'
 let E:a[k.toNat]?=δ a[k.toNat]:=RI b;let e:dQ a ((k.toNat:Nat):Int)=δ a[k.toNat]:=jO E;rw[<- d]at e;let(c,f,g):=h.at _ _ E;rwa[_,c,e,Sc f,g]
def Bd.fit(h:FA (ρ×FA ρ))(y:FA ρ)(d:Nat)(b:Bd):Prop:=(b.Ok y/\b.Cs (h.map λc=>(c.1,c.2.length)))/\b.dep<=d
def rY:Bd.fit h y d .nil:=#[#[trivial,trivial],R4 _]
def Gp{H:FA (ρ×FA ρ)}{l:Lf}(h:l.Ok y)(k:l.Cs (H.map λc=>(c.1,c.2.length))):Bd.fit H y d (.lf p l .nil):=#[#[#[h,trivial],k,trivial],R4 _]
def rX{a b:Bd}(h:a.fit H y d)(k:b.fit H y d):(a.app b).fit H y d:=#[#[Qg h.1.1 k.1.1,Qe h.1.2 k.1.2],by rw[zD];let:=h.2;let:=k.2;omega]
def CG{a b:Bd}(c:dM y T)(h:a.fit H y d)(k:b.fit H y d):Bd.fit H y (d+1) (.ite p t T a b .nil):=#[#[#[c,h.1.1,k.1.1,trivial],h.1.2,k.1.2,trivial],by show max (max a.dep b.dep+1) 0<=d+1;let:=h.2;let:=k.2;omega]
def xV{a:Bd}(H:dM y T)(h:a.fit b y d):Bd.fit b y (d+1) (.loop p t T a .nil):=#[#[#[H,h.1.1,trivial],h.1.2,trivial],by show max (a.dep+1) 0<=d+1;let:=h.2;omega]
noncomputable def Pj:Nat->Nat
 |0=>1
 |d+1=>1+2*(5*Pj d)
inductive lQ(b:FA V)(H:Hp)(Q:VK)(a:XK):Prop
 |mk(p g:η)(c:FA ρ)(_:b=[.ref p,.ref g])(_:ar H p)(_:H g=(c.map Cv)⁻¹)(_:1<=ο c)(_:c.length<=20)(_:∀(r:η) (T:Tm) (H':Hp),bu H' T r->dM c T->ar H' p->aA p H H'->Q (.ref r) H')
structure oY(H:Hp)(p g h sp:η)(ys:FA ρ)(hs:FA (ρ×FA ρ)):Prop where
 B:ar H p
 g:H g=(ys.map Cv)⁻¹
 y1:1<=ο ys
 y2:ys.length<=20
 h:∃hv,H h=hv⁻¹/\eM H hs hv
 h1:1<=ο hs
 h2:hs.length<=20
 h3:∀c∈hs,ο c.2<=6
 s:dW H sp
def oY.gsp{H:Hp}{p g h S:η}{y:FA ρ}{b:FA (ρ×FA ρ)}(G:oY H p g h S y b):g≠S:=by
 let(k,e):=G.s;erw[jQ G.g e λz=>?_];injection z with z;let c:=G.y1
 match y,c,z with
 |a::r,_,z=>injection z with d _;cases d
def oY.hsp{H:Hp}{p g h S:η}{y:FA ρ}{f:FA (ρ×FA ρ)}(G:oY H p g h S y f):h≠S/\h≠p:=by
 let(k,e):=G.s;let(j,E,l):=G.h;let(a,b,_,_,_,m):=G.B.ob;let n:=G.h1;let:∃q r,j= .ref q::r:=by
  match f,n,l with
  |c::C,_,#[v,r,e,#[q,t,o,_],_]=>rwa[q,r,by rw[e,o]]
 let(q,r,rfl):=this;erw[jQ E e λz=>?_,jQ E m λz=>?_]
 .injection z with z;injection z with d _;cases d
 .injection z with z;injection z with d _;cases d
def oY.but2{H a:Hp}{p g h S:η}{y:FA ρ}{b:FA (ρ×FA ρ)}(G:oY H p g h S y b)(B:ar a p)(s:dW a S)(k:aX p S H a):oY a p g h S y b:=by let(c,e,E):=G.h;rwa[B,k _ _ (qM G.B G.g) G.gsp G.g,G.y1,G.y2,#[c,k _ _ G.hsp.2 G.hsp.1 e,E.mono$ k.tm G.B G.s],G.h1,G.h2,G.h3,s]
def oY.but{H a:Hp}{p g h S:η}{y:FA ρ}{b:FA (ρ×FA ρ)}(G:oY H p g h S y b)(B:ar a p)(k:aA p H a):oY a p g h S y b:=G.but2 B (G.s.but G.B k) k.two
inductive mE(n:Nat)(f:FA V)(H:Hp)(Q:VK)(a:XK):Prop
 |mk(p g h e:η)(d:Nat)(i:FA ρ)(c:FA (ρ×FA ρ))(_:f=[.ref p,.ref g,.ref h,.ref e,.int (d:Int)])(_:oY H p g h e i c)(_:d < n)(_:0 < h9 H e)(_:∀(r:η) (b:Bd) (H':Hp),dZ H' b [.ref r]->(b.size:Int)+h9 H' e<=h9 H e->0<=h9 H' e->b.fit c i d->ar H' p->dW H' e->aX p e H H'->Q (.ref r) H')
inductive ik(n:Nat)(f:FA V)(H:Hp)(Q:VK)(a:XK):Prop
 |mk(p g h e:η)(d:Nat)(i:FA ρ)(c:FA (ρ×FA ρ))(_:f=[.ref p,.ref g,.ref h,.ref e,.int (d:Int)])(_:oY H p g h e i c)(_:d < n)(_:0<=h9 H e)(_:∀(r:η) (b:Bd) (bs:FA V) (H':Hp),H' r= ~~~bs->dZ H' b bs->(b.size:Int)+h9 H' e<=h9 H e->0<=h9 H' e->b.fit c i d->ar H' p->dW H' e->aX p e H H'->Q (.ref r) H')
def A5:al ["_law_box_here","_law_names_here","_law_kind"] z27z (ae AN):=bP
def Dl(F:Fr K "_law_spot" AN f M)(C:{1} Y N z0z aZ "_law_take")(O:{6} fM R z11z (dm 4) "_law_term"):⇑7 f M z27z lQ:=by
 erw[F.ok A5 λS A o s H vs Q E a h=>?_]
 let(p,g,y,rfl,B,I,i,j,q):=h;erw[_,%[A5|_ce2 C.e a.m _a0ajbcmu Xd _2jw _ _dk O.e a _a0a1ajbscmB2dkfaoanεnεn JX _jjj C.e a.m _a0ajbbsdkfaoa C.e a.m _a0ajbb],?_];let k:g≠p:=qM B I;erw[12,p,8,Z,B,Ra,Ra,λkd J k0 k1 l L=>?_];let t:J g=(y.map Cv)⁻¹:=by rw[L g k];rwa[I]
 let u:aA p H J:=aA.of_eq L;erw[12112212,?_];erw[cf (λc=>?_) (λc=>?_)]
 .exact#[1212,p,g,1,y,Z,l,t,i,j,Ra,Ra,λr T v U dT W b X=>q r T v U #[W,P'] b (u.trans X)]
 erw[12212,?_];erw[cf (λc=>?_) (λc=>?_)]
 .erw[#[1122,#[Ra,Ra,Ra],112212,p,4,Z,l,Ra,Ra,λD v d x b z=>#[1122,b8,λr n=>?_]]];rwa[q r (.num (1000000000000000000 - 1 - D)) _ jc #[#[P',P'],(by show 0 < 6;decide)] (b.upd_new n) ((u.trans$ aA.of_eq z).upd_new n)]
 .erw[#[12,p,(12),Z,l,Ra,Ra,λD v d x b z=>#[b8,λr n=>?_]]];rwa[q r (.num D) _ jc #[#[d,P'],(by show 0 < 6;decide)] (b.upd_new n) ((u.trans$ aA.of_eq z).upd_new n)]
def mx:al z39z z7z (ae AO):=bP
noncomputable def wH:gO:=#[.function,[(".0",.local),("_law_one",.local),("_law_term",.globalImplicit),("_law_box_here",.free),("_law_names_here",.free)],ξ,ξ,[]]
def Hf:(z33z:FA ρ).Nodup:=P8
def Gc:a5 z39z (ae AO) wH z33z 1 [0,1]:=pe
def RH(p g h s:η)(d:Nat)(k:Int)(y:ρ)(H:Hp)(a:_L.St)(b:Hp):Prop:=a=[↑p,↑g,↑h,↑s,δ$ .int (d:Int),δ$ .int k,δ$ .str y,ι,ι,ι]/\b=H
def HW(F:Fr K "_law_statement" AO f fd)(cT:{1} fT f0 z0z aZ "_law_take")(cM:{6} fM f3 z11z (dm 4) "_law_term")(cP:{7} fP f4 z27z lQ "_law_spot"){L:Nat}(cB:{L+9} fB f5 z7z (ik n) "_law_body")(ml:mg "len"=ι)(m0:mg "tuple"=ι):⇑(L+10) f fd z7z (mE$ n+1):=by
 erw[F.ok mx λc3 A o1 s H vs Q E R h=>?_]
 symm;let(p,g,h,S,d,ys,hs,rfl,G0,hd,b7,q):=h;erw[_,%[mx|_ce5 cT.e R.m _a0ajbce6ly1 cT.e R.m _a0aCψg ml _σa1bbpcYnεly3jpj (Jm (pv 3) jf zN) _cmu Xd _5jw _ _dkfaoa6a cP.e R.m _a0a1bbscm (PW.pt %[mx|_μB5ςB5]) _dkfaoa cP.e R.m _a0a1ba cM.e R.m _a0a1ajbbscm (PW.pt %[mx|_μB5ςB5]) _cYly2 cT.e R.m _a0aCψg ml _σa2bbpS (n:=2) _gti7ti8κdkfaoa6a7aFοgβιa (@km _ _ _ _ _ _ _ z33z 1 [0,1] _ _ _ _ Z (qe$ pv 8) Gc (λ_ _ _ _ _=>jr (i:=0) Hf Z$ Θ Z) (λ_ _ _ _ _=>@kG _) (λ_ _ _ _ _=>cM.e R.m %[mx|_a1a2ajb]) FO) _bbscNm (PW.pt %[mx|_XB5νu Kg _4jw _]) _ce9 cB.e R _a0a1a2a3anε4jbdkfaoa cM.e R.m _a0a1ajba9a cB.e R _a0a1a2a3anε4jbbscNm (PW.pt %[mx|_XB5νu Kg _4jw _]) _dkfaoa cM.e R.m _a0a1ajba cB.e R _a0a1a2a3anε4jbbscmB5dkfaoa cM.e R.m _a0a1ajbbsdkfaoa6a cM.e R.m _a0a1ajbb],?_];let b9:=aI;let B:=G0.B;let c4:g≠p:=qM B G0.g;sleep 9;erw[aj λF1 o=>#[12,p,10,Z,B,Ra,Ra,λkd H1 k0 k1 B1 e1=>o _ _ ?_]];left;let G1:=G0.but B1 (aA.of_eq e1);let y1:=G0.y1;let y2:=G0.y2;erw[aj λF1 o=>#[121212,g,12,.inl$ aE.of G1.g,p,12,B1,by rw[RJ];omega,by rw[RJ];omega,λd2 H2 d1 d0 B2 e2=>?_]];rw[RJ]at d0;let G2:=G1.but B2 (aA.of_eq e2);symm;let(y,hy,a2):=Qd (ys:=ys) d1 d0;erw[g,11122,aE.of G2.g,a2,o _ _ ?_];left;symm;let(k,hk):=G2.s;let ek:h9 H S=k:=((kO B1 G1.s$ aA.of_eq e2).trans$ kO B G0.s$ aA.of_eq e1).symm.trans (JZ hk);erw[aj λF1 o=>#[12,S,11122,aE.of hk,2112212,S,11,0,22,hk,Z,o _ _ ?_]];left;let s0:=G2.s.ne B2;let B3:ar (af H2 S$ .lst ([.int k].set 0 (.int$ k - 1))) p:=B2.eq (jh$ Sx s0);let s3:dW (af H2 S$ .lst ([.int k].set 0 (.int$ k - 1))) S:=#[k - 1,jc];let K3:aX p S H (af H2 S$ .lst ([.int k].set 0 (.int$ k - 1))):=((aA.of_eq e1).trans$ aA.of_eq e2).two.trans aX.at;let G:=G0.but2 B3 s3 K3;let e3:h9 (af H2 S$ .lst ([.int k].set 0 (.int$ k - 1))) S=k - 1:=JZ jc;generalize af H2 S (.lst ([.int k].set 0 (.int$ k - 1)))=H3 at B3 s3 K3 G e3;let l0:∀(l:Lf) (zs:FA V) (j:Hp) (r:η),Cc j l zs->l.Ok ys->l.Cs (hs.map λc=>(c.1,c.2.length))->oY j p g h S ys hs->aX p S H j->h9 j S=k - 1->j r=ι->Q (.ref r) (af j r$ .tup zs):=λl zs j r hl ok cs u K4 e4 nr=>
  q r (.lf r l .nil) _ #[zs,[],Z,jc,hl.mono$ aa.tm$ je nr,Z] (by rw[kJ u.s$ je nr];show((0+1:Nat):Int)+_<=_;omega) (by rw[kJ u.s$ je nr];omega) (Gp ok cs) (u.B.upd_new nr) (u.s.new nr) (K4.trans$ aX.of_same$ je nr)
 erw[aj λF1 o=>sF λG' C=>#[12112212,C _ _ ?_]];erw[cf (λc=>?_) (λc=>o _ _ ?_)]
 .erw[#[121212,p,g,ys,Z,G.B,G.g,y1,y2,λr T j U oT B4 J=>#[ip,λt N=>?_]]];rwa[l0 (.rd y r T) _ j t #[Z,U] #[hy,oT] trivial (G.but B4 J) (K3.trans J.two) ((kO G.B G.s J).trans e3) N]
 let wr:∀(r:η) (T0:Tm) (j:Hp),bu j T0 r->dM ys T0->ar j p->aA p H3 j->eV (dm 4) [] E0 (ao (ba 0)$ ao (ba 1)$ ao (tC$ .int 2) aR) [↑p,↑g,↑h,↑S,δ$ .int (d:Int),δ$ .int kd,δ$ .str y,ι,ι,ι] j (λv D=>3<=υ/\∀t,D t=ι->Q (.ref t) (af D t$ .tup [.str "write",.ref r,v])):=λr T0 j h4 o0 B4 J=>by erw[1212,p,g,2,ys,Z,B4,(G.but B4 J).g,y1,y2,Ra,Ra,λW T D U dT gT O a=>#[Ra,λt N=>?_]];rwa[l0 (.wr r W T0 T) _ D t #[Z,h4.but B4 a,U] #[o0,gT,P'] trivial (G.but O$ J.trans a) (K3.trans (J.trans a).two) ((kO G.B G.s$ J.trans a).trans e3) N]
 erw[aj λF1 o=>sF λG' C=>?_];let Y:G' μ H3:=C _ _ (yj #[1212,p,g,ys,Z,G.B,G.g,y1,y2,λr T0 j h4 o0 B4 J=>wr r T0 j h4 o0 B4 J]);erw[12212,cf (λc=>Y) (λc=>#[12212,EB Y λc2=>C _ _ (aW c2$ o _ _ ?_)])];symm;let(hv,hh,hH):=G.h;let hl:=hH.len;let h1:=G0.h1;let h2:=G0.h2;let c1:∀(f':ρ) (ps:FA ρ) (h':(f',ps.length)∈hs.map λc=>(c.1,c.2.length)) (t:η) (j:Hp),oY j p g h S ys hs->aX p S H j->h9 j S=k - 1->j t= ~~~(ps.map Cv)->ο ps<=6->
   eQ (Cb K t) 1 [↑p,↑g] (bo 0) nO (eV (dm 4) [] E0$ ao (ba 1)$ ao (ba 2)$ ao (tC$ .int 1) aR) (λzs D=>∀l,D l=ι->zd K [Fa l] (af D l$ .lst zs) λv H6=>4<=υ/\∀r,H6 r=ι->Q (.ref r) (af H6 r$ .tup [.str "call",.str y,.str f',v])) j:=λf' ps h' t j u K4 e4 ht c5=>by
  erw[Jc (K:=K) (xs:=ps.map Cv) (by rw[RJ];omega) (λi zs D=>∃ts:FA (η×Tm),zs=ts.map (λc=>Fa c.1)/\ο ts=i/\(∀c∈ts,bu D c.2 c.1/\dM ys c.2)/\ar D p/\aA p j D) #[[],22,(λ_ h=>absurd h Sz),u.B,aA.refl] (λi zs D h5=>?_) ?_ ?_]
  .symm;let(ts,rfl,e5,_,_,a):=h5;rwa[aC.of$ a.tm u.B _ _ ht,by rw[RJ,e5];rwa[RO _]]
  .intro i x zs D hx a3;symm;let(ts,rfl,e5,h5,O,a):=a3;erw[1212,p,g,1,ys,Z,O,(u.but O a).g,y1,y2,Ra,Ra,λW T H6 U dT gT B6 k6=>#[ts++[(W,T)],by rw[RP];rfl,by rw[RN,e5];rfl,λc hc=>?_,B6,a.trans k6]];symm;rcases ψ.mp hc with hc |hc
   .exact#[(h5 c hc).1.but O k6,(h5 c hc).2]
   .right;rw[τ.mp hc];rwa[U,gT,(by show T.depth < 6;omega)]
  .rintro zs D ⟨ts,rfl,e5,h5,O,a⟩ l nl;erw[l,12,.inl #[aE.of jc,λl2 n0=>#[Ra,λr nr=>?_]]];let M:=u.but O a;let s6:aa D (af (af D l$ .lst$ ts.map λc=>Fa c.1) l2$ .tup$ ts.map λc=>Fa c.1):=(je nl).trans (je n0);rw[RJ]at e5;rwa[l0 (.cl y f' l2 ts) _ _ r #[Z,jc,λc hc=>(h5 c hc).1.same s6] #[hy,P',λc hc=>(h5 c hc).2] (by show(f',ts.length)∈_;rw[e5];rwa[h']) (M.but2 ((M.B.upd_new nl).upd_new n0) ((M.s.new nl).new n0)$ aX.of_same s6) ((K4.trans a.two).trans$ aX.of_same s6) ((kJ M.s s6).trans ((kO u.B u.s a).trans e4)) nr]
 erw[aj λF1 o=>sF λG' C=>?_];let Y:G' μ H3:=by erw[C _ _$ yj ?_];erw[aj λF2 f2=>#[121212,h,12,.inl$ aE.of hh,p,12,G.B,P',P',λd4 j d3 d5 B4 e4=>?_]];let u:=G.but B4 (aA.of_eq e4);let J:aA p H3 j:=aA.of_eq e4;let a4:=hH.mono (J.tm G.B);let(v,c0,a',a0,p4,t4,rfl,z1,z2):=Ix a4 d3 d5;erw[h,11122,aE.of$ J _ _ G.hsp.2 hh,a',p4,12,aC.of z1,21121122,f2 _ _ ?_];left;erw[121212,t4,Z,#[_,aC.of z2],?_];rwa[c1 c0.1 c0.2 (β.mpr #[c0,a0,Z]) t4 j u (K3.trans J.two) ((kO G.B G.s J).trans e3) z2$ G0.h3 c0 a0]
 erw[12212,cf (λc=>Y) (λc=>#[12212,EB Y λc2=>C _ _ (aW c2$ o _ _ ?_)])];let l1:∀(c:(0:Int) < (d:Int)),∃X:Nat,d=X+1:=λc=>#[d - 1,P'];erw[aj λF1 o=>eB (RH p g h S d kd y H3) (λE6 eR f6=>?_) λσ0 H' z=>?_]
 .left;erw[sF λG' C=>#[12212,?_]];erw[cf (λc=>?_) (λc=>C _ _ (pM$ f6 _ _ #[22]))];erw[12112212,C _ _ ?_];erw[cf (λc2=>?_) (λc2=>f6 _ _ #[22])];symm;let(X,rfl):=l1 (SF c2);let ed:(((X+1:Nat):Int) - 1)=((X:Nat):Int):=by omega
  erw[12121212121122,p,g,h,S,X,ys,hs,(by show [Fa p,Fa g,Fa h,Fa S,Da (((X+1:Nat):Int) - 1)]=_;rw[ed]),G,P',P',λr b bs j b1 b2 c6 b4 b5 B4 s4 J=>?_];let u:=G.but2 B4 s4 J;erw[1212,p,g,2,ys,Z,u.B,u.g,y1,y2,Ra,Ra,λW T D U dT gT O a=>?_];let M:=u.but O a;erw[1212121212121122,p,g,h,S,X,ys,hs,(by show [Fa p,Fa g,Fa h,Fa S,Da (((X+1:Nat):Int) - 1)]=_;rw[ed]),M,P',(by rw[kO u.B u.s a];rwa[b4]),λr3 b3 b0 H6 h6 h7 a1 h8 h0 B6 s6 k6=>#[wW,λt N=>?_]];let G6:=M.but2 B6 s6 k6;let tm:am j H6:=λb' xs e=>k6.tm M.B M.s _ _ (a.tm u.B _ _ e);let I:am H6 (af H6 t$ .tup [.str "if",.ref W,.ref r,.ref r3]):=aa.tm (je N);rw[eR];erw[q t (.ite t W T b b3 .nil) _ #[r,r3,bs,b0,[],Z,jc,(U.mono$ k6.tm M.B M.s).mono I,I _ _$ tm _ _ b1,I _ _ h6,(b2.mono tm).mono I,h7.mono I,Z] (by let x1:=kO u.B u.s a;rw[kJ G6.s$ je N];show((b.size+b3.size+0+1:Nat):Int)+_<=_;omega) (by rw[kJ G6.s$ je N];rwa[h8]) (CG #[gT,P'] b5 h0) (G6.B.upd_new N) (G6.s.new N) (((K3.trans J).trans$ a.two.trans k6).trans$ aX.of_same$ je N)]
 symm;let(rfl,e):=z;right;rw[e];erw[o _ _ ?_];left;erw[aj λF1 o=>eB (RH p g h S d kd y H3) (λE6 eR f6=>?_) λσ0 H' z=>?_]
 .left;erw[sF λG' C=>#[12212,?_]];erw[cf (λc=>?_) (λc=>C _ _ (pM$ f6 _ _ #[22]))];erw[12112212,C _ _ ?_];erw[cf (λc2=>?_) (λc2=>f6 _ _ #[22])];symm;let(X,rfl):=l1 (SF c2);let ed:(((X+1:Nat):Int) - 1)=((X:Nat):Int):=by omega
  erw[1212,p,g,2,ys,Z,G.B,G.g,y1,y2,Ra,Ra,λW T D U dT gT O a=>?_];let M:=G.but O a;erw[12121212121122,p,g,h,S,X,ys,hs,(by show [Fa p,Fa g,Fa h,Fa S,Da (((X+1:Nat):Int) - 1)]=_;rw[ed]),M,P',(by rw[kO G.B G.s a];omega),λr3 b3 b0 H6 h6 h7 a1 h8 h0 B6 s6 k6=>#[ip,λt N=>?_]];let G6:=M.but2 B6 s6 k6;let I:am H6 (af H6 t$ .tup [.str "while",.ref W,.ref r3]):=aa.tm (je N);rw[eR];erw[q t (.loop t W T b3 .nil) _ #[r3,b0,[],Z,jc,(U.mono$ k6.tm M.B M.s).mono I,I _ _ h6,h7.mono I,Z] (by let x1:=kO G.B G.s a;rw[kJ G6.s$ je N];show((b3.size+0+1:Nat):Int)+_<=_;omega) (by rw[kJ G6.s$ je N];rwa[h8]) (xV #[gT,P'] h0) (G6.B.upd_new N) (G6.s.new N) ((K3.trans$ a.two.trans k6).trans$ aX.of_same$ je N)]
 symm;let(rfl,e):=z;right;rw[e];erw[o _ _ ?_];left;erw[aj λF1 o=>sF λG' C=>#[12212,C _ _ ?_]];erw[cf (λc=>?_) (λc=>o _ _ ?_)]
 .erw[#[1212,p,g,2,ys,Z,G.B,G.g,y1,y2,Ra,Ra,λW T D U dT gT O a=>#[b8,λt N=>?_]]];rwa[l0 (.gv W T) _ D t #[Z,U] #[gT,P'] trivial (G.but O a) (K3.trans a.two) ((kO G.B G.s a).trans e3) N]
 .erw[#[121212,p,g,3,ys,Z,G.B,G.g,y1,y2,Ra,Ra,λW T D U dT gT O a=>#[ip,λt N=>?_]]];rwa[l0 (.st y W T) _ D t #[Z,U] #[hy,gT,P'] trivial (G.but O a) (K3.trans a.two) ((kO G.B G.s a).trans e3) N]
def rf:al ["_law_box_here","_law_names_here","_law_heads","_law_spare","_law_deep","_law_body_here","_law_k"] z7z (ae tS):=bP
def sZ(F:Fr K "_law_body" tS f fd)(cT:{1} fT f0 z0z aZ "_law_take"){L:Nat}(cS:{L+8} fS f1 z7z (mE n) "_law_statement")(mr:mg "range"=ι)(m2:mg "tuple"=ι):⇑(L+9) f fd z7z (ik n):=by
 erw[F.ok rf λc0 A o0 s H v Q E hr h=>?_]
 let(p,g,h,S,d,ys,hs,rfl,G,hd,h0,q):=h;erw[_,%[rf|_ce5qbcDOgτg mr _a cT.e hr.m _a0ajbbi6dmu Kg _ly3jpjw _ _dzERηθδ5a cS.e hr _a0a1a2a3a4bbsdkFοg m2 _ιa5b],?_];let b0:=aI;erw[R4 _,λl N=>?_];let s0:aa H (af H l$ .lst []):=je N;let O:oY (af H l$ .lst []) p g h S ys hs:=G.but2 (G.B.upd_new N) (G.s.new N) (aX.of_same s0);let l1:af H l (.lst []) l=[]⁻¹:=jc;let lp:l≠p:=G.B.ne N;let D:l≠S:=λe=>by let(k,z):=G.s;rw[<- e,N]at z;cases z
 let k1:aX p S H (af H l$ .lst []):=aX.of_same s0;let R:h9 (af H l$ .lst []) S=h9 H S:=kJ G.s s0;generalize af H l (.lst [])=H1 at O l1 k1 R;erw[12,p,6,Z,O.B,Ra,Ra,λm H2 m0 m1 B2 e2=>#[12,P',P',?_]];let G2:=O.but B2 (aA.of_eq e2);refine Xi (lo:=0) (λi σ I=>∃(o6:FC V) (v:FA V) (b:Bd),σ=[↑p,↑g,↑h,↑S,δ$ .int (d:Int),↑l,o6]/\I l=v⁻¹/\dZ I b v/\((b.size:Int)+h9 I S<=h9 H S/\0<=h9 I S)/\b.fit hs ys d/\ο v<=i/\ar I p/\dW I S/\aX p S H I)
  #[ι,[],.nil,Z,by rw[e2 l lp];rwa[l1],Z,(by rw[kO O.B O.s$ aA.of_eq e2,R];rwa[by show((0:Nat):Int)+_<=_;omega,h0]),rY,R4 _,B2,G2.s,k1.trans (aA.of_eq e2).two] ?_ ?_
 .intro i σ H3 hi J;let(o6,v,b,rfl,a,u,j,x,h1,T,C,U):=J;let G3:=G.but2 T C U;let(kk,W):=id C;erw[12,S,11122,aE.of W,2112212,?_];refine cf (λc=>?_) (λc=>?_)
  .erw[#[12,.inl #[21,aE.of a],1212121212,p,g,h,S,d,ys,hs,Z,G3,hd,(by rw[JZ W];rwa[SF c]),λr b4 H4 h2 h5 h3 h4 B4 s4 k4=>?_]];let X:H4 l=v⁻¹:=k4 _ _ lp D a;erw[l,1122,X,P',?_];let tm:am H4 (af H4 l$ .lst$ v++[.ref r]):=λb' xs e=>by rw[jh$ jQ e X FI];exact e
   let Y:am H3 H4:=k4.tm T C;erw[11,b.app b4,Z,jc,(h2.mono tm).app ((u.mono Y).mono tm),?_,rX x h4,by rw[RN];show ο v+1<=i+1;omega,B4.eq$ jh$ Sx lp,?_,λb' o n1 n2 e=>?_]
   .rw[j6,ZC s4 λo e=>by rw[jh$ Sx D];rwa[e]];let(z1,z2):=j;rwa[P',h3]
   .let(z,hz):=s4;rwa[z,by rw[jh$ Sx D];rwa[hz]]
   .rw[jh$ jk e N];rwa[k4 _ _ n1 n2$ U _ _ n1 n2 e]
  .exact#[_,v,b,Z,a,u,j,x,P',T,C,U]
 .intro σ H3 J;let(o6,v,b,rfl,a,u,j,x,h1,T,C,U):=J;erw[12,l,v,Z,.inl #[aE.of a,λt M=>?_]];let hm:(m).toNat<=5:=by omega
  erw[q t b v _ jc (u.mono$ aa.tm$ je M) (by rw[kJ C$ je M];rwa[j.1]) (by rw[kJ C$ je M];rwa[j.2]) x (T.upd_new M) (C.new M)$ U.trans$ aX.of_same$ je M]
def yE:⇑8 f c z7z (mE 0):=by
 let n:∀v H Q E,¬mE 0 v H Q E:=λv H Q E h=>by let(p,g,h,S,d,y,e,_,_,b,_):=h;rwa[absurd b$ Uv _]
 rwa[λv H Q E h=>absurd h (n v H Q E),λA o s H a u v Q E _ _ _ _ h=>absurd h (n v H Q E)]
theorem Nf(F:Fr K "_law_statement" AO f e)(FB:Fr K "_law_body" tS g a)(c:{1} r k z0z aZ "_law_take")(C:{6} s l z11z (dm 4) "_law_term")(h:{7} t o z27z lQ "_law_spot")(b:ax K e z7z [])(M:mg "_law_statement"=↑f)(B:ax K a z7z [])(i:mg "_law_body"=↑g)(j:mg "len"=ι)(m:mg "tuple"=ι)(d:mg "range"=ι):
  ∀n:Nat,⇑(n+n+8) f e z7z (mE n)/\⇑(n+n+9) g a z7z (ik n)
 |0=>#[yE,sZ (L:=0) FB c #[yE,b,F.kp,M] d m]
 |n+1=>by
  let I:=Nf F FB c C h b M B i j m d n;let E:n+n+10=n+1+(n+1)+8:=P'
  let p:n+n+2+9=n+1+(n+1)+9:=P'
  let H:=HW (L:=n+n) F c C h #[I.2,B,FB.kp,i] j m;let q:=sZ (L:=n+n+2) FB c #[H,b,F.kp,M] d m;rw[<- E,<- p];rwa[H,q]
def Mb{x:FA V}(h:k<=ο x):aN x ι (δ (k:Int))=x.take k:=by
 unfold aN;rw[HT.sIx_nat,HT.sIx_none];let e:min k (ο x)=k:=P'
 rw[e];simp
abbrev Iz:de:=bN 66
def CA(h:0<=d)(H:d < 4):∃D:Nat,dQ [Da 3,.int 3,.int 3,.int 5] d=δ (.int (D:Int))/\D < 6/\Pj D<=111111/\D<=5:=by
 rcases(P':d=0∨d=1∨d=2∨d=3) with rfl |rfl |rfl |rfl
 .exact#[3,Z,Ra,Ra,Ra]
 .exact#[3,Z,Ra,Ra,Ra]
 .exact#[3,Z,Ra,Ra,Ra]
 .exact#[5,Z,Ra,Ra,Ra]
def xG{ys:FA ρ}{k:Int}(h:ο ys=20)(H:14<=k)(a:k<=20):1<=(bE ys (δ 8)$ δ k).length/\(bE ys (δ 8)$ δ k).length<=20:=by
 erw[?_,by let:=qR ys (δ 8) (δ k);omega];let e:(8:Int)=((8:Nat):Int):=rfl;let E:k=((k.toNat:Nat):Int):=P'
 unfold bE;rw[e,E,HT.sIx_nat,HT.sIx_nat,Se,Td];rwa[N09]
def Cw{ss:FA ρ}(h:0<=k):(bE ss ι$ δ k).length<=k.toNat:=by
 let e:k=((k.toNat:Nat):Int):=P'
 unfold bE;rw[e,HT.sIx_nat,HT.sIx_none,Se];omega
def gK{t u:TS}(h:∀E:a8,(∀a b,u D a b->E.nx a b)->t E c H):dq t u D c H:=h { D with nx:=u D } λ_ _ h=>h
def LF(h:FA (ρ×FA ρ)):Prop:=∀c∈h,c.1.length<=20/\ο c.2<=6
def Pn(H:Hp)(D:FA Df):Prop:=∀d∈D,∃p:FA ρ,H d.pa= ~~~(p.map Cv)/\ο p<=100
def JK{a:Type}{P:a->Prop}{X:FA a}{x:a}(h:∀c∈X,P c)(H:P x):∀c∈X++[x],P c:=λc b=>by
 rcases ψ.mp b with h1 |h1
 .rwa[h c h1]
 .rw[τ.mp h1];rwa[H]
def n8(H:Hp)(D:FA Df)(N:FA Nat):Prop:=ο D=ο N/\∀(i:Nat) (d:Df) (n:Nat),D[i]?=δ d->N[i]?=δ n->∃p:FA ρ,H d.pa= ~~~(p.map Cv)/\ο p=n/\n<=100
def n8.mono(h:n8 H D N)(k:am H a):n8 a D N:=#[h.1,λi d n b c=>let #[p,e,l]:=h.2 i d n b c;#[p,k _ _ e,l]]
def n8.snoc{d:Df}{p:FA ρ}(h:n8 H D N)(e:H d.pa= ~~~(p.map Cv))(l:ο p<=100):n8 H (D++[d]) (N++[p.length]):=by
 erw[by rw[RN,RN,h.1];rfl,λi c n a b=>?_];by_cases f:i < ο D
 .rw[Ui f]at a;rw[Ui (by rw[<- h.1];rwa[f])]at b;rwa[h.2 i c n a b]
 .let g:i < (D++[d]).length:=(ν.mp a).1;rw[RN]at g;let E:i=ο D:=by let:i < ο D+1:=g;omega
  subst E;rw[Uc$ RO _,Vo]at a;rw[h.1,Uc$ RO _,Vo]at b;cases a;cases b;rwa[p,e,Z,l]
def n8.v(h:n8 H D n):Pn H D:=λd b=>by
 let(i,a,e):=im.mp b;let c:D[i]?=δ d:=by rw[<- e];rwa[RI a]
 let(p,e,l,k):=h.2 i d _ c (RI (by rw[<- h.1];rwa[a]));rwa[p,e,P']
def wX(D:FA Df)(n:FA Nat):Prop:=(∀d∈D,ph d/\d.b.Cs ((D.map Df.f).zip n))/\(D.map Df.f).Nodup/\∀y∈D.map Df.f,y.length<=20
inductive uu(c:FA V)(H:Hp)(Q:VK)(a:XK):Prop
 |mk(p:η)(T b:Int)(_:c=[.ref p,.int T,.int b])(_:ar H p)(_:1<=T)(_:T<=8)(_:0<=b)(_:b<=40)(_:∀(r:η) (ds:FA Df) (xs:FA V) (H':Hp),H' r= ~~~xs->cV H' ds xs->(ds.length:Int)=T->∀ns:FA Nat,wX ds ns->n8 H' ds ns->ar H' p->aA p H H'->Q (.ref r) H')
def dC:al ["_law_box_here","_law_total","_law_room","_law_words","_law_most","_law_heads","_law_k","_law_turn","_law_row","_law_some","_law_deep","_law_defs","_law_f","_law_params","_law_spare","_law_body_here"] z34z (ae Iz):=bP
inductive AJ(p k:η)(T j:Int)(H:Hp)(b:_L.St)(c:Hp):Prop
 |mk(a:FA ρ)(d:b=[↑p,δ (.int T),δ (.int j),↑k,ι,ι,ι,ι,ι,ι,ι,ι,ι,ι,ι,ι])(e:c k=(a.map Cv)⁻¹)(f:ο a=20)(g:(∀y∈a,y.length<=20)/\(a.take 8).Nodup)(h:ar c p)(i:aA p H c)
inductive AI(p t k:η)(T s m:Int)(u:FA ρ)(H:Hp)(i:Nat)(v:_L.St)(a:Hp):Prop
 |mk(o q r:FC V)(l:FA (ρ×FA ρ))(n:FA V)(b:v=[↑p,δ (.int T),δ (.int s),↑t,δ (.int m),↑k,o,q,r,ι,ι,ι,ι,ι,ι,ι])(c:a k=n⁻¹)(d:eM a l n)(e:ο l=i)(f:LF l/\l.map (·.1)=u.take i)(g:a t=(u.map Cv)⁻¹)(h:ar a p)(j:aA p H a)
inductive AK(p G y F h:η)(T E m:Int)(j:Nat)(I:FA ρ)(z:FA (ρ×FA ρ))(A:FA V)(H:Hp)(i:Nat)(J:_L.St)(g:Hp):Prop
 |mk(B C D b c e f:FC V)(k:FA Df)(l:FA V)(n:J=[↑p,δ (.int T),δ (.int E),↑G,δ (.int m),↑y,B,C,D,↑F,δ (.int (j:Int)),↑h,b,c,e,f])(o:g h=l⁻¹)(q:cV g k l)(r:ο k=i)(s:(∀d∈k,ph d/\d.b.Cs (z.map λc=>(c.1,c.2.length)))/\k.map Df.f=(z.map (·.1)).take i)(t:g y=A⁻¹)(u:eM g z A)(v:g F=(I.map Cv)⁻¹)(w:ar g p)(x:aA p H g)(a:n8 g k ((z.map λc=>c.2.length).take i))
inductive AL(v:FA (ρ×FA ρ))(D:FA ρ)(p C u z h B A:η)(T y m:Int)(i:Nat)(w x:FC V)(c:ρ×FA ρ)(e:Hp)(j:Nat)(E:_L.St)(d:Hp):Prop
 |mk(a:FC V)(f:η)(b:Bd)(g:FA V)(k:E=[↑p,δ (.int T),δ (.int y),↑C,δ (.int m),↑u,a,w,x,↑z,δ (.int (i:Int)),↑h,δ (.str c.1),↑B,↑A,↑f])(l:d f= ~~~g)(n:dZ d b g)(o:(b.size:Int)+h9 d A<=y/\0<=h9 d A)(q:b.fit v D i)(r:ar d p)(s:dW d A)(t:aX p A e d)
def Hr(F:Fr K "_law_any" Iz f fd)(cT:{1} fT i' z0z aZ "_law_take")(cA:{2} fA j0 z26z gQ "_law_names")(cB:{21} fB j1 z7z (ik 6) "_law_body")(ml:mg "len"=ι)(mr:mg "range"=ι)(m0:mg "tuple"=ι)(mi:mg "int"=ι):⇑22 f fd z34z uu:=by
 erw[F.ok dC λj2 A o4 s H vs Q E hr h=>?_]
 symm;let(p,T,Y,rfl,B,j3,l4,f4,l5,q):=h;erw[_,%[dC|_ce3 cA.e hr.m _a0ajbcNmB cT.e hr.m _a0ajbdYA kL _3Qxj (@Ag _ _ _ _ _ _ _ _ _ (pv 3) jf jf FO) _sce4lyqajajbF Ka _g mi boot_int _a (qZ Jd (cT.e hr.m %[dC|_a0ajb]) jf$ aF _) _bpce5qbcDOgτg mr _a1bi6ce7nυj cT.e hr.m _a0ajbce8nρA kL _3x7xjA kL _3xjx7dzERηθδ5afaly36paFοgβιaA kL _8Qx cT.e hr.m _a0a4bbbbce9A kL _3xjxnυj cT.e hr.m _a0ajbcev 10 _lyqajajajajb cT.e hr.m _a0ajbpcev 11 _qbcDOgL5S (n:=2) _gtiv 12 _tiv 13 _κcev 14 _qa2bcev 15 _fbcDOgτg mr _ajbi6dev 15 _nWv 15 cB.e hr _a0a9a5av 14 _av 10 _bdzERηθδv 11 _afav 12 _av 13 _av 15 _bbdkFοgβιav 11 _b],?_];let l6:=aI;sleep 9;erw[gK λE1 m1=>?_];erw[12,p,(20),Z,B,Ra,Ra,λW ys H1 c3 f5 c4 C B1 k1=>?_];erw[m1 _ _ ?_];left;erw[gK λE2 m2=>?_];let wp:W≠p:=B.ne c3;erw[eB (AJ p W T Y H) (λE0 _ fm=>?_) λσ0 H2 l=>?_]
 .left;erw[sF λG' g'=>#[12,p,2,Z,B1,Ra,Ra,λd1 H2 l8 l9 B2 e2=>?_]];let h0:H2 W=(ys.map Cv)⁻¹:=by rw[e2 W wp];exact f5
  let k2:=k1.trans (aA.of_eq e2);erw[212,g' _ _ ?_];erw[cf (λc=>?_) (λc=>fm _ _ #[ys,Z,h0,P',#[C.1,C.2.sublist$ Ul _ _],B2,k2])];erw[1212,W,12,aE.of h0,λsl n0=>?_];let f7:W≠sl:=λe=>by rw[<- e,h0]at n0;cases n0
  let l':=B2.ne n0;erw[12,W,sl,11112222,ap h0 n0,jc,f7,Ra,Ra,by rw[RJ];omega,?_,?_]
  .let:=zw (ys.map Cv) ι (δ 2);rw[RJ]at this ⊢;omega
  let e2:aN (ys.map Cv) ι (δ 2)=(ys.take 2).map Cv:=by rw[show(2:Int)=((2:Nat):Int) from Z,Mb (by rw[RJ];omega),Uw]
  erw[fm _ _ #[ys.take 8++ys.take 2++ys.drop 10,Z,?_,?_,?_,(B2.upd_new n0).eq$ jh$ Sx wp,?_]]
  .rw[jc,e2,RP,RP,Uw,List.map_drop,Uw];rfl
  .rw[RN,RN,Se,Se,Td];omega
  .refine#[λy hy=>?_,?_]
   .symm;rcases ψ.mp hy with h |h
    .rcases ψ.mp h with h |h
     .rwa[C.1 y$ Tj h]
     .rwa[C.1 y$ Tj h]
    .rwa[C.1 y$ List.mem_of_mem_drop h]
   .rw[SI,List.take_append_of_le_length (by rw[Se];omega),WY];rwa[C.2.sublist$ Ul _ _]
  .exact(k2.upd_new n0).upd_own c3
 symm;let(ys,rfl,h0,c4,C,B2,k2):=l;erw[m2 _ _ ?_];left;erw[gK λE3 m3=>?_];erw[b8,λl1 n7=>?_];erw[12,p,3,Z,B2.upd_new n7,Ra,Ra,λd2 H3 m' o9 B3 e3=>?_];let k3:aA p H2 H3:=((aA.refl).upd_new n7).trans (aA.of_eq e3);let l0:=B2.ne n7;let f9:H3 l1=[.int 4,.int 7]⁻¹:=by rw[e3 l1 l0];rwa[jc]
 erw[Z,.inr #[12,?_]];let a4:∀c:Bool,∃m:Int,dQ [Da 4,Da 7] (if c then 1 else 0)=δ (.int m)/\4<=m/\m<=7:=λc=>by
  symm;cases c
  .exact#[4,Z,Ra,Ra]
  .exact#[7,Z,Ra,Ra]
 symm;let(m,hm,m4,m7):=a4 _;erw[l1,11122,aE.of f9,hm,?_];erw[m3 _ _ ?_];left;erw[gK λE4 m4=>?_];let c5:H3 W=(ys.map Cv)⁻¹:=k3 _ _ wp h0;let k0:=k2.trans k3;erw[R4 _,λhl n1=>?_];erw[m4 _ _ ?_];left;erw[gK λE5 m5=>?_];let h4:=B3.ne n1;let n5:H hl=ι:=by
  cases z:H hl with
  |none=>rfl
  |some o=>have:=k0 _ _ h4 z;rw[n1]at this;symm;cases this
 let wh:W≠hl:=λe=>by rw[<- e,c5]at n1;cases n1
 erw[db λJ j=>#[12,T,Z,P',P',j _ _ ?_]];refine kn (lo:=0) (AI p W hl T Y m ys H)
  #[ι,ι,ι,[],[],Z,jc,22,#[(λc hc=>nomatch hc),Z],ap c5 n1,B3.upd_new n1,k0.upd_own n5] ?_ ?_
 .intro D' _ i σ H4 hi f0 Gq u l;symm;let(o6,o7,o8,hs,hv,rfl,a',h6,c6,h7,b1,B4,k4):=l;erw[u ?_];show dq (dP _ _) _ D' _ _;sleep 2;erw[gK λF1 f1=>?_];erw[12,p,6,Z,B4,Ra,Ra,λD H5 f' g0 B5 e5=>?_];let k5:aA p H4 H5:=aA.of_eq e5;let h8:=k5 _ _ wp b1;let b2:=k5 _ _ h4 a';let b3:=h6.mono (k5.tm B4);erw[1122,?_];erw[f1 _ _ ?_];show dq (dP _ _) _ D' _ _;erw[gK λF2 f2=>?_];erw[12121212,W,12,aE.of h8,λs1 n9=>?_];erw[12121212,W,12,aE.of$ ap h8 n9,λs2 n'=>?_];let L1:=qR ys (δ (8+D)) (δ 14);let L0:=qR ys (δ 8) (δ (8+D));let L3:=zw (ys.map Cv) (δ (8+D)) (δ 14);let L4:=zw (ys.map Cv) (δ 8) (δ (8+D));rw[RJ]at L3 L4;erw[s1,s2,1122,ap jc n',jc,P',λrl c8=>?_];erw[f2 _ _ ?_];let er:aN (ys.map Cv) (δ (8+D)) (δ 14)++aN (ys.map Cv) (δ 8) (δ (8+D))=(bE ys (δ (8+D)) (δ 14)++bE ys (δ 8) (δ (8+D))).map Cv:=by rw[zP,zP,RP]
  let s6:aa H5 (af (af (af H5 s1$ .lst$ aN (ys.map Cv) (δ (8+D))$ δ 14) s2$ .lst$ aN (ys.map Cv) (δ 8)$ δ (8+D)) rl$ .lst$ aN (ys.map Cv) (δ (8+D)) (δ 14)++aN (ys.map Cv) (δ 8) (δ (8+D))):=((je n9).trans$ je n').trans (je c8);let r6:af (af (af H5 s1$ .lst$ aN (ys.map Cv) (δ (8+D))$ δ 14) s2$ .lst$ aN (ys.map Cv) (δ 8)$ δ (8+D)) rl (.lst$ aN (ys.map Cv) (δ (8+D)) (δ 14)++aN (ys.map Cv) (δ 8) (δ (8+D))) rl=((bE ys (δ (8+D)) (δ 14)++bE ys (δ 8) (δ (8+D))).map Cv)⁻¹:=by rw[jc,er]
  let B6:ar (af (af (af H5 s1$ .lst$ aN (ys.map Cv) (δ (8+D))$ δ 14) s2$ .lst$ aN (ys.map Cv) (δ 8)$ δ (8+D)) rl$ .lst$ aN (ys.map Cv) (δ (8+D)) (δ 14)++aN (ys.map Cv) (δ 8) (δ (8+D))) p:=((B5.upd_new n9).upd_new n').upd_new c8;generalize af (af (af H5 s1$ .lst$ aN (ys.map Cv) (δ (8+D))$ δ 14) s2$ .lst$ aN (ys.map Cv) (δ 8)$ δ (8+D)) rl (.lst$ aN (ys.map Cv) (δ (8+D)) (δ 14)++aN (ys.map Cv) (δ 8) (δ (8+D)))=H6 at s6 r6 B6;let LR:(bE ys (δ (8+D)) (δ 14)++bE ys (δ 8) (δ (8+D))).length<=40:=by rw[RN];omega
  generalize bE ys (δ (8+D)) (δ 14)++bE ys (δ 8) (δ (8+D))=r0 at r6 LR;let c9:=s6 _ _ h8;let h':=s6 _ _ b2;let ei:(0:Int)+(i:Int)=(i:Int):=Int.zero_add _;rw[ei];symm;obtain⟨y,b4⟩:∃y,ys[i]?=δ y:=#[_,RI (P':i < ο ys)];let hy:=Sc b4;let a4:dQ (ys.map Cv) (i:Int)=δ (.str y):=jO (by rw[RX,b4];rfl);let rp:rl≠p:=qM B6 r6;erw[12,.inl #[21,aE.of h'],1212,W,11122,aE.of c9,a4,121212,p,m,Z,B6,P',P',λd7 H7 d0 d4 B7 e7=>?_];let k7:aA p H6 H7:=aA.of_eq e7;erw[12,rl,12,aE.of$ k7 _ _ rp r6,λs3 c'=>?_];erw[s3,12,.inl #[aE.of jc,λt nt=>#[b8,λr nr=>?_]]];rw[zP]at nt nr ⊢;let L8:=Cw (ss:=r0) d0;generalize bE r0 ι (δ d7)=ps at*;let s8:aa H7 (af (af (af H7 s3$ .lst$ ps.map Cv) t$ .tup$ ps.map Cv) r$ .tup [.str y,.ref t]):=((je c').trans$ je nt).trans (je nr);let t8:af (af (af H7 s3$ .lst$ ps.map Cv) t$ .tup$ ps.map Cv) r (.tup [.str y,.ref t]) t= ~~~(ps.map Cv):=ap jc nr;let r8:af (af (af H7 s3$ .lst$ ps.map Cv) t$ .tup$ ps.map Cv) r (.tup [.str y,.ref t]) r= ~~~[.str y,.ref t]:=jc;let B8:ar (af (af (af H7 s3$ .lst$ ps.map Cv) t$ .tup$ ps.map Cv) r$ .tup [.str y,.ref t]) p:=((B7.upd_new c').upd_new nt).upd_new nr;generalize af (af (af H7 s3$ .lst$ ps.map Cv) t$ .tup$ ps.map Cv) r (.tup [.str y,.ref t])=R at s8 t8 r8 B8;let d6:=s8 _ _ (k7 _ _ h4 h');let g1:=s8 _ _ (k7 _ _ wp c9);let h5:=h6.len;erw[hl,1122,d6,P',?_];let tm:am R (af R hl$ .lst$ hv++[.ref r]):=λb xs e=>by rw[jh$ jQ e d6 FI];rwa[e]
  let g2:=((b3.mono$ aa.tm s6).mono$ k7.tm B6).mono (aa.tm s8);erw[f0 _ _ #[111,hs++[(y,ps)],12,jc,(g2.mono tm).snoc #[r,t,Z,tm _ _ r8,tm _ _ t8],by rw[RN,c6];rfl,#[JK h7.1 #[C.1 y hy,by show ο ps<=6;omega],by rw[RP,h7.2,UH,b4];rfl],by rw[jh wh];rwa[g1],B8.eq$ jh$ Sx h4,?_]];erw[aA.upd_own (λb o n e=>?_) n5];rwa[s8 _ _$ k7 _ _ n$ s6 _ _$ k5 _ _ n$ k4 _ _ n e]
 intro σ H4 l;symm;obtain⟨o6,o7,o8,hs,hv,rfl,a',h6,c6,⟨h7,d8⟩,b1,B4,k4⟩:=l;erw[m5 _ _ ?_];left;erw[gK λE6 m6=>?_];erw[121212,p,7,Z,B4,Ra,Ra,λD H5 f' g0 B5 e5=>?_];let k5:aA p H4 H5:=aA.of_eq e5;let h8:=k5 _ _ wp b1;let b2:=k5 _ _ h4 a';let b3:=h6.mono (k5.tm B4);erw[112212,W,12,aE.of h8,λsm n3=>?_];erw[m6 _ _ ?_];left;erw[gK λE7 m7=>?_];symm;let(z1,z2):=xG (ys:=ys) (k:=14+D) c4 P' P';let m6:af H5 sm (.lst$ aN (ys.map Cv) (δ 8)$ δ (14+D)) sm=((bE ys (δ 8)$ δ (14+D)).map Cv)⁻¹:=by rw[jc,zP]
 let k6:aA p H (af H5 sm$ .lst$ aN (ys.map Cv) (δ 8)$ δ (14+D)):=(k4.trans k5).upd_new n3;let h':=ap (o:=.lst (aN (ys.map Cv) (δ 8)$ δ (14+D))) b2 n3;let d':=b3.mono (aa.tm$ je (o:=.lst (aN (ys.map Cv) (δ 8)$ δ (14+D))) n3);let B6:=B5.upd_new (o:=.lst (aN (ys.map Cv) (δ 8)$ δ (14+D))) n3;right;generalize af H5 sm (.lst$ aN (ys.map Cv) (δ 8)$ δ (14+D))=H6 at m6 k6 h' d' B6;generalize bE ys (δ 8) (δ (14+D))=zs at m6 z1 z2;let s':=qM B6 m6;erw[wW,λl2 b5=>?_];erw[12,p,4,Z,B6.upd_new b5,Ra,Ra,λd7 H7 d0 d4 B7 e7=>?_];let k7:aA p H6 H7:=((aA.refl).upd_new b5).trans (aA.of_eq e7);let l3:=B6.ne b5;let g4:H7 l2=[.int 3,.int 3,.int 3,.int 5]⁻¹:=by rw[e7 l2 l3];rwa[jc]
 symm;let(dp,g5,g6,o',p1):=CA d0 d4;erw[l2,11122,aE.of g4,g5,?_];erw[m7 _ _ ?_];left;erw[gK λE8 m8=>?_];let m7:=k7 _ _ s' m6;let b7:=k7 _ _ h4 h';let g7:=d'.mono (k7.tm B6);let k9:=k6.trans k7;erw[R4 _,λdl N=>?_];erw[m8 _ _ ?_];left;erw[gK λE9 m9=>?_];let d3:=B7.ne N;let n6:H dl=ι:=by
  cases z:H dl with
  |none=>rfl
  |some o=>have:=k9 _ _ d3 z;rw[N]at this;symm;cases this
 let e0:hl≠dl:=λe=>by rw[<- e,b7]at N;cases N
 let s5:sm≠dl:=λe=>by rw[<- e,m7]at N;cases N
 let p2:=h6.len;erw[db λJ j=>#[12,hl,Z,#[_,aE.of$ ap b7 N],j _ _ ?_]];refine qu (K:=K) (a:=hl) (xs:=hv) (AK p W hl sm dl T Y m dp zs hs hv H)
  #[1111111,[],[],Z,jc,22,#[(λc hc=>nomatch hc),Z],ap b7 N,g7.mono$ aa.tm$ je N,ap m7 N,B7.upd_new N,k9.upd_own n6,#[Z,(λi d n h=>nomatch h)]] ?_ ?_ ?_
 .intro i σ R _ l;symm;let(o6,o7,o8,o0,o1,o2,o3,ds,dv,rfl,h5,hD,a0,x,hh,hd,b',B8,k8,p0):=l;rwa[aE.of hh]
 .intro D' _ i v σ R hx f0 Gq u l;symm;let(o6,o7,o8,o0,o1,o2,o3,ds,dv,rfl,h5,hD,a0,x,hh,hd,b',B8,k8,p0):=l;let p3:i < ο hv:=(ν.mp hx).1;let(c,hc,q0,t0,rfl,w1,w2):=hd.at i v hx;erw[u ?_];let g8:=Sc hc;let e4:=h7 c g8;erw[PV λF6 f6=>#[q0,12,aC.of w1,21121122,f6 _ _ ?_]];show dq (dP _ _) _ D' _ _;sleep 3;erw[gK λF1 f1=>?_];erw[12,l7,λM n2=>?_];erw[f1 _ _ ?_];show dq (dP _ _) _ D' _ _;erw[gK λF2 f2=>?_];erw[iT,λb0 n4=>?_];erw[f2 _ _ ?_];left;show dq (Ej _ _ _) _ D' _ _;erw[gK λF3 f3=>?_];let s9:aa R (af (af R M$ .lst [.int Y]) b0$ .tup []):=(je n2).trans (je n4);let s4:dW (af (af R M$ .lst [.int Y]) b0$ .tup []) M:=#[Y,ap jc n4];let b9:af (af R M$ .lst [.int Y]) b0 (.tup []) b0= ~~~[]:=jc;let B9:ar (af (af R M$ .lst [.int Y]) b0$ .tup []) p:=(B8.upd_new n2).upd_new n4;let e9:h9 (af (af R M$ .lst [.int Y]) b0$ .tup []) M=Y:=JZ (ap jc n4);generalize af (af R M$ .lst [.int Y]) b0 (.tup [])=H9 at s9 s4 b9 B9 e9;let e6:H M=ι:=by
   cases z:H M with
   |none=>rfl
   |some o=>have:=k8 _ _ (B8.ne n2) z;rw[n2]at this;symm;cases this
  let i0:dl≠M:=λe=>by rw[<- e,h5]at n2;cases n2
  let G9:oY H9 p sm hl M zs hs:=#[B9,s9 _ _ b',z1,z2,#[hv,s9 _ _ hh,hd.mono$ aa.tm s9],P',P',λc hc=>(h7 c hc).2,s4];erw[db λJ j=>#[12,Ra,Ra,j _ _ ?_]];refine kn (lo:=0) (AL hs zs p W hl sm dl t0 M T Y m dp o7 o8 c H9)
   #[_,b0,.nil,[],Z,b9,Z,(by rw[e9];rwa[by show((0:Nat):Int)+_<=_;omega,f4]),rY,B9,s4,aX.refl] ?_ ?_
  .intro D0 _ j σ G hj fin2 Gq u l;symm;let(o5,bb,Bb,bs,rfl,c0,a1,a2,I,B0,U,L):=l;erw[u ?_];let G0:=G9.but2 B0 U L;erw[121212121212,p,sm,hl,M,dp,zs,hs,Z,G0,g6,a2.2,λr b p4 H0 X a3 i1 c1 c2 B' S k'=>?_];let tm:=k'.tm B0 U;let lb:=a1.len;let p5:=a3.len;symm;let(i2,i3):=a2;erw[bb,r,1122,tm _ _ c0,X,P',λr2 H' e8 s0=>?_];let i4:ar H' p:=by let(a,b,h1,h2,h3,h):=B'.ob;rwa[a,b,h1,h2,h3,s0 _ _ h]
   let s7:dW H' M:=by let(z,hz):=S;rwa[z,s0 _ _ hz]
   erw[fin2 _ _ #[_,r2,Bb.app b,12,e8,(a3.mono$ aa.tm s0).app ((a1.mono tm).mono$ aa.tm s0),?_,rX I c2,i4,s7,L.trans$ k'.trans$ aX.of_same s0]];rw[j6,kJ S s0];rwa[P',c1]
  .intro σ G l;symm;let(o5,bb,Bb,bs,rfl,c0,a1,a2,I,B0,U,L):=l;erw[f3 _ _ ?_];left;let O:G dl=dv⁻¹:=L _ _ d3 i0 (s9 _ _ h5);let G0:=G9.but2 B0 U L;let t3:am R G:=λb xs e=>L.tm B9 s4 _ _ (s9 _ _ e);erw[12,.inl #[21,aE.of O],121212,ip,λr nr=>?_];let S:aa G (af G r$ .tup [.str c.1,.ref t0,.ref bb]):=je nr;let i5:=hD.len;let e':Bb.size<=40:=by let(i2,i3):=a2;omega
   erw[dl,1122,S _ _ O,P',?_];let X:af G r (.tup [.str c.1,.ref t0,.ref bb]) r= ~~~[.str c.1,.ref t0,.ref bb]:=jc;let B':=B0.upd_new (o:=.tup [.str c.1,.ref t0,.ref bb]) nr;generalize af G r (.tup [.str c.1,.ref t0,.ref bb])=H0 at S X B';let tm:am H0 (af H0 dl$ .lst$ dv++[.ref r]):=λb xs e=>by rw[jh$ jQ e (S _ _ O) FI];rwa[e]
   let t2:am G (af H0 dl$ .lst$ dv++[.ref r]):=λb xs e=>tm _ _ (S _ _ e);let t1:am R (af H0 dl$ .lst$ dv++[.ref r]):=λb xs e=>t2 _ _ (t3 _ _ e);erw[f0 _ _ #[1111111,ds++[#[c.1,r,t0,bb,Bb]],12,jc,(hD.mono t1).snoc #[bs,Z,tm _ _ X,t2 _ _ c0,a1.mono t2],by rw[RN,a0];rfl,#[JK x.1 #[#[#[zs,z2,I.1.1],TZ I.2 P',Sf e' Ra],I.1.2],by rw[RP,x.2,UH,RX,hc];rfl],?_,hd.mono t1,?_,B'.eq$ jh$ Sx d3,?_,(by rw[UH,RX,hc];exact(p0.mono t1).snoc (d:=#[c.1,r,t0,bb,Bb]) (t1 _ _ w2) (Sf e4.2 Ra))]]
   .symm;let(p6,e1,e2):=G0.h;right;rw[jh e0];rwa[S _ _$ L _ _ G9.hsp.2 G9.hsp.1$ s9 _ _ hh]
   .rw[jh s5];rwa[S _ _ G0.g]
   .erw[aA.upd_own (λb o n e=>?_) n6];rwa[S _ _$ L _ _ n (jk e e6)$ s9 _ _$ k8 _ _ n e]
 .intro σ R l;symm;let(o6,o7,o8,o0,o1,o2,o3,ds,dv,rfl,h5,hD,a0,x,hh,hd,b',B8,k8,p0):=l;erw[m9 _ _ ?_];left;erw[12,dl,dv,Z,.inl #[aE.of h5,λt nt=>?_]];let nn:(ds.map Df.f).Nodup:=by
   rw[x.2,d8];erw[BT (Ul _ _) ?_];let e:∀m,m<=8->ys.take m=(ys.take 8).take m:=λm hm=>by rw[WY,TN hm]
   rw[e _ P'];rwa[C.2.sublist$ Ul _ _]
  rwa[q t ds dv _ jc (hD.mono$ aa.tm$ je nt) P' (hs.map λc=>c.2.length) #[λd hd=>#[(x.1 d hd).1,by let e:=x.2;rw[Tk (by rw[RJ];omega)]at e;rw[e];let z:=(x.1 d hd).2;rw[show(hs.map λc=>(c.1,c.2.length))=(hs.map (·.1)).zip (hs.map λc=>c.2.length) by rw[List.zip_map']]at z;rwa[z]],nn,λy hy=>by rw[x.2,d8]at hy;rwa[C.1 y$ Tj$ Tj hy]] (by let z:=p0.mono (aa.tm$ je (o:=.tup dv) nt);rw[Tk (by rw[RJ];omega)]at z;rwa[z]) (B8.upd_new nt) (k8.upd_new nt)]
def iT:0<=υ:=Ra
def l7:1<=υ:=Ra
def b8:2<=υ:=Ra
def ip:3<=υ:=Ra
def wW:4<=υ:=Ra
def am.trans(a:am H h)(b:am h d):am H d:=λc x e=>b c x (a c x e)
def am.refl:am H H:=λ_ _ e=>e
def hX(H:Hp)(y:FA ρ)(k:Nat)(a:η):Prop:=∃T,bu H T a/\T.Good y/\T.depth<=k
def hX.mono(h:hX H y k a)(m:am H b):hX b y k a:=by let(T,c,d):=h;rwa[T,c.mono m,d]
def hX.ok(h:hX H y k a)(m:k < 6):∃T,bu H T a/\dM y T:=by let(T,b,c,d):=h;rwa[T,b,c,TZ d m]
section
variable {Cf:iW}{H:Hp}{ys:FA ρ}
def Ld(h:H a= ~~~[.str "num",.int n])(b:0<=n)(c:n < 1000000000000000000):hX H ys 0 a:=#[.num n,h,#[b,c],R4 _]
def BD(h:H a= ~~~[.str "var",.str x])(b:x∈ys):hX H ys 0 a:=#[.var x,h,b,R4 _]
def Sg(s:ρ):Prop:=∃i,i < 6/\s=OF i
def FF(h:H a= ~~~[.str "op",.str s,.ref b,.ref c])(d:Sg s)(e:hX H ys j b)(f:hX H ys k c)(q:j < n)(r:k < n):hX H ys n a:=by let(i,g,rfl):=d;let(B,l,m,t):=e;let(C,o,p,u):=f;rwa[.op i B C,#[b,c,h,l,o],#[g,m,p],by show max B.depth C.depth+1<=n;omega]
def zE:Sg "+":=#[0,Ra,P8]
def YV:Sg "-":=#[1,Ra,P8]
def YW:Sg "*":=#[2,Ra,P8]
def Eb:Sg "/":=#[3,Ra,P8]
def Ya:Sg "<":=#[4,Ra,P8]
def Nb:Sg "=":=#[5,Ra,P8]
def DB(h:0<=d)(a:d < 4):∃s,dQ [Cv "+",.str "+",.str "*",.str "-"] d=δ (.str s)/\Sg s:=by
 rcases(P':d=0∨d=1∨d=2∨d=3) with rfl |rfl |rfl |rfl
 .exact#[12,zE]
 .exact#[12,zE]
 .exact#[12,YW]
 .exact#[12,YV]
def DA(h:0<=d)(a:d < 3):∃c,dQ (Str.cps "<=*").toList d=δ c/\Sg #[(ε [c])]:=by
 rcases(P':d=0∨d=1∨d=2) with rfl |rfl |rfl
 .exact#[12,Ya]
 .exact#[12,Nb]
 .exact#[12,YW]
def MO{P:η->Prop}(e:0<=d)(f:d < 2)(h:P a)(c:P b):∃x,dQ [Fa a,.ref b] d=↑x/\P x:=by
 rcases(P':d=0∨d=1) with rfl |rfl
 .exact#[12,h]
 .exact#[12,c]
def MP{P:η->Prop}(g:0<=d)(i:d < 3)(h:P a)(e:P b)(f:P c):∃x,dQ [Fa a,.ref b,.ref c] d=↑x/\P x:=by
 rcases(P':d=0∨d=1∨d=2) with rfl |rfl |rfl
 .exact#[12,h]
 .exact#[12,e]
 .exact#[12,f]
def MQ{P:η->Prop}(h:P a)(d:P b)(c:Bool):∃x,dQ [Fa a,.ref b] (if c then 1 else 0)=↑x/\P x:=by
 cases c
 .exact#[12,h]
 .exact#[12,d]
def cX(Cf:iW)(H:Hp)(ys:FA ρ)(d:Nat)(v:V):Prop:=∃s,iN H v s/\(s.Ok ys/\s.Cs Cf)/\s.dep<=d/\s.size<=1+20*d
def iw(Cf:iW)(H:Hp)(ys:FA ρ)(d:Nat)(x:FA V):Prop:=∃b,dZ H b x/\(b.Ok ys/\b.Cs Cf)/\b.dep<=d/\b.size<=(1+20*d)*ο x
def cX.mono(h:cX Cf H ys d v)(m:am H a):cX Cf a ys d v:=by let(s,b,c):=h;rwa[s,b.mono m,c]
def iw.mono(h:iw Cf H ys d x)(m:am H a):iw Cf a ys d x:=by let(s,b,c):=h;rwa[s,b.mono m,c]
def cX.up(h:cX Cf H ys 0 v):cX Cf H ys d v:=by let(s,a,b,c,e):=h;rwa[s,a,b,P',P']
def Qi:iw Cf H ys d []:=#[.nil,Z,#[trivial,trivial],R4 _,R4 _]
def J1{xs:FA V}(h:iw Cf H ys d xs)(g:iw Cf H ys d z):iw Cf H ys d (xs++z):=by let(a,c,A,f,i):=h;let(b,e,B,j,k):=g;erw[a.app b,e.app c,#[Qg A.1 B.1,Qe A.2 B.2],by rw[zD];omega,?_];rw[j6,RN,Nat.mul_add];omega
def zK(h:cX Cf H ys d v):iw Cf H ys d [v]:=by let(s,a,b,c,e):=h;rwa[s,a.bd,b,c,by show s.size<=(1+20*d)*1;omega]
def jX(h:cX Cf H ys d v)(g:iw Cf H ys d xs):iw Cf H ys d (v::xs):=J1 (xs:=[v]) (zK h) g
def Yt{l:Lf}(h:H p= ~~~v)(a:Cc H l v)(b:l.Ok ys)(c:l.Cs Cf):cX Cf H ys 0 (.ref p):=#[.lf p l .nil,.lf p l v h a,#[#[b,trivial],c,trivial],RO 0,RO 1]
def Nj(h:H p= ~~~[.str "read",.str x,.ref t])(a:x∈ys)(b:hX H ys k t)(c:↥(k < 6)):cX Cf H ys 0 (.ref p):=by let(T,d,e):=b.ok c;rwa[Yt (l:=.rd x t T) h #[Z,d] #[a,e] trivial]
def Nk(h:H p= ~~~[.str "set",.str x,.ref t])(a:x∈ys)(b:hX H ys k t)(c:↥(k < 6)):cX Cf H ys 0 (.ref p):=by let(T,d,e):=b.ok c;rwa[Yt (l:=.st x t T) h #[Z,d] #[a,e] trivial]
def Nh(h:H p= ~~~[.str "give",.ref t])(a:hX H ys k t)(b:↥(k < 6)):cX Cf H ys 0 (.ref p):=by let(T,c,d):=a.ok b;rwa[Yt (l:=.gv t T) h #[Z,c] d trivial]
def Nl(h:H p= ~~~[.str "write",.ref t,.ref u])(a:hX H ys k t)(b:hX H ys j u)(c:↥(k < 6))(d:↥(j < 6)):cX Cf H ys 0 (.ref p):=by let(T,e,f):=a.ok c;let(U,g,i):=b.ok d;rwa[Yt (l:=.wr t u T U) h #[Z,e,g] #[f,i] trivial]
def Ng{f:ρ}(h:H p= ~~~[.str "call",.str x,.str f,.ref q])(b:x∈ys)(a:(f,2)∈Cf)(d:H q= ~~~[.ref t,.ref u])(e:hX H ys k t)(g:hX H ys j u)(i:↥(k < 6))(m:↥(j < 6)):cX Cf H ys 0 (.ref p):=by
 let(T,n,o):=e.ok i;let(U,r,s):=g.ok m;erw[Yt (l:=.cl x f q [(t,T),(u,U)]) h #[Z,d,λc hc=>?_] #[b,(by show 2<=6;decide),λc hc=>?_] a]
 .rcases ω.mp hc with rfl |hc
  .rwa[n]
  .rw[τ.mp hc];rwa[r]
 .rcases ω.mp hc with rfl |hc
  .rwa[o]
  .rw[τ.mp hc];rwa[s]
def Ni(h:H p= ~~~[.str "if",.ref t,.ref q,.ref Q])(e:hX H ys k t)(f:H q= ~~~A)(g:H Q= ~~~B)(G:iw Cf H ys 0 A)(i:iw Cf H ys 0 B)(r:ο A+B.length<=20)(j:↥(k < 6)):cX Cf H ys 1 (.ref p):=by let(T,l,m):=e.ok j;let(a,n,c,s,u):=G;let(b,o,d,v,x):=i;rwa[.ite p t T a b .nil,.ite p t T a b q Q A B h l f g n o,#[#[m,c.1,d.1,trivial],c.2,d.2,trivial],(by show max (max a.dep b.dep+1) 0<=1;omega),(by show a.size+b.size+0+1<=21;omega)]
def Bm(h:H p= ~~~[.str "while",.ref t,.ref q])(c:hX H ys k t)(d:H q= ~~~A)(g:iw Cf H ys 0 A)(l:A.length<=20)(e:↥(k < 6)):cX Cf H ys 1 (.ref p):=by let(T,f,i):=c.ok e;let(a,j,b,m,n):=g;rwa[.loop p t T a .nil,.loop p t T a q A h f d j,#[#[i,b.1,trivial],b.2,trivial],(by show max (a.dep+1) 0<=1;omega),(by show a.size+0+1<=21;omega)]
def wR(Cf:iW)(n:Nat)(H:Hp)(r:η)(f:ρ):Prop:=∃d:Df,Ex H d (.ref r)/\(ph d/\d.b.Cs Cf)/\∃p:FA ρ,H d.pa= ~~~(p.map Cv)/\ο p=n/\d.f=f
def wR.mono(h:wR Cf n H r f)(m:am H a):wR Cf n a r f:=by let(d,b,c,p,e,g):=h;rwa[d,b.mono m,c,p,m _ _ e,g]
def Mi{f:ρ}{p:FA ρ}(h:H r= ~~~[.str f,.ref a,.ref b])(d:H a= ~~~(p.map Cv))(e:ο p=n)(i:H b= ~~~x)(g:iw Cf H ys 1 x)(l:ο x<=100)(j:ys.length<=20):wR Cf n H r f:=by let(c,k,C,m,o):=g;rwa[#[f,r,a,b,c],#[x,Z,h,i,k],#[#[#[ys,j,C.1],(by show c.dep < 8;omega),(by show c.size<=3000;omega)],C.2],p,d,e,Z]
structure Wd(H0 H:Hp)(p wl:η)(ys:FA ρ):Prop where
 B:ar H p
 K:aA p H0 H
 w:H wl=(ys.map Cv)⁻¹
def Wd.np(h:Wd b H p a ys):a≠p:=qM h.B h.w
def Wd.same(h:Wd a H p b ys)(s:aa H c):Wd a c p b ys:=#[h.B.same s,h.K.trans$ aA.of_same s,s _ _ h.w]
def Wd.but(h:Wd b H p c ys)(B:ar a p)(k:aA p H a):Wd b a p c ys:=#[B,h.K.trans k,k _ _ h.np h.w]
def Wd.own{xs:FA V}(h:Wd a H p b ys)(n:a l=ι)(L:l≠p)(c:l≠b):Wd a (af H l$ .lst z) p b ys:=#[h.B.eq$ jh$ Sx L,h.K.upd_own n,by rw[jh$ Sx c];rwa[h.w]]
def XN(h:H l=x⁻¹):am H (af H l$ .lst a):=λb u e=>by rw[jh$ jQ e h FI];rwa[e]
end
inductive oM(d:FA V)(H:Hp)(Q:VK)(c:XK):Prop
 |mk(p a b:η)(e:FA ρ)(k:Nat)(_:d=[.ref p,.ref a,.ref b])(_:ar H p)(_:hX H e k a)(_:hX H e k b)(_:∀(r:η) (H':Hp),hX H' e (k+1) r->ar H' p->aA p H H'->Q (.ref r) H')
inductive dG(n:Nat)(b:FA V)(H:Hp)(Q:VK)(a:XK):Prop
 |mk(p c:η)(f g:ρ)(d:FA ρ)(_:b=[.ref p,.str f,.str g,.ref c])(_:ar H p)(_:H c=(d.map Cv)⁻¹)(_:ο d=6)(_:∀(r:η) (H':Hp),wR [(g,2)] n H' r f->ar H' p->aA p H H'->Q (.ref r) H')
abbrev OB:de:=bN 67
abbrev p7:de:=bN 68
abbrev iO:de:=bN 69
abbrev gG:de:=bN 70
abbrev Au:de:=bN 71
def Ov{A:FA V}(h:ο A=5):∃a b c d e,A=[a,b,c,d,e]:=by
 cases A with
 |nil=>cases h
 |cons a r=>
  cases r with
  |nil=>cases h
  |cons b R=>
   cases R with
   |nil=>cases h
   |cons c f=>
    cases f with
    |nil=>cases h
    |cons d g=>
     cases g with
     |nil=>cases h
     |cons e i=>
      cases i with
      |nil=>rwa[a,b,c,d,e,Z]
      |cons _ _=>cases h
def Pw{n:Nat}:on (n+1) 0=δ 0:=by unfold on;rw[RV Ra,RV P'];rfl
def Px{n:Nat}:on (n+2) 1=δ 1:=by unfold on;rw[RV Ra,RV P'];rfl
def hZ:dQ (v::u::y) 1=δ u:=jO (j:=1) Z
structure Fw(p:η)(H H':Hp):Prop where
 t:am H H'
 b:aA p H H'
def Fw.refl:Fw p H H:=#[am.refl,aA.refl]
def Fw.trans(a:Fw p H h)(b:Fw p h c):Fw p H c:=#[a.t.trans b.t,a.b.trans b.b]
def Fw.new{p:η}{H:Hp}{o:HO}(n:H r=ι):Fw p H (af H r o):=#[aa.tm$ je n,aA.of_same$ je n]
def Fw.same(s:aa H h):Fw p H h:=#[aa.tm s,aA.of_same s]
def Fw.but(B:ar H p)(c:aA p H h):Fw p H h:=#[c.tm B,c]
def rF(P:Hp->V->Prop):Prop:=∀H h v,am H h->P H v->P h v
def Ev(a:Hp)(p W:η)(y:FA ρ)(b:Hp)(c:_L.St)(t:TE)(P:Hp->V->Prop):Prop:=∀(H:Hp) (Q:VK),Fw p b H->Wd a H p W y->(∀v h,P h v->Wd a h p W y->Fw p H h->Q v h)->t c H Q
def PT(y:FA ρ)(k:Nat)(H:Hp)(v:V):Prop:=∃a,v= .ref a/\hX H y k a
def PB(C:iW)(y:FA ρ)(d n:Nat)(H:Hp)(v:V):Prop:=∃a x,v= .ref a/\H a= ~~~x/\iw C H y d x/\ο x<=n
def PN(y:FA ρ)(_:Hp)(v:V):Prop:=∃x,v= .str x/\x∈y
def PG(_:Hp)(v:V):Prop:=∃s,v= .str s/\Sg s
def PP(n:Nat)(H:Hp)(v:V):Prop:=∃(a:η) (x:FA ρ),v= .ref a/\H a= ~~~(x.map Cv)/\ο x=n
def Cd(y:ρ)(_:Hp)(v:V):Prop:=v= .str y
def PD(C:iW)(n:Nat)(f:ρ)(H:Hp)(v:V):Prop:=∃a,v= .ref a/\wR C n H a f
section
variable {Cf:iW}{ys:FA ρ}{H0 Hb:Hp}{p wl:η}{σ:_L.St}
def au:rF (PT ys k):=λ_ _ _ m #[a,e,h]=>#[a,e,h.mono m]
def eO:rF (PB Cf ys d n):=λ_ _ _ m #[a,x,e,h,H,b]=>#[a,x,e,m _ _ h,H.mono m,b]
def eY:rF λH v=>cX Cf H ys d v:=λ_ _ _ m h=>h.mono m
def mJ:rF (PD Cf n f):=λ_ _ _ m #[a,e,h]=>#[a,e,h.mono m]
def Ev.up{P R:Hp->V->Prop}(h:#[] t P)(k:∀H v,P H v->R H v):#[] t R:=λH Q m W q=>h H Q m W λv a x=>q v a (k _ _ x)
def jP{P:Hp->V->Prop}(e:σ[i]?=δ (δ v))(M:rF P)(h:P Hb v):#[] (ba i) P:=λH Q m W q=>#[v,e,q v H (M _ _ _ m.t h) W .refl]
def qL(h:Sg s):#[] (tC$ .str s) PG:=λH Q m W q=>q _ H #[s,Z,h] W .refl
def ze{K:γ}(e:σ[j]?=δ (↑wl))(a:0<=i)(b:i < (ys.length:Int)):#[] (eW (mf K) (ba j)$ tC$ .int i) (PN ys):=λH Q m W q=>by let(y,c,h):=Qd (ys:=ys) a b;rwa[_,e,wl,11122,aE.of W.w,h,q _ H #[y,Z,c] W .refl]
def kW{Q:VK}{P:Hp->V->Prop}(W:Wd H0 H p wl ys)(q:∀v h,P h v->Wd H0 h p wl ys->Fw p H h->Q v h)(n:H r=ι)(x:am H (af H r o)->af H r o r=δ o->P (af H r o) (.ref r)):Q (.ref r) (af H r o):=
 q _ _ (x (aa.tm$ je n) jc) (W.same$ je n) (.new n)
abbrev BX(n:Int):TE:=eV aZ [] E0 (ao (ba 0)$ ao (tC$ .int n) aR)
def PK(n:Int)(_:Hp)(v:V):Prop:=∃d:Int,v= .int d/\0<=d/\d < n
def zk(e:σ[0]?=δ (↑p))(h:1<=n)(c:n<=1000):#[] (BX n) (PK n):=λH Q m W q=>
 #[_,e,p,n,Z,W.B,P',P',λd f D a b E=>q _ _ #[d,Z,D,a] (W.but b$ aA.of_eq E) (.but W.B$ aA.of_eq E)]
def kX(h:#[] t (PK n))(g:n<=1000000000000000000):#[] (cn$ ao (tC$ .str "num")$ ao t aR) (PT ys 0):=λH Q m W q=>
 h H _ m W λv i #[d,e,D,j] a b=>#[b8,λr N=>kW (P:=PT ys 0) a (λV c x f k=>q V c x f (b.trans k)) N λ_ z=>#[r,Z,Ld (by rw[z,e]) D P']]
def XF(h:0<=n)(a:n < m):#[] (tC$ .int n) (PK m):=λH Q _ W q=>q _ H #[n,Z,h,a] W .refl
def XO(h:#[] t (PK n))(c:0<=m):#[] (eW (BW λi j=>Da (i+j)) (tC$ .int m) t) (PK$ m+n):=λH Q M W q=>
 h H _ M W λv a #[d,e,D,f] b k=>#[m,d,Z,e,q _ a #[m+d,Z,P',P'] b k]
def KS(h:#[] t (PN ys)):#[] (cn$ ao (tC$ .str "var")$ ao t aR) (PT ys 0):=λH Q m W q=>
 h H _ m W λv i #[d,e,a] b c=>#[b8,λr n=>kW (P:=PT ys 0) b (λV f x g k=>q V f x g (c.trans k)) n λ_ z=>#[r,Z,BD (by rw[z,e]) a]]
def qJ{n:Nat}(h:#[] T PG)(f:#[] g (PT ys j))(i:#[] l (PT ys k))(o:j < n)(u:k < n):#[] (cn$ ao (tC$ .str "op")$ ao T$ ao g$ ao l aR) (PT ys n):=λH Q m W q=>
 h H _ m W λM v #[s,E,X] y c=>f v _ (m.trans c) y λO A #[a,B,C] D d=>i A _ ((m.trans c).trans d) D λR S #[b,F,G] I e=>#[wW,λr N=>kW (P:=PT ys n) I (λV J x L k=>q V J x L (((c.trans d).trans e).trans k)) N λt z=>
  #[r,Z,FF (by rw[z,E,B,F]) X ((C.mono e.t).mono t) (G.mono t) o u]]
def Mp(e:σ[0]?=δ (↑p)):#[] (eW DK (tC$ .str "<=*")$ BX 3) PG:=λH Q m W q=>
 zk e Ra Ra H _ m W λv h #[d,E,D,a] b k=>by let(g,i,x):=DA D a;rwa["<=*",d,g,Z,E,P8,i,q _ h #[12,x] b k]
def rW{K:γ}(e:σ[0]?=δ (↑p))(r:#[] T (PT ys k))(s:#[] u (PT ys k)):#[] (eW (mf K) (oU$ ao T$ ao u aR)$ BX 2) (PT ys k):=λH Q m W q=>
 r H _ m W λV y #[a,E,X] z c=>s y _ (m.trans c) z λA C #[b,D,F] h f=>#[b8,λl n=>zk e Ra Ra _ _ (((m.trans c).trans f).trans$ .new n) (h.same$ je n) λv G #[d,I,J,L] M j=>by
  let(g,i,x):=MO (P:=hX C ys k) J L (X.mono f.t) F;rw[<- E,<- D]at i;let t:=(Fw.new (p:=p) (o:=HO.lst [V,A]) n).trans j;rwa[l,_,d,12,I,aE.of$ j.b _ _ (h.B.ne n) jc,i,q _ G #[g,Z,x.mono t.t] M ((c.trans f).trans t)]]
def EJ{K:γ}(e:σ[0]?=δ (↑p))(u:#[] T (PT ys k))(y:#[] z (PT ys k))(A:#[] C (PT ys k)):#[] (eW (mf K) (oU$ ao T$ ao z$ ao C aR)$ BX 3) (PT ys k):=λH Q m W q=>
 u H _ m W λV D #[a,E,X] F f=>y D _ (m.trans f) F λG I #[b,J,L] M h=>A I _ ((m.trans f).trans h) M λN O #[c,R,S] r j=>#[ip,λl n=>zk e Ra Ra _ _ ((((m.trans f).trans h).trans j).trans$ .new n) (r.same$ je n) λv U #[d,Y,d0,d1] W4 s=>by
  let(g,i,x):=MP (P:=hX O ys k) d0 d1 (X.mono (h.trans j).t) (L.mono j.t) S;rw[<- E,<- J,<- R]at i;let t:=(Fw.new (p:=p) (o:=HO.lst [V,G,N]) n).trans s;rwa[l,_,d,12,Y,aE.of$ s.b _ _ (r.B.ne n) jc,i,q _ U #[g,Z,x.mono t.t] W4 (((f.trans h).trans j).trans t)]]
def Mn{K:γ}(e:σ[0]?=δ (↑p))(r:1<=n)(s:n<=1000)(u:#[] T (PT ys k))(y:#[] z (PT ys k)):#[] (eW (mf K) (oU$ ao T$ ao z aR)$ NO (λX H Q=>(∃i,X=[Da i]/\Q (Da i) H)∨∃k,X=[V.bl k]/\Q (Da (if k=μ then 1 else 0)) H)$ ao (eW MU (BX n)$ tC$ .int 0) aR) (PT ys k):=λH Q m W q=>
 u H _ m W λA C #[a,E,D] F c=>y C _ (m.trans c) F λG I #[b,J,L] h f=>#[b8,λl N=>zk e r s _ _ (((m.trans c).trans f).trans$ .new N) (h.same$ je N) λv M #[d,O,S,U] R j=>by
  subst O;erw[Z,.inr #[12,?_]];let(g,i,x):=MQ (P:=hX I ys k) (D.mono f.t) L _;rw[<- E,<- J]at i;let t:=(Fw.new (p:=p) (o:=HO.lst [A,G]) N).trans j;rwa[l,11122,aE.of$ j.b _ _ (h.B.ne N) jc,i,q _ M #[g,Z,x.mono t.t] R ((c.trans f).trans t)]]
def KU(e:σ[0]?=δ (↑p))(h:#[] T (PT ys k))(g:#[] i (PT ys k)):#[] (eV oM [] E0$ ao (ba 0)$ ao T$ ao i aR) (PT ys$ k+1):=λH Q m W q=>
 #[_,e,h H _ m W λv j #[a,E,x] l d=>g j _ (m.trans d) l λV y #[b,n,X] c f=>#[p,a,b,ys,k,by rw[E,n];rfl,c.B,x.mono f.t,X,λr o s u C=>q _ o #[r,Z,s] (c.but u C) ((d.trans f).trans$ .but c.B C)]]
def CD{w:ρ}{T a:TE}{A B R:Hp->V->Prop}(M:rF A)(d:rF B)(e:#[] T A)(f:#[] a B)(h:∀H r u v,H r= ~~~[.str w,u,v]->A H u->B H v->R H (.ref r)):#[] (cn$ ao (tC$ .str w)$ ao T$ ao a aR) R:=λH Q m W q=>
 e H _ m W λC g X i b=>f g _ (m.trans b) i λD E j l c=>#[ip,λr n=>kW (P:=R) l (λo s x y k=>q o s x y ((b.trans c).trans k)) n λt z=>h _ _ _ _ z (M _ _ _ t$ M _ _ _ c.t X) (d _ _ _ t j)]
def On{w:ρ}{T:TE}{A R:Hp->V->Prop}(M:rF A)(a:#[] T A)(h:∀H r u,H r= ~~~[.str w,u]->A H u->R H (.ref r)):#[] (cn$ ao (tC$ .str w)$ ao T aR) R:=λH Q m W q=>
 a H _ m W λf g X b c=>#[b8,λr n=>kW (P:=R) b (λv d x e k=>q v d x e (c.trans k)) n λt z=>h _ _ _ z (M _ _ _ t X)]
def Mj{w:ρ}{T d e:TE}{A B C R:Hp->V->Prop}(M:rF A)(f:rF B)(g:rF C)(i:#[] T A)(j:#[] d B)(l:#[] e C)(h:∀H r u v x,H r= ~~~[.str w,u,v,x]->A H u->B H v->C H x->R H (.ref r)):#[] (cn$ ao (tC$ .str w)$ ao T$ ao d$ ao e aR) R:=λH Q m W q=>
 i H _ m W λL n X o a=>j n _ (m.trans a) o λO s y D b=>l s _ ((m.trans a).trans b) D λS U E F c=>#[wW,λr N=>kW (P:=R) F (λG I x J k=>q G I x J (((a.trans b).trans c).trans k)) N λt z=>h _ _ _ _ _ z (M _ _ _ t$ M _ _ _ (b.trans c).t X) (f _ _ _ t$ f _ _ _ c.t y) (g _ _ _ t E)]
def G7:rF (PN ys):=λ_ _ _ _ h=>h
def KW{t T:TE}{k:Nat}(h:#[] t (PN ys))(b:#[] T (PT ys k))(c:k < 6):#[] (cn$ ao (tC$ .str "read")$ ao t$ ao T aR) (λH v=>cX Cf H ys 0 v):=CD G7 au h b λH r u v z #[x,e,d] #[a,E,f]=>Nj (by rw[z,e,E]) d f c
def Kh{t T:TE}{k:Nat}(h:#[] t (PN ys))(b:#[] T (PT ys k))(c:k < 6):#[] (cn$ ao (tC$ .str "set")$ ao t$ ao T aR) (λH v=>cX Cf H ys 0 v):=CD G7 au h b λH r u v z #[x,e,d] #[a,E,f]=>Nk (by rw[z,e,E]) d f c
def KY{t T:TE}{j k:Nat}(h:#[] t (PT ys j))(b:#[] T (PT ys k))(c:j < 6)(d:k < 6):#[] (cn$ ao (tC$ .str "write")$ ao t$ ao T aR) (λH v=>cX Cf H ys 0 v):=CD au au h b λH r u v z #[x,e,f] #[a,E,g]=>Nl (by rw[z,e,E]) f g c d
def Yu{t:TE}{k:Nat}(h:#[] t (PT ys k))(b:k < 6):#[] (cn$ ao (tC$ .str "give")$ ao t aR) (λH v=>cX Cf H ys 0 v):=On au h λH r v z #[a,e,c]=>Nh (by rw[z,e]) c b
def xT{n o T c:TE}{j k:Nat}(C:#[] n (PN ys)){f:ρ}(D:#[] o (Cd f))(d:(f,2)∈Cf)(F:#[] T (PT ys j))(G:#[] c (PT ys k))(I:j < 6)(J:k < 6):#[] (cn$ ao (tC$ .str "call")$ ao n$ ao o$ ao (cn$ ao T$ ao c aR) aR) (λH v=>cX Cf H ys 0 v):=by
 let' R:Hp->V->Prop:=λH v=>∃q a b,v= .ref q/\H q= ~~~[.ref a,.ref b]/\hX H ys j a/\hX H ys k b
 let M:rF R:=λ_ _ _ m #[q,a,b,e,g,L,i]=>#[q,a,b,e,m _ _ g,L.mono m,i.mono m];let N:#[] (cn$ ao T$ ao c aR) R:=λH Q m W q=>
  F H _ m W λv2 O #[a,E,X] S s=>G O _ (m.trans s) S λv3 H3 #[b,l,U] Y A=>#[b8,λr nr=>kW (P:=R) Y (λv' H' x W' k=>q v' H' x W' ((s.trans A).trans k)) nr λt z=>#[r,a,b,Z,by rw[z,E,l],(X.mono A.t).mono t,U.mono t]]
 rwa[Mj G7 (B:=Cd f) (λ_ _ _ _ h=>h) M C D N λH r u v x z #[y,e1,g] (E:v= .str f) #[q,a,b,l,i,h4,h5]=>Ng (f:=f) (by rw[z,e1,E,l]) g d i h4 h5 I J]
def EH{t T b:TE}{k n m:Nat}(h:#[] t (PT ys k))(c:#[] T (PB Cf ys 0 n))(d:#[] b (PB Cf ys 0 m))(e:k < 6)(s:n+m<=20):#[] (cn$ ao (tC$ .str "if")$ ao t$ ao T$ ao b aR) (λH v=>cX Cf H ys 1 v):=
 Mj au eO eO h c d λH r u v x z #[a,E,f] #[Q,X,g,i,j,y] #[A,B,l,o,q,C]=>Ni (by rw[z,E,g,l]) f i o j q P' e
def EN{t T:TE}{k n:Nat}(h:#[] t (PT ys k))(b:#[] T (PB Cf ys 0 n))(c:k < 6)(i:n<=20):#[] (cn$ ao (tC$ .str "while")$ ao t$ ao T aR) (λH v=>cX Cf H ys 1 v):=
 CD au eO h b λH r u v z #[a,e,d] #[q,x,E,f,g,j]=>Bm (by rw[z,e,E]) d f g P' c
def EG{d:Nat}:#[] (cn aR) (PB Cf ys d 0):=λH Q m W q=>#[iT,λr n=>kW (P:=PB Cf ys d 0) W q n λt z=>#[r,[],Z,z,Qi,RO 0]]
def KZ(h:#[] T (λH v=>cX Cf H ys d v)):#[] (cn$ ao T aR) (PB Cf ys d 1):=λH Q m W q=>
 h H _ m W λf g X a b=>#[l7,λr n=>kW (P:=PB Cf ys d 1) a (λV c x e k=>q V c x e (b.trans k)) n λt z=>#[r,12,z,zK$ X.mono t,RO 1]]
def rS(h:#[] T (λH v=>cX Cf H ys d v))(c:#[] e (λH v=>cX Cf H ys d v)):#[] (cn$ ao T$ ao e aR) (PB Cf ys d 2):=λH Q m W q=>
 h H _ m W λs f X g a=>c f _ (m.trans a) g λu y i j b=>#[b8,λr n=>kW (P:=PB Cf ys d 2) j (λV l x o k=>q V l x o ((a.trans b).trans k)) n λt z=>#[r,12,z,jX ((X.mono b.t).mono t)$ zK$ i.mono t,RO 2]]
def Ml(h:#[] T (λH v=>cX Cf H ys d v))(e:#[] f (λH v=>cX Cf H ys d v))(g:#[] i (λH v=>cX Cf H ys d v)):#[] (cn$ ao T$ ao f$ ao i aR) (PB Cf ys d 3):=λH Q m W q=>
 h H _ m W λC j X l a=>e j _ (m.trans a) l λD n o s b=>g n _ ((m.trans a).trans b) s λE F u y c=>#[ip,λr N=>kW (P:=PB Cf ys d 3) y (λV A x B k=>q V A x B (((a.trans b).trans c).trans k)) N λt z=>#[r,12,z,jX ((X.mono (b.trans c).t).mono t)$ jX ((o.mono c.t).mono t)$ zK$ u.mono t,RO 3]]
def Jo(h:#[] T (PB Cf ys d n))(e:#[] f (PB Cf ys d m))(B:n+m<=100):#[] (eW Ap T f) (PB Cf ys d$ n+m):=λH Q M W q=>
 h H _ M W λV g #[a,x,E,i,X,L] j c=>e g _ (M.trans c) j λC D #[b,z,l,o,u,F] v k=>#[a,b,x,z,E,l,k.t _ _ i,o,Sf (show ο x+ο z<=100 by omega) Ra,λr y A s=>q _ y #[r,12,A,J1 ((X.mono k.t).mono$ aa.tm s)$ u.mono$ aa.tm s,by rw[RN];omega] (v.same s) ((c.trans k).trans$ .same s)]
def Xf(e:σ[i]?=δ (δ$ .str x)):#[] (ba i) (Cd x):=jP e (λ_ _ _ _ h=>h) Z
def rV(h:#[] T (Cd f))(g:#[] i (PP m))(j:#[] l (PB Cf ys 1 n))(O:n<=100)(o:ys.length<=20):#[] (cn$ ao T$ ao i$ ao l aR) (PD Cf m f):=λH Q M W q=>
 h H _ M W λv s (E:v= .str f) u c=>g s _ (M.trans c) u λR y #[a,S,A,B,L] C d=>j y _ ((M.trans c).trans d) C λU Y #[b,xs,D,F,X,l4] G e=>#[ip,λr N=>kW (P:=PD Cf m f) G (λV I x J k=>q V I x J (((c.trans d).trans e).trans k)) N λt z=>
  #[r,Z,Mi (f:=f) (by rw[z,E,A,D]) (t _ _$ e.t _ _ B) L (t _ _ F) (X.mono t) P' o]]
def EK(h:#[] T (PN ys)):#[] (cn$ ao T aR) (PP 1):=λH Q m W q=>
 h H _ m W λV f #[X,e,_] a b=>#[l7,λr n=>kW (P:=PP 1) a (λv c x d k=>q v c x d (b.trans k)) n λt z=>#[r,[X],Z,by rw[z,e];rfl,Z]]
def EL(h:#[] T (PN ys))(b:#[] c (PN ys)):#[] (cn$ ao T$ ao c aR) (PP 2):=λH Q m W q=>
 h H _ m W λV d #[X,e,_] f a=>b d _ (m.trans a) f λs u #[g,E,_] i j=>#[b8,λr n=>kW (P:=PP 2) i (λv l x o k=>q v l x o ((a.trans j).trans k)) n λt z=>#[r,[X,g],Z,by rw[z,e,E];rfl,Z]]
def cX.lift(h:cX Cf H ys 0 v):cX Cf H ys 1 v:=h.up
def PB.lift(h:PB Cf ys 0 n H v):PB Cf ys 1 n H v:=let #[a,x,e,c,#[b,B,d,g,i],f]:=h;#[a,x,e,c,#[b,B,d,P',P'],f]
def PB.more(h:PB Cf ys d n H v)(k:n<=m):PB Cf ys d m H v:=by let(a,x,e,b,c,f):=h;rwa[a,x,e,b,c,Sf f k]
def Ju{a b:TS}(W:Wd H0 H p wl ys)(e:σ[0]?=δ (↑p))(g:1<=n)(i:n<=1000)(j:∀h,Wd H0 h p wl ys->Fw p H h->a D σ h)(l:∀h,Wd H0 h p wl ys->Fw p H h->b D σ h):gY (mG$ eW MU (BX n)$ tC$ .int 0) a b D σ H:=
 zk (Hb:=H) e g i H _ .refl W λv c #[d,E,m,o] f k=>by subst E;rwa[212,cf (λ_=>j c f k) (λ_=>l c f k)]
def jV{D:a8}{P:Hp->V->Prop}(W:Wd H0 H p wl ys)(h:Ev H0 p wl ys H σ t P)(q:∀v a,P a v->Wd H0 a p wl ys->Fw p H a->D.nx (σ.set i$ δ v) a):dP t (bo i) D σ H:=h H _ .refl W q
def XQ{D:a8}{P:Hp->V->Prop}(W:Wd H0 H p wl ys)(h:Ev H0 p wl ys H σ t P)(q:∀v a,P a v->Wd H0 a p wl ys->D.rt v a):gZ t D σ H:=h H _ .refl W λv a x b _=>q v a x b
def D9{K:γ}{D:a8}(W:Wd H0 H p wl ys)(d:Ev H0 p wl ys H σ T (PT ys 0))(e:Ev H0 p wl ys H σ f (PT ys 0))(g:Ev H0 p wl ys H σ l (PT ys 0))
  (q:∀u v w h,PT ys 0 h u->PT ys 0 h v->PT ys 0 h w->Wd H0 h p wl ys->Fw p H h->D.nx (((σ.set k$ δ w).set j$ δ v).set i$ δ u) h):Fu K (cn$ ao T$ ao f$ ao l aR) i j k D σ H:=
 d H _ .refl W λV m x o a=>e m _ a o λs y X z b=>g y _ (a.trans b) z λA E B C c=>#[ip,λr n=>#[r,1112,aC.of jc,q V s A _ (au _ _ _ (aa.tm$ je n)$ au _ _ _ (b.trans c).t x) (au _ _ _ (aa.tm$ je n)$ au _ _ _ c.t X) (au _ _ _ (aa.tm$ je n) B) (C.same$ je n) (((a.trans b).trans c).trans$ .new n)]]
structure Ow(H0 H:Hp)(p wl l:η)(xs:FA V):Prop where
 hl:H l=xs⁻¹
 np:l≠p
 lw:l≠wl
 l0:H0 l=ι
def Ow.fw(o:Ow H0 H p wl l x)(k:Fw p H h):Ow H0 h p wl l x:=#[k.b _ _ o.np o.hl,o.np,o.lw,o.l0]
def Ow.new(W:Wd H0 H p wl ys)(n:H l=ι):Ow H0 (af H l$ .lst x) p wl l x:=#[jc,W.B.ne n,(λe=>by let z:=W.w;rw[<- e,n]at z;cases z),W.K.none W.B n]
def MM{D:a8}(W:Wd H0 H p wl ys)(b:Ev H0 p wl ys H σ t (λH v=>cX Cf H ys 0 v))(q:∀l v h,Ow H0 h p wl l [v]->cX Cf h ys 0 v->Wd H0 h p wl ys->Fw p H h->D.nx (σ.set i$ ↑l) h):dP (oU$ ao t aR) (bo i) D σ H:=
 b H _ .refl W λV c x a k=>#[l7,λl n=>q l V _ (.new a n) (x.mono$ aa.tm$ je n) (a.same$ je n) (k.trans$ .new n)]
def MN{D:a8}(W:Wd H0 H p wl ys)(c:Ev H0 p wl ys H σ T (λH v=>cX Cf H ys 0 v))(d:Ev H0 p wl ys H σ e (λH v=>cX Cf H ys 0 v))(q:∀l u v h,Ow H0 h p wl l [u,v]->cX Cf h ys 0 u->cX Cf h ys 0 v->Wd H0 h p wl ys->Fw p H h->D.nx (σ.set i$ ↑l) h):dP (oU$ ao T$ ao e aR) (bo i) D σ H:=
 c H _ .refl W λV f x g k=>d f _ k g λj m X a b=>#[b8,λl n=>q l V j _ (.new a n) ((x.mono b.t).mono$ aa.tm$ je n) (X.mono$ aa.tm$ je n) (a.same$ je n) ((k.trans b).trans$ .new n)]
def J2{K:γ}{D:a8}(W:Wd H0 H p wl ys)(a:σ[i]?=δ (↑l))(o:Ow H0 H p wl l xs)(b:ο xs<=100)(c:Ev H0 p wl ys H σ T (λH v=>cX Cf H ys 0 v))
  (q:∀v h,cX Cf h ys 0 v->Ow H0 h p wl l (xs++[v])->Wd H0 h p wl ys->am H h->D.nx σ h):uP (OK K "list" mM (ba i)$ ao T aR) D σ H:=
 #[_,a,.inl #[21,aE.of o.hl],c H _ .refl W λv e x d k=>#[l,xs,v,22,(o.fw k).hl,TZ b Ra,q v _ (x.mono$ XN (o.fw k).hl) #[jc,o.np,o.lw,o.l0] (d.own (xs:=xs) o.l0 o.np o.lw) (k.t.trans$ XN (o.fw k).hl)]]
def Ei{K:γ}{D:a8}(W:Wd H0 H p wl ys)(h:σ[i]?=δ (↑l))(o:Ow H0 H p wl l (u::v::z))
  (q:∀a,Ow H0 a p wl l (v::u::z)->Wd H0 a p wl ys->am H a->D.nx σ a):dP (cn$ ao (eW (mf K) (ba i)$ tC$ .int 1)$ ao (eW (mf K) (ba i)$ tC$ .int 0) aR) (vo K 2$ dR (Gu (ba i) (tC$ .int 0) tP)$ dR (Gu (ba i) (tC$ .int 1) tP) x6) D σ H:=
 #[_,h,l,11122,aE.of o.hl,hZ,_,h,l,11122,aE.of o.hl,fV,b8,λt N=>#[t,12,aC.of jc,21121,h,l,_,0,0,22,ap o.hl N,Pw (n:=ο z+1),1121,h,l,_,1,1,22,jc,Px (n:=z.length),Z,
  q _ #[jc,o.np,o.lw,o.l0] (((W.same$ je N).own (xs:=u::v::z) o.l0 o.np o.lw).own (xs:=u::v::z) o.l0 o.np o.lw) (((aa.tm$ je N).trans$ XN$ ap o.hl N).trans$ XN jc)]]
def EM{K:γ}{n:Nat}(e:σ[i]?=δ (↑l))(o:Ow H0 Hb p wl l x)(h:iw Cf Hb ys 0 x)(a:ο x<=n):#[] (NO (zd K)$ ao (ba i) aR) (PB Cf ys 0 n):=λH Q m W q=>
 #[_,e,l,x,Z,.inl #[aE.of (o.fw m).hl,λr N=>kW (P:=PB Cf ys 0 n) W q N λt z=>#[r,x,Z,z,(h.mono m.t).mono t,a]]]
def FX{D:a8}(W:Wd H0 H p wl ys)(u:σ[i]?=δ (↑l))(y:σ[j]?=δ (↑m))(o:Ow H0 H p wl l x)(O:Ow H0 H p wl m z)(C:ο x+ο z<=100)(E:iw Cf H ys 0 x)(F:iw Cf H ys 0 z)
  (G:Ev H0 p wl ys H σ T (λH v=>cX Cf H ys 0 v)) (I:Ev H0 p wl ys H σ J (λH v=>cX Cf H ys 0 v)) (q:∀r U h,Ow H0 h p wl r U->iw Cf h ys 0 U->ο U<=ο x+ο z+2->Wd H0 h p wl ys->Fw p H h->D.nx (σ.set i$ ↑r) h):
  dP (eW DJ (eW DJ (ba i)$ ba j)$ oU$ ao T$ ao J aR) (bo i) D σ H:=
 #[_,u,_,y,l,m,1122,o.hl,O.hl,Sf C Ra,λc n=>G _ _ (.new n) (W.same$ je n) λV L X M k=>I L _ ((Fw.new n).trans k) M λe R Q A s=>#[b8,λd N=>#[c,d,1122,ap ((k.trans s).b _ _ (W.B.ne n) jc) N,jc,by
  let:=aI;show(x++z).length+2<=υ;rw[RN];omega,λr a=>q r _ _ (.new (A.same$ je N) a) (by
   let f:=(((Fw.new n).trans k).trans s).trans ((Fw.new (p:=p) (o:=HO.lst [V,e]) N).trans$ Fw.new (o:=HO.lst ((x++z)++[V,e])) a);let g:=(Fw.new (p:=p) (o:=HO.lst [V,e]) N).trans (Fw.new (o:=HO.lst ((x++z)++[V,e])) a);rwa[J1 (J1 (E.mono f.t)$ F.mono f.t)$ jX ((X.mono s.t).mono g.t)$ zK$ Q.mono g.t]) (by rw[RN,RN];rwa[RO _]) ((A.same$ je N).same$ je a) ((((Fw.new n).trans k).trans s).trans ((Fw.new N).trans$ Fw.new a))]]]
def rZ{K:γ}{D:a8}(W:Wd H0 H p wl ys)(k:σ[3]?=δ (↑wl))(l:ο ys=6)
  (q:∀a b c d e g,PT ys 0 g a->PT ys 0 g b->PT ys 0 g c->PT ys 0 g d->PT ys 0 g e->Wd H0 g p wl ys->D.nx (((((σ.set 4$ δ a).set 5$ δ b).set 6$ δ c).set 7$ δ d).set 8$ δ e) g):
  dP (Bp (ES K$ NP (DL K) (ba 3) nP$ oV$ tC$ Da 5) 1 [] (bo 0) nO$ cn$ ao (tC$ Cv "var")$ ao (ba 0) aR) (Oo K 5$ dR (bo 4)$ dR (bo 5)$ dR (bo 6)$ dR (bo 7)$ dR (bo 8) x6) D σ H:=by
 let B:=aI;erw[_,k,12,wl,12,aE.of W.w,λs n=>?_];let E:aN (ys.map Cv) ι (δ 5)=(ys.take 5).map Cv:=by rw[show(5:Int)=((5:Nat):Int) from Z,Mb (by rw[RJ];omega),Uw]
 let t:af H s (.lst$ aN (ys.map Cv) ι$ δ 5) s=((ys.take 5).map Cv)⁻¹:=by rw[E];rwa[jc]
 let S:=je (o:=HO.lst (aN (ys.map Cv) ι$ δ 5)) n;generalize af H s (.lst$ aN (ys.map Cv) ι$ δ 5)=A at t S;erw[s,Z,#[_,aE.of t],?_];erw[zi (K:=K) (a:=s) (xs:=(ys.take 5).map Cv) (by rw[RJ,Se];omega) (λi j g=>ο j=i/\(∀v∈j,PT ys 0 g v)/\aa A g) #[Z,(λ_ h=>absurd h Sz),aa.refl _] (λi j g h=>#[aE.of$ h.2.2 _ _ t,Wz h.1]) (λi x j g C h=>?_) (λj F h L N=>?_)]
 .let(y,l,rfl):=β.mp (Sc C);rwa[12,b8,λr u=>#[by rw[RN,h.1];rfl,JK (λa z=>au _ _ _ (aa.tm$ je u) (h.2.1 a z)) #[r,Z,BD jc$ Tj l],h.2.2.trans$ je u]]
 .let e:=h.1;rw[RJ,Se]at e;let(a,b,c,d,f,rfl):=Ov (show ο j=5 by omega);let m:=aa.tm (je (o:=HO.lst [a,b,c,d,f]) N);rwa[L,12,aE.of jc,21121121121121122,q a b c d f _ (au _ _ _ m$ h.2.1 a P9) (au _ _ _ m$ h.2.1 b P9) (au _ _ _ m$ h.2.1 c P9) (au _ _ _ m$ h.2.1 d P9) (au _ _ _ m$ h.2.1 f P9) (((W.same S).same h.2.2).same$ je N)]
end
def OD:al z16z z16z (ae OB):=bP
def MG(F:Fr K "_law_op" OB f t)(C:{1} T u z0z aZ "_law_take"):⇑2 f t z16z oM:=by
 erw[F.ok OD λv A O s H V Q E x h=>?_]
 let(p,a,b,y,k,rfl,B,z,D,q):=h;erw[_,%[Z|_dkfaoalyqaoaoaoaob C.e x.m _a0ajbpa1a2b],?_];erw[wW,λl n=>#[12,p,4,Z,B.upd_new n,Ra,Ra,λd G I J L j=>?_]];let(s,c,M):=DB I J;let g:aA p H G:=((aA.refl).upd_new n).trans (aA.of_eq j);erw[l,11122,aE.of (by rw[j l$ B.ne n];rwa[jc]),c,1212,wW,λr N=>?_];let S:=je (o:=HO.tup [.str "op",.str s,.ref a,.ref b]) N;rwa[q r _ (FF jc M ((z.mono$ g.tm B).mono$ aa.tm S) ((D.mono$ g.tm B).mono$ aa.tm S) (Tz _)$ Tz _) (L.upd_new N)$ g.trans$ aA.of_same S]
def cj:al ["_law_box_here","_law_f","_law_g","_law_w","_law_x","_law_i","_law_y","_law_spot_here","_law_body_here","_law_deeper","_law_test","_law_early","_law_last"] z35z (ae p7):=bP
def yM(F:Fr K "_law_inner" p7 f fd)(I:{1} fT c1 z0z aZ "_law_take")(cO:{2} fO c2 z16z oM "_law_op"):⇑3 f fd z35z (dG 2):=by
 erw[F.ok cj λc3 A o0 s H vs Q E l h=>?_]
 let(p,T,f0,g,Y,rfl,B,hw,h2,q):=h;erw[_,%[cj|_c (@DC _ _ _ _ _ _ _ _ 4 5 6 Z cj.nd Z Z Z (Θ Z) (Θ Z) (Θ Z) %[cj|_fafaoaly3jpbafaoaly3jpbafaoaly3jpbb] FL FL FL P7 P7) _ce7faoaoalyqa4a5b I.e l.m _a0ajbpafaoa I.e l.m _a0ajbbbce8fafaoaly3jpa7bbcNmB I.e l.m _a0ajbce7faoaoa5afaoanυj I.e l.m _a0ajbbbde8nW8fafaoa7a cO.e l.m _a0a4a6bbbscNmB I.e l.m _a0ajbce9faoaly3jpa2afafaoaoa5afaoajbba6bbde8nW8fafaoa5afa9bafbbbscev 10 _faoal Qb _o I.e l.m _a0ajbpa6afaoa I.e l.m _a0ajbbbcev 11 _faoa cO.e l.m _a0a4a6bbcev 12 _faoa cO.e l.m _a0a6a5bbce8nW8fafaoav 10 _afav 11 _bafbbav 12 _bdkfa1afaly3jpaly3jpba8b],?_];let W0:Wd H H p T Y:=#[B,aA.refl,hw];erw[aj λF1 f1=>D9 W0 (KS$ ze Z Ra P') (KS$ ze Z Ra P') (KS$ ze Z Ra P') λvx vi vy J xx X U W1 k1=>f1 _ _ ?_];erw[aj λF2 f2=>jV W1 (qJ (n:=1) (qL zE) (rW Z (jP Z au xx)$ jP Z au X) (kX (zk Z Ra Ra) Ra) Ra Ra) λv2 H2 x2 W2 k2=>f2 _ _ ?_];erw[aj λF3 f3=>jV W2 (KZ$ KW (Cf:=[(g,2)]) (ze Z Ra P') (jP Z au x2) Ra) λv3 H3 x3 W3 k3=>f3 _ _ ?_];erw[aj λF4 f4=>eB (λL u=>∃(o:FC V) (b:V),L=[δ$ Fa p,δ$ Cv f0,δ$ Cv g,δ$ Fa T,δ$ vx,δ$ vi,δ$ vy,o,δ b,ι,ι,ι,ι]/\PB [(g,2)] Y 1 2 u b/\Wd H u p T Y/\am H3 u) (λE4 _ f5=>Ju W3 Z Ra Ra (λH6 W6 k6=>?_) (λH6 W6 k6=>?_)) λσ0 H5 h0=>?_]
 .let C:am J H6:=((k2.t.trans k3.t).trans k6.t);erw[aj λF7 f7=>jV W6 (qJ (n:=1) (qL zE) (jP Z au$ au _ _ _ C X) (kX (XO (zk Z Ra Ra) Ra) Ra) Ra Ra) λv7 H7 x7 W7 k7=>f7 _ _ ?_];let D:am H3 H7:=(k6.t.trans k7.t);let G:am J H7:=(C.trans k7.t);erw[jV W7 (Jo (jP Z eO$ eO _ _ _ D x3) (KZ$ KY (Cf:=[(g,2)]) (jP Z au x7) (KU Z (jP Z au$ au _ _ _ G xx)$ jP Z au$ au _ _ _ G U) Ra Ra) Ra) λv8 H8 x8 W8 k8=>f5 _ _ ?_];let m0:am H3 H8:=(D.trans k8.t);rwa[112,(PB.lift x8),W8,m0]
 .rwa[f5 _ _ #[112,(PB.more (PB.lift$ eO _ _ _ k6.t x3) Ra),W6,k6.t]]
 let(o5,b5,rfl,x5,W5,k5):=h0;erw[f4 _ _ ?_];erw[aj λF9 f9=>eB (λL u=>∃(o:FC V) (b:V),L=[δ$ Fa p,δ$ Cv f0,δ$ Cv g,δ$ Fa T,δ$ vx,δ$ vi,δ$ vy,o5,δ b,o,ι,ι,ι]/\PB [(g,2)] Y 1 3 u b/\Wd H u p T Y/\am H5 u) (λE9 _ f6=>Ju W5 Z Ra Ra (λH0 W k=>?_) (λH0 W k=>?_)) λσ1 H4 h1=>?_]
 .let M:am J H0:=(((k2.t.trans k3.t).trans k5).trans k.t);erw[aj λF0 f'=>jV W (xT (Cf:=[(g,2)]) (ze Z Ra P') (Xf Z) Sa (qJ (n:=1) (qL YV) (jP Z au$ au _ _ _ M X) (kX (XF Ra (Ra:(1:Int) < 2)) Ra) Ra Ra) (jP Z au$ au _ _ _ M U) Ra Ra) λv0 H9 x0 W4 k0=>f' _ _ ?_];let c:am H5 H9:=(k.t.trans k0.t);let N:am J H9:=(M.trans k0.t);erw[jV W4 (Jo (jP Z eO$ eO _ _ _ c x5) (KZ$ EH (jP Z au$ au _ _ _ N X) (KZ$ jP Z eY x0) (EG (Cf:=[(g,2)]) (d:=0)) Ra Ra) Ra) λv1 a2 x1 W9 k9=>f6 _ _ ?_];let O:am H5 a2:=(c.trans k9.t);rwa[112,x1,W9,O]
 .rwa[f6 _ _ #[112,(PB.more (eO _ _ _ k.t x5) Ra),W,k.t]]
 let(o1,c4,rfl,x4,a3,k'):=h1;erw[f9 _ _ ?_];let i:am J H4:=(((k2.t.trans k3.t).trans k5).trans k');erw[aj λF5 a4=>jV a3 (qJ (n:=1) (Mp Z) (jP Z au$ au _ _ _ i U) (kX (zk Z Ra Ra) Ra) Ra Ra) λv4 a0 x9 a' k4=>a4 _ _ ?_];let a:am J a0:=(i.trans k4.t);erw[aj λF6 b0=>jV a' (Yu (Cf:=[(g,2)]) (KU Z (jP Z au$ au _ _ _ a xx)$ jP Z au$ au _ _ _ a U) Ra) λv5 b1 x' b2 R=>b0 _ _ ?_];let j:am J b1:=(a.trans R.t);erw[aj λc5 b3=>jV b2 (Yu (Cf:=[(g,2)]) (KU Z (jP Z au$ au _ _ _ j U)$ jP Z au$ au _ _ _ j X) Ra) λv9 a1 b4 b7 S=>b3 _ _ ?_];let y:am H4 a1:=((k4.t.trans R.t).trans S.t);let z:am a0 a1:=(R.t.trans S.t);erw[aj λc6 b9=>jV b7 (Jo (jP Z eO$ eO _ _ _ y x4) (rS (EH (jP Z au$ au _ _ _ z x9) (KZ$ jP Z eY$ eY _ _ _ S.t x') (EG (Cf:=[(g,2)]) (d:=0)) Ra Ra)$ Ev.up (jP Z eY b4) λ_ _=>cX.lift) Ra) λv' c8 b' c0 c9=>b9 _ _ ?_];erw[XQ c0 (rV (Xf Z) (EL (ze Z Ra P')$ ze Z Ra P') (jP Z eO b') Ra P') λv u x W'=>?_];let(r,rfl,x):=x;rwa[q r u x W'.B W'.K]
def bM:al z40z z19z (ae iO):=bP
noncomputable def Xc:gO:=#[.function,[(".0",.local),("_law_one",.local)],ξ,ξ,[]]
def pS:(["_law_one"]:FA ρ).Nodup:=P8
def pI:a5 z40z (ae iO) Xc ["_law_one"] 1 []:=pe
def vY(F:Fr K "_law_looped" iO f fd)(C:{1} fT d5 z0z aZ "_law_take")(cO:{2} fO d6 z16z oM "_law_op")(mi:mg "int"=ι)(m6:mg "tuple"=ι):⇑3 f fd z19z (dG 1):=by
 erw[F.ok bM λd7 A b1 s H vs Q E l h=>?_]
 symm;let(p,W,f0,g,Y,rfl,B,hw,h2,q):=h;erw[_,%[bM|_cY (@km _ _ _ _ _ _ _ ["_law_one"] 1 [] _ _ _ _ Z %[bM|_LA kL _3Qxj] pI (λ_ _ _ _ _=>jr (i:=0) pS Z$ Θ Z) (λ_ _ _ _ _=>@kG _) (λ_ _ _ _ _=>%[bM|_faoa0b]) FO) (@tG _ _ _ _ 5 _ Z %[bM|_ti4ti5ti6ti7ti8κ] P7 P7) _ce9qafaoaly3jpafaoaoa5afaoa C.e l.m _a0ajbbbbbczERηθδ9afaoaly3jpa2afa7alyqa5a6bF Ka _g mi boot_int _a (qZ Jd (C.e l.m %[bM|_a0ajb]) jf$ aF _) _bpbbbcNmB C.e l.m _a0ajbcev 10 _faoaoa5afaoanυj C.e l.m _a0ajbbbdzERηθδ9afaoav 10 _alyqa6a8a7b C.e l.m _a0ajbpbbsczERηθδ9afaoaly3jpa cO.e l.m _a0alyqa6a6a7b C.e l.m _a0ajbpa8bbbcNmB C.e l.m _a0ajbdYfaly9jpaly9jpbS (n:=2) _gt (Jm (pv 9) jf zN) _t (Jm (pv 9) jf zN) _κsczERηθδ9afaoaly3jpafaoaoa5afaoajbbbbcev 11 _fafaoaly3jpafaoa C.e l.m _a0ajbbbafaoaly3jpafaoa C.e l.m _a0ajbbbbcNmB C.e l.m _a0ajbcev 11 _nWv 11 _fafaoaly3jpafaoanυj C.e l.m _a0ajbbbbdev 11 _nWv 11 _fafaoaly3jpafaoaoa4afaoajbbbbscev 12 _faoafaoaoa5a4baFοg m6 _ιa9bbdkfa1afaly3jpbanWv 11 _fav 12 _afaoafaoajba6bafaoa6bbb],?_];let W0:Wd H H p W Y:=#[B,aA.refl,hw];sleep 10;erw[aj λF1 f1=>rZ W0 Z h2 λvn vi vs vx vy U xn xi xs xx xy W1=>f1 _ _ ?_];erw[aj λF2 f2=>MM W1 (KW (Cf:=[(g,2)]) (ze Z Ra P') (qJ (n:=1) (qL zE) (jP Z au xi) (kX (zk Z Ra Ra) Ra) Ra Ra) Ra) λlb u2 H2 o2 x2 W2 k2=>f2 _ _ ?_];erw[aj λF3 f3=>J2 W2 Z o2 (show 1<=100 by decide) (xT (Cf:=[(g,2)]) (ze Z Ra P') (Xf Z) Sa (jP Z au$ au _ _ _ k2.t xx) (Mn Z Ra Ra (jP Z au$ au _ _ _ k2.t xi)$ jP Z au$ au _ _ _ k2.t xs) Ra Ra) λu3 H3 x3 o3 W3 k3=>f3 _ _ ?_];erw[aj λF4 f4=>eB (λu c=>∃(o:FC V) (G:FA V),u=[δ$ Fa p,δ$ Cv f0,δ$ Cv g,δ$ Fa W,δ$ vn,δ$ vi,δ$ vs,δ$ vx,δ$ vy,δ$ Fa lb,o,ι,ι]/\Ow H c p W lb (u2::u3::G)/\iw [(g,2)] c Y 0 G/\G.length<=1/\Wd H c p W Y/\am H3 c) (λE4 _ f5=>Ju W3 Z Ra Ra (λH6 W6 k6=>?_) (λH6 W6 k6=>?_)) λσ2 H5 h3=>?_]
 .left;let o6:=o3.fw k6;let R:am U H6:=((k2.t.trans k3).trans k6.t);erw[aj λF7 f7=>jV W6 (qJ (n:=1) (qL zE) (jP Z au$ au _ _ _ R xi) (kX (XO (zk Z Ra Ra) Ra) Ra) Ra Ra) λv7 H7 x7 W7 k7=>f7 _ _ ?_];let o7:=o6.fw k7;let y:am U H7:=(R.trans k7.t);erw[J2 W7 Z o7 (show 2<=100 by decide) (KY (Cf:=[(g,2)]) (jP Z au x7) (EJ Z (jP Z au$ au _ _ _ y xs) (jP Z au$ au _ _ _ y xy)$ jP Z au$ au _ _ _ y xx) Ra Ra) λu8 H8 x8 o8 W8 k8=>f5 _ _ ?_];let m5:am H3 H8:=((k6.t.trans k7.t).trans k8);rwa[_,[u8],Z,o8,zK x8,RO 1,W8,m5]
 .left;let o6:=o3.fw k6;rwa[f5 _ _ #[_,[],Z,o6,Qi,Ra,W6,k6.t]]
 symm;let(w5,G,rfl,o5,zx,zl,W5,k5):=h3;erw[f4 _ _ ?_];left;let M:am U H5:=((k2.t.trans k3).trans k5);erw[aj λF9 f9=>J2 W5 Z o5 (show ο G+1+1<=100 by omega) (Kh (Cf:=[(g,2)]) (ze Z Ra P') (KU Z (EJ Z (jP Z au$ au _ _ _ M xs) (jP Z au$ au _ _ _ M xs)$ jP Z au$ au _ _ _ M xx)$ jP Z au$ au _ _ _ M xy) Ra) λu9 H9 x9 o9 W9 k9=>f9 _ _ ?_];let zy:iw [(g,2)] H9 Y 0 (G++[u9]):=J1 (zx.mono k9) (zK x9);let zm:(G++[u9]).length<=2:=by rw[RN];rwa[TY zl]
 erw[aj λF0 I=>eB (λu c=>∃(X:FA V),u=[δ$ Fa p,δ$ Cv f0,δ$ Cv g,δ$ Fa W,δ$ vn,δ$ vi,δ$ vs,δ$ vx,δ$ vy,δ$ Fa lb,w5,ι,ι]/\Ow H c p W lb X/\iw [(g,2)] c Y 0 X/\ο X<=4/\Wd H c p W Y/\am H9 c) (λE1 _ S=>Ju W9 Z Ra Ra (λH0 W4 k=>?_) (λH0 W4 k=>?_)) λσ0 b2 h0=>?_]
 .left;let o0:=o9.fw k;erw[Ei W4 Z o0 λH4 b3 b4 k0=>S _ _ ?_];let m0:am H3 H4:=(((k5.trans k9).trans k.t).trans k0);let m1:am H2 H4:=((((k3.trans k5).trans k9).trans k.t).trans k0);let z:am H9 H4:=(k.t.trans k0);rwa[12,b3,jX ((eY _ _ _ m0 x3))$ jX ((eY _ _ _ m1 x2))$ zy.mono z,(show(G++[u9]).length+1+1<=4 by omega),b4,z]
 .left;let o0:=o9.fw k;let m2:am H2 H0:=(((k3.trans k5).trans k9).trans k.t);let m3:am H3 H0:=((k5.trans k9).trans k.t);rwa[S _ _ #[12,o0,jX ((eY _ _ _ m2 x2))$ jX ((eY _ _ _ m3 x3))$ zy.mono k.t,(show(G++[u9]).length+1+1<=4 by omega),W4,k.t]]
 symm;let(X,rfl,b5,ux,ul,b7,b9):=h0;erw[I _ _ ?_];left;let d:am U b2:=((M.trans k9).trans b9);erw[aj λF5 f6=>J2 b7 Z b5 P' (Kh (Cf:=[(g,2)]) (ze Z Ra P') (qJ (n:=1) (qL zE) (jP Z au$ au _ _ _ d xi) (kX (XF Ra (Ra:(1:Int) < 2)) Ra) Ra Ra) Ra) λu0 a1 x1 b' c0 k1=>f6 _ _ ?_];let b0:iw [(g,2)] a1 Y 0 (X++[u0]):=J1 (ux.mono k1) (zK x1);let bl:(X++[u0]).length<=5:=by rw[RN];rwa[TY ul]
 erw[aj λF6 f'=>jV c0 (rS (Kh (Cf:=[(g,2)]) (ze Z Ra P') (kX (zk Z Ra Ra) Ra) Ra)$ Kh (Cf:=[(g,2)]) (ze Z Ra P') (kX (zk Z Ra Ra) Ra) Ra) λv0 a2 x0 c1 J=>f' _ _ ?_];let o4:=b'.fw J;erw[aj λd8 L=>eB (λu c=>∃(b:V),u=[δ$ Fa p,δ$ Cv f0,δ$ Cv g,δ$ Fa W,δ$ vn,δ$ vi,δ$ vs,δ$ vx,δ$ vy,δ$ Fa lb,w5,δ b,ι]/\Ow H c p W lb (X++[u0])/\PB [(g,2)] Y 0 4 c b/\Wd H c p W Y/\am a2 c) (λE2 _ T=>Ju c1 Z Ra Ra (λc2 a0 a=>?_) (λc2 a0 a=>?_)) λσ1 a3 h1=>?_]
 .left;let o1:=o4.fw a;erw[aj λd' c3=>jV a0 (Jo (jP Z eO$ eO _ _ _ a.t x0) (KZ$ KW (Cf:=[(g,2)]) (ze Z Ra P') (kX (XO (zk Z Ra Ra) Ra) Ra) Ra) Ra) λv1 c4 x4 c5 k4=>c3 _ _ ?_];let c6:=o1.fw k4;let m4:am U c4:=((((d.trans k1).trans J.t).trans a.t).trans k4.t);erw[jV c5 (Jo (jP Z eO x4) (KZ$ Kh (Cf:=[(g,2)]) (ze Z Ra P') (qJ (n:=1) (qL Eb) (jP Z au$ au _ _ _ m4 xn) (kX (XF Ra (Ra:(2:Int) < 3)) Ra) Ra Ra) Ra) Ra) λv2 c8 x5 c9 a4=>T _ _ ?_];let c':=c6.fw a4;let N:am a2 c8:=((a.t.trans k4.t).trans a4.t);rwa[12,c',x5,c9,N]
 .left;let o1:=o4.fw a;rwa[T _ _ #[12,o1,(PB.more (eO _ _ _ a.t x0) Ra),a0,a.t]]
 symm;let(e0,rfl,o',x',d0,a'):=h1;erw[L _ _ ?_];left;let j:am U a3:=(((d.trans k1).trans J.t).trans a');let O:am a1 a3:=(J.t.trans a');erw[aj λe1 d1=>jV d0 (EN (qJ (n:=1) (qL Ya) (jP Z au$ au _ _ _ j xi) (jP Z au$ au _ _ _ j xn) Ra Ra) (EM (n:=5) Z o' (b0.mono O) bl) Ra Ra) λv3 d2 d3 d4 k'=>d1 _ _ ?_];let e2:=o'.fw k';let D:am U d2:=(j.trans k'.t);erw[XQ d4 (rV (Xf Z) (EK$ ze Z Ra P') (Jo (Ev.up (jP Z eO$ eO _ _ _ k'.t x') λ_ _=>PB.lift) (Ml (jP Z eY d3) (Ev.up (KY (Cf:=[(g,2)]) (kX (XF Ra (Ra:(30:Int) < 31)) Ra) (jP Z au$ au _ _ _ D xs) Ra Ra) λ_ _=>cX.lift)$ Ev.up (Yu (Cf:=[(g,2)]) (jP Z au$ au _ _ _ D xs) Ra) λ_ _=>cX.lift) Ra) Ra P') λv c x W'=>?_];symm;let(r,rfl,x):=x;rwa[q r c x W'.B W'.K]
def Og(b:0<=d)(c:d < 2)(h:cX C H y 0 u)(a:cX C H y 0 v):iw C H y 0 (aN [u,v] ι$ δ (1+d))/\(aN [u,v] ι$ δ (1+d)).length<=2:=by
 rcases(P':d=0∨d=1) with rfl |rfl
 .exact#[zK h,by show 1<=2;decide]
 .exact#[jX h$ zK a,by show 2<=2;decide]
def P2(C:iW)(y:FA ρ)(H:Hp)(w:V):Prop:=∃a u v,w= .ref a/\H a= ~~~[u,v]/\cX C H y 0 u/\cX C H y 0 v
def Fc:rF (P2 C y):=λ_ _ _ m #[a,u,v,e,h,H,b]=>#[a,u,v,e,m _ _ h,H.mono m,b.mono m]
section
variable {Cf:iW}{ys:FA ρ}{H0 Hb:Hp}{p wl:η}{σ:_L.St}
def Gn(h:#[] T (λH v=>cX Cf H ys 0 v))(c:#[] d (λH v=>cX Cf H ys 0 v)):#[] (cn$ ao T$ ao d aR) (P2 Cf ys):=λH Q m W q=>
 h H _ m W λo e X f a=>c e _ (m.trans a) f λs u g i b=>#[b8,λr n=>kW (P:=P2 Cf ys) i (λV j x l k=>q V j x l ((a.trans b).trans k)) n λt z=>#[r,112,z,(X.mono b.t).mono t,g.mono t]]
def Gm(e:σ[i]?=δ (δ v))(E:σ[0]?=δ (↑p))(h:P2 Cf ys Hb v):#[] (NP Iw (ba i) nP$ oV$ eW (BW λi j=>Da (i+j)) (tC$ .int 1)$ BX 2) (PB Cf ys 0 2):=λH Q m W q=>
 #[v,e,zk E Ra Ra H _ m W λw y #[d,b,D,c] f k=>#[1,d,Z,b,12,by
  let(a,u,A,rfl,g,l,n):=Fc _ _ _ (m.trans k).t h;let z:=Og D c l n;rwa[a,12,g,λr o x s=>q _ o #[r,12,x,z.1.mono$ aa.tm s,z.2] (f.same s) (k.trans$ .same s)]]]
end
def aU:al z41z z19z (ae gG):=bP
noncomputable def QW:gO:=#[.function,[(".0",.local),("_law_one",.local)],ξ,ξ,[]]
def Zs:(["_law_one"]:FA ρ).Nodup:=P8
def Zt:a5 z41z (ae gG) QW ["_law_one"] 1 []:=pe
def pU(F:Fr K "_law_ticking" gG f fd)(C:{1} fT b5 z0z aZ "_law_take")(cO:{2} fO b7 z16z oM "_law_op")(mi:mg "int"=ι)(m1:mg "tuple"=ι):⇑3 f fd z19z (dG 1):=by
 erw[F.ok aU λc0 A o2 s H vs Q E c h=>?_]
 symm;let(p,W,f0,g,ys,rfl,B,hw,h1,q):=h;erw[_,%[aU|_cY (@km _ _ _ _ _ _ _ ["_law_one"] 1 [] _ _ _ _ Z %[aU|_LA kL _3Qxj] Zt (λ_ _ _ _ _=>jr (i:=0) Zs Z$ Θ Z) (λ_ _ _ _ _=>@kG _) (λ_ _ _ _ _=>%[aU|_faoa0b]) FO) (@tG _ _ _ _ 5 _ Z %[aU|_ti4ti5ti6ti7ti8κ] P7 P7) _ce9faoanυj C.e c.m _a0ajbbcev 10 _qafaoaly3jpa9bafaoaly3jpalyqa5afaoa C.e c.m _a0ajbbb C.e c.m _a0ajbpbbczERηθδv 10 _afaoaly3jpa2afalyqa7afaoajbb C.e c.m _a0ajbpalyqa5afaoajbb C.e c.m _a0ajbpbbbcNmB C.e c.m _a0ajbdzERηθδv 10 _afaoafaoaoa5afaoa C.e c.m _a0ajbbba8bbscev 11 _faoajbcev 12 _qafaoaly3jpav 11 _bafaoav 11 _a cO.e c.m _a0a6a8bbbcNmB C.e c.m _a0ajbdev 12 _qafaoaly3jpa cO.e c.m _a0a6a8bbbscev 10 _nρnρv 10 _v 12 _qafaoa9afaoaoa5afaoajbbbafaoaly3jpafaoaoa5a4bbbcev 13 _fafaoaly3jpafaoajbbafaoa9afaoa C.e c.m _a0ajbbbbcev 14 _faoafaoaly3jpbaFοg m1 _ιav 10 _bbdkfa1afaly3jpbanWAαv 13 _Qxnυj C.e c.m _a0ajbfav 14 _afaoa6bbb],?_];let W0:Wd H H p W ys:=#[B,aA.refl,hw];sleep 11;erw[aj λF1 f1=>rZ W0 Z h1 λvn vi vs vx vy H1 xn xi xs xx xy W1=>f1 _ _ ?_];erw[aj λF2 f2=>jV W1 (kX (XO (zk Z Ra Ra) Ra) Ra) λv2 H2 x2 W2 k2=>f2 _ _ ?_];erw[aj λF3 f3=>MN W2 (KW (Cf:=[(g,2)]) (ze Z Ra P') (jP Z au x2) Ra) (KW (Cf:=[(g,2)]) (ze Z Ra P') (rW Z (jP Z au$ au _ _ _ k2.t xi)$ kX (zk Z Ra Ra) Ra) Ra) λlb u3 w3 H3 o3 x3 y3 W3 k3=>f3 _ _ ?_];let a:am H1 H3:=(k2.t.trans k3.t);erw[aj λF4 f4=>J2 W3 Z o3 (show 2<=100 by decide) (xT (Cf:=[(g,2)]) (ze Z Ra P') (Xf Z) Sa (rW Z (jP Z au$ au _ _ _ a xx)$ kX (XF Ra (Ra:(3:Int) < 4)) Ra) (rW Z (jP Z au$ au _ _ _ a xi)$ kX (XF Ra (Ra:(2:Int) < 3)) Ra) Ra Ra) λu4 H4 x4 o4 W4 k4=>f4 _ _ ?_];erw[aj λF5 f5=>eB (λN d=>∃(us:FA V),N=[δ$ Fa p,δ$ Cv f0,δ$ Cv g,δ$ Fa W,δ$ vn,δ$ vi,δ$ vs,δ$ vx,δ$ vy,δ$ v2,δ$ Fa lb,ι,ι,ι,ι]/\Ow H d p W lb us/\iw [(g,2)] d ys 0 us/\ο us<=4/\Wd H d p W ys/\am H4 d) (λE5 _ f6=>Ju W4 Z Ra Ra (λH7 W7 u=>?_) (λH7 W7 u=>?_)) λσ1 H6 h2=>?_]
 .left;let o7:=o4.fw u;let D:am H1 H7:=((a.trans k4).trans u.t);erw[J2 W7 Z o7 (show 3<=100 by decide) (KY (Cf:=[(g,2)]) (qJ (n:=1) (qL zE) (jP Z au$ au _ _ _ D xi) (kX (zk Z Ra Ra) Ra) Ra Ra) (jP Z au$ au _ _ _ D xy) Ra Ra) λu8 H8 x8 o8 W8 k8=>f6 _ _ ?_];let G:am H4 H8:=(u.t.trans k8);let I:am H3 H8:=((k4.trans u.t).trans k8);rwa[12,o8,(jX ((eY _ _ _ I x3))$ jX ((eY _ _ _ I y3))$ jX ((eY _ _ _ G x4))$ jX (x8) Qi),(show 4<=4 by decide),W8,G]
 .left;let o7:=o4.fw u;let J:am H3 H7:=(k4.trans u.t);rwa[f6 _ _ #[12,o7,(jX ((eY _ _ _ J x3))$ jX ((eY _ _ _ J y3))$ jX ((eY _ _ _ u.t x4)) Qi),(show 3<=4 by decide),W7,u.t]]
 symm;let(us,rfl,o6,ux,ul,W6,k6):=h2;erw[f5 _ _ ?_];left;erw[aj λF9 f9=>jV W6 (kX (XF Ra (Ra:(30:Int) < 31)) Ra) λv9 H9 x9 W9 k9=>f9 _ _ ?_];let o9:=o6.fw k9;let b:am H1 H9:=(((a.trans k4).trans k6).trans k9.t);erw[aj λF0 f7=>MN W9 (KW (Cf:=[(g,2)]) (ze Z Ra P') (jP Z au x9) Ra) (KY (Cf:=[(g,2)]) (jP Z au x9) (KU Z (jP Z au$ au _ _ _ b xs)$ jP Z au$ au _ _ _ b xy) Ra Ra) λlm u0 w0 H0 z0 x0 y0 W5 j=>f7 _ _ ?_];let o0:=o9.fw j;erw[aj λF6 y=>eB (λN d=>∃(m:η) (zs:FA V),N=[δ$ Fa p,δ$ Cv f0,δ$ Cv g,δ$ Fa W,δ$ vn,δ$ vi,δ$ vs,δ$ vx,δ$ vy,δ$ v2,δ$ Fa lb,δ$ v9,↑m,ι,ι]/\Ow H d p W lb us/\Ow H d p W m zs/\iw [(g,2)] d ys 0 zs/\ο zs<=2/\Wd H d p W ys/\am H0 d) (λE1 _ L=>Ju W5 Z Ra Ra (λH5 O k=>?_) (λH5 O k=>?_)) λσ0 R h0=>?_]
 .left;let S:=o0.fw k;let z1:=z0.fw k;let l:am H1 H5:=((b.trans j.t).trans k.t);erw[MM O (Kh (Cf:=[(g,2)]) (ze Z Ra P') (KU Z (jP Z au$ au _ _ _ l xs)$ jP Z au$ au _ _ _ l xy) Ra) λlq u1 a0 z2 x1 a1 k1=>L _ _ ?_];let o5:=S.fw k1;let z:am H0 a0:=(k.t.trans k1.t);rwa[112,o5,z2,zK x1,(show 1<=2 by decide),a1,z]
 .left;let S:=o0.fw k;let z1:=z0.fw k;rwa[L _ _ #[112,S,z1,(jX ((eY _ _ _ k.t x0))$ jX ((eY _ _ _ k.t y0)) Qi),(show 2<=2 by decide),O,k.t]]
 symm;let(lm,zs,rfl,o',z3,zx,zl,a2,T):=h0;erw[y _ _ ?_];left;let o:am H2 R:=(((((k3.t.trans k4).trans k6).trans k9.t).trans j.t).trans T);let M:am H1 R:=((b.trans j.t).trans T);let U:am H6 R:=((k9.t.trans j.t).trans T);erw[aj λF7 f'=>FX a2 Z Z o' z3 P' (ux.mono U) zx (KY (Cf:=[(g,2)]) (jP Z au$ au _ _ _ o x2) (qJ (n:=1) (qL zE) (jP Z au$ au _ _ _ M xi) (kX (XF Ra (Ra:(1:Int) < 2)) Ra) Ra Ra) Ra Ra) (Kh (Cf:=[(g,2)]) (ze Z Ra P') (qJ (n:=1) (qL Ya) (jP Z au$ au _ _ _ M xi) (jP Z au$ au _ _ _ M xn) Ra Ra) Ra) λlc cs a3 a4 cx cl a' k5=>f' _ _ ?_];let cm:ο cs<=8:=P'
 let X:am H2 a3:=(o.trans k5.t);erw[aj λb9 b0=>jV a' (Gn (Kh (Cf:=[(g,2)]) (ze Z Ra P') (kX (XF Ra (Ra:(1:Int) < 2)) Ra) Ra)$ KY (Cf:=[(g,2)]) (jP Z au$ au _ _ _ X x2) (kX (zk Z Ra Ra) Ra) Ra Ra) λv0 b' x5 b1 Y=>b0 _ _ ?_];let o1:=a4.fw Y;erw[aj λc1 b2=>jV b1 (EN (KS$ ze Z Ra P') (EM (n:=8) Z o1 (cx.mono Y.t) cm) Ra Ra) λv1 b3 x7 b4 k0=>b2 _ _ ?_];let c2:=o1.fw k0;let m0:am H1 b3:=(((M.trans k5.t).trans Y.t).trans k0.t);erw[XQ b4 (rV (Xf Z) (EK$ ze Z Ra P') (Jo (Ev.up (Gm Z Z$ Fc _ _ _ k0.t x5) λ_ _=>PB.lift) (rS (jP Z eY x7)$ Ev.up (Yu (Cf:=[(g,2)]) (jP Z au$ au _ _ _ m0 xs) Ra) λ_ _=>cX.lift) Ra) Ra P') λv d x W'=>?_];symm;let(r,rfl,x):=x;rwa[q r d x W'.B W'.K]
def Oh{y:FA ρ}{lo:Nat}(h:ο y=14)(H:lo<=8):(bE y (δ (lo:Int))$ δ ((lo+6:Nat):Int)).length=6:=by unfold bE;rw[HT.sIx_nat,HT.sIx_nat,Se,Td,h,TN$ Sf H Ra,TN$ Nat.add_le_add_right H 6,Nat.add_sub_cancel_left];rwa[TN$ Nat.le_sub_of_add_le$ Sf (Nat.add_le_add_left H 6) Ra]
def Py{k:Nat}(h:k < n):on n (k:Int)=δ k:=by unfold on;rw[RV P',RV P',SJ]
def wR.more(h:wR C n H r f)(k:∀y∈C,y∈D):wR D n H r f:=by let(d,b,a,c):=h;rwa[d,b,#[a.1,kN k a.2],c]
def Om(r:wR [(l,N),(m,j),(o,k)] N H a l)(s:wR [(l,N),(m,j),(o,k)] j H b m)(t:wR [(l,N),(m,j),(o,k)] k H c o)(p:N<=100/\j<=100/\k<=100):∃D,cV H D [.ref a,.ref b,.ref c]/\ο D=3/\((∀d∈D,ph d/\d.b.Cs [(l,N),(m,j),(o,k)])/\D.map Df.f=[l,m,o])/\n8 H D [N,j,k]:=by
 let(d,u,v,O,y,z,E):=r;let(e,A,B,Q,C,F,G):=s;let(f,I,J,R,g3,L,M):=t;erw[[d,e,f],#[112,u,112,A,112,I,Z],Z,#[λx q=>?_,by rw[<- E,<- G,<- M];rfl],Z,λi x n h g=>?_]
 .simp only[Ua,Sz,V4]at q;rcases q with rfl |rfl |rfl
  .rwa[v]
  .rwa[B]
  .rwa[J]
 .match i,h,g with
  |0,h,g=>cases h;cases g;rwa[_,y,z,p.1]
  |1,h,g=>cases h;cases g;rwa[_,C,F,p.2.1]
  |2,h,g=>cases h;cases g;rwa[_,g3,L,p.2.2]
inductive ny(b:FA V)(H:Hp)(Q:VK)(a:XK):Prop
 |mk(p:η)(_:b=[.ref p])(_:ar H p)(_:∀(r:η) (ds:FA Df) (xs:FA V) (H':Hp),H' r= ~~~xs->cV H' ds xs->ο ds=3->∀ns,wX ds ns->n8 H' ds ns->(∃r,ns=1::r)->ar H' p->aA p H H'->Q (.ref r) H')
def LL(L:FA ρ)(_:Hp)(v:V):Prop:=∃x,v= .str x/\x∈L
section
variable {ys:FA ρ}{H0 Hb:Hp}{p wl:η}{σ:_L.St}
def Mo{K:γ}(e:σ[0]?=δ (↑p))(r:#[] t (Cd a))(s:#[] T (Cd b))(u:#[] x (Cd c)):#[] (eW (mf K) (oU$ ao t$ ao T$ ao x aR)$ BX 3) (LL [a,b,c]):=λH Q m W q=>
 r H _ m W λy z (E:y= .str a) A k=>s z _ (m.trans k) A λC D (F:C= .str b) G f=>u D _ ((m.trans k).trans f) G λI R (J:I= .str c) h j=>#[ip,λl n=>zk e Ra Ra _ _ ((((m.trans k).trans f).trans j).trans$ .new n) (h.same$ je n) λv L #[d,M,S,U] N o=>by
  obtain⟨g,i,O⟩:∃g,dQ [Cv a,.str b,.str c] d=δ (.str g)/\g∈[a,b,c]:=by
   rcases(P':d=0∨d=1∨d=2) with rfl |rfl |rfl
   .exact#[a,Z,P9]
   .exact#[b,Z,P9]
   .exact#[c,Z,P9]
  rw[<- E,<- F,<- J]at i;rwa[l,_,d,12,M,aE.of$ o.b _ _ (h.B.ne n) jc,i,q _ L #[g,Z,O] N (((k.trans f).trans j).trans ((Fw.new n).trans o))]]
def xU{K:γ}{lo:Nat}(e:σ[0]?=δ (↑p))(E:σ[1]?=δ (↑wl))(d:#[] t (Cd f))(l:#[] T (LL L))(h:ο ys=14)(o:lo<=8)(s:i=(lo:Int))(u:j=((lo+6:Nat):Int)):
  #[] (eV (dG n) [] E0$ ao (ba 0)$ ao t$ ao T$ ao (NP (DL K) (ba 1) (oV$ tC$ .int i)$ oV$ tC$ .int j) aR) (PD (L.map λy=>(y,2)) n f):=λH Q m W q=>
 #[_,e,d H _ m W λv x (z:v= .str f) A k=>l x _ (m.trans k) A λV M #[g,D,c] b F=>#[_,E,1212,wl,12,aE.of b.w,λr N=>#[p,r,f,g,bE ys (δ i)$ δ j,by rw[z,D];rfl,b.B.upd_new N,by rw[jc,zP],by rw[s,u];exact Oh h o,λa G X I C=>
  q _ G #[a,Z,X.more λy J=>by rw[τ.mp J];rwa[β.mpr #[g,c,Z]]] ((b.same$ je N).but I C) ((k.trans F).trans ((Fw.new N).trans$ .but (b.B.upd_new N) C))]]]
def Jv{K:γ}{k:Nat}(e:σ[j]?=δ (↑wl))(a:i=(k:Int))(h:ys[k]?=δ y):#[] (eW (mf K) (ba j)$ tC$ .int i) (Cd y):=λH Q m W q=>
 #[_,e,wl,11122,aE.of W.w,(by rw[a];rwa[jO (by rw[RX,h];rfl)]),q _ H Z W .refl]
def Mm{n1 n2 n3:Nat}(s:n1<=100/\n2<=100/\n3<=100)(u:#[] T (PD [(e,n1),(h,n2),(i,n3)] n1 e))(y:#[] z (PD [(e,n1),(h,n2),(i,n3)] n2 h))(A:#[] B (PD [(e,n1),(h,n2),(i,n3)] n3 i)):#[] (cn$ ao T$ ao z$ ao B aR) (λH v=>∃r D x,v= .ref r/\H r= ~~~x/\cV H D x/\ο D=3/\((∀d∈D,ph d/\d.b.Cs [(e,n1),(h,n2),(i,n3)])/\D.map Df.f=[e,h,i])/\n8 H D [n1,n2,n3]):=λH Q m W q=>
 u H _ m W λV C X E k=>y C _ (m.trans k) E λF G I J j=>A G _ ((m.trans k).trans j) J λL H4 M N l=>#[ip,λr n=>q _ _ (by
  let t:=aa.tm (je (o:=HO.tup [V,F,L]) n);let(a,O,R):=mJ _ _ _ t (mJ _ _ _ (j.trans l).t X);let(b,S,U):=mJ _ _ _ t (mJ _ _ _ l.t I);let(c,Y,h3):=mJ _ _ _ t M;let(D,g):=Om R U h3 s;rwa[r,D,12,by rw[jc,O,S,Y],g]) (N.same$ je n) (((k.trans j).trans l).trans$ .new n)]
end
def gm:al ["_law_box_here","_law_w","_law_body_here","_law_deeper","_law_further","_law_first"] z2z (ae Au):=bP
def C4(F:Fr K "_law_busy" Au f fd)(T:{1} fT f0 z0z aZ "_law_take")(cO:{2} fO f1 z16z oM "_law_op")(cA:{2} fA f7 z26z gQ "_law_names")(cL:{3} fL f9 z19z (dG 1) "_law_looped")(cK:{3} fK f' z19z (dG 1) "_law_ticking")(cI:{3} fI a0 z35z (dG 2) "_law_inner"):⇑4 f fd z2z ny:=by
 erw[F.ok gm λc0 A U s H vs Q E i h=>?_]
 let(p,rfl,B,q):=h;erw[_,%[gm|_ce1 cA.e i.m _a0ajbcNmB T.e i.m _a0ajbdYly1jp (Jm (pv 1) jf zN) _sce2fafaoaly1jpafaoaly1jpbbafaoa cO.e i.m _a0afaoaly1jpbafaoaly1jpbbbbce3faly1jpafaly1jpaly1jpba2bce4lyqaly1jpaly1jpaly1jpb T.e i.m _a0ajbpce5 cL.e i.m _a0aly1jpaly1jpaA kL _1xjxjbcNmB T.e i.m _a0ajbde5 cK.e i.m _a0aly1jpaly1jpaA kL _1xjxjbsdkfa5a cI.e i.m _a0aly1jpa4aA kL _1xjxjba3b],?_];erw[aj λ_ o=>#[12,p,(14),Z,B,Ra,Ra,λj ys Ha X u c d Ba ka=>o _ _ ?_]];let wp:j≠p:=qM Ba u;erw[aj λ_ o=>eB (λn g=>∃Y:FA ρ,n=[δ$ Fa p,δ$ Fa j,ι,ι,ι,ι]/\g j=(Y.map Cv)⁻¹/\(ο Y=14/\(Y.take 3).Nodup/\∀y∈Y.take 3,y.length<=20)/\ar g p/\aA p H g) (λE0 _ fm=>Ju (W:=#[Ba,ka,u]) Z Ra Ra (λHb l kb=>?_) (λHb l kb=>fm _ _ #[12,l.w,#[P',d.2.sublist$ Ul _ _,λy hy=>d.1 y (Tj hy)],l.B,l.K])) λσ1 H0 h3=>?_]
 .let(v1,h6,z):=Qd (ys:=ys) (k:=1) Ra P';erw[12,j,11122,aE.of l.w,z,12,j,_,8,8,22,l.w,Py (k:=8) (by rw[RJ];omega),fm _ _ #[ys.set 8 v1,Z,?_,#[by rw[V2];omega,by rw[List.take_set_of_le Ra];rwa[d.2.sublist$ Ul _ _,λy hy=>d.1 y (Tj hy)]],l.B.eq$ jh$ Sx wp,l.K.upd_own X]];rw[jc,List.map_set]
 obtain⟨ys,rfl,h4,⟨c,C,D⟩,B1,k1⟩:=h3;obtain⟨y0,h0⟩:∃y,ys[0]?=δ y:=#[_,RI (P':0 < ο ys)];obtain⟨G,I⟩:∃y,ys[1]?=δ y:=#[_,RI (P':1 < ο ys)];obtain⟨y2,N⟩:∃y,ys[2]?=δ y:=#[_,RI (P':2 < ο ys)];let e3:ys.take 3=[y0,G,y2]:=by rw[UH,UH,UH,h0,I,N];rfl
 rw[e3]at C D;erw[o _ _ ?_];let W1:Wd H H0 p j ys:=#[B1,k1,h4];generalize H0=H1 at W1;erw[aj λF2 f2=>jV W1 (rS (KW (Cf:=[]) (ze Z Ra P') (KS$ ze Z Ra P') Ra)$ Yu (Cf:=[]) (KU Z (KS$ ze Z Ra P')$ KS$ ze Z Ra P') Ra) λv2 H2 x2 W2 k2=>f2 _ _ ?_];erw[aj λF3 f3=>jV W2 (rV (Cf:=[]) (Jv (k:=2) Z Z N) (EL (ze Z Ra P')$ ze Z Ra P') (Ev.up (jP Z eO x2) λ_ _=>PB.lift) Ra P') λv3 H3 x3 W3 k3=>f3 _ _ ?_];erw[aj λF4 f4=>jV W3 (Mo Z (Jv (k:=1) Z Z I) (Jv (k:=2) Z Z N)$ Jv (k:=2) Z Z N) λv4 H4 x4 W4 k4=>f4 _ _ ?_];erw[aj λF5 f5=>jV W4 (xU (lo:=6) Z Z (Jv (k:=0) Z Z h0) (Ev.up (R:=LL [G]) (Jv (k:=1) Z Z I) λ_ _ e=>#[_,e,Sa]) c Ra Z Z) λv5 H5 x5 W5 k5=>f5 _ _ ?_];erw[aj λF6 O=>eB (λn g=>∃(b:V),n=[δ$ Fa p,δ$ Fa j,δ$ v2,δ$ v3,δ$ v4,δ b]/\PD [(G,2)] 1 y0 g b/\Wd H g p j ys/\am H5 g) (λE6 _ J=>Ju W5 Z Ra Ra (λH8 W8 S=>?_) (λH8 W8 S=>?_)) λσ2 H7 h5=>?_]
 .erw[jV W8 (xU (lo:=6) Z Z (Jv (k:=0) Z Z h0) (Ev.up (R:=LL [G]) (Jv (k:=1) Z Z I) λ_ _ e=>#[_,e,Sa]) c Ra Z Z) λv9 H9 x9 W9 k9=>J _ _ ?_];let M:am H5 H9:=(S.t.trans k9.t);rwa[12,x9,W9,M]
 .rwa[J _ _ #[12,(mJ _ _ _ S.t x5),W8,S.t]]
 let(b7,rfl,x7,W7,k7):=h5;erw[O _ _ ?_];let L:am H3 H7:=((k4.t.trans k5.t).trans k7);erw[XQ W7 (Mm (n1:=1) (n2:=2) (n3:=2) #[Ra,Ra,Ra] (Ev.up (jP Z mJ x7) (λ_ _ #[a,e,h]=>#[a,e,h.more P9])) (Ev.up (xU (lo:=7) Z Z (Jv (k:=1) Z Z I) (jP (P:=LL [G,y2,y2]) Z (λ_ _ _ _ h=>h) x4) c Ra Z Z) (λ_ _ #[a,e,h]=>#[a,e,h.more P9])) (Ev.up (jP Z mJ$ mJ _ _ _ L x3) (λ_ _ #[a,e,h]=>#[a,e,h.more P9]))) λv g x W'=>?_];let(r,ds,xs,rfl,g0,g1,g2,g3,g4):=x;rwa[q r ds xs g g0 g1 g2 [1,2,2] #[by rw[g3.2];rwa[g3.1],by rw[g3.2];rwa[C,D]] g4 #[12] W'.B W'.K]
abbrev tU:de:=bN 72
def K'(h:0<=d)(H:d < 4):∃m:Int,dQ [Da 3,.int 3,.int 3,.int 8] d=δ (.int m)/\3<=m/\m<=8:=by
 rcases(P':d=0∨d=1∨d=2∨d=3) with rfl |rfl |rfl |rfl
 .exact#[3,Z,Ra,Ra]
 .exact#[3,Z,Ra,Ra]
 .exact#[3,Z,Ra,Ra]
 .exact#[8,Z,Ra,Ra]
def Gg(h:cV H D v)(f:0<=k)(g:k < (v.length:Int)):∃d,dQ v k=δ (.ref d.p)/\d∈D/\Ex H d (.ref d.p):=by
 let a:k.toNat < ο v:=P'
 let E:k=((k.toNat:Nat):Int):=P'
 let(d,c,b):=h.at k.toNat _ (RI a);let e:v[k.toNat]= .ref d.p:=b.elim λ_ z=>z.1;erw[d,?_,Sc c,by rw[<- e];rwa[b]];rw[E];rwa[jO (by rw[<- e];rwa[RI a])]
def Lz(H:Hp)(D:FA Df)(v a:V):Prop:=∃(d:Df) (p:FA ρ) (t:η) (I:FA Int),d∈D/\v= .str d.f/\H d.pa= ~~~(p.map Cv)/\a= .ref t/\H t= ~~~(I.map Da)/\ο I=ο p/\ο I<=100/\∀i∈I,0<=i/\i < 1000000000000000000
inductive nB(b:FA V)(H:Hp)(Q:VK)(a:XK):Prop
 |mk(p:η)(_:b=[.ref p])(_:ar H p)(_:∀(t r:η) (v2 v3:V) (ds:FA Df) (xs:FA V) (H':Hp),H' t= ~~~[.ref r,v2,v3]->H' r= ~~~xs->cV H' ds xs->1<=ο ds->ο ds<=8->∀ns,wX ds ns->n8 H' ds ns->Lz H' ds v2 v3->ar H' p->aA p H H'->Q (.ref t) H')
def gn:al z42z z2z (ae tU):=bP
noncomputable def Zu:gO:=#[.function,[(".0",.local),("_law_one",.local),("_law_number",.globalImplicit),("_law_box_here",.free)],ξ,ξ,[]]
def yz:(["_law_one","_law_box_here"]:FA ρ).Nodup:=P8
def xA:a5 z42z (ae tU) Zu ["_law_one","_law_box_here"] 1 [0]:=pe
def C5(F:Fr K "_law_case" tU f fd)(M:{1} fT f0 z0z aZ "_law_take")(cN:{2} fN f3 z2z iG "_law_number")(cY:{4} fY f4 z2z ny "_law_busy")(cZ:{22} fZ f5 z34z uu "_law_any")(ml:mg "len"=ι)(m0:mg "tuple"=ι):⇑23 f fd z2z nB:=by
 erw[F.ok gn λc0 A o0 s H vs Q E y h=>?_]
 let(p,rfl,B,q):=h;erw[_,%[gn|_cmu Kg M.e y.m _a0ajbjw _ _ce1 cY.e y.m _a0bdkfa1ahlI1jpafa M.e y.m _a0ajbbbsce2lyqajajajajb M.e y.m _a0ajbpce1 cZ.e y.m _a0anυj M.e y.m _a0a2bajbcYlI1 M.e y.m _a0aCψg ml _σa1bbpS (n:=3) _gti3ti4ti5κdkfa1a3aFοgβιa (@km _ _ _ _ _ _ _ ["_law_one","_law_box_here"] 1 [0] _ _ _ _ Z (qe$ pv 4) xA (λ_ _ _ _ _=>jr (i:=0) yz Z$ Θ Z) (λ_ _ _ _ _=>@kG _) (λ_ _ _ _ _=>cN.e y.m %[gn|_a1b]) FO) _bb],?_];let b0:=aI;erw[aj λF1 a=>sF λG1 g1=>#[12,p,3,Z,B,Ra,Ra,λd1 H1 a0 a1 B1 e1=>#[112212,g1 _ _ ?_]]];let k1:aA p H H1:=aA.of_eq e1;erw[cf (λc=>?_) (λc=>a _ _ ?_)]
 .erw[aj λF2 f2=>#[12,p,Z,B1,λr ds xs H2 N C hl ns D b O B2 k2=>f2 _ _ ?_]];let ln:=C.len;let(nr,rfl):=O;cases ds with
  |nil=>cases hl
  |cons d r0=>
  let(p0,R,S,_):=b.2 0 d 1 Z Z;let h0:=C;obtain⟨u0,rr,rfl,⟨bs,rfl,hp,_⟩,_⟩:=h0;let g:dQ (Fa d.p::rr) 0=δ (.ref d.p):=fV;erw[12,ju N g #[d.p,11122,aC.of hp,fV,12,p,6,Z,B2,Ra,Ra,λd3 H3 d0 d4 B3 e3=>?_]];let c3:aA p H2 H3:=aA.of_eq e3;erw[l7,λu nu=>#[ip,λt U=>?_]];let s4:aa H3 (af (af H3 u$ .tup [.int d3]) t$ .tup [.ref r,.str d.f,.ref u]):=(je nu).trans (je U);let T:=(c3.tm B2).trans (aa.tm s4);rwa[q t r _ _ _ _ _ jc (T _ _ N) (C.mono T) P' P' _ D (b.mono T) #[d,p0,u,[d3],Sa,Z,T _ _ R,Z,ap jc U,by rw[S];rfl,(by show 1<=100;decide),λi hi=>by rw[τ.mp hi];omega] (B3.same s4) ((k1.trans k2).trans$ c3.trans$ aA.of_same s4)]
 erw[aj λF1 a=>#[wW,λl W=>#[12,p,4,Z,B1.upd_new W,Ra,Ra,λd2 H2 d6 d7 B2 e2=>?_]]];let k2:aA p H1 H2:=((aA.refl).upd_new W).trans (aA.of_eq e2);let(m,g,m3,m8):=K' d6 d7;erw[l,11122,aE.of (by rw[e2 l$ B1.ne W];rwa[jc]),g,a _ _ ?_];erw[aj λF1 a=>#[121212,p,m,Z,B2,P',P',λd3 H3 d0 d4 B3 e3=>#[1122,p,1+d3,(12),Z,B3,P',P',Ra,Ra,λr ds xs H4 G C hl ns D b B4 k4=>a _ _ ?_]]];let ln:=C.len;let K4:aA p H H4:=(k1.trans k2).trans ((aA.of_eq e3).trans k4);erw[aj λF1 a=>#[121212,r,12,.inr$ aC.of G,p,12,B4,P',P',λd5 H5 d8 d' B5 e5=>?_]];let c5:aA p H4 H5:=aA.of_eq e5;let o:=c5.tm B4;let(d,g,hd,bs,e,hp,_):=Gg (C.mono o) d8 d';erw[r,11122,aC.of$ o _ _ G,g,d.p,12,aC.of hp,21121121122,a _ _ ?_];let(pv,X,h4):=b.v d hd;let z:=o _ _ X;erw[121212,d.pa,Z,#[_,aC.of z],?_];erw[Jc (K:=K) (xs:=pv.map Cv) (by rw[RJ];omega) (λi L J=>(∃I:FA Int,L=I.map Da/\ο I=i/\∀j∈I,0<=j/\j < 1000000000000000000)/\ar J p/\aA p H5 J) #[#[[],22,(λ_ h=>nomatch h)],B5,aA.refl] (λi L J k=>?_) (λi x L J hx k=>?_) (λL J k l W=>?_)]
 .exact#[aC.of$ k.2.2.tm B5 _ _ z,let #[I,e,l,_]:=k.1;by rw[e,RJ,l];rwa[RO _]]
 .exact#[12,p,Z,k.2.1,λe H7 e0 e1 B7 e7=>#[let #[I,h1,l,h2]:=k.1;#[I++[e],by rw[h1,RP];rfl,by rw[RN,l];rfl,JK h2 #[e0,e1]],B7,k.2.2.trans$ aA.of_eq e7]]
 .erw[#[l,12,.inl #[aE.of jc,λl2 n0=>#[ip,λt U=>?_]]]];let s7:aa J (af (af (af J l$ .lst L) l2$ .tup L) t$ .tup [.ref r,.str d.f,.ref l2]):=((je W).trans$ je n0).trans (je U);let T:=o.trans ((k.2.2.tm B5).trans$ aa.tm s7);let(I,hz,Y,h3):=k.1;rw[RJ]at Y;rwa[q t r _ _ ds xs _ jc (T _ _ G) (C.mono T) P' P' ns D (b.mono T) #[d,pv,l2,I,hd,Z,T _ _ X,Z,by rw[<- hz];rwa[ap jc U],Y,P',h3] (k.2.1.same s7) (K4.trans$ c5.trans$ k.2.2.trans$ aA.of_same s7)]
abbrev mV:de:=bN 12
abbrev ni:de:=bN 13
abbrev bf:=FA (a9×V)
def g9(x:Int):Prop:=0<=x/\x < 1000000000000000000
def GT(k:bf):Prop:=∀p∈k,∃i,p.2= .int i/\g9 i
def GT.nil:GT []:=λ_ h=>absurd h Sz
def GT.put(h:GT a)(k:a9)(H:g9 i):GT (a6 a k$ .int i):=by
 intro p hp;unfold a6 at hp;split at hp
 .let(q,b,rfl):=β.mp hp;by_cases e:q.1=k
  .rw[RV e];rwa[i,Z,H]
  .rw[RU e];rwa[h q b]
 .rcases ψ.mp hp with hp |hp
  .rwa[h p hp]
  .rw[τ.mp hp];rwa[i,Z,H]
def GT.val(h:GT a)(e:bV a k=δ v):∃i,v= .int i/\g9 i:=by unfold bV at e;let(p,H,rfl):=cJ.mp e;rwa[h p$ List.mem_of_find?_eq_some H]
def look(a:bf)(k:a9)(z:Int):Int:=match bV a k with
 |some (.int i)=>i
 |_=>z
def Qp(h:GT a)(k:a9)(z:Int):(bV a k).getD (.int z)= .int (look a k z):=by
 unfold look;cases e:bV a k with
 |none=>rfl
 |some v=>let(i,rfl,_):=h.val e;rfl
def vI(h:GT a)(e:bV a k=δ v)(z:Int):v= .int (look a k z):=by unfold look;let(i,rfl,_):=h.val e;rw[e]
def vH(e:bV a k=ι)(z:Int):look a k z=z:=by unfold look;rw[e]
def KF(h:GT a)(H:g9 z):g9 (look a k z):=by
 unfold look;cases e:bV a k with
 |none=>rwa[H]
 |some v=>let(i,rfl,b):=h.val e;rwa[b]
def KG:g9 0:=#[Ra,Ra]
noncomputable def jn(i:Nat)(x y:Int):Int:=match i with
 |0=>(x+y) % 1000000000000000000
 |1=>(x - y) % 1000000000000000000
 |2=>x*y % 1000000000000000000
 |3=>if y=0 then 0 else x / y
 |4=>if x < y then 1 else 0
 |_=>if x=y then 1 else 0
noncomputable def Tm.ev(k:bf):Tm->Int
 | .num n=>n
 | .var x=>look k (.inr x) 0
 | .op i a b=>jn i (a.ev k) (b.ev k)
def Mt(H:g9 x)(c:g9 y):g9 (jn i x y):=by
 let a:(1000000000000000000:Int)≠0:=Ra
 let b:(0:Int) < 1000000000000000000:=Ra
 match i with
 |0 |1 |2=>rwa[Tn _ a,SU _ b]
 |3=>
  show g9 (if y=0 then 0 else x / y);by_cases h:y=0
  .rw[RV h];rwa[Ra,Ra]
  .rw[RU h];let e:=c.1;let d:0 < y:=by omega
   erw[Int.ediv_nonneg H.1 N09,Int.lt_of_le_of_lt ?_ H.2];rwa[Int.ediv_le_self _ H.1]
 |4=>show g9 (if x < y then 1 else 0);split<;>rwa[Ra,Ra]
 |n+5=>show g9 (if x=y then 1 else 0);split<;>rwa[Ra,Ra]
theorem Ki(g:GT k):∀{t:Tm},t.Good y->g9 (t.ev k)
 | .num _,h=>h
 | .var x,_=>KF g KG
 | .op _ _ _,h=>Mt (Ki g h.2.1) (Ki g h.2.2)
inductive lJ(b:FA V)(H:Hp)(Q:VK)(a:XK):Prop
 |mk(i:Nat)(x y:Int)(_:b=[.str (OF i),.int x,.int y])(_:i < 6)(_:g9 x)(_:g9 y)(_:Q (.int (jn i x y)) H)
def Pa(K:γ)(H:Hp)(T:Tm)(a:η):Prop:=bu H T a∨(T= .num 0/\aC K H a [.str "num",.int 0])
inductive cQ(K:γ)(n:Nat)(e:FA V)(H:Hp)(Q:VK)(b:XK):Prop
 |mk(a d:η)(T:Tm)(f:FA ρ)(c:bf)(_:e=[.ref a,.ref d])(_:Pa K H T a)(_:T.depth < n)(_:T.Good f)(_:H d=δ (.dK c))(_:GT c)(_:Q (.int (T.ev c)) H)
def AY:al z23z z23z (ae mV):=bP
def vX(F:Fr K "joined" mV f b)(m:mg "TOP"=δ (.int 1000000000000000000 t)):⇑1 f b z23z lJ:=by
 erw[F.ok AY (λe A o s H d Q E r h=>?_)]
 let(i,x,y,rfl,u,g,j,q):=h;erw[_,%[Z|_cmr0dkn zp _nυ12 (Jw (v:=.int 1000000000000000000) Z m #[12]) _scmr0dkn zp _nε12 (Jw (v:=.int 1000000000000000000) Z m #[12]) _scmr0dkn zp _n zI _12 (Jw (v:=.int 1000000000000000000) Z m #[12]) _scmr0dkUB2jn Qn _12scmr0dkUu Xd _12w _ _jjsdkUu Jd _12w _ _jj],?_];let(k,l):=g;let(n,p):=j;rcases(P':i=0∨i=1∨i=2∨i=3∨i=4∨i=5) with rfl |rfl |rfl |rfl |rfl |rfl
 .erw[#[12212,cw P8 ?_]];rwa[121211221122,(by show(0:Int) < 1000000000000000000;decide),q]
 .erw[#[12212,aW P8 ?_]];erw[12212,cw P8 ?_];rwa[121211221122,(by show(0:Int) < 1000000000000000000;decide),q]
 .erw[#[12212,aW P8 ?_]];erw[12212,aW P8 ?_];erw[12212,cw P8 ?_];rwa[12121122,.inl #[P',P'],1122,(by show(0:Int) < 1000000000000000000;decide),q]
 .erw[#[12212,aW P8 ?_]];erw[12212,aW P8 ?_];erw[12212,aW P8 ?_];erw[12212,cw P8 ?_];let a:Q (.int (if y=0 then 0 else x / y)) H:=q;erw[12212,?_];refine cf (λc=>?_) (λc=>?_)
  .let C:Da y=Da 0:=SF c;injection C with C;rw[RV C]at a;rwa[a]
  .let C:y≠0:=λz=>c (by rw[z];rfl);rw[RU C]at a;rwa[12121122,#[P',P'],a]
 .erw[#[12212,aW P8 ?_]];erw[12212,aW P8 ?_];erw[12212,aW P8 ?_];erw[12212,aW P8 ?_];erw[12212,cw P8 ?_];let a:Q (.int (if x < y then 1 else 0)) H:=q;erw[1212112212,?_];refine cf (λc=>?_) (λc=>?_)
  .rw[RV$ SF c]at a;rwa[a]
  .rw[RU$ Vh$ mS.mpr c]at a;rwa[a]
 .erw[#[12212,aW P8 ?_]];erw[12212,aW P8 ?_];erw[12212,aW P8 ?_];erw[12212,aW P8 ?_];erw[12212,aW P8 ?_];let a:Q (.int (if x=y then 1 else 0)) H:=q;erw[1212212,?_];refine cf (λc=>?_) (λc=>?_)
  .let C:Da x=Da y:=SF c;injection C with C;rw[RV C]at a;rwa[a]
  .let C:x≠y:=λz=>c (by rw[z];rwa[R0 Z]);rw[RU C]at a;rwa[a]
def D7:al z10z z10z (ae ni):=bP
def yW(F:Fr K "worth" ni f p)(C:{n+1} f p z10z (cQ K n) "worth")(v:{1} R B z23z lJ "joined"):⇑(n+2) f p z10z (cQ K$ n+1):=by
 erw[F.ok D7 (λD A o s H V Q E j h=>?_)]
 let(a,d,T,y,c,rfl,t,I,g,l,G,q):=h;erw[_,%[Z|_cmrh0dkh0scmrh0dk (@JH _ _ _ _ _ _ _ _ _ (zh j) (pv 1) (jz$ pv 0) jf #[P7,P7,P7,P7]) _sdk v.e j.m _ah0a C.e j _ah0a1ba C.e j _ah0a1bb],?_];cases T with
 |num m=>
  let b:aC K H a [.str "num",.int m]:=t.elim (λh=>aC.of h) λz=>by cases z.1;rwa[z.2]
  erw[12,a,11122,b,2212,cw P8 ?_];rwa[12,a,11122,b,Z,q]
 |var x=>
  let b:H a= ~~~[.str "var",.str x]:=t.resolve_right λz=>by cases z.1
  erw[(ju b Z #[212,aW P8 ?_])];erw[(ju b Z #[212,cw P8 ?_])];erw[12,d,Z,.inl #[c,.inl l],ju b Z #[_,gg.k (k:=Sum.inr x) l,?_]];rw[Qp G];rwa[q]
 |op i r u=>
  let(J,L,b,M,N):=t.resolve_right λz=>by cases z.1
  let O:max r.depth u.depth+1 < n+1:=I;erw[(ju b Z #[212,aW P8 ?_])];erw[(ju b Z #[212,aW P8 ?_])];erw[(ju b Z ?_)];erw[(ju b Z #[12,J,d,r,y,c,Z,.inl M,P',g.2.1,l,G,?_])];erw[(ju b Z #[12,L,d,u,y,c,Z,.inl N,P',g.2.2,l,G,?_])];rwa[i,112,g.1,Ki G g.2.1,Ki G g.2.2,q]
def yG:⇑1 f e z10z (cQ K 0):=by
 let n:∀v H Q E,¬cQ K 0 v H Q E:=λv H Q E h=>by let(a,d,T,y,k,_,_,c,_):=h;rwa[absurd c$ Uv _]
 rwa[λv H Q E h=>absurd h (n v H Q E),λA o s H b u v Q E _ _ _ _ h=>absurd h (n v H Q E)]
theorem BN(F:Fr K "worth" ni f a)(b:ax K a z10z [])(m:mg "worth"=↑f)(c:{1} e d z23z lJ "joined"):
  ∀n:Nat,⇑(n+1) f a z10z (cQ K n)
 |0=>yG
 |n+1=>yW F #[(BN F b m c n),b,F.kp,m] c
def TV(H:Hp)(y:FA ρ)(t:η)(T:Tm):Prop:=bu H T t/\dM y T
def TV.mono(k:am H a)(h:TV H y t T):TV a y t T:=#[h.1.mono k,h.2]
inductive Gl where
 |give (t:η) (T:Tm) |nought |go (n:Nat)
structure WD where
 sets:FA (ρ×η×Tm)
 goal:Gl
noncomputable def Gl.gol(N:η):Gl->ND
 | .give t _=>.give t
 | .nought=>.give N
 | .go n=>.go (n:Int)
def WD.wy(n:η)(w:WD):Wy:=#[w.sets.map λs=>(s.1,s.2.1),w.goal.gol n]
def LD(H:Hp)(y:FA ρ)(m:Nat):Gl->Prop
 | .give t T=>TV H y t T
 | .nought=>True
 | .go n=>n < m
structure BV(H:Hp)(ys:FA ρ)(m N:Nat)(w:WD):Prop where
 sets:∀s∈w.sets,TV H ys s.2.1 s.2.2
 len:ο w.sets<=N
 goal:LD H ys m w.goal
def oj(H:Hp)(y:FA ρ)(n:η)(m N:Nat)(w:Wy):Prop:=∃d:WD,d.wy n=w/\BV H y m N d
def O0(F:iW)(H:Hp)(y:FA ρ):Dd->Prop
 | .st p=>∃(l:Lf) (v:FA V),H p= ~~~v/\Cc H l v/\l.Ok y/\l.isCut=μ/\l.Cs F
 | .ask t=>∃T,TV H y t T
noncomputable def Dd.ways:Dd->Nat
 | .st _=>1
 | .ask _=>2
structure BZ(F:iW)(H:Hp)(ys:FA ρ)(nA:η)(m N:Nat)(c:Ct):Prop where
 mem:∀x,c.M x->x∈ys
 deed:O0 F H ys c.d
 ways:∀w∈c.ws,oj H ys nA m N w
 len:ο c.ws=c.d.ways
structure BU(H:Hp)(ys:FA ρ)(nA:η)(m N:Nat)(pc:Pc):Prop where
 mem:∀x,pc.M x->x∈ys
 way:oj H ys nA m N pc.w
section
variable {F:iW}{H H':Hp}{ys:FA ρ}{nA:η}{m N N':Nat}
def LD.mono(k:am H H')(h:LD H ys m g):LD H' ys m g:=by
 cases g with
 |give t T=>rwa[TV.mono k h]
 |nought=>trivial
 |go n=>rwa[h]
def BV.mono(k:am H H'){w:WD}(h:BV H ys m N w):BV H' ys m N w:=#[λs a=>(h.sets s a).mono k,h.len,h.goal.mono k]
def oj.up(a:N<=N'){w:Wy}(h:oj H ys nA m N w):oj H ys nA m N' w:=by let(d,e,v):=h;rwa[d,e,v.sets,Sf v.len a,v.goal]
def BZ.up(a:N<=N')(h:BZ F H ys nA m N c):BZ F H ys nA m N' c:=#[h.mem,h.deed,λw b=>(h.ways w b).up a,h.len]
def BU.up(a:N<=N')(h:BU H ys nA m N p):BU H ys nA m N' p:=#[h.mem,h.way.up a]
def ZD{n:Nat}(a:k=(n:Int))(b:n < m):oj H ys nA m N #[[],.go k]:=#[#[[],.go n],by rw[a];rfl,(λ_ h=>absurd h Sz),R4 _,b]
theorem K0:∀(b:Bd) {X:FA V} {g:Pc} {fs:FA Ct} {N:Nat},dZ H b X->b.Ok ys->b.Cs F->BU H ys nA m N g->(∀c∈fs,BZ F H ys nA m N c)->ο fs+b.cuts<=m->
  BU H ys nA m (N+b.size) (pB (m:Int) b g fs).1/\∀c∈(pB (m:Int) b g fs).2,BZ F H ys nA m (N+b.size) c
 | .nil,_,_,_,_,_,_,_,o,y,_=>#[o,y]
 | .lf p l r,X,g,fs,N,C,i,k,o,y,D=>by
  let(vs,zs,_,h1,I,h3):=C;let E:ο fs+(l.cut+r.cuts)<=m:=D;let(R,A):=K0 r h3 i.2 k.2 o y P';let hl:=kH (m:Int) r g fs;let S:N+r.size<=N+(r.size+1):=P'
  let j:=Lf.use_in i.1 R.mem;let J:l.isCut=μ->l.cut=1->BU H ys nA m (N+(r.size+1)) #[l.use (pB (m:Int) r g fs).1.M,#[[],.go ((m:Int) - ((pB (m:Int) r g fs).2.length:Int) - 1)]]/\∀c∈(pB (m:Int) r g fs).2++[#[l.use (pB (m:Int) r g fs).1.M,.st p,[(pB (m:Int) r g fs).1.w]]],BZ F H ys nA m (N+(r.size+1)) c:=λG h0=>
   #[#[j,ZD (n:=m - (ο fs+r.cuts) - 1) (by rw[hl];rwa[N09]) N09],λc L=>by
    rcases ψ.mp L with z |z
    .exact(A c z).up S
    .rw[τ.mp z];rwa[j,#[l,vs,h1,I,i.1,G,k.1],λw hw=>by rw[τ.mp hw];rwa[R.way.up S],Z]]
  show BU H ys nA m (N+(r.size+1)) (pL (m:Int) p l$ pB (m:Int) r g fs).1/\∀c∈(pL (m:Int) p l$ pB (m:Int) r g fs).2,BZ F H ys nA m (N+(r.size+1)) c;cases l with
  |gv t T=>rwa[#[j,#[#[[],.give t T],Z,(λ_ h=>absurd h Sz),R4 _,I.2,i.1]],λc G=>(A c G).up S]
  |st x t T=>
   erw[#[j,?_],λc G=>(A c G).up S];show oj H ys nA m _ (lh x t (pB (m:Int) r g fs).1);unfold lh;split
   .let(d,e,v):=R.way;erw[#[(x,t,T)::d.sets,d.goal],by rw[<- e];rfl,λs hs=>?_,TY v.len,v.goal];rcases ω.mp hs with rfl |hs
    .exact#[I.2,i.1.2]
    .rwa[v.sets s hs]
   .rwa[R.way.up S]
  |rd x t T |wr t u T U |cl x f q ts=>rwa[J Z Z]
 | .ite p t T a c r,X,g,fs,N,C,i,k,o,y,D=>by
  let(qa,qb,as,bs,zs,_,g1,O,g2,g3,Q,g5,W):=C;let E:ο fs+(1+a.cuts+c.cuts+r.cuts)<=m:=D;let(R,A):=K0 r W i.2.2.2 k.2.2 o y P';let B:=kH (m:Int) r g fs;let(c1,c2):=K0 c g5 i.2.2.1 k.2.1 R A P';let h4:=kH (m:Int) c (pB (m:Int) r g fs).1 (pB (m:Int) r g fs).2;let(Y,a2):=K0 a Q i.2.1 k.1 (R.up$ UN _ _) c2 P';let S:N+r.size+c.size+a.size<=N+(a.size+c.size+r.size+1):=P'
  let j:∀x,(Bd.ite p t T a c .nil).use (pB (m:Int) r g fs).1.M x->x∈ys:=Bd.use_in #[i.1,i.2.1,i.2.2.1,trivial] R.mem;let hk:(m:Int) - ((pB (m:Int) r g fs).2.length:Int) - ((Bd.ite p t T a c .nil).cuts:Int)=((m - (ο fs+r.cuts) - (1+a.cuts+c.cuts):Nat):Int):=by show(m:Int) - _ - ((1+a.cuts+c.cuts+0:Nat):Int)=_;rw[B];rwa[N09]
  unfold pB;dsimp only;erw[#[j,ZD hk N09],λe he=>?_];rcases ψ.mp he with z |z
  .exact(a2 e z).up S
  .rw[τ.mp z];erw[j,#[T,O,i.1],λw hw=>?_,Z];rcases ω.mp hw with rfl |hw
   .rwa[Y.way.up S]
   .rw[τ.mp hw];rwa[c1.way.up (by show _<=N+(a.size+c.size+r.size+1);omega)]
 | .loop p t T a r,X,g,fs,N,C,i,k,o,y,D=>by
  let(qa,as,zs,_,g1,O,g2,Q,W):=C;let E:ο fs+(1+a.cuts+r.cuts)<=m:=D;let(R,A):=K0 r W i.2.2 k.2 o y P';let B:=kH (m:Int) r g fs;let j:∀x,(Bd.loop p t T a .nil).use (pB (m:Int) r g fs).1.M x->x∈ys:=Bd.use_in #[i.1,i.2.1,trivial] R.mem;let hk:(m:Int) - ((pB (m:Int) r g fs).2.length:Int) - ((Bd.loop p t T a .nil).cuts:Int)=((m - (ο fs+r.cuts) - (1+a.cuts):Nat):Int):=by show(m:Int) - _ - ((1+a.cuts+0:Nat):Int)=_;rw[B];rwa[N09]
  let pl:BU H ys nA m (N+r.size) #[(Bd.loop p t T a .nil).use (pB (m:Int) r g fs).1.M,#[[],.go ((m:Int) - ((pB (m:Int) r g fs).2.length:Int) - ((Bd.loop p t T a .nil).cuts:Int))]]:=#[j,ZD hk N09];let(Y,a2):=K0 a Q i.2.1 k.1 pl A P';let S:N+r.size+a.size<=N+(a.size+r.size+1):=P'
  unfold pB;dsimp only;erw[pl.up (by show _<=N+(a.size+r.size+1);omega),λe he=>?_];rcases ψ.mp he with z |z
  .exact(a2 e z).up S
  .rw[τ.mp z];erw[j,#[T,O,i.1],λw hw=>?_,Z];rcases ω.mp hw with rfl |hw
   .rwa[Y.way.up S]
   .rw[τ.mp hw];rwa[R.way.up (by show _<=N+(a.size+r.size+1);omega)]
end
def b6(n:η)(d:Df):FA Ct:=(iD n d).2.reverse
def rH(n:η)(d:Df):(b6 n d).length=d.b.cuts:=by unfold b6;rw[Wk];exact(kH _ _ _ _).trans (UL _)
def Fj{nA:η}{d:Df}(f:dZ H d.b B)(g:d.b.Ok y):BU H y nA d.b.cuts d.b.size (iD nA d).1/\∀c∈b6 nA d,BZ d.b.calls H y nA d.b.cuts d.b.size c:=by let p:BU H y nA d.b.cuts 0 (Oy nA):=#[λx i=>absurd i Sz,#[[],.nought],Z,(λ_ h=>absurd h Sz),RO _,trivial];let(a,e):=K0 (m:=d.b.cuts) d.b f g (zQ d.b) p (fs:=[]) (λ_ h=>absurd h Sz) (by show 0+_<=_;omega);rw[UL]at a e;rwa[a,λc j=>e c (List.mem_reverse.mp j)]
def XE{M:ρ->Prop}{y:FA ρ}(h:∀x,M x->x∈y):(canon M).length<=ο y:=by
 by_cases e:∃s,Nm s M
 .let(s,H):=e;rw[<- H.canon];rwa[H.len h]
 .unfold canon;rw[dif_neg e];rwa[R4 _]
noncomputable def dh:FA (ρ×η×Tm)->bf->bf
 | [],k=>k
 |s::r,k=>dh r (a6 k (.inr s.1) (.int (s.2.2.ev k)))
def eU(N:η)(d:Df)(n:Nat):FA ρ:=match (b6 N d)[n]? with
 |some c=>canon c.M
 |none=>[]
def yr(N:Nat->FA ρ)(k:bf):Gl->Tr
 | .give _ T=>aJ [a7 "give",aH (T.ev k)]
 | .nought=>aJ [a7 "give",aH 0]
 | .go n=>aJ [a7 "go",aH (n:Int),aJ ((N n).map λx=>aH (look k (.inr x) 0))]
theorem JC{H:Hp}{ys:FA ρ}:∀{ss:FA (ρ×η×Tm)} {k:bf},(∀s∈ss,TV H ys s.2.1 s.2.2)->GT k->GT (dh ss k)
 | [],_,_,g=>g
 |s::r,k,h,g=>JC (H:=H) (ys:=ys) (ss:=r) (λS a=>h S (Sd _ a)) (g.put _ (Ki g (h s Sa).2.1))
def wz{S:FA (ρ×η×Tm)}:∀{i:Nat} {s:ρ×η×Tm} {k:bf},S[i]?=δ s->dh (S.take$ i+1) k=a6 (dh (S.take i) k) (.inr s.1) (.int$ s.2.2.ev$ dh (S.take i) k):=by
 induction S with
 |nil=>intro i s k h;simp at h
 |cons a r I=>
  intro i s k h;cases i with
  |zero=>cases h;rfl
  |succ i=>rwa[I (h:)]
def qk{kvs:bf}{k:a9}{v:V}:(a6 kvs k v).length<=ο kvs+1:=by
 unfold a6;split
 .rw[RJ];rwa[SY _]
 .rw[RN];rwa[RO _]
theorem YX:∀{ss:FA (ρ×η×Tm)} {k:bf},(dh ss k).length<=ο k+ο ss
 | [],_=>RO _
 |s::r,k=>by let h:=YX (ss:=r) (k:=a6 k (.inr s.1) (.int$ s.2.2.ev k));let H:=qk (kvs:=k) (k:=.inr s.1) (v:=.int (s.2.2.ev k));show(dh r _).length<=ο k+(ο r+1);omega
def bn(n:FA ρ)(i:FA Int):bf:=dF [] ((n.map Sum.inr).zip$ i.map Da)
theorem YY:∀{m:bf} {k:bf},GT k->GT m->GT (dF k m)
 | [],_,g,_=>g
 |p::r,k,g,h=>by
  let(i,e,H):=h p Sa;let E:a6 k p.1 p.2=a6 k p.1 (.int i):=by rw[e]
  show GT (dF (a6 k p.1 p.2) r);rw[E];rwa[YY (g.put _ H) λq a=>h q (Sd _ a)]
def Qj(h:∀i∈I,g9 i):GT (bn n I):=by erw[YY GT.nil λp H=>?_];let(i,a,e):=β.mp (V1 H).2;rwa[i,e.symm,h i a]
def uU{ns:FA ρ}{is:FA Int}:(bn ns is).length<=ο ns:=by let h:=Ji ((ns.map Sum.inr).zip$ is.map Da) [];rw[WL,RJ]at h;show(dF [] _).length<=_;let H:(dF [] ((ns.map Sum.inr).zip$ is.map Da)).length<=0+min ns.length (is.map Da).length:=h;omega
abbrev pZ:de:=bN 23
abbrev mQ:de:=bN 24
abbrev gF:de:=bN 28
abbrev mP:de:=bN 29
abbrev i7:de:=bN 30
abbrev mY:de:=bN 31
structure oe(H:Hp)(nA:η)(d:Df)(ys:FA ρ)(v:V):Prop where
 tr:aT H (fX nA d) v []
 bd:∃bs,dZ H d.b bs
 ok:d.b.Ok ys
 y20:ys.length<=20
 sz:d.b.size<=3000
structure LC(H:Hp)(nA:η)(d:Df)(ys:FA ρ)(c:Ct)(ka na wa:η)(dv:V)(wvs:FA V):Prop where
 at':H ka= ~~~[.ref na,dv,.ref wa]
 nms:H na= ~~~((canon c.M).map Cv)
 deed:aT H (NM c.d) dv []
 wat:H wa= ~~~wvs
 ways:aT H (aG$ c.ws.map iK) .non wvs
 v:BZ d.b.calls H ys nA d.b.cuts d.b.size c
theorem uN:∀{S:FA ρ} {v:FA V},aT H (aG$ S.map a7) .non v->v=S.map Cv
 | [],v,h=>h
 |s::S,v,h=>by obtain⟨_,_,y,Y,rfl,⟨rfl,_⟩,a⟩:=h;rw[uN a];rfl
section
variable {H H':Hp}{nA:η}{d:Df}{ys:FA ρ}{v:V}
def oe.mono(k:am H H')(h:oe H nA d ys v):oe H' nA d ys v:=#[h.tr.mono k,let #[b,a]:=h.bd;#[b,a.mono k],h.ok,h.y20,h.sz]
inductive oep(H:Hp)(nA:η)(d:Df)(v:V):Prop|mk(a c W C:_)(_:v= .ref a)(_:H a= ~~~[.str d.f,.ref d.pa,W,.ref c])(_:aT H (iK (iD nA d).1.w) W [])(_:H c= ~~~C)(_:aT H (aG ((b6 nA d).map Ma)) .non C)
def oe.parts(h:oe H nA d ys v):oep H nA d v:=by obtain⟨_,a,x,rfl,i,_,_,n,Y,rfl,⟨rfl,_⟩,_,_,o,j,rfl,⟨rfl,_⟩,_,_,W,k,rfl,l,_,_,p,y,rfl,m,e⟩:=h.tr;let e:y=[]:=e;subst e;let(_,c,C,rfl,b,g):=m;rwa[a,c,W,C,Z,i,l,b,g]
def oe.cut{C:FA V}(h:oe H nA d ys v)(a:aT H (aG ((b6 nA d).map Ma)) .non C){n:Nat}{c:Ct}(g:(b6 nA d)[n]?=δ c):∃k N i D W,C[n]?=↑k/\LC H nA d ys c k N i D W:=by
 let L:=zu a;rw[RJ]at L;let u:n < ο C:=by rw[L];exact(ν.mp g).1
 let j:C[n]?=δ C[n]:=RI u;let(T,b,t):=Jn a n _ j;rw[RX,g]at b;cases b;let(B,y):=h.bd;let z:=(Fj (nA:=nA) y h.ok).2 c (Sc g);generalize C[n]=x at j t;let(_,k,E,rfl,l,_,_,F,G,rfl,m,_,_,D,I,rfl,o,_,_,J,A,rfl,p,e):=t;let e:A=[]:=e;subst e;let(_,N,M,rfl,f,q):=m;let(_,i,W,rfl,r,s):=p;rw[uN q]at f;rwa[k,N,i,D,W,j,l,f,o,r,s,z]
def oe.way(h:oe H nA d ys v):oj H ys nA d.b.cuts d.b.size (iD nA d).1.w:=by let(B,a):=h.bd;rwa[(Fj (nA:=nA) a h.ok).1.way]
def yD(h:(b6 nA d)[n]?=δ c):eU nA d n=canon c.M:=by unfold eU;rw[h]
end
structure Ob(H:Hp)(nA:η)(w:WD)(wa sa ga:η)(ss:FA V)(wd:ρ)(u:V):Prop where
 at':H wa= ~~~[.ref sa,.ref ga]
 sat:H sa= ~~~ss
 sets:∀(i:Nat) (x:V),ss[i]?=δ x->∃(s:ρ×η×Tm) (p:η),w.sets[i]?=δ s/\x= .ref p/\H p= ~~~[.str s.1,.ref s.2.1]
 len:ο ss=ο w.sets
 gat:H ga= ~~~[.str wd,u]
 goal:match w.goal with
  | .give t _=>wd="give"/\u= .ref t
  | .nought=>wd="give"/\u= .ref nA
  | .go n=>wd="go"/\u= .int (n:Int)
def Eo{w:WD}(h:aT H (iK$ w.wy N) v []):∃(l S G:η) (A:FA V) (W:ρ) (u:V),v= .ref l/\Ob H N w l S G A W u:=by
 obtain⟨_,r,X,rfl,C,_,_,y0,D,rfl,⟨_,s,c,rfl,E,m⟩,_,_,Y,y,rfl,b,e⟩:=h;let e:y=[]:=e;subst e;let L:=zu m;let st:∀(i:Nat) (x:V),c[i]?=δ x->∃(s:ρ×η×Tm) (p:η),w.sets[i]?=δ s/\x= .ref p/\H p= ~~~[.str s.1,.ref s.2.1]:=λi x F=>by let(tr,o,I):=Jn m i x F;rw[RX]at o;let(q,J,rfl):=cJ.mp o;let a:(w.sets.map λs=>(s.1,s.2.1))[i]?=δ q:=J;rw[RX]at a;let(z,M,rfl):=cJ.mp a;obtain⟨_,p,X,rfl,O,_,_,Q,R,rfl,⟨rfl,_⟩,_,_,U,B,rfl,⟨rfl,_⟩,e⟩:=I;let e:B=[]:=e;subst e;rwa[z,p,M,Z,O]
 let ln:ο c=ο w.sets:=by rw[L,RJ];rwa[RJ ..]
 let f:∀g:Gl,w.goal=g->aT H (CN$ g.gol N) Y []->∃(G:η) (W:ρ) (u:V),Y= .ref G/\H G= ~~~[.str W,u]/\match g with
  | .give t _=>W="give"/\u= .ref t
  | .nought=>W="give"/\u= .ref N
  | .go n=>W="go"/\u= .int (n:Int):=λg _ b=>by
  cases g with
  |give t T |nought |go n=>obtain⟨_,gl,X,rfl,d,_,_,Q,R,rfl,⟨rfl,_⟩,_,_,U,B,rfl,⟨rfl,_⟩,e⟩:=b;let e:B=[]:=e;subst e;rwa[gl,112,d,22]
 let(G,W,u,rfl,j,k):=f w.goal Z b;rwa[r,s,G,c,W,u,Z,C,E,st,ln,j,k]
inductive ls(b:η)(e:FA V)(H:Hp)(Q:VK)(a:XK):Prop
 |mk(v:V)(n:Nat)(d:Df)(f:FA ρ)(c:Ct)(_:e=[v,.int (n:Int)])(_:oe H b d f v)(_:(b6 b d)[n]?=δ c)(_:∀(ka na wa:η) (dv:V) (wvs:FA V),LC H b d f c ka na wa dv wvs->Q (.ref ka) H)
inductive lI(f:η)(g:FA V)(H:Hp)(Q:VK)(a:XK):Prop
 |mk(v:V)(n:Nat)(b:η)(d:Df)(h:FA ρ)(c:Ct)(e:FA Int)(_:g=[v,.int (n:Int),.ref b])(_:oe H f d h v)(_:(b6 f d)[n]?=δ c)(_:H b= ~~~(e.map Da))(_:ο e=(canon c.M).length)(_:∀dd:η,H dd=ι->Q (.ref dd) (af H dd (.dK (bn (canon c.M) e))))
def sJ:∀(s:FA ρ),(s.map (Sum.inr:ρ->a9)).map kV=s.map Cv:=λs=>by rw[Ts];rfl
def D5:al ["part","n"] ["part","n"] (ae pZ):=bP
def yJ{f:η}{g:dN}{N:η}(F:Fr K "cut_at" pZ f g):⇑1 f g ["part","n"] (ls N):=by
 erw[F.ok D5 λl A o s H V Q E B h=>?_]
 let(v,n,d,y,c,rfl,i,m,q):=h;erw[_,%[Z|_dklIh01p],?_];let(a,p,I,J,rfl,r,L,b,e):=i.parts;let(t,u,x,D,W,z,C):=i.cut e m;rwa[12,a,11122,aC.of r,jO (j:=3) Z,12,p,11122,aC.of b,jO z,q t u x D W C]
def AX:al z13z z13z (ae mQ):=bP
def vW(F:Fr K "held_at" mQ f g)(i:{1} J j ["part","n"] (ls N) "cut_at")(m:mg "dict"=ι)(a:mg "zip"=ι):⇑2 f g z13z (lI N):=by
 erw[F.ok AX λp A o s H V Q E r h=>?_]
 let(v,n,b,d,y,c,I,rfl,t,u,x,z,q):=h;erw[_,%[Z|_dk (@tE _ _ _ _ _ _ _ _ Z m Z a Z %[Z|_alI i.e r _a0a1bjpa2b] P7 P7 P7 P7)],?_];erw[1212,v,n,d,y,c,Z,t,u,λB D O R W C=>#[B,11122,aC.of C.at',fV,12,D,b,(canon c.M).map Sum.inr,12,by rw[sJ];rwa[aC.of C.nms],aC.of x,by rw[RJ,RJ,z],λl G=>q l G]]
inductive Wh where
 |rd (a i:Int) |wr (a b:Int) |ask (b:Int) |cl (f:ρ) (is:FA Int) (i:Int)
def FP(H:Hp)(u:V):Wh->Prop
 | .rd a i=>∃p,u= .ref p/\H p= ~~~[.str "read",.int a,.int i]
 | .wr a b=>∃p,u= .ref p/\H p= ~~~[.str "write",.int a,.int b]
 | .ask b=>∃p,u= .ref p/\H p= ~~~[.str "ask",.int b]
 | .cl f I i=>∃p c g e,u= .ref p/\H p= ~~~[.str "call",.ref c]/\H c= ~~~[.str f,.ref g,e,.int i]/\H g= ~~~(I.map Da)
def FP.mono{H d:Hp}(k:am H d){u:V}{w:Wh}(h:FP H u w):FP d u w:=by
 cases w with
 |rd a i |wr a b |ask b=>let(p,e,h):=h;rwa[p,e,k _ _ h]
 |cl f I i=>let(p,c,g,e,E,j,l,m):=h;rwa[p,c,g,e,E,k _ _ j,k _ _ l,k _ _ m]
inductive DD where
 |st (p:η) (l:Lf) |ask (t:η) (T:Tm)
noncomputable def DD.dd:DD->Dd
 | .st p _=>.st p
 | .ask t _=>.ask t
def Ew(H:Hp)(y:FA ρ):DD->Prop
 | .st p l=>∃v,H p= ~~~v/\Cc H l v/\l.Ok y/\l.isCut=μ
 | .ask t T=>TV H y t T
def Ew.mono(k:am H a)(h:Ew H y d):Ew a y d:=by
 cases d with
 |st p l=>let(v,b,c,e):=h;rwa[v,k _ _ b,c.mono k,e]
 |ask t T=>rwa[TV.mono k h]
def DD.Cs(F:iW):DD->Prop
 | .st _ l=>l.Cs F
 | .ask _ _=>True
def Me{F:iW}(h:O0 F H y d):∃e:DD,e.dd=d/\Ew H y e/\e.Cs F:=by
 cases d with
 |st p=>let(l,v,a,b,c,f,g):=h;rwa[.st p l,Z,#[v,a,b,c,f],g]
 |ask t=>let(T,h):=h;rwa[.ask t T,Z,h,trivial]
def NB:DD->Wh->Prop
 | .st _ (.rd _ _ _),.rd _ i=>g9 i
 | .st _ (.wr _ _ _ _),.wr _ _=>True
 | .st _ (.cl _ _ _ _),.cl _ _ i=>g9 i
 | .ask _ _,.ask b=>b=0∨b=1
 |_,_=>False
def wT(d:DD)(w:Wh)(k:bf):bf:=match d,w with
 | .st _ (.rd x _ _),.rd _ i | .st _ (.cl x _ _ _),.cl _ _ i=>a6 k (.inr x) (.int i)
 |_,_=>k
noncomputable def Wh.side:Wh->Nat
 | .ask b=>if b=0 then 1 else 0
 |_=>0
def xY(Q:VK)(H:Hp):Wh->Prop
 | .rd _ i | .cl _ _ i=>Q (.int i) H
 |_=>False
inductive fq(b:FA V)(H:Hp)(Q:VK)(a:XK):Prop
 |mk(u:V)(w:Wh)(_:b=[u])(_:FP H u w)(_:xY Q H w)
inductive oI(c:η)(e:FA V)(H:Hp)(Q:VK)(a:XK):Prop
 |mk(v f:V)(b:η)(d:Df)(g:FA ρ)(w:WD)(k:bf)(_:e=[v,f,.ref b])(_:oe H c d g v)(_:aT H (iK (w.wy c)) f [])(_:BV H g d.b.cuts d.b.size w)(_:H b=δ (.dK k))(_:GT k)(_:ο k<=200)(_:∀(u:V) (H':Hp),aT H' (yr (eU c d) (dh w.sets k) w.goal) u []->aA b H H'->Q u H')
inductive EI(c:η)(a:_L.St)(j:FA (ρ×η×Tm))(k:bf)(H:Hp)(i:Nat)(l:_L.St)(b:Hp):Prop
 |mk(g h:FC V)(d:l=a++[g,h,ι,ι])(e:b c=δ (.dK (dh (j.take i) k)))(f:aA c H b)
theorem KH{H:Hp}:∀{is:FA Int},aT H (aG$ is.map aH) .non (is.map Da)
 | []=>rfl
 |i::is=>jp Z zg (KH (is:=is))
def mw:al ["what"] ["what"] (ae gF):=bP
def yL(F:Fr K "found_in" gF f n):⇑1 f n ["what"] fq:=by
 erw[F.ok mw λC A o s H v Q E t h=>?_]
 let(u,W,rfl,d,q):=h;erw[_,%[Z|_dkUrh0hlI0jplI0Z qw _jp],?_];cases W with
 |rd a i=>let(p,rfl,l):=d;exact(ju l fV #[212,aW P8 #[1212,p,11122,aC.of l,Z,q]])
 |cl f I i=>let(p,c,g,e,rfl,m,r,_):=d;exact(ju m fV #[212,cw P8$ ju m hZ #[c,11122,aC.of r,jO (j:=3) Z,q]])
 |wr a b |ask b=>rwa[q.elim]
def gJ:al ["part","way","numbers","name","term","goal","held"] ["part","way","numbers"] (ae mP):=bP
noncomputable def rn:gO:=#[.function,[(".0",.local),("name",.local),("numbers",.free)],ξ,ξ,[]]
def CW:(["name","numbers"]:FA ρ).Nodup:=P8
def Cr:a5 ["part","way","numbers","name","term","goal","held"] (ae mP) rn ["name","numbers"] 1 [2]:=pe
def yK(F:Fr K "end_of" mP f fd)(cC:{1} fC f2 ["part","n"] (ls U) "cut_at")(cW:{7} fW f3 z10z (cQ K 6) "worth")(m0:mg "tuple"=ι)(no:pw K U):⇑8 f fd ["part","way","numbers"] (oI U):=by
 erw[F.ok gJ λc0 A o0 s H vs Q E Y h=>?_]
 let(v,w1,D,d,ys,O,k,rfl,hp,hw,wv,hd,gk,hk,q):=h;erw[_,%[gJ|_cDOgTh1S (n:=2) _gti3ti4κdπK Y _23 cW.e Y.m _a4a2bgce5h1cmrh5dkfaoa cW.e Y.m _ah5a2bbsc (@Jy _ _ _ _ _ _ _ _ _ _ 6 ["name","numbers"] 1 [2] _ _ _ _ gJ.nd Z (Θ Z) Z %[gJ|_TlI cC.e Y.m _a0ah5bjp] Cr (λ_ _ _ _ _=>jr (i:=0) CW Z$ Θ Z) (λ_ _ _ _ _=>@kG _) (λ_ _ _ _ _=>@JH _ _ _ _ _ _ _ _ _ (zh Y) (pv 1) (pv 0) jf #[P7,P7,P7,P7]) P7 FL FO) _dkfaoah5aFοgβιa6bb],?_];let b0:=aI;let(wa,sa,ga,ss,wd,u,rfl,W):=Eo hw;let R:∀g,aA D H g->am H g:=λg k b xs e=>k b _ (jQ e hd FI) e;let h2:=hp.sz;let h3:=wv.len;erw[aj λF1 C=>db λJ j=>(ju W.at' fV #[sa,Z,#[_,aC.of W.sat],j _ _ ?_])];erw[qQ (K:=K) (xs:=ss) (EI D [δ v,↑wa,↑D] O.sets k H) #[112,hd,aA.refl] (λi σ g _ h=>?_) ?_ (λσ g h=>C _ _ ?_)]
 .let(_,_,_,_,I):=h;rwa[aC.of$ R _ I _ _ W.sat]
 .intro E _ i x σ H1 hx f0 Gq kq h;let(o3,o4,rfl,L,I):=h;let(s,p,hs,rfl,h0):=W.sets i x hx;let S:=R _ I;let tv:=(wv.sets s$ Sc hs).mono S;let g1:GT (dh (O.sets.take i) k):=JC (H:=H) (ys:=ys) (λs hs=>wv.sets s (Tj hs)) gk;let l1:=YX (ss:=O.sets.take i) (k:=k);rw[Se]at l1;erw[kq ?_];erw[p,12,aC.of$ S _ _ h0,21121122,?_];erw[1212,s.2.1,D,s.2.2,ys,12,.inl tv.1,tv.2.2,tv.2.1,L,g1,1212,D,12,.inl #[_,.inr s.1,L,Z,P',Z],f0 _ _ #[112,?_,λc o X e=>by rw[jh X];rwa[I c o X e]]];rw[wz hs];rwa[jc]
 .let(o3,o4,rfl,L,I):=h;rw[W.len,Su]at L;let S:=R _ I;let g1:GT (dh O.sets k):=JC (H:=H) (ys:=ys) wv.sets gk;let B:=wv.goal;let a:=W.goal;generalize dh O.sets k=N at L g1 q;erw[aj λF1 C=>(ju (S _ _ W.at') hZ$ C _ _ ?_)];let G:=S _ _ W.gat;erw[aj λF1 C=>iX λG1 k3 k0=>(ju G fV #[212,?_])];let give:∀(t:η) (T:Tm),wd="give"->u= .ref t->Pa K g T t->dM ys T->(∀(u':V) (H9:Hp),aT H9 (aJ [a7 "give",aH$ T.ev N]) u' []->aA D H H9->Q u' H9)->G1 (decide$ Cv wd=Cv "give") g:=by intro t T e1 e2 x1 x2 x3;subst e1;subst e2;rw[R0 Z];erw[k3 _$ ju G hZ #[12,t,D,T,ys,N,Z,x1,x2.2,x2.1,L,g1,b8,λr nr=>?_]];exact x3 _ _ (jM jc$ jp Z kh$ jp Z zg jH) λc o X e=>je nr _ _ (I c o X e)
  cases hg:O.goal with
  |give t T=>rw[hg]at B a q;rwa[give t T a.1 a.2 (.inl$ B.1.mono S) B.2 q]
  |nought=>rw[hg]at a q;rwa[give U (.num 0) a.1 a.2 (.inr #[Z,no _]) #[#[Ra,Ra],Ra] q]
  |go n=>
   rw[hg]at B a q;let(e1,e2):=a;subst e1;subst e2;let hn:n < (b6 U d).length:=by rw[rH];rwa[B]
   obtain⟨c,hc⟩:∃c,(b6 U d)[n]?=δ c:=#[_,RI hn];let e0:decide (Cv "go"=Cv "give")=ξ:=P8
   rw[e0];erw[k0 _$ C _ _ ?_];erw[aj λF1 C=>#[12,ju G hZ #[v,n,d,ys,c,Z,hp.mono S,hc,λka na w2 dv w3 ca=>#[ka,11122,aC.of ca.at',fV,na,Z,#[_,aC.of ca.nms],?_]]]];let cl:=Sf (XE ca.v.mem) hp.y20;let q:∀(u:V) (g:Hp),aT g (aJ [a7 "go",aH (n:Int),aJ ((eU U d n).map λx=>aH (look N (.inr x) 0))]) u []->aA D H g->Q u g:=q;rw[yD hc]at q;erw[Jc (K:=K) (xs:=(canon c.M).map Cv) (by rw[RJ];omega) (λi zs Hx=>zs=((canon c.M).take i).map (λx=>Da (look N (.inr x) 0))/\Hx=g) #[22] (λi zs Hx h=>?_) (λi x zs Hx hx h=>?_) (λzs Hx h l nl=>C _ _ ?_)]
   .let(rfl,rfl):=h;rwa[aC.of ca.nms,by rw[RJ,Se];omega]
   .let(rfl,rfl):=h;rw[RX]at hx;let(y,hy,rfl):=cJ.mp hx;erw[12,D,Z,.inl #[N,.inl L],121,gg.k (k:=Sum.inr y) L,?_,Z];rw[Qp g1,SG,hy,RP];rfl
   .let(rfl,rfl):=h;rw[RJ,Su];erw[(ju (je nl _ _ G) hZ #[12,l,12,.inl #[aE.of jc,λtl n0=>#[ip,λr nr=>?_]]])];erw[q _ _ (jM jc$ jp Z kh$ jp Z zg$ jp Z (jM (ap jc nr) ?_) jH) λc' o X e=>je nr _ _ (je n0 _ _$ je nl _ _$ I c' o X e)];let:=KH (H:=af (af (af Hx l$ .lst ((canon c.M).map (λx=>Da (look N (.inr x) 0)))) tl$ .tup ((canon c.M).map (λx=>Da (look N (.inr x) 0)))) r (.tup [.str "go",.int (n:Int),.ref tl])) (is:=(canon c.M).map λx=>look N (.inr x) 0);rw[Ts,Ts]at this;rwa[this]
structure og(H:Hp)(nA:η)(d:Df)(ys:FA ρ)(v:V)(sa:η)(n:Nat)(hv:η)(uw:V)(c:Ct)(is:FA Int)(wh:Wh)(e:DD)(wd:WD):Prop where
 prt:oe H nA d ys v
 at':H sa= ~~~[.int (n:Int),.ref hv,uw]
 cut:(b6 nA d)[n]?=δ c
 hat:H hv= ~~~(is.map Da)
 hl:ο is=(canon c.M).length
 hin:∀i∈is,g9 i
 whv:FP H uw wh
 ed:e.dd=c.d
 dv:Ew H ys e
 fit:NB e wh
 way:c.ws[wh.side]?=δ (wd.wy nA)
 wdv:BV H ys d.b.cuts d.b.size wd
def og.mono(k:am H a)(h:og H N d y v s n b u c i f e g):og a N d y v s n b u c i f e g:=
 #[h.prt.mono k,k _ _ h.at',h.cut,k _ _ h.hat,h.hl,h.hin,h.whv.mono k,h.ed,h.dv.mono k,h.fit,h.way,h.wdv.mono k]
def Ox(n:η)(d:Df)(c:Ct)(i:FA Int)(a:Wh)(e:DD)(W:WD):Tr:=yr (eU n d) (dh W.sets$ wT e a$ bn (canon c.M) i) W.goal
inductive gM(e:η)(g:FA V)(H:Hp)(Q:VK)(a:XK):Prop
 |mk(v:V)(b:η)(d:Df)(h f:FA ρ)(c:FA Int)(w:WD)(_:g=[v,.ref b])(_:oe H e d h v)(_:H d.pa= ~~~(f.map Cv))(_:ο f<=100)(_:H b= ~~~(c.map Da))(_:ο c=ο f)(_:∀i∈c,g9 i)(_:w.wy e=(iD e d).1.w)(_:BV H h d.b.cuts d.b.size w)(_:∀(u:V) (H':Hp),aT H' (yr (eU e d) (dh w.sets (bn f c)) w.goal) u []->aa H H'->Q u H')
inductive Bi(g:η)(j:FA V)(H:Hp)(Q:VK)(a:XK):Prop
 |mk(v i:V)(h b:η)(n:Nat)(d:Df)(m:FA ρ)(c:Ct)(f:FA Int)(l:Wh)(e:DD)(k:WD)(_:j=[v,.ref h])(_:og H g d m v h n b i c f l e k)(_:∀(u:V) (H':Hp),aT H' (Ox g d c f l e k) u []->aa H H'->Q u H')
def xo(h:NB e a)(g:GT k):GT (wT e a k):=by
 unfold wT;split
 .rwa[g.put _ h]
 .rwa[g.put _ h]
 .rwa[g]
def Cn{e:DD}{wh:Wh}{k:bf}:(wT e wh k).length<=ο k+1:=by
 unfold wT;split
 .rwa[qk]
 .rwa[qk]
 .rwa[SY _]
def wA:al ["part","args"] ["part","args"] (ae i7):=bP
def pT(F:Fr K "first_of" i7 f I)(J:{8} fE L ["part","way","numbers"] (oI T) "end_of")(M:mg "dict"=ι)(b:mg "zip"=ι):⇑9 f I ["part","args"] (gM T):=by
 erw[F.ok wA λR A O s H vs Q E U h=>?_]
 let(v,x,d,y,p,is,z,rfl,C,g,V,i,n,r,t,W,q):=h;erw[_,%[Z|_dk J.e U.m _a0ah0a (@tE _ _ _ _ _ _ _ _ Z M Z b Z %[Z|_ah0a1b] P7 P7 P7 P7) _b],?_];let(a,ca,X,cs,rfl,D,G,Y,h0):=C.parts;rw[<- t]at G;erw[1212,a,11122,aC.of D,jO (j:=2) Z,ju D hZ #[12,d.pa,x,p.map Sum.inr,12,by rw[sJ];rwa[aC.of g],aC.of i,by rw[RJ,RJ,n],λl N=>?_]];let S:aa H (af H l$ .dK$ bn p is):=je N;let zl:=uU (ns:=p) (is:=is);rwa[.ref a,X,l,d,y,z,bn p is,Z,C.mono$ aa.tm S,G.mono$ aa.tm S,W.mono$ aa.tm S,jc,Qj r,P',λu H' tu k=>q u H' tu λc o e=>k c o (jk e N) (S _ _ e)]
def fi:al ["part","step","cut","numbers","what","way"] ["part","step"] (ae mY):=bP
def wb{f:η}{fd:dN}{nA fC fD fF fE:η}{f0 f3 f4 f5:dN}(F:Fr K "onward" mY f fd)(cC:{1} fC f0 ["part","n"] (ls nA) "cut_at")(cD:{2} fD f3 z13z (lI nA) "held_at")(cF:{1} fF f4 ["what"] fq "found_in")(cE:{8} fE f5 ["part","way","numbers"] (oI nA) "end_of"):⇑9 f fd ["part","step"] (Bi nA):=by
 erw[F.ok fi λc0 A o1 s H vs Q E hr h=>?_]
 symm;let(v,L,Y,hv,n,d,ys,c,is,wh,e,wd,rfl,C,q):=h;erw[_,%[fi|_ce2 cC.e hr.m _a0ah1bce3 cD.e hr.m _a0ah1ah1bce4h1cmu zG _h4faoaobgdπKP3hlI2jp cF.e hr.m _a4bgsce5Uu (Ih$ zh hr) _4faoajbw _ _hlI2jphlI2jpdk cE.e hr.m _a0a5a3b],?_];let b0:=aI;symm;let(a,ca,wv,cs,rfl,ha,hw,a0,a1):=C.prt.parts;let h0:=C.at';sleep 5;erw[aj λF1 J=>#[12,ju h0 fV #[_,n,d,ys,c,Z,C.prt,C.cut,λka na wa dv w0 cu=>J _ _ ?_]]];left;erw[aj λF1 J=>#[12,ju h0 fV$ ju h0 hZ #[_,n,hv,d,ys,c,is,Z,C.prt,C.cut,C.hat,C.hl,λD n0=>J _ _ ?_]]];left;let s1:aa H (af H D$ .dK$ bn (canon c.M) is):=je n0;let d1:af H D (.dK$ bn (canon c.M) is) D=δ (.dK$ bn (canon c.M) is):=jc;generalize af H D (.dK$ bn (canon c.M) is)=H1 at s1 d1;let O:=C.mono (aa.tm s1);let g0:GT (bn (canon c.M) is):=Qj C.hin;let z0:=uU (ns:=canon c.M) (is:=is);let z1:=XE cu.v.mem;let z2:=C.prt.y20;generalize h7:bn (canon c.M) is=k0 at d1 g0 z0;erw[aj λF1 J=>#[12,Y,11122,aC.of O.at',jO (j:=2) Z,J _ _ ?_]];left;let o0:Ox nA d c is wh e wd=yr (eU nA d) (dh wd.sets$ wT e wh k0) wd.goal:=by unfold Ox;rw[h7]
 rw[o0]at q;let h1:=zu cu.ways;rw[RJ]at h1;let G:∃x,w0[wh.side]?=δ x/\aT H (iK$ wd.wy nA) x []:=by
  let hj:wh.side < ο w0:=by rw[h1];exact(ν.mp C.way).1
  symm;let(tr,ht,tx):=Jn cu.ways wh.side _ (RI hj);rw[RX,C.way]at ht;cases ht;rwa[_,RI hj,tx]
 symm;let(wx,G,t0):=G;let h4:=cu.at';let h8:=cu.wat;erw[aj λF1 J=>?_];let r0:∀(H3:Hp),H3 D=δ (.dK$ wT e wh k0)->aA D H1 H3->F1 [↑a,↑Y,↑ka,↑D,δ L,ι] H3:=by
  intro H3 h3 k3;erw[J _ _ ?_];left;let s3:aa H H3:=λc o x=>k3 c o (jk x n0) (s1 _ _ x);let l3:=Cn (e:=e) (wh:=wh) (k:=k0);erw[aj λF2 f2=>?_];let f6:∀H4,aa H3 H4->F2 [↑a,↑Y,↑ka,↑D,δ L,δ wx] H4:=λH4 s4=>f2 _ _ (by
   let S:=s3.trans s4;rwa[121212,.ref a,wx,D,d,ys,wd,12,C.prt.mono$ aa.tm S,t0.mono$ aa.tm S,C.wdv.mono$ aa.tm S,s4 _ _ h3,xo C.fit g0,P',λu R tu k=>q u R tu λc o x=>k c o (jk x n0) (S _ _ x)])
  left;let wk:=C.whv.mono (aa.tm s3);let dX:∀(H4:Hp) (j:Nat),aa H3 H4->w0[j]?=δ wx->eW (dY K) (eW (dY K) (ba 2)$ tC$ .int 2) (tC$ .int (j:Int)) [↑a,↑Y,↑ka,↑D,δ L,ι] H4 λx H5=>F2 ([↑a,↑Y,↑ka,↑D,δ L,ι].set 5 (δ x)) H5:=λH4 j s4 hj=>
   #[12,ka,11122,aC.of ((s3.trans s4) _ _ h4),jO (j:=2) Z,wa,11122,aC.of ((s3.trans s4) _ _ h8),jO hj,f6 H4 s4]
  symm;cases wh with
  |rd a' i |wr a' b=>let(p,rfl,B):=wk;rwa[12,b8,λt N=>#[p,t,1122,aC.of$ je N _ _ B,aC.of jc,.inl #[2212,aW (by unfold xQ;rwa[Wa _])$ dX _ 0 (je N) G]]]
  |ask b=>
   let(p,rfl,B):=wk;let hb:b=0∨b=1:=by
    let:=C.fit;symm;cases e with
    |st p l=>cases l<;>rwa[this.elim]
    |ask t T=>rwa[this]
   rcases hb with rfl |rfl
   .exact#[12,b8,λt N=>#[p,t,1122,aC.of$ je N _ _ B,aC.of jc,.inl #[2212,cw P8$ dX _ 1 (je N) G]]]
   .exact#[12,b8,λt N=>#[p,t,1122,aC.of$ je N _ _ B,aC.of jc,.inl #[2212,aW P8$ dX _ 0 (je N) G]]]
  |cl f' i0 i=>let(p,c',g,e',rfl,B,h',_):=wk;rwa[12,b8,λt N=>#[p,t,1122,aC.of$ je N _ _ B,aC.of jc,.inr #[_,c',1112,aC.of$ je N _ _ h',212,aW Z$ dX _ 0 (je N) G]]]
 let wk:=O.whv;let dk:=O.dv;let fk:=O.fit;let h5:=s1 _ _ h4;let d0:=cu.deed;rw[<- C.ed]at d0;let skip:∀(p:η) (W:ρ) (r:FA V),L= .ref p->H1 p= ~~~(.str W::r)->sG (.str W) [.str "read",.str "call"]=ξ->wT e wh k0=k0->gY (mG$ eW (MX K ξ) (eW (dY K) (ba 4)$ tC$ .int 0)$ cn$ ao (tC$ .str "read")$ ao (tC$ .str "call") aR) (tV (ba 3) (eW (dY K) (eW (dY K) (ba 2)$ tC$ .int 1)$ tC$ .int 1)$ eV fq [] E0$ ao (ba 4) aR) Bt { nx:=F1,rt:=Q } [↑a,↑Y,↑ka,↑D,δ L,ι] H1:=by intro p W r I B e2 e3;subst I;erw[iX λG1 k1 k2=>(ju B fV #[b8,λt N=>#[t,12,.inr$ aC.of jc,2212,?_]])];show G1 (sG (.str W) [.str "read",.str "call"]) _;rw[e2];rwa[k2 _$ r0 _ (by rw[e3];rwa[ap d1 N]) λc o _ x=>je N _ _ x]
 let p0:∀(p p':η) (W:ρ) (r:FA V) (i:Int) (x:ρ) (y:V) (r':FA V),L= .ref p->H1 p= ~~~(.str W::r)->sG (.str W) [.str "read",.str "call"]=μ->dv= .ref p'->H1 p'= ~~~(y:: .str x::r')->(∀R:Hp,aa H1 R->FP R L wh)->(∀(Q':VK) (R:Hp),Q' (.int i) R->xY Q' R wh)->wT e wh k0=a6 k0 (.inr x) (.int i)->gY (mG$ eW (MX K ξ) (eW (dY K) (ba 4)$ tC$ .int 0)$ cn$ ao (tC$ .str "read")$ ao (tC$ .str "call") aR) (tV (ba 3) (eW (dY K) (eW (dY K) (ba 2)$ tC$ .int 1)$ tC$ .int 1)$ eV fq [] E0$ ao (ba 4) aR) Bt { nx:=F1,rt:=Q } [↑a,↑Y,↑ka,↑D,δ L,ι] H1:=by intro p p' W r i x y r' I B e2 e4 X e5 e6 e3;subst I;subst e4;erw[iX λG1 k1 k2=>(ju B fV #[b8,λt N=>#[t,12,.inr$ aC.of jc,2212,?_]])];show G1 (sG (.str W) [.str "read",.str "call"]) _;rw[e2];erw[k1 _ #[12,.ref p,wh,Z,e5 _$ je N,e6 _ _ ?_]];rwa[12,ju (je N _ _ h5) hZ #[p',11122,aC.of$ je N _ _ X,hZ,D,12,.inl #[k0,.inr x,ap d1 N,Z,P',Z],r0 _ (by rw[e3];rwa[jc]) λc o nc z=>by rw[jh nc];rwa[je N _ _ z]]]
 symm;cases e with
 |ask t T=>
  cases wh with
  |ask b=>let(p,I,B):=wk;rwa[skip p _ _ I B P8 Z]
  |_=>rwa[fk.elim]
 |st p' l=>
  let(vs,X,h6,_):=dk;let ed:dv= .ref p':=d0.1;cases l with
  |rd x t T=>
   cases wh with
   |rd b i=>let(p,I,B):=wk;let(rfl,_):=h6;rwa[p0 p p' _ _ i x _ _ I B P8 ed X (λR s'=>#[p,I,s' _ _ B]) (λ_ _ h=>h) Z]
   |_=>rwa[fk.elim]
  |wr t u T U=>
   cases wh with
   |wr b i=>let(p,I,B):=wk;rwa[skip p _ _ I B P8 Z]
   |_=>rwa[fk.elim]
  |cl x f' q' ts=>
   cases wh with
   |cl f2 i1 i=>let(p,c2,g2,e2,I,B,h2,h3):=wk;let(rfl,_):=h6;rwa[p0 p p' _ _ i x _ _ I B P8 ed X (λR s'=>#[p,c2,g2,e2,I,s' _ _ B,s' _ _ h2,s' _ _ h3]) (λ_ _ h=>h) Z]
   |_=>rwa[fk.elim]
  |st x t T |gv t T=>cases wh<;>rwa[fk.elim]
abbrev iP:de:=bN 25
abbrev mN:de:=bN 26
def Mf(k:bf):DD->Tr
 | .st _ (.rd _ _ T)=>aJ [a7 "read",aH (T.ev k)]
 | .st _ (.wr _ _ T U)=>aJ [a7 "write",aH (T.ev k),aH (U.ev k)]
 | .st _ (.cl _ f _ t)=>aJ [a7 "call",a7 f,aJ (t.map λc=>aH (c.2.ev k))]
 | .ask _ T=>aJ [a7 "ask",aH (if T.ev k=0 then 0 else 1)]
 |_=>.nil
inductive gL(g:η)(h:FA V)(H:Hp)(Q:VK)(a:XK):Prop
 |mk(v:V)(n:Nat)(b:η)(d:Df)(j:FA ρ)(c:Ct)(f:FA Int)(e:DD)(_:h=[v,.int (n:Int),.ref b])(_:oe H g d j v)(_:(b6 g d)[n]?=δ c)(_:H b= ~~~(f.map Da))(_:ο f=(canon c.M).length)(_:∀i∈f,g9 i)(_:e.dd=c.d)(_:Ew H j e)(_:∀(u:V) (H':Hp),aT H' (Mf (bn (canon c.M) f) e) u []->aa H H'->Q u H')
inductive gW(f:FA V)(H:Hp)(Q:VK)(b:XK):Prop
 |mk(a d:η)(e:FA (η×Tm))(g:FA ρ)(k:bf)(_:f=[.ref a,.ref d])(_:H a= ~~~(e.map λc=>Fa c.1))(_:ο e<=6)(_:∀c∈e,bu H c.2 c.1/\dM g c.2)(_:H d=δ (.dK k))(_:GT k)(_:∀(r:η) (H':Hp),H' r= ~~~(e.map λc=>Da (c.2.ev k))->aa H H'->Q (.ref r) H')
def A7:al ["terms","numbers"] ["terms","numbers"] (ae iP):=bP
noncomputable def rq:gO:=#[.function,[(".0",.local),("term",.local),("worth",.globalImplicit),("numbers",.free)],ξ,ξ,[]]
def CY:(["term","numbers"]:FA ρ).Nodup:=P8
def Cu:a5 ["terms","numbers"] (ae iP) rq ["term","numbers"] 1 [1]:=pe
def we(F:Fr K "worths" iP f v)(C:{7} U B z10z (cQ K 6) "worth")(M:mg "tuple"=ι):⇑8 f v ["terms","numbers"] gW:=by
 erw[F.ok A7 λG A o s H R Q E I h=>?_]
 let(a,D,t,g,k,rfl,p,W,b,J,L,q):=h;erw[_,%[Z|_dkFοg M _ιa (@km _ _ _ _ _ _ _ ["term","numbers"] 1 [1] _ _ _ _ Z (qe$ pv 0) Cu (λ_ _ _ _ _=>jr (i:=0) CY Z$ Θ Z) (λ_ _ _ _ _=>@kG _) (λ_ _ _ _ _=>C.e I.m %[Z|_a0a1b]) FO) _b],?_];let N:=aI;erw[12,a,Z,#[_,aC.of p],?_];erw[Jc (K:=K) (xs:=t.map λc=>Fa c.1) (by rw[RJ];omega) (λi z d=>z=(t.take i).map (λc=>Da (c.2.ev k))/\d=H) #[22] (λi z d h=>?_) (λi x z d r h=>?_) (λz d h l O=>?_)]
 .let(rfl,rfl):=h;rwa[aC.of p,by rw[RJ,Se];omega]
 .let(rfl,rfl):=h;rw[RX]at r;let(y,u,rfl):=cJ.mp r;let Y:=Sc u;erw[1212,y.1,D,y.2,g,k,Z,.inl (b y Y).1,(b y Y).2.2,(b y Y).2.1,J,L,?_,Z];rw[SG,u,RP];rfl
 .let(rfl,rfl):=h;rw[RJ,Su];rwa[l,12,.inl #[aE.of jc,λT n=>q T _ jc ((je O).trans$ je n)]]
def gI:al ["part","n","held","numbers","deed","word"] z13z (ae mN):=bP
def vS(F:Fr K "deed_at" mN f fd)(cH:{2} fH f0 z13z (lI nA) "held_at")(cC:{1} fC f2 ["part","n"] (ls nA) "cut_at")(cW:{7} fW f3 z10z (cQ K 6) "worth")(cS:{8} fS f4 ["terms","numbers"] gW "worths"):⇑9 f fd z13z (gL nA):=by
 erw[F.ok gI λc0 A o0 s H vs Q E L h=>?_]
 let(v,n,hv,d,Y,c,is,e,rfl,hp,hc,hh,hl,h0,h1,h2,q):=h;erw[_,%[gI|_ce3 cH.e L.m _a0a1a2bce4lI cC.e L.m _a0a1bjpce5h4cmr5dkfa5aUu Jd cW.e L.m _ah4a3bjw _ _jjbscmr5dkfa5ah4a cS.e L.m _ah4a3bbscmr5dkfa5a cW.e L.m _ah4a3bbsdknWfa5b cS.e L.m _aAα4xjQa3b],?_];let b0:=aI;let(a,ca,p0,cs,rfl,ha,_,h7,h8):=hp.parts;erw[aj λi b=>#[121212,.ref a,n,hv,d,Y,c,is,Z,hp,hc,hh,hl,λC n0=>b _ _ ?_]];let S:aa H (af H C$ .dK$ bn (canon c.M) is):=je n0;let O:af H C (.dK$ bn (canon c.M) is) C=δ (.dK$ bn (canon c.M) is):=jc;show dq _ _ _ _ (af H C$ .dK$ bn (canon c.M) is);generalize af H C (.dK$ bn (canon c.M) is)=H1 at S O;let V:GT (bn (canon c.M) is):=Qj h0;generalize bn (canon c.M) is=k at O V q;let dk:=h2.mono (aa.tm S);erw[aj λi b=>#[1212,.ref a,n,d,Y,c,Z,hp.mono$ aa.tm S,hc,λka na wa dv w0 cu=>#[ka,11122,aC.of cu.at',hZ,b _ _ ?_]]];let D:=cu.deed;rw[<- h1]at D;cases e with
 |ask t T=>
  obtain⟨_,p,xs,rfl,g,_,_,y0,z0,rfl,⟨rfl,_⟩,_,_,y1,z1,rfl,⟨rfl,_⟩,e⟩:=D;let e:z1=[]:=e;subst e;erw[aj λi b=>(ju g fV$ b _ _ ?_)];erw[aj λi b=>#[12212,cw P8 #[12,ju g hZ #[12,t,C,T,Y,k,Z,.inl dk.1,dk.2.2,dk.2.1,O,V,212,?_]]]];by_cases z:T.ev k=0
  .erw[cw (by rw[z];decide+kernel) #[b8,λr G=>q _ _ (jM jc$ jp Z kh$ jp Z #[?_,Z] jH) (S.trans$ je G)]];rw[RV z]
  .erw[aW (by rw[RW];intro e;injection e with e;rwa[z e]) #[b8,λr G=>q _ _ (jM jc$ jp Z kh$ jp Z #[?_,Z] jH) (S.trans$ je G)]];rw[RU z]
 |st p l=>
  let ed:dv= .ref p:=D.1;subst ed;let(vs,g,I,B,h3):=dk;cases l with
  |rd x t T=>let(rfl,ht):=I;erw[aj λi b=>(ju g fV$ b _ _ ?_)];erw[aj λi b=>#[12212,aW P8$ b _ _ ?_]];erw[aj λi b=>#[12212,aW P8$ b _ _ ?_]];erw[aj λi b=>#[12212,cw P8 #[1212,p,11122,aC.of g,jO (j:=2) Z,12,t,C,T,Y,k,Z,.inl ht,B.2.2,B.2.1,O,V,b8,λr G=>?_]]];rwa[q _ _ (jM jc$ jp Z kh$ jp Z zg jH)$ S.trans$ je G]
  |wr t u T U=>
   let(rfl,ht,hu):=I;erw[aj λi b=>(ju g fV$ b _ _ ?_)];erw[aj λi b=>#[12212,aW P8$ b _ _ ?_]];erw[aj λi b=>#[12212,aW P8$ b _ _ ?_]];erw[aj λi b=>#[12212,aW P8$ b _ _ ?_]];erw[12,l7,λr1 N=>#[12,1,Z,p,12,je N _ _ g,λr2 H2 J R=>#[12,r2,C,[(t,T),(u,U)],Y,k,Z,J,(by show 2<=6;decide),?_,R _ _$ je N _ _ O,V,λr3 H3 h4 s3=>#[r1,r3,1122,s3 _ _$ R _ _ jc,h4,ip,λr4 H4 h5 s4=>?_]]]]
   .intro y W;let X:=(je (o:=.tup [.str "write"]) N).trans R;simp only[Ua,Sz,V4]at W;rcases W with rfl |rfl
    .exact#[ht.same X,B.1]
    .exact#[hu.same X,B.2]
   .rwa[q _ _ (jM h5$ jp Z kh$ jp Z zg$ jp Z zg jH)$ S.trans ((je N).trans$ R.trans$ s3.trans s4)]
  |cl x f' qa ts=>let(rfl,hq,h6):=I;erw[aj λi b=>(ju g fV$ b _ _ ?_)];erw[aj λi b=>#[12212,aW P8$ b _ _ ?_]];let l6:ο ts<=6:=B.2.1;erw[aj λi b=>#[12212,cw P8 #[1212,p,11122,aC.of g,jO (j:=2) Z,12,p,11122,aC.of g,jO (j:=3) Z,12,qa,C,ts,Y,k,Z,hq,l6,λy W=>#[h6 y W,B.2.2 y W],O,V,λr2 H2 J R=>#[ip,λr G=>?_]]]];erw[q _ _ (jM jc$ jp Z kh$ jp Z kh$ jp Z (jM (ap J G) ?_) jH)$ S.trans$ R.trans$ je G];let:=KH (H:=af H2 r (.tup [.str "call",.str f',.ref r2])) (is:=ts.map λc=>c.2.ev k);rw[Ts,Ts]at this;rwa[this]
  |st x t T |gv t T=>cases h3
abbrev mW:de:=bN 17
abbrev pX:de:=bN 18
abbrev mO:de:=bN 19
abbrev AQ:de:=bH (bN 20) 0
abbrev re:de:=bH (bN 20) 1
abbrev AR:de:=bH (bN 20) 2
abbrev mZ:de:=bN 22
def Lp(H:Hp)(x:V)(g:ρ):Prop:=∃p r,x= .ref p/\H p= ~~~(.str g::r)
inductive nJ(c:FA V)(H:Hp)(Q:VK)(b:XK):Prop
 |mk(a:η)(f:ρ)(d:FA V)(i:Nat)(v:V)(_:c=[.ref a,.str f])(_:H a= ~~~d)(_:d[i]?=δ v)(_:Lp H v f)(_:∀j x,j < i->d[j]?=δ x->∃g,Lp H x g/\g≠f)(_:Q v H)
inductive iR(e:FA V)(H:Hp)(Q:VK)(b:XK):Prop
 |mk(a g:η)(f:ρ)(h k:FA V)(i:Nat)(v:V)(p c:η)(r d:FA V)(_:e=[.ref a,.str f,.ref g])(_:H a= ~~~h)(_:h[i]?=δ v)(_:v= .ref p)(_:H p= ~~~(.str f:: .ref c::r))(_:H c= ~~~d)(_:H g= ~~~k)(_:ο k=ο d)(_:∀j x,j < i->h[j]?=δ x->∃g,Lp H x g/\g≠f)(_:Q v H)
noncomputable def iV(c l p:η)(m:Int)(t:Nat):FA (ρ×V):=[("cells",.ref c),("most",.int m),("left",.ref l),("turns",.int (t:Int)),("parts",.ref p)]
structure Rn(H:Hp)(C r dx cA lA pA:η)(m:Int)(t:Nat)(L Cs:bf):Prop where
 ins:H r=δ (.ins C dx$ iV cA lA pA m t)
 lf:H lA=δ (.dK L)
 ce:H cA=δ (.dK Cs)
 iL:GT L
 iC:GT Cs
 cl:cA≠lA
structure RK(K:γ)(C:η):Prop where
 cl:rE K C
 n1:be K C "cells"
 n2:be K C "most"
 n3:be K C "left"
 n4:be K C "turns"
 n5:be K C "parts"
inductive gR(C:η)(h:FA V)(H:Hp)(Q:VK)(a:XK):Prop
 |mk(r e d f g:η)(m c:Int)(t:Nat)(L b:bf)(_:h=[.ref r,.int c])(_:Rn H C r e d f g m t L b)(_:Q (.int (look L (.inl c) (look b (.inl c) 0))) H)
inductive nM(C:η)(d:FA V)(H:Hp)(Q:VK)(a:XK):Prop
 |mk(r c b:η)(m:Int)(_:d=[.ref r,.ref b,.int m])(_:H r=δ (.ins C c []))(_:∀lA,H lA=ι->Q .non (af (af H lA (.dK [])) r (.ins C c [("cells",.ref b),("most",.int m),("left",.ref lA),("turns",.int 0)])))
structure XM(K:γ)(mg:ρ->FC ζ)(x:ρ)(L:η):Prop where
 ex:excIn K L uY "ValueError.__new__"=μ
 kp:ii K (.ref L)=μ
 xc:xj K L
 ty:typeIn K (.ref L)=δ (.type "type")
 m:mg x=↑L
def NX(o:HO):Prop:=∀a,o≠ .ext a
def Kp(H h:Hp):Prop:=∀b o,NX o->H b=δ o->h b=δ o
def Kp.of_same(s:aa H h):Kp H h:=λb o _ e=>s _ _ e
def Kp.trans(a:Kp H h)(b:Kp h d):Kp H d:=λc o n e=>b c o n (a c o n e)
def sV(E:XK):XK:=λC d H=>∀x T t c,C= .ref c->H x=δ (iH c d T x)->H T=δ (hV T)->H t=ι->E (.ref c) d (af (af H t$ hV t) x$ iH c d t x)
def qv{P:Δ}{w:cv}{K:γ}{mg:ρ->FC ζ}{base:df}:dE (gr P w) (gA (gr P w) P w K mg base N q s f g A o a H E) (sV E):=
 Dw λx C d T t i b c e h=>h x T t C Z b c e
def KI{H h:Hp}(e:h b=δ o)(n:NX o)(a:h x=δ (iH C d T x))(c:h t=ι):af (af h t$ hV t) x (iH C d t x) b=δ o:=by
 let N:b≠x:=λz=>by rw[z,a]at e;injection e with e;rwa[n _ e.symm]
 rw[jh N,jh$ jk e c];rwa[e]
def Fl(E:XK)(L:η)(R:Hp->Prop):Prop:=∀(_:Unit) H,R H->E (.ref L) ι H
inductive lR(C L:η)(e:FA V)(H:Hp)(Q:VK)(E:XK):Prop
 |mk(r b a c d:η)(m:Int)(t:Nat)(_:e=[.ref r])(_:H r=δ (.ins C b (iV a c d m t)))(_:(t:Int) < m->Q .non (af H r (.ins C b (iV a c d m (t+1)))))(_:m<=(t:Int)->Fl E L (Kp H))
inductive fj(D:η)(a:FA V)(H:Hp)(Q:VK)(E:XK):Prop
 |mk(d:Int)(_:a=[.int d])(_:d < 15->Q (.int (d+1)) H)(_:15<=d->Fl E D (Kp H))
def YZ{H:Hp}(a:H x=ι)(N:af H x (Ey L ι x) T=ι):aa H (af (af (af H x$ Ey L ι x) T$ hV T) x$ iH L d T x):=by intro b o e;let n:b≠x:=jk e a;rw[jh n,jh (λz=>by rw[<- z,jh n,e]at N;cases N),jh n];rwa[e]
def oF:al ["ones","f","one"] ["ones","f"] (ae mW):=bP
def vZ(F:Fr K "named" mW f D):⇑1 f D ["ones","f"] nJ:=by
 erw[F.ok oF λG A o s H W Q E X h=>?_]
 let(a,f,xs,i,v,rfl,t,u,L,d,q):=h;erw[_,%[oF|_cDOgT0i2dmu Jd _h21w _ _dk2s (@An _ _)],?_];let M:i < ο xs:=(ν.mp u).1;erw[aj λY f1=>db λJ j=>#[12,a,Z,#[_,aC.of t],j _ _ ?_]];erw[qQ (K:=K) (xs:=xs) (λk c e=>(∃O,c=[↑a,δ$ .str f,O])/\e=H/\k<=i) #[#[12],Z,R4 _] (λk c e _ h=>by rw[h.2.1];rwa[aC.of t]) ?_ (λc e h=>?_)]
 .intro l R k x c H2 m N I b h;obtain⟨⟨O,rfl⟩,rfl,y⟩:=h;erw[b ?_];by_cases S:k=i
  .subst S;rw[u]at m;cases m;let(p,r,rfl,n):=id L;show gY _ _ _ l _ _;erw[iX λT B C=>(ju n fV #[12212,?_])];rw[R0 (Z:Cv f=Cv f)];erw[B _ ?_];show gZ _ l _ _;unfold gZ;rw[R];rwa[12,q]
  .obtain⟨g,⟨p,r,rfl,n⟩,U⟩:=d k x P' m;show gY _ _ _ l _ _;erw[iX λT B C=>(ju n fV #[12212,?_])];rw[RW (λz=>U (by injection z))];rwa[C _$ N _ _ #[#[12],Z,P']]
 .let(_,_,y):=h;rwa[absurd y P']
def A4:al ["parts","f"] ["parts","f"] (ae mZ):=bP
def wc(F:Fr K "part_of" mZ f c)(C:{1} r d ["ones","f"] nJ "named"):⇑2 f c ["parts","f"] nJ:=by
 erw[F.ok A4 λg A o s H V Q E j h=>?_]
 let(a,f,x,i,v,rfl,l,n,p,b,q):=h;erw[_,%[Z|_dk C.e j.m _a0a1b],?_];rwa[1212,a,f,x,i,v,Z,l,n,p,b,q]
def uf:al ["ones","f","args","one"] ["ones","f","args"] (ae pX):=bP
def yH(F:Fr K "begun" pX f j)(C:{1} N l ["ones","f"] nJ "named")(M:mg "len"=ι):⇑2 f j ["ones","f","args"] iR:=by
 erw[F.ok uf λn A o s H V Q E t h=>?_]
 let(a,g,f,x,y,i,v,p,c,r,u,rfl,z,B,rfl,d,D,G,I,J,q):=h;erw[_,%[uf|_ce3 C.e t.m _a0a1bcmu Ys _Cψg M _σa2bCψg M _σah3bw _ (@An _ _) _sdk3],?_];erw[aj λL b=>#[1212,a,f,x,i,.ref p,Z,z,B,#[p,12,d],J,b _ _ ?_]];erw[aj λL b=>#[12,g,12,.inr$ aC.of G,ju d hZ #[c,12,.inr$ aC.of D,212,aW (by rw[I];simp)$ b _ _ #[12,q]]]]
def AV:al ["deep"] ["deep"] (ae mO):=bP
def vU(F:Fr K "deeper" mO f a)(M:mg "DEEPEST"=δ (.int 15 t))(X:XM K mg "TooDeep" D):ai P w K mg base (gr P w) 1 f a ["deep"] (fj D):=by
 erw[F.ok1 AV λC A o s H V Q E g h=>?_]
 let(d,rfl,q,e):=h;erw[_,%[Z|_cmu yY _0 (Jw (v:=.int 15) Z M #[t,Z]) _w _ _d (@YH _ _ _ _ _ Z Xv$ @Xs _ _ _ _ _ X.ex X.kp Z X.m Ra) _sdknυ0j],?_];erw[aj λi b=>#[12112212,?_]];by_cases c:(15:Int)<=d
 .erw[cw (R0 c) λx n=>?_];rwa[x,D,ι,Z,jc,X.xc,X.ty,λT N=>e c () _ (Kp.of_same$ YZ n N)]
 .rwa[aW (RW c)$ b _ _ #[121122,q P']]
def IR:al z24z z24z (ae AQ):=bP
def Do(F:aM K "__init__" "Turns.__init__" AQ f v)(c:RK K C):⇑1 f v z24z (nM C):=by
 erw[F.ok IR λx A o s H V Q E B h=>?_]
 let(r,D,y,m,rfl,g,q):=h;erw[_,%[Z|_c (@zJ _ _ _ _ _ _ _ _ (pv 0) (pv 1) Z) _c (@zJ _ _ _ _ _ _ _ _ (pv 0) (pv 2) Z) _c (@zJ _ _ _ _ _ _ _ _ (pv 0) YG Z) _d (@zJ _ _ _ _ _ _ _ _ (pv 0) jf Z)],?_];erw[aj λj a=>#[1212,r,C,D,12,g,c.cl,c.n1,Ra,a _ _ ?_]];erw[aj λj a=>#[1212,r,C,D,12,jc,c.cl,c.n2,(by show 1 < 1000;decide),a _ _ ?_]];erw[aj λj a=>λl n=>#[12,r,C,D,12,ap jc n,c.cl,c.n3,(by show 2 < 1000;decide),a _ _ ?_]];erw[12,r,C,D,12,jc,c.cl,c.n4,(by show 3 < 1000;decide),?_];let N:l≠r:=λe=>by rw[e,jc]at n;cases n
 let z:H l=ι:=by rw[jh N,jh N]at n;rwa[n]
 let e:∀p t u O:HO,af (af (af (af (af H r p) r t) l$ .dK []) r u) r O=af (af H l$ .dK []) r O:=λp t u O=>by
  funext b;by_cases d:b=r
  .rw[d,jc,jc]
  .rw[jh d,jh d,jh d];by_cases i:b=l
   .rw[i,jc,jc]
   .rw[jh i,jh d,jh d,jh i]
 rw[e];rwa[q l z]
def D6:al ["self"] ["self"] (ae re):=bP
def yR(F:aM K "take_turn" "Turns.take_turn" re f g)(b:RK K C)(X:XM K mg "TooLong" L):ai P w K mg base (gr P w) 1 f g ["self"] (lR C L):=by
 erw[F.ok1 D6 λi A o s H v Q E y h=>?_]
 let(r,d,j,l,p,m,t,rfl,a,q,e):=h;erw[_,%[Z|_cmu yY _J0gJ0gw _ _d (@YH _ _ _ _ _ Z Xv$ @Xs _ _ _ _ _ X.ex X.kp Z X.m Ra) _sd (@wt _ _ _ _ _ _ _ _ _ _ (pv 0) jf GF)],?_];erw[aj λz n=>#[12,r,C,d,112,a,b.cl,b.n4,212,r,C,d,112,a,b.cl,b.n2,2112212,?_]];by_cases c:m<=(t:Int)
 .erw[cw (R0 c) λx N=>?_];rwa[x,L,ι,Z,jc,X.xc,X.ty,λT u=>e c () _ (Kp.of_same$ YZ N u)]
 .rwa[aW (RW c)$ n _ _ #[12,r,C,d,112,a,b.cl,b.n4,21122,d,_,a,(by show 5 < 1000;decide),q P']]
def IS:al ["self","cell"] ["self","cell"] (ae AR):=bP
def Dp(F:aM K "number_in" "Turns.number_in" AR f p)(b:RK K C):⇑1 f p ["self","cell"] (gR C):=by
 erw[F.ok IS λu A o s H V Q E g h=>?_]
 let(r,d,i,l,x,m,c,t,L,j,rfl,a,q):=h;erw[_,%[Z|_dkU (Qa$ @Io _ _ _ _ _ (zh g) (pv 1) %[Z|_J0g]) _φK g _J0g1p (@JH _ _ _ _ _ _ _ _ _ (zh g) %[Z|_J0g] (pv 1) jf #[P7,P7,P7,P7])],?_];erw[1212,r,C,d,112,a.ins,b.cl,b.n3,Z,l,12,gg.k (k:=.inl c) a.lf,12,?_];cases e:bV L (.inl c) with
 |some v=>erw[cw Z #[12,r,C,d,112,a.ins,b.cl,b.n3,212,l,v,Z,by rw[<- e];rwa[gg.k (k:=.inl c) a.lf],?_]];rw[vI a.iL e$ look j (.inl c) 0];rwa[q]
 |none=>erw[aW Z #[12,r,C,d,112,a.ins,b.cl,b.n1,Z,i,Z,.inl #[_,.inl a.ce],121,gg.k (k:=.inl c) a.ce,?_]];rw[Qp a.iC];rw[vH e]at q;rwa[q]
abbrev At:de:=bH (bN 55) 0
abbrev DN:de:=bH (bN 55) 1
abbrev DO:de:=bH (bN 55) 2
abbrev IK:de:=bN 56
inductive Sk where
 |nil |st (n:Int) (hs:FA Int) (w r:Sk) |ask (b:Int) |rd (c i:Int) |wr (c i:Int) |cl (f:ρ) (is:FA Int) (s:Sk) (a:Int)
noncomputable def Sk.dep:Sk->Nat
 | .st _ _ w r=>max w.dep r.dep
 | .cl _ _ s _=>s.dep+1
 |_=>0
noncomputable def Sk.size:Sk->Nat
 | .st _ _ w r=>w.size+r.size+1
 | .cl _ _ s _=>s.size
 |_=>0
def Sk.ok:Bool->Sk->Prop
 |true,.nil=>True
 |true,.st _ _ w r=>w.ok ξ/\r.ok μ
 |false,.cl _ _ s _=>s.ok μ
 |false,.ask _ |false,.rd _ _ |false,.wr _ _=>True
 |_,_=>False
inductive eZs(H:Hp)(n:Int)(d:FA Int)(W R:V->FA V->Prop)(x:FA V):Prop|mk(p h u y:_)(_:x= .ref p::y)(_:H p= ~~~[.int n,.ref h,u])(_:H h= ~~~(d.map Da))(_:W u [])(_:R .non y)
inductive eZc(H:Hp)(f:ρ)(I:FA Int)(a:Int)(W:V->FA V->Prop)(u:V):Prop|mk(p c g e S:_)(_:u= .ref p)(_:H p= ~~~[.str "call",.ref c])(_:H c= ~~~[.str f,.ref g,.ref e,.int a])(_:H g= ~~~(I.map Da))(_:H e= ~~~S)(_:W .non S)
def eZ(H:Hp):Sk->V->FA V->Prop
 | .nil,_,x=>x=[]
 | .st n d w r,_,x=>eZs H n d (eZ H w) (eZ H r) x
 | .ask b,u,_=>∃p,u= .ref p/\H p= ~~~[.str "ask",.int b]
 | .rd c i,u,_=>∃p,u= .ref p/\H p= ~~~[.str "read",.int c,.int i]
 | .wr c i,u,_=>∃p,u= .ref p/\H p= ~~~[.str "write",.int c,.int i]
 | .cl f I s a,u,_=>eZc H f I a (eZ H s) u
theorem eZ.mono(k:am H i):∀{s:Sk} {u:V} {x:FA V},eZ H s u x->eZ i s u x
 | .nil,_,_,h=>h
 | .st _ _ _ _,_,_,z=>by let(p,h,u,y,e,a,b,d,f):=z;rwa[p,h,u,y,e,k _ _ a,k _ _ b,eZ.mono k d,eZ.mono k f]
 | .ask _,_,_,z | .rd _ _,_,_,z | .wr _ _,_,_,z=>by let(p,e,h):=z;rwa[p,e,k _ _ h]
 | .cl _ _ _ _,_,_,z=>by let(p,c,g,e,S,E,a,b,d,f,j):=z;rwa[p,c,g,e,S,E,k _ _ a,k _ _ b,k _ _ d,k _ _ f,eZ.mono k j]
noncomputable def Sk.put(n:Int)(h:FA Int)(W:Sk):Sk->Sk
 | .st a b c r=>.st a b c (Sk.put n h W r)
 |_=>.st n h W .nil
theorem Fg{H:Hp}{n:Int}{a:FA Int}{w:Sk}{p h:η}{u:V}(b:H p= ~~~[.int n,.ref h,u])(c:H h= ~~~(a.map Da))(d:eZ H w u []):∀{s:Sk} {x:FA V},s.ok μ->eZ H s .non x->eZ H (Sk.put n a w s) .non (x++[.ref p])
 | .nil,_,_,e=>by let e:_=[]:=e;rw[e];rwa[p,h,u,[],Z,b,c,d,Z]
 | .st _ _ _ r,_,o,z=>by let(f,g,U,y,e,i,j,k,l):=z;rw[e];rwa[f,g,U,y++[.ref p],Z,i,j,k,Fg b c d o.2 l]
theorem tN{w:Sk}(h:w.ok ξ):∀{s:Sk},s.ok μ->(Sk.put n H w s).ok μ
 | .nil,_=>#[h,trivial]
 | .st _ _ _ _,o=>#[o.1,tN h o.2]
theorem Y0{n:Int}{hs:FA Int}{w:Sk}:∀{s:Sk},s.ok μ->(Sk.put n hs w s).size=s.size+(w.size+1)
 | .nil,_=>by show w.size+0+1=0+(w.size+1);omega
 | .st _ _ c r,o=>by let:=Y0 (n:=n) (hs:=hs) (w:=w) (s:=r) o.2;show c.size+(Sk.put n hs w r).size+1=c.size+r.size+1+(w.size+1);omega
theorem tL{n:Int}{hs:FA Int}{w:Sk}{j:Nat}(H:w.dep<=j):∀{s:Sk},s.ok μ->s.dep<=j->(Sk.put n hs w s).dep<=j
 | .nil,_,_=>by show max w.dep 0<=j;omega
 | .st _ _ c r,o,h=>by let h:max c.dep r.dep<=j:=h;let:=tL (n:=n) (hs:=hs) H (s:=r) o.2 P';show max c.dep (Sk.put n hs w r).dep<=j;omega
theorem J3:∀{s:Sk} {x:FA V},s.ok μ->eZ H s .non x->ο x<=s.size
 | .nil,_,_,e=>by let e:_=[]:=e;rw[e];rwa[RO 0]
 | .st _ _ w r,_,o,z=>by let(_,_,_,y,e,_,_,_,h):=z;let:=J3 o.2 h;rw[e];show ο y+1<=w.size+r.size+1;omega
inductive oX(H:Hp)(f:ρ)(i:FA Int)(s:Sk)(a:Int)(u:V):Prop|mk(c g e S:_)(_:u= .ref c)(_:H c= ~~~[.str f,.ref g,.ref e,.int a])(_:H g= ~~~(i.map Da))(_:H e= ~~~S)(_:eZ H s .non S)
noncomputable def Sk.wh:Sk->Wh
 | .ask b=>.ask b
 | .rd c i=>.rd c i
 | .wr c i=>.wr c i
 | .cl f I _ a=>.cl f I a
 |_=>.ask 0
def OU{s:Sk}(o:s.ok ξ)(h:eZ H s u []):FP H u s.wh:=by
 cases s with
 |nil |st=>rwa[o.elim]
 |ask b |rd c i |wr c i=>rwa[h]
 |cl f I s a=>let(p,c,g,e,S,E,d,j,k,_):=h;rwa[p,c,g,.ref e,E,d,j,k]
inductive Gd where
 |give (a:Int) |go (n:Nat) (hs:FA Int)
def iY(N:Nat->FA ρ)(k:bf):Gl->Gd
 | .give _ T=>.give (T.ev k)
 | .nought=>.give 0
 | .go n=>.go n ((N n).map λx=>look k (.inr x) 0)
structure LA where
 nm:FA ρ
 e:DD
 ws:FA WD
structure dU where
 f:ρ
 ps:FA ρ
 way:WD
 cs:FA LA
structure LB(H:Hp)(ys:FA ρ)(nA:η)(d:Df)(c:Ct)(cd:LA):Prop where
 nm:cd.nm=canon c.M
 ed:cd.e.dd=c.d
 dv:Ew H ys cd.e
 cs:cd.e.Cs d.b.calls
 len:ο cd.ws=ο c.ws
 ws:∀(j:Nat) (w:Wy) (wd:WD),c.ws[j]?=δ w->cd.ws[j]?=δ wd->wd.wy nA=w/\BV H ys d.b.cuts d.b.size wd
structure Ce(H:Hp)(nA:η)(d:Df)(ys:FA ρ)(pd:dU):Prop where
 f:pd.f=d.f
 ps:H d.pa= ~~~(pd.ps.map Cv)
 wy:pd.way.wy nA=(iD nA d).1.w
 wv:BV H ys d.b.cuts d.b.size pd.way
 len:ο pd.cs=(b6 nA d).length
 cs:∀(n:Nat) (c:Ct) (cd:LA),(b6 nA d)[n]?=δ c->pd.cs[n]?=δ cd->LB H ys nA d c cd
def LB.mono(k:am H f)(h:LB H y n d c C):LB f y n d c C:=#[h.nm,h.ed,h.dv.mono k,h.cs,h.len,λj w W a b=>let #[e,v]:=h.ws j w W a b;#[e,v.mono k]]
def Ce.mono(k:am H e)(h:Ce H N d y p):Ce e N d y p:=#[h.f,k _ _ h.ps,h.wy,h.wv.mono k,h.len,λn c C a b=>(h.cs n c C a b).mono k]
theorem Co{c d:Type}{R:c->d->Prop}:∀(l:FA c),(∀a∈l,∃b,R a b)->∃m:FA d,ο m=ο l/\∀(i:Nat) (a:c) (b:d),l[i]?=δ a->m[i]?=δ b->R a b
 | [],_=>#[[],Z,λi a b h=>by simp at h]
 |a::l,h=>by
  let(b,g):=h a Sa;let(m,e,j):=Co l λx k=>h x (Sd _ k);erw[b::m,by rw[So,So,e],λi x y H f=>?_];cases i with
  |zero=>cases H;cases f;rwa[g]
  |succ i=>rwa[j i x y (H:) (f:)]
noncomputable def wV(p:dU)(n:Nat):FA ρ:=match p.cs[n]? with
 |some c=>c.nm
 |none=>[]
def Ce.nms(h:Ce H N d y p):eU N d=wV p:=by
 funext n;unfold eU wV;by_cases a:n < ο p.cs
 .let b:n < (b6 N d).length:=by rw[<- h.len];exact a
  rw[RI a,RI b];exact(h.cs n _ _ (RI b)$ RI a).nm.symm
 .rw[SM$ VV a,SM (by rw[<- h.len];rwa[VV a])]
inductive OW where
 |ok (w:Sk) (L:bf) (t:Nat) |long |deep
inductive OC where
 |ok (s:Sk) (a:Int) (L:bf) (t:Nat) |long |deep
noncomputable def OC.cons(n:Int)(h:FA Int)(w:Sk):OC->OC
 | .ok s a L t=>.ok (.st n h w s) a L t
 | .long=>.long
 | .deep=>.deep
noncomputable def Sk.app:Sk->Sk->Sk
 | .st n h w r,s=>.st n h w (r.app s)
 |_,s=>s
def OC.pre(S:Sk):OC->OC
 | .ok s a L t=>.ok (S.app s) a L t
 | .long=>.long
 | .deep=>.deep
theorem Y1:∀{s:Sk},s.ok μ->s.app .nil=s
 | .nil,_=>rfl
 | .st n h w r,o=>by show Sk.st n h w (r.app .nil)=_;rw[Y1 o.2]
theorem tK{w:Sk}:∀{s:Sk},s.ok μ->(Sk.put n h w s).app q=s.app (.st n h w q)
 | .nil,_=>rfl
 | .st a b c r,o=>by show Sk.st a b c ((Sk.put n h w r).app q)=Sk.st a b c (r.app (.st n h w q));rw[tK o.2]
def Am{w s:Sk}(o:OC)(h:s.ok μ):(o.cons n H w).pre s=o.pre (Sk.put n H w s):=by
 cases o with
 |ok q a L t=>show OC.ok (s.app (.st n H w q)) a L t= .ok ((Sk.put n H w s).app q) a L t;rw[tK h]
 |long |deep=>rfl
abbrev nS:=ρ->FA Int->bf->Nat->OC
noncomputable def OC.cl(f:ρ)(i:FA Int):OC->OW
 | .ok s a L t=>.ok (.cl f i s a) L t
 | .long=>.long
 | .deep=>.deep
def iA(call:nS)(C:bf)(k L:bf)(t:Nat)(e:DD):OW:=if t < 60 then match e with
 | .ask _ T=>.ok (.ask (if T.ev k=0 then 0 else 1)) L (t+1)
 | .st _ (.rd _ _ T)=>.ok (.rd (T.ev k) (look L (.inl (T.ev k)) (look C (.inl (T.ev k)) 0))) L (t+1)
 | .st _ (.wr _ _ T U)=>.ok (.wr (T.ev k) (U.ev k)) (a6 L (.inl (T.ev k)) (.int (U.ev k))) (t+1)
 | .st _ (.cl _ f _ a)=>(call f (a.map λc=>c.2.ev k) L (t+1)).cl f (a.map λc=>c.2.ev k)
 |_=>.long
 else .long
def rP{call:nS}(h:¬t < 60):iA call C k L t e= .long:=by unfold iA;rw[RU h]
def XS{call:nS}(h:t < 60):iA call C k L t (.ask p T)= .ok (.ask (if T.ev k=0 then 0 else 1)) L (t+1):=by unfold iA;rw[RV h]
def rQ{call:nS}(h:t < 60):iA call C k L t (.st p$ .rd x a T)= .ok (.rd (T.ev k)$ look L (.inl$ T.ev k)$ look C (.inl$ T.ev k) 0) L (t+1):=by unfold iA;rw[RV h]
def rR{call:nS}(h:t < 60):iA call C k L t (.st p$ .wr a b T U)= .ok (.wr (T.ev k)$ U.ev k) (a6 L (.inl$ T.ev k)$ .int$ U.ev k) (t+1):=by unfold iA;rw[RV h]
def K2{call:nS}(h:t < 60):iA call C k L t (.st p$ .cl x f q T)=(call f (T.map λc=>c.2.ev k) L$ t+1).cl f (T.map λc=>c.2.ev k):=by unfold iA;rw[RV h]
def Dq(p:dU)(c:LA)(h:FA Int)(w:Wh):Gd:=match c.ws[w.side]? with
 |some W=>iY (wV p) (dh W.sets (wT c.e w (bn c.nm h))) W.goal
 |none=>.give 0
noncomputable def nY(call:nS)(C:bf)(p:dU):Nat->Gd->bf->Nat->OC
 |0,_,_,_=>.long
 |_+1,.give a,L,t=>.ok .nil a L t
 |m+1,.go n h,L,t=>match p.cs[n]? with
  |none=>.long
  |some c=>match iA call C (bn c.nm h) L t c.e with
   | .ok w l T=>(nY call C p m (Dq p c h w.wh) l T).cons (n:Int) h w
   | .long=>.long
   | .deep=>.deep
noncomputable def dX:FA dU->ρ->FC dU
 | [],_=>ι
 |p::r,f=>if p.f=f then δ p else dX r f
theorem tI:∀{b:FA dU} {i:Nat} {a:dU},b[i]?=δ a->(∀(j:Nat) (p:dU),j < i->b[j]?=δ p->p.f≠a.f)->dX b a.f=δ a
 | [],i,a,h,_=>by simp at h
 |p::r,0,a,h,_=>by cases h;show(if p.f=p.f then δ p else _)=_;rw[RV Z]
 |p::r,i+1,a,h,k=>by show(if p.f=a.f then δ p else dX r a.f)=_;rw[RU$ k 0 p (Nat.succ_pos _) Z];rwa[tI (i:=i) (h:) λj q H c=>k (j+1) q (Nat.succ_lt_succ H) (c:)]
noncomputable def cq(p:FA dU)(C:bf):Nat->nS
 |0=>λ_ _ _ _=>.deep
 |j+1=>λf i L t=>match dX p f with
  |none=>.long
  |some a=>nY (cq p C j) C a 62 (iY (wV a) (dh a.way.sets (bn a.ps i)) a.way.goal) L t
structure Ps(H:Hp)(nA pA:η)(ds:FA Df)(ns:FA Nat)(xs:FA V)(pds:FA dU):Prop where
 at':H pA= ~~~xs
 tr:aT H (aG$ ds.map$ fX nA) .non xs
 dv:∃zs,cV H ds zs
 ok:wX ds ns
 pa:n8 H ds ns
 dl:ο pds=ο ds
 pr:∀(i:Nat) (d:Df) (pd:dU),ds[i]?=δ d->pds[i]?=δ pd->∃ys,(d.b.Ok ys/\ys.length<=20)/\Ce H nA d ys pd
def Ps.mono(h:Ps H n c D N x p)(k:am H e):Ps e n c D N x p:=#[k _ _ h.at',h.tr.mono k,let #[f,z]:=h.dv;#[f,z.mono k],h.ok,h.pa.mono k,h.dl,λi d g a b=>let #[Y,y,r]:=h.pr i d g a b;#[Y,y,r.mono k]]
def tw(h:aT H (fX n d) v []):Lp H v d.f:=by obtain⟨_,a,x,rfl,b,_,_,Y,y,rfl,⟨rfl,_⟩,_⟩:=h;rwa[a,12,b]
theorem xO:∀{D:FA Df} {z:FA V},cV H D z->∀{i:Nat} {d:Df},D[i]?=δ d->∃B,dZ H d.b B
 |_::_,_,q,0,d,a=>by obtain⟨u,r,e,⟨B,_,_,_,h⟩,c⟩:=q;cases a;rwa[B,h]
 |_::_,_,#[u,r,e,_,c],i+1,d,a=>xO c (a:)
section
variable {H:Hp}{nA pA:η}{ds:FA Df}{ns:FA Nat}{xs:FA V}{pds:FA dU}
def Ps.part(h:Ps H nA pA ds ns xs pds){i:Nat}{d:Df}{v:V}(b:ds[i]?=δ d)(q:xs[i]?=δ v):∃y c,oe H nA d y v/\pds[i]?=δ c/\Ce H nA d y c/\dX pds d.f=δ c:=by
 let(T,n,t):=Jn h.tr i v q;rw[RX,b]at n;cases n;let(z,r):=h.dv;let(_,_,s):=(h.ok.1 d$ Sc b).1;let u:i < ο ds:=(ν.mp b).1;let g:pds[i]?=δ (pds[i]'(by rw[h.dl];rwa[u])):=RI _;obtain⟨y,⟨O,Y⟩,k⟩:=h.pr i d _ b g;erw[y,_,#[t,xO r b,O,Y,s],g,k,?_];rw[<- k.f];erw[tI g λj p A l e=>?_];let a:j < ο ds:=P'
 let(_,_,m):=h.pr j _ p (RI a) l;rw[m.f,k.f]at e;let x:(ds.map Df.f)[j]?=δ (ds[j]).f:=by rw[RX,RI a];rfl
 let o:(ds.map Df.f)[i]?=δ d.f:=by rw[RX,b];rfl
 rw[<- e]at o;let:=(Vy (by rw[RJ];rwa[a]) h.ok.2.1).mp (x.trans o.symm);omega
def Ps.cs(h:Ps H nA pA ds ns xs pds){i:Nat}{d:Df}(a:ds[i]?=δ d):∀f∈d.b.calls,f∈(ds.map Df.f).zip ns:=zR (h.ok.1 d$ Sc a).2
def Ps.at(h:Ps H nA pA ds ns xs pds){i:Nat}{d:Df}(b:ds[i]?=δ d):∃v,xs[i]?=δ v/\aT H (fX nA d) v []/\Lp H v d.f/\∀j x,j < i->xs[j]?=δ x->∃g,Lp H x g/\g≠d.f:=by
 let L:=zu h.tr;rw[RJ]at L;let r:i < ο ds:=(ν.mp b).1;let t:∀(j:Nat) (x:V),xs[j]?=δ x->∃c,ds[j]?=δ c/\aT H (fX nA c) x []:=λj x k=>by let(s,m,t):=Jn h.tr j x k;rw[RX]at m;let(c,a,rfl):=cJ.mp m;rwa[c,a,t]
 let n:xs[i]?=δ (xs[i]'P'):=RI P';let(c,a,T):=t _ _ n;rw[b]at a;cases a;erw[_,n,T,tw T,λj x u k=>?_];let(c,a,q):=t j x k;erw[c.f,tw q,λe=>?_];let o:(ds.map Df.f)[j]?=δ c.f:=by rw[RX,a];rfl
 let p:(ds.map Df.f)[i]?=δ d.f:=by rw[RX,b];rfl
 rw[<- e]at p;let l:j < (ds.map Df.f).length:=(ν.mp o).1;let:=(Vy l h.ok.2.1).mp (o.trans p.symm);omega
def Ps.find(h:Ps H nA pA ds ns xs pds)(a:(f,n)∈(ds.map Df.f).zip ns):∃(i:Nat) (d:Df),ds[i]?=δ d/\ns[i]?=δ n/\d.f=f:=by
 let(i,b,e):=im.mp a;let E:((ds.map Df.f).zip ns)[i]?=δ (f,n):=by rw[<- e];rwa[RI b]
 rw[ww]at E;rw[RX]at E;let(d,c,g):=cJ.mp E.1;rwa[i,d,c,E.2,g]
end
def Rn.tm(h:Rn H C r d c l p m t L f)(k:aX r l H a):am H a:=λb x e=>k b _ (jQ e h.ins FI) (jQ e h.lf FI) e
def Rn.same(h:Rn H C r d c l p m t L a)(s:aa H b):Rn b C r d c l p m t L a:=#[s _ _ h.ins,s _ _ h.lf,s _ _ h.ce,h.iL,h.iC,h.cl]
def Rn.rl(h:Rn H C r d c l p m t L a):r≠l/\r≠c:=#[jQ h.ins h.lf FI,jQ h.ins h.ce FI]
def Lo(r l:η)(H h:Hp):Prop:=∀b o,b≠r->b≠l->NX o->H b=δ o->h b=δ o
def Fl.next(h:Fl E L (Lo r l H)):Fl (sV E) L (Lo r l H):=λd i k x T t c e a j f=>by cases e;rwa[h d _ λb o N g n e=>KI (H:=H) (k b o N g n e) n a f]
def Fl.nextK(h:Fl E L (Kp H)):Fl (sV E) L (Kp H):=λd g k x T t c e a i f=>by cases e;rwa[h d _ λb o n e=>KI (H:=H) (k b o n e) n a f]
def Fl.mono{R S:Hp->Prop}(h:Fl E L R)(k:∀H,S H->R H):Fl E L S:=λd H s=>h d H (k H s)
inductive nK(C:η)(e:FA V)(H:Hp)(Q:VK)(a:XK):Prop
 |mk(r c d b:η)(m:Int)(_:e=[.ref r,.ref d,.ref b,.int m])(_:H r=δ (.ins C c []))(_:∀lA,H lA=ι->Q .non (af (af H lA (.dK [])) r (.ins C c (iV b lA d m 0))))
def pC(A B:Prop)(E:XK)(T t:η)(R:Hp->Prop):Prop:=(A->Fl E T R)/\(B->Fl E t R)
def pC.mono{R S:Hp->Prop}(h:pC A B E T t R)(k:∀H,S H->R H):pC A B E T t S:=#[λa=>(h.1 a).mono k,λb=>(h.2 b).mono k]
def pC.next(h:pC A B E T t (Lo r l H)):pC A B (sV E) T t (Lo r l H):=#[λa=>(h.1 a).next,λb=>(h.2 b).next]
def pC.imp{R:Hp->Prop}(h:pC A B E T t R)(a:c->A)(b:d->B):pC c d E T t R:=#[λx=>h.1 (a x),λx=>h.2 (b x)]
inductive eP(C g f p:η)(j:Nat)(w:FA V)(H:Hp)(Q:VK)(E:XK):Prop
 |mk(r m k o s h:η)(b t i:Nat)(L e:bf)(v:V)(d:Df)(l:FA Df)(q:FA Nat)(x:FA V)(c:FA dU)(n:FA Int)(_:w=[.ref r,v,.ref h,.int (b:Int)])(_:b+j=16)(_:1<=j)(_:Rn H C r m k o s 60 t L e)(_:ο L<=t)(_:t<=60)(_:Ps H p s l q x c)(_:l[i]?=δ d)(_:q[i]?=δ n.length)(_:x[i]?=δ v)(_:H h= ~~~(n.map Da))(_:∀z∈n,g9 z)(_:∀(u:V) (sk:Sk) (a:Int) (L':bf) (H':Hp),cq c e j d.f n L t= .ok sk a L' (t+sk.size)->oX H' d.f n sk a u->sk.ok μ->sk.dep+1<=j->g9 a->Rn H' C r m k o s 60 (t+sk.size) L' e->ο L'<=t+sk.size->t+sk.size<=60->aX r o H H'->Q u H')(_:pC (cq c e j d.f n L t= .long) (cq c e j d.f n L t= .deep) E g f (Lo r o H))
inductive rB(C f d m:η)(j:Nat)(p:FA V)(H:Hp)(Q:VK)(E:XK):Prop
 |mk(r i g l o:η)(a t:Nat)(L c k:bf)(u:V)(e:DD)(s:FA ρ)(h:FA Df)(n:FA Nat)(q:FA V)(b:FA dU)(_:p=[.ref r,u,.int (a:Int)])(_:a+j=15)(_:Rn H C r i g l o 60 t L c)(_:ο L<=t)(_:t<=60)(_:Ps H m o h n q b)(_:aT H (Mf k e) u [])(_:Ew H s e)(_:GT k)(_:e.Cs ((h.map Df.f).zip n))(_:∀(w:Sk) (v:V) (L':bf) (H':Hp),iA (cq b c j) c k L t e= .ok w L' (t+1+w.size)->eZ H' w v []->w.ok ξ->NB e w.wh->w.dep<=j->Rn H' C r i g l o 60 (t+1+w.size) L' c->ο L'<=t+1+w.size->t+1+w.size<=60->aX r l H H'->Q v H')(_:pC (iA (cq b c j) c k L t e= .long) (iA (cq b c j) c k L t e= .deep) E f d (Lo r l H))
def IQ:al z25z z25z (ae At):=bP
def Dj(F:aM K "__init__" "BookRun.__init__" At f t)(j:RK K C)(GT:⇑1 u c z24z (nM C))(B:ax K c z24z [])(M:mg "Turns"=↑T)(v:FG K T "__init__" u):⇑2 f t z25z (nK C):=by
 erw[F.ok IQ λx A o s H V Q E y h=>?_]
 let(r,d,z,k,m,rfl,g,q):=h;erw[_,%[Z|_cz (@Dy _ _ _ _ _ _ _ _ _ _ _ _ _ _ _ _ _ _ _ _ Z M v GT y.m B .nil bg %[Z|_a0a2a3b] Ra P7 P7 P7) _d (@zJ _ _ _ _ _ _ _ _ (pv 0) (pv 1) Z)],?_];erw[aj λD n=>#[121212,r,d,k,m,Z,g,λL N=>n _ _ ?_]];erw[1212,r,C,d,12,jc,j.cl,j.n5,(by show 4 < 1000;decide),?_];let e:∀(i:Hp) (p O:HO),af (af i r p) r O=af i r O:=λi p O=>by
  funext b;by_cases a:b=r
  .rw[a,jc,jc]
  .rw[jh a,jh a,jh a]
 rw[e];rwa[q L N]
def KJ(h:aT H (aJ t) u []):∃a x,u= .ref a/\H a= ~~~x/\aT H (aG t) .non x:=by let(_,a,x,e,b,c):=h;rwa[a,x,e,b,c]
def qC(h:aT H (aG (t::T)) .non x):∃y Y,x=y::Y/\aT H t y []/\aT H (aG T) .non Y:=by let(_,_,y,Y,e,a,b):=h;rwa[y,Y,e,a,b]
def uM(h:aT H (a7 x) y []):y= .str x:=h.1
def KK(h:aT H (aH n) y []):y= .int n:=h.1
theorem Qq:∀{I:FA Int} {v:FA V},aT H (aG$ I.map aH) .non v->v=I.map Da
 | [],v,h=>h
 |i::I,v,h=>by let(y,Y,rfl,a,b):=qC h;rw[KK a,Qq b];rfl
def Yb{H:Hp}{w:ρ}{t:FA Tr}{u:V}(h:aT H (aJ (a7 w::t)) u []):∃a x,u= .ref a/\H a= ~~~(.str w::x)/\aT H (aG t) .non x:=by let(a,x,rfl,b,h):=KJ h;let(y,Y,rfl,c,d):=qC h;rw[uM c]at b;rwa[a,Y,Z,b,d]
def XT{H:Hp}{w:ρ}{i:Int}{u:V}(h:aT H (aJ [a7 w,aH i]) u []):∃a,u= .ref a/\H a= ~~~[.str w,.int i]:=by let(a,x,rfl,b,h):=Yb h;let(y,Y,rfl,c,d):=qC h;let e:Y=[]:=d;rw[KK c,e]at b;rwa[a,Z,b]
def BJ{H:Hp}{w:ρ}{i:Int}{t:Tr}{u:V}(h:aT H (aJ [a7 w,aH i,t]) u []):∃a y,u= .ref a/\H a= ~~~[.str w,.int i,y]/\aT H t y []:=by let(a,x,rfl,b,h):=Yb h;let(y,Y,rfl,c,d):=qC h;let(z,f,rfl,g,j):=qC d;let e:f=[]:=j;rw[KK c,e]at b;rwa[a,z,Z,b,g]
def M4:al z20z z20z (ae DO):=bP
def Hw(F:aM K "what_of" "BookRun.what_of" DO f fd)(ck:RK K C)(GT:ai P w K mg base (gr P w) 1 fT f0 ["self"] (lR C TL))(bT:ax K f0 ["self"] [])(m0:bq K C "take_turn" fT)(GI:⇑1 fI f2 ["self","cell"] (gR C))(bI:ax K f2 ["self","cell"] [])(m1:bq K C "number_in" fI)(GD:ai P w K mg base (gr P w) 1 fD f3 ["deep"] (fj TD))(bD:ax K f3 ["deep"] [])(kD:ii K (.ref fD)=μ)(mD:mg "deeper"=↑fD)(cP:{2} fP f6 ["parts","f"] nJ "part_of")(GC:ai P w K mg base (gr P w) (2*j+12) fC f4 z14z (eP C TL TD nA j))(bC:ax K f4 z14z [])(m2:bq K C "chain_of" fC):ai P w K mg base (gr P w) (2*j+13) f fd z20z (rB C TL TD nA j):=by
 erw[F.ok1 M4 λc5 A o1 s H vs Q E hr h=>?_]
 symm;let(r,D,W,I,O,M,t,L,Cs,k,u,e,ys,ds,ns,X,p1,rfl,h4,J,h5,ht,hP,B,h0,hk,h1,q,t0):=h;erw[_,%[Z|_cz (Ad (pv 0) ck.cl m0 GT hr.m bT .nil qv) _cmrh1dkfaoah1aM0 ck.cl m1 GI hr.m bI .nil _γah1bbscmrh1dkfaoaM0 ck.cl m2 GC hr.m bC .nil qv _a cP.e hr.m _aJ0gah1bah1a (za GD hr.m Z mD kD bD .nil qv %[Z|_a2b]) _bbscmrh1dπKPJ0gh1h1gsdk1],?_];let b0:=aI;sleep 4;erw[aj λY n=>#[12,r,D,12,J.ins,Z,r,D,W,I,O,(60),t,Z,J.ins,λlt=>n _ _ ?_,λge=>((t0.1$ rP P').mono λH' kk=>λb o _ _ nx e=>kk b o nx e).nextK]];left;let t1:am H (af H r$ .ins C D$ iV W I O 60$ t+1):=λb X e=>by rw[jh$ jQ e J.ins FI];rwa[e]
 let R:Rn (af H r$ .ins C D$ iV W I O 60$ t+1) C r D W I O 60 (t+1) L Cs:=#[jc,by rw[jh J.rl.1.symm];rwa[J.lf],by rw[jh J.rl.2.symm];rwa[J.ce],J.iL,J.iC,J.cl];let k1:aX r I H (af H r$ .ins C D$ iV W I O 60$ t+1):=λb o n1 n2 e=>by rw[jh n1];rwa[e]
 generalize af H r (.ins C D$ iV W I O 60$ t+1)=H1 at t1 R k1;let B:=B.mono t1;let lt':t+1<=60:=P'
 let f5:∀(w:Sk) (X:FA V) (S:Hp) (v:η),S v=ι->eZ (af S v$ .tup X) w (.ref v) []->w.ok ξ->iA (cq p1 Cs j) Cs k L t e= .ok w L (t+1)->NB e w.wh->w.size=0->w.dep<=j->H1=S->Q (.ref v) (af S v$ .tup X):=λw X S v nv hw ok eq ft sz dp e2=>by subst e2;rwa[q w _ L _ (by rw[sz];rwa[eq]) hw ok ft dp (by rw[sz];rwa[R.same$ je nv]) P' P'$ k1.trans$ aX.of_same$ je nv]
 symm;cases e with
 |ask ta T=>
  let(p,rfl,G):=XT B;erw[aj λY n=>(ju G Z #[212,aW P8$ n _ _ ?_])];left;erw[aj λY n=>(ju G Z #[212,aW P8$ n _ _ ?_])];left;erw[aj λY n=>(ju G Z #[212,aW P8$ n _ _ ?_])];left;erw[12,q (.ask (if T.ev k=0 then 0 else 1)) _ L _ (XS P') #[p,Z,G] trivial ?_ (R4 _) R (by show ο L<=t+1+0;omega) lt' k1];show(if T.ev k=0 then (0:Int) else 1)=0∨(if T.ev k=0 then (0:Int) else 1)=1;split
  .rwa[.inl Z]
  .rwa[.inr Z]
 |st p0 l=>
  let(vs,_,h6,o0,c0):=h0;cases l with
  |gv ta T |st x ta T=>cases c0
  |rd x ta T=>let(p,rfl,G):=XT B;sleep 3;erw[aj λY n=>(ju G Z #[212,cw P8$ ju G Z #[12,r,D,12,R.ins,Z,ju G Z #[r,D,W,I,O,(60),11112,R,ip,λv nv=>?_]]])];rwa[f5 (.rd (T.ev k)$ look L (.inl$ T.ev k)$ look Cs (.inl$ T.ev k) 0) _ _ v nv #[v,Z,jc] trivial (rQ P') (KF R.iL$ KF R.iC KG) Z (R4 _) Z]
  |wr ta ub T U=>
   let(p,y,rfl,G,hy):=BJ B;rw[KK hy]at G;sleep 3;erw[aj λY n=>(ju G Z #[212,aW P8$ n _ _ ?_])];left;erw[aj λY n=>(ju G Z #[212,aW P8$ n _ _ ?_])];left;erw[aj λY n=>(ju G Z #[212,cw P8$ ju G Z #[12,r,C,D,112,R.ins,ck.cl,ck.n3,Z,ju G Z #[I,12,iU.k (k:=.inl (T.ev k)) R.lf P',n _ _ ?_]]])];left;let pl:=qk (kvs:=L) (k:=.inl (T.ev k)) (v:=.int (U.ev k));let t3:am H1 (af H1 I$ .dK$ a6 L (.inl$ T.ev k)$ .int$ U.ev k):=λb X e=>by rw[jh$ jQ e R.lf FI];rwa[e]
   erw[12,q (.wr (T.ev k)$ U.ev k) _ (a6 L (.inl$ T.ev k)$ .int$ U.ev k) _ (rR P') #[p,Z,t3 _ _ G] trivial trivial (R4 _) #[by rw[jh J.rl.1];rwa[R.ins],jc,by rw[jh J.cl];rwa[R.ce],R.iL.put _$ Ki hk o0.2.1,R.iC,R.cl] (by show _<=t+1+0;omega) lt' λb o n1 n2 e=>?_];rw[jh n2];rwa[k1 b o n1 n2 e]
  |cl x f q' ts=>
   let(p,y3,rfl,G,hy):=Yb B;let(y1,y4,rfl,e1,hy):=qC hy;let(y2,y0,rfl,e2,hy):=qC hy;let e3:y0=[]:=hy;subst e3;rw[uM e1]at G;let(ag,a0,rfl,ha,N):=KJ e2;let N:aT H1 (aG ((ts.map λc=>c.2.ev k).map aH)) .non a0:=by rw[Ts];rwa[N]
   rw[Qq N]at ha;let(i,d,hd,hn,rfl):=hP.find h1;let P1:=hP.mono t1;let(v,hv,_,h2,h3):=P1.at hd;sleep 3;erw[aj λY n=>(ju G Z #[212,aW P8$ n _ _ ?_])];left;erw[aj λY n=>(ju G Z #[212,cw P8 ?_])];left;erw[12,r,D,12,R.ins,212,r,C,D,112,R.ins,ck.cl,ck.n5,Z,ju G Z #[O,d.f,X,i,v,Z,P1.at',hv,h2,h3,ju G Z #[12,(M:Int),Z,λdl=>?_,λdg=>((t0.2 (by let z:j=0:=P';rw[K2 P',z];rfl)).mono λS kk=>λb o n1 n2 nx e=>kk b o nx (k1 b o n1 n2 e)).nextK]]];erw[r,D,W,I,O,ag,M+1,t+1,i,L,Cs,v,d,ds,ns,X,p1,ts.map λc=>c.2.ev k,Z,P',P',R,P',lt',P1,hd,by rw[RJ];rwa[hn],hv,ha,λz hz=>?_,λu sk a L' S eq hc ok dp ia R2 l2 t2 k2=>?_,pC.next ((t0.imp (λz=>by rw[K2 P',z];rfl) (λz=>by rw[K2 P',z];rfl)).mono λS kk=>λb o n1 n2 nx e=>kk b o n1 n2 nx (k1 b o n1 n2 e))]
   .symm;let(c,hc,rfl):=β.mp hz;rwa[Ki hk (o0.2.2 c hc).1]
   .symm;let(c,g,ee,ss,rfl,c1,c2,c3,c4):=hc;erw[b8,λv2 nv=>?_];let s2:aa S (af S v2$ .tup [.str "call",.ref c]):=je nv;erw[q (.cl d.f (ts.map λc=>c.2.ev k) sk a) _ L' _ (by rw[K2 P',eq];rfl) #[v2,c,g,ee,ss,Z,jc,s2 _ _ c1,s2 _ _ c2,s2 _ _ c3,c4.mono$ aa.tm s2] ok ia (by show sk.dep+1<=j;rwa[N09]) (R2.same s2) l2 t2 ((k1.trans k2).trans$ aX.of_same s2)]
def FT:dQ (s++[x]) (-1)=δ x:=by
 let l:(s++[x]).length=ο s+1:=by rw[RN];rfl
 unfold dQ on;rw[l,RU P',RV P'];let e:(-1+((ο s+1:Nat):Int)).toNat=ο s:=P'
 show(s++[x])[(-1+((ο s+1:Nat):Int)).toNat]?=_;rw[e];simp
inductive NC(H:Hp)(nA:η)(d:Df)(u:V):Gd->Prop
 |give (p:η) (a:Int) (e:u= .ref p) (h:H p= ~~~[.str "give",.int a]) (i:g9 a):NC H nA d u (.give a)
 |go (p hv:η) (n:Nat) (c:Ct) (is:FA Int) (e:u= .ref p) (h:H p= ~~~[.str "go",.int (n:Int),.ref hv]) (h2:H hv= ~~~(is.map Da)) (hc:(b6 nA d)[n]?=δ c) (hl:ο is=(canon c.M).length) (hi:∀i∈is,g9 i):NC H nA d u (.go n is)
def yt{H:Hp}(h:aT f (yr (eU N d) k g) u [])(j:GT k)(l:LD H Y d.b.cuts g):NC f N d u (iY (eU N d) k g):=by
 cases g with
 |give t T=>let(p,e,h):=XT h;rwa[.give p _ e h (Ki j l.2.1)]
 |nought=>let(p,e,h):=XT h;rwa[.give p 0 e h KG]
 |go n=>
  let(p,y,e,h,q):=BJ h;let(a,X,rfl,m,c):=KJ q;let r:n < (b6 N d).length:=by rw[rH];rwa[l]
  let o:(b6 N d)[n]?=δ (b6 N d)[n]:=RI r;let c:aT f (aG (((eU N d n).map λx=>look k (.inr x) 0).map aH)) .non X:=by rw[Ts];rwa[c]
  rw[Qq c]at m;erw[.go p a n _ _ e h m o (by rw[RJ,yD o]) λi s=>?_];let(x,_,rfl):=β.mp s;rwa[KF j KG]
inductive CI(a:nS)(K:dU)(h:OC)(C r o n F J l N G:η)(b t j:Nat)(i:bf)(v:V)(d:Df)(H:Hp)(E:Nat)(P:_L.St)(k:Hp):Prop
 |mk(I:FC V)(u:V)(g:Gd)(m:Nat)(M:Sk)(O:FA V)(L:bf)(p:P=[↑r,δ v,↑l,δ (.int (b:Int)),↑N,δ u,I])(q:k N=O⁻¹)(s:eZ k M .non O)(w:M.ok μ)(x:M.dep+1<=j)(y:NC k G d u g)(z:Rn k C r o n F J 60 (t+M.size) L i)(A:ο L<=t+M.size)(B:t+M.size<=60)(D:aX r F H k)(c:E+t+M.size=61)(e:(nY a i K m g L (t+M.size)).pre M=h)(f:62<=m+(t+M.size))
def oA:al ["self","part","args","deep","steps","goal","what"] z14z (ae DN):=bP
def Hs(F:aM K "chain_of" "BookRun.chain_of" DN f fd)(ck:RK K C)(cF:{9} fF f2 ["part","args"] (gM nA) "first_of")(cD:{9} fD f3 z13z (gL nA) "deed_at")(cO:{9} fO f4 ["part","step"] (Bi nA) "onward")(GW:ai P w K mg base (gr P w) (2*j+13) fW f0 z20z (rB C TL TD nA j))(bW:ax K f0 z20z [])(m0:bq K C "what_of" fW)(m1:mg "tuple"=ι):ai P w K mg base (gr P w) (2*j+14) f fd z14z (eP C TL TD nA$ j+1):=by
 erw[F.ok1 oA λc3 A o1 s H vs Q E hr h=>?_]
 symm;let(r,dx,cA,lA,pA,ag,U,t,i,L,y,v,d,ds,ns,xs,x,is,rfl,b4,_,hR,a0,ht,hP,hd,hn,hv,ha,h3,q,t4):=h;erw[_,%[oA|_ce4qbce5 cF.e hr.m _a1a2bc (YA PassesOwn.leaving %[oA|_rh5] %[oA|_ce6M0 ck.cl _β GW hr.m bW .nil qv _a cD.e hr.m _a1ah5ah5ba3bczE PySem.F.plainAttrs_list PySem.F.slot_list_append PySem.F.type_list_append _δ4afah5ah5a6bbde5 cO.e hr.m _a1aly4Z qw _jpb]) _dkfah1a2aFοg m1 boot_tuple _a4bah5b],?_];let b5:=aI;symm;let(ys,g,h1,b9,pr,a1):=hP.part hd hv;let(ps,h4,a2,a3):=hP.pa.2 i d _ hd hn;let e3:ps=g.ps:=by let z:=h4.symm.trans pr.ps;injection z with z;injection z with z;exact(List.map_inj_right λa b e=>by injection e).mp z
 subst e3;let e0:cq x y (j+1) d.f is L t=nY (cq x y j) y g 62 (iY (wV g) (dh g.way.sets$ bn g.ps is) g.way.goal) L t:=by show(match dX x d.f with |none=>OC.long |some g=>nY (cq x y j) y g 62 (iY (wV g) (dh g.way.sets$ bn g.ps is) g.way.goal) L t)=_;rw[a1]
 right;generalize cq x y (j+1) d.f is L t=X at q t4 e0;sleep 3;erw[aj λF1 J=>#[iT,λS Y=>J _ _ ?_]];left;let s1:aa H (af H S$ .lst []):=je Y;let l1:af H S (.lst []) S=[]⁻¹:=jc;generalize af H S (.lst [])=H1 at s1 l1 ⊢;let e4:=pr.wy;let h2:=pr.wv;erw[aj λF1 J=>#[1212,v,ag,d,ys,g.ps,is,g.way,Z,h1.mono$ aa.tm s1,s1 _ _ h4,P',s1 _ _ ha,a2.symm,h3,e4,h2.mono$ aa.tm s1,λu H2 hu s2=>J _ _ ?_]];left;let S2:=s1.trans s2;let gz:GT (bn g.ps is):=Qj h3;let g0:=yt (H:=H) hu (JC h2.sets gz) h2.goal;rw[pr.nms]at g0;let s0:S≠r:=Ne.symm (jk hR.ins Y);let s3:S≠lA:=Ne.symm (jk hR.lf Y);let s9:cA≠S:=jk hR.ce Y;erw[aj λF1 J=>?_];erw[BM (CI (cq x y j) g X C r dx cA lA pA ag S nA U t (j+1) y v d H) (61 - t) #[ι,u,_,(62),.nil,[],L,Z,s2 _ _ l1,Z,trivial,by show 0+1<=j+1;rwa[N09],g0,hR.same S2,a0,ht,aX.of_same S2,by show 61 - t+t+0=61;omega,by rw[e0];show OC.pre .nil (nY (cq x y j) y g 62 _ L t)=_;cases nY (cq x y j) y g 62 (iY (wV g) (dh g.way.sets$ bn g.ps is) g.way.goal) L t<;>rfl,by show 62<=62+(t+0);omega] ?_];intro kk σ H3 E' rt fE F kT cF.k Gq kq hW;symm;let(o6,u,gd,m,N,R,L1,rfl,w1,w2,w3,w4,w5,w6,w7,w8,w9,b',W,c4):=hW;obtain⟨m,rfl⟩:∃m',m=m'+1:=#[m - 1,P'];let t0:=hR.tm w9;let P3:=hP.mono t0;cases w5 with
 |give p a e h5 ia=>subst e;erw[kq$ ju h5 Z #[212,?_]];rw[show decide (Cv (Str.ofString "give")=Cv (Str.ofString "go"))=ξ by decide+kernel];erw[cF.k _$ J _ _ ?_];symm;let(pa,ca,wv,cs,e,h7,_):=(h1.mono t0).parts;subst e;erw[(ju h7 Z #[1212,S,R,Z,.inl #[aE.of w1,λl2 n0=>?_]])];let s4:aa H3 (af H3 l2$ .tup R):=je n0;erw[(ju (s4 _ _ h5) Z #[wW,λv2 nv=>?_])];let s5:=s4.trans (je (o:=.tup [.str d.f,.ref ag,.ref l2,.int a]) nv);let S5:aX r lA H (af (af H3 l2$ .tup R) v2$ .tup [.str d.f,.ref ag,.ref l2,.int a]):=w9.trans (aX.of_same s5);let W:OC.ok (N.app .nil) a L1 (t+N.size)=X:=W;rw[Y1 w3]at W;rwa[q _ N a L1 _ W.symm #[v2,ag,l2,R,Z,jc,hR.tm S5 _ _ ha,ap jc nv,w2.mono$ aa.tm s5] w3 w4 ia (w6.same s5) w7 w8 S5]
 |go p D n c hs e h5 h6 hc hl hi=>
  subst e;erw[kq$ ju h5 Z #[212,?_]];rw[show decide (Cv (Str.ofString "go")=Cv (Str.ofString "go"))=μ by decide+kernel];erw[kT _ ?_];clear kT cF.k J;let P1:=h1.mono t0;symm;let(pa,ca,wv,cs,e9,h7,_,_,a4):=P1.parts;let(ka,na,wa,dv,c5,_,c1):=P1.cut a4 hc;let a':n < ο g.cs:=by rw[pr.len];exact(ν.mp hc).1
  obtain⟨cd,h8⟩:∃cd,g.cs[n]?=δ cd:=#[_,ir a'];let cr:=(pr.cs n c cd hc h8).mono t0;let(c2,e,c0):=cd;let(e1,ed,d0,e5,l0,b0):=cr;let e1:c2=canon c.M:=e1;subst e1;let W:OC.pre N (match g.cs[n]? with
   |none=>OC.long
   |some c=>match iA (cq x y j) y (bn c.nm hs) L1 (t+N.size) c.e with
    | .ok w L1 t1=>(nY (cq x y j) y g m (Dq g c hs w.wh) L1 t1).cons (n:Int) hs w
    | .long=>.long
    | .deep=>.deep)=X:=W
  rw[h8]at W;let W:OC.pre N (match iA (cq x y j) y (bn (canon c.M) hs) L1 (t+N.size) e with
    | .ok w L1 t1=>(nY (cq x y j) y g m (Dq g #[canon c.M,e,c0] hs w.wh) L1 t1).cons (n:Int) hs w
    | .long=>.long
    | .deep=>.deep)=X:=W
  let gk:GT (bn (canon c.M) hs):=Qj hi;sleep 2;erw[aj λF1 J=>#[12,r,dx,12,w6.ins,212,ju h5 Z$ ju h5 Z #[v,n,D,d,ys,c,hs,e,Z,P1,hc,h6,hl,hi,ed,d0,λud H4 b1 s4=>?_]]];let t8:=t0.trans (aa.tm s4);erw[12,r,dx,cA,lA,pA,U,t+N.size,L1,y,bn (canon c.M) hs,ud,e,ys,ds,ns,xs,x,Z,P',w6.same s4,w7,w8,hP.mono t8,b1,d0.mono$ aa.tm s4,gk,?_,λw uw L' H5 e7 hw o0 ft d1 R5 l5 t5 k5=>J _ _ ?_,?_]
  .symm;cases e with
   |ask=>right;trivial
   |st p0 l=>cases l<;>first |trivial |exact hP.cs hd _ e5
  .left;let K5:aX r lA H3 H5:=(aX.of_same s4).trans k5;let t6:am H3 H5:=w6.tm K5;let g5:=t6 _ _ h5;let w0:H5 S=R⁻¹:=K5 _ _ s0 s3 w1;let l3:=J3 w3 w2;erw[aj λF1 J=>#[12,.inl #[21,aE.of w0],ju g5 Z$ ju g5 Z #[12,ip,λO n3=>?_]]];let s6:aa H5 (af H5 O$ .tup [.int (n:Int),.ref D,uw]):=je n3;let e6:af H5 O (.tup [.int (n:Int),.ref D,uw]) O= ~~~[.int (n:Int),.ref D,uw]:=jc;erw[S,1122,s6 _ _ w0,P',J _ _ ?_];left;generalize af H5 O (.tup [.int (n:Int),.ref D,uw])=H6 at s6 e6;let b7:aA S H6 (af H6 S$ .lst$ R++[.ref O]):=λb o nb e=>by rw[jh nb];exact e
   let t3:am H6 (af H6 S$ .lst$ R++[.ref O]):=λb xs e=>b7 _ _ (jQ e (s6 _ _ w0) FI) e;let w':af H6 S (.lst$ R++[.ref O]) S=(R++[.ref O])⁻¹:=jc;generalize af H6 S (.lst$ R++[.ref O])=H7 at b7 t3 w';let t2:am H5 H7:=λb xs e=>t3 _ _ (s6 _ _ e);let B:am H3 H7:=t6.trans t2;let G:w.wh.side < ο c.ws:=by
    rw[c1.v.len,<- ed];symm;cases e with
    |ask ta T=>show _ < 2;unfold Wh.side;split<;>(try split)<;>omega
    |st p0 l=>show _ < 1;symm;cases w<;>first |exact Nat.one_pos |exact o0.elim | (cases l<;>rwa[ft.elim])
   symm;obtain⟨I,h0⟩:∃I,c0[w.wh.side]?=δ I:=#[_,ir (by rw[l0];rwa[G])];let(e2,h'):=b0 _ _ I (ir G) h0;let sv:og H7 nA d ys v O n D uw c hs w.wh e I:=#[P1.mono B,t3 _ _ e6,hc,B _ _ h6,hl,hi,(OU o0 hw).mono t2,ed,d0.mono B,ft,by rw[e2];rwa[ir G],h'.mono B];let b2:dQ (R++[Fa O]) (-1)=↑O:=FT;erw[121212,S,11122,aE.of w',b2,v,uw,O,D,n,d,ys,c,hs,w.wh,e,I,Z,sv,λu2 H8 b3 s8=>?_];let t7:=aa.tm s8;let t':=B.trans t7;let g1:=yt (H:=H7) b3 (JC sv.wdv.sets$ xo ft gk) sv.wdv.goal;let e8:Dq g #[canon c.M,e,c0] hs w.wh=iY (wV g) (dh I.sets$ wT e w.wh$ bn (canon c.M) hs) I.goal:=by show(match c0[w.wh.side]? with |some wd=>iY (wV g) (dh wd.sets$ wT e w.wh$ bn (canon c.M) hs) wd.goal |none=>Gd.give 0)=_;rw[h0]
   rw[pr.nms,<- e8]at g1;rw[e7]at W;let W:OC.pre N ((nY (cq x y j) y g m (Dq g #[canon c.M,e,c0] hs w.wh) L'$ t+N.size+1+w.size).cons (n:Int) hs w)=X:=W;rw[Am _ w3]at W;let s7:=Y0 (n:=(n:Int)) (hs:=hs) (w:=w) w3;let R7:Rn H7 C r dx cA lA pA 60 (t+N.size+1+w.size) L' y:=#[b7 _ _ (Ne.symm s0)$ s6 _ _ R5.ins,b7 _ _ (Ne.symm s3)$ s6 _ _ R5.lf,b7 _ _ s9$ s6 _ _ R5.ce,R5.iL,R5.iC,R5.cl];let ez:t+N.size+1+w.size=t+(Sk.put (n:Int) hs w N).size:=by rw[s7];omega
   rw[ez]at R7 l5 t5 W;erw[fE (kk - (w.size+1)) _ _ P' #[_,u2,_,m,Sk.put (n:Int) hs w N,R++[.ref O],L',Z,s8 _ _ w',(Fg (t3 _ _ e6) (B _ _ h6) (hw.mono t2) w3$ w2.mono B).mono t7,tN o0 w3,?_,g1,R7.same s8,l5,t5,?_,by rw[s7];omega,W,P']]
   .let:=tL (n:=(n:Int)) (hs:=hs) (w:=w) (j:=j) d1 w3 P';omega
   .intro b o n1 n2 e;rwa[s8 _ _$ b7 _ _ (jk e Y)$ s6 _ _$ K5 _ _ n1 n2$ w9 _ _ n1 n2 e]
  .rwa[pC.next ((t4.imp (λz=>by rw[z]at W;rwa[W.symm]) (λz=>by rw[z]at W;rwa[W.symm])).mono λH5 kk=>λb o n1 n2 nx e=>kk b o n1 n2 nx (s4 _ _$ w9 _ _ n1 n2 e))]
inductive uK(f e l:η)(o:FA V)(H:Hp)(Q:VK)(E:XK):Prop
 |mk(n g h:η)(i:Nat)(c:bf)(d:Df)(j:FA Df)(m:FA Nat)(p:FA V)(b:FA dU)(k:FA Int)(_:o=[.ref n,.str d.f,.ref g,.ref h,.int 60])(_:Ps H l n j m p b)(_:j[i]?=δ d)(_:m[i]?=δ k.length)(_:H g= ~~~(k.map Da))(_:∀z∈k,g9 z)(_:H h=δ (.dK c))(_:GT c)(_:∀(u:V) (sk:Sk) (a:Int) (L':bf) (H':Hp),cq b c 16 d.f k [] 0= .ok sk a L' sk.size->oX H' d.f k sk a u->sk.ok μ->sk.dep<=15->sk.size<=60->aa H H'->Q u H')(_:pC (cq b c 16 d.f k [] 0= .long) (cq b c 16 d.f k [] 0= .deep) E f e (Kp H))
def Dv(h:aT H (fX n d) v []):∃p r,v= .ref p/\H p= ~~~(.str d.f:: .ref d.pa::r):=by obtain⟨_,a,x,rfl,b,_,_,c,y,rfl,⟨rfl,_⟩,_,_,e,Y,rfl,⟨rfl,_⟩,_⟩:=h;rwa[a,12,b]
def Hh:ai P w K mg base (gr P w) k f c z14z (eP C T b N 0):=by
 let n:∀{V H Q E},¬eP C T b N 0 V H Q E:=by rintro V H Q E ⟨r,e,g,l,j,m,D,t,i,L,q,v,d,u,x,X,p,I,_,_,z,_⟩;omega
 rwa[λV H Q E h=>(n h).elim,λA o s H a U V Q E y B F G h=>(n h).elim]
theorem LW(d:RK K C)(F:aM K "chain_of" "BookRun.chain_of" DN k f)(B:ax K f z14z [])(m:bq K C "chain_of" k)(l:aM K "what_of" "BookRun.what_of" DO D e)(o:ax K e z20z [])(M:bq K C "what_of" D)(p:{9} Q E ["part","args"] (gM n) "first_of")(q:{9} U H z13z (gL n) "deed_at")(r:{9} Y I ["part","step"] (Bi n) "onward")(GT:ai P w K mg base (gr P w) 1 J g ["self"] (lR C T))(s:ax K g ["self"] [])(a:bq K C "take_turn" J)(G:⇑1 L h ["self","cell"] (gR C))(t:ax K h ["self","cell"] [])(b:bq K C "number_in" L)(u:ai P w K mg base (gr P w) 1 v i ["deep"] (fj N))(x:ax K i ["deep"] [])(y:ii K (.ref v)=μ)(z:mg "deeper"=↑v)(A:{2} fP O ["parts","f"] nJ "part_of")(c:mg "tuple"=ι):∀j,ai P w K mg base (gr P w) (2*j+12) k f z14z (eP C T N n j)
 |0=>Hh
 |j+1=>Hs F d p q r (Hw l d GT s a G t b u x y z A (LW d F B m l o M p q r GT s a G t b u x y z A c j) B m) o M c
def Fo:al ["parts","f","args","cells","most","part"] z28z (ae IK):=bP
def HV(F:Fr K "run" IK f fd)(ck:RK K C)(mk:Mk K C fI)(GI:⇑2 fI y z25z (nK C))(bI:ax K y z25z [])(mC:mg "BookRun"=↑C)(cB:{2} fB f0 ["ones","f","args"] iR "begun")(GA:ai P w K mg base (gr P w) 44 fA B z14z (eP C TL TD nA 16))(bA:ax K B z14z [])(M:bq K C "chain_of" fA):ai P w K mg base (gr P w) 45 f fd z28z (uK TL TD nA):=by
 erw[F.ok1 Fo λc0 A O s H vs Q E G h=>?_]
 let(g,I,j,i,J,d,ds,ns,X,k,is,rfl,x,L,hn,ha,R,t,T,q,U):=h;erw[_,%[Fo|_ce5 cB.e G.m _a0a1a2bdkM (tF mk GI G.m Z mC bI .nil bg %[Fo|_a0a3a4b]) ck.cl M GA G.m bA .nil qv _a5a2ajb],?_];let(v,hv,tv,h0,V):=x.at L;let(p,pr,rfl,hp):=Dv tv;let(ps,W,h1,_):=x.pa.2 i d _ L hn;erw[aj λF1 f1=>#[121212,g,I,d.f,X,_,i,.ref p,p,d.pa,pr,12,x.at',hv,Z,hp,W,ha,by rw[RJ,RJ];omega,V,f1 _ _ ?_]];erw[121212,λr D N nd ne=>?_];let s0:aa H (af (af H D$ .own r) r$ .ins C D []):=λc o e=>by rw[jh$ jk e N,jh$ jk e nd];rwa[e]
 erw[r,D,g,j,(60),Z,jc,λl Y=>#[Z,?_]];let n0:l≠r:=λe=>by rw[e,jc]at Y;cases Y
 let n:H l=ι:=by
  cases z:H l with
  |none=>rfl
  |some o=>have:=s0 _ _ z;rw[Y]at this;cases this
 let S:aa H (af (af (af (af H D$ .own r) r$ .ins C D []) l$ .dK []) r$ .ins C D$ iV j l g 60 0):=λc o e=>by rw[jh$ jk e N,jh$ jk e n];rwa[s0 _ _ e]
 let R1:Rn (af (af (af (af H D$ .own r) r$ .ins C D []) l$ .dK []) r$ .ins C D$ iV j l g 60 0) C r D j l g 60 0 [] J:=#[jc,by rw[jh n0];rwa[jc],S _ _ t,GT.nil,T,jk t n];generalize af (af (af (af H D$ .own r) r$ .ins C D []) l$ .dK []) r (.ins C D$ iV j l g 60 0)=H1 at S R1;let t0:=aa.tm S;erw[r,D,12,R1.ins,21212,r,D,j,l,g,I,0,0,i,[],J,.ref p,d,ds,ns,X,k,is,22,Ra,R1,RO _,Ra,x.mono t0,L,hn,hv,S _ _ ha,R,λu sk a L' H2 eq hc ok dp ia R2 l2 t2 k2=>?_,pC.next$ U.mono λH' kk=>λb o nx e=>kk b o (jk e N) (jk e n) nx (S _ _ e)];rwa[q u sk a L' H2 (by rw[UL]at eq;rwa[eq]) hc ok P' P' λc o e=>k2 c o (jk e N) (jk e n) (S _ _ e)]
def zL{H:Hp}{a:FA Int}(e:H h= ~~~(a.map Da)):aT H (aJ$ a.map aH) (.ref h) []:=jM e KH
theorem qS:∀i:FA Int,(aG$ i.map aH).dep=0
 | []=>rfl
 |_::i=>by show max 0 (aG (i.map aH)).dep=0;rw[qS i];rfl
def Ip{p:FA ρ}{v:V}(h:oe H N d y v)(g:H d.pa= ~~~(p.map Cv)):∃q,Ce H N d y q:=by
 let(W,E,i):=h.way;let(a,J,L,O,rfl,Q,m,r,j):=h.parts;let(C,s,t):=Co (R:=λc u=>LB H y N d c u) (b6 N d) λc k=>by let(n,x,z):=im.mp k;let(S,T,U,X,A,_,o):=h.cut j (n:=n) (c:=c) (by rw[<- z];rwa[RI x]);let(e,B,D,F):=Me o.v.deed;let(G,I,l):=Co (R:=λ(w:Wy) (W:WD)=>W.wy N=w/\BV H y d.b.cuts d.b.size W) c.ws λw m=>o.v.ways w m;rwa[#[canon c.M,e,G],Z,B,D,F,I,l]
 rwa[#[d.f,p,W,C],Z,g,E,i,s,t]
def MS{H:Hp}{D:FA Df}(a:H l= ~~~x)(T:aT H (aG$ D.map$ fX n) .non x)(g:∃z,cV H D z)(o:wX D N)(j:n8 H D N):∃p,Ps H n l D N x p:=by
 let L:=zu T;rw[RJ]at L;let(p,m,q):=Co (R:=λd c=>∃y,(d.b.Ok y/\y.length<=20)/\Ce H n d y c) D λd e=>by
  let(i,r,E):=im.mp e;let h:D[i]?=δ d:=by rw[<- E];rwa[RI r]
  let s:x[i]?=δ (x[i]'P'):=RI _;let(t,k,u):=Jn T i _ s;rw[RX,h]at k;cases k;let(z,A):=g;obtain⟨⟨y,Y,o⟩,_,S⟩:=(o.1 d e).1;let(C,f,_):=j.v d e;let(c,B):=Ip (v:=x[i]'P') #[u,xO A h,o,Y,S] f;rwa[c,y,#[o,Y],B]
 rwa[p,a,T,g,o,j,m,q]
def xK{call:nS}{w:Sk}(h:iA call C k L t e= .ok w l T):t < 60:=by
 by_cases z:t < 60
 .rwa[z]
 .rw[rP z]at h;cases h
noncomputable def GZ:V->Bool
 | .int _ | .str _=>μ
 |_=>ξ
def _root_._L.Tr.In:Tr->Prop
 | .lf v=>GZ v=μ
 | .tp l=>l.In
 | .nil=>True
 | .cons h t=>h.In/\t.In
def _root_._L.Tr.items:Tr->FA Tr
 | .cons h t=>h::t.items
 |_=>[]
theorem XU{H:Hp}:∀{t u:Tr} {x:V} {xs:FA V},aT H t x xs->aT H u x xs->t.isL=u.isL->t.In->u.In->t=u
 | .lf v,.lf w,_,_,h,k,_,_,_=>by rw[<- h.1,<- k.1]
 | .lf v,.tp m,_,_,h,k,_,i,_ | .tp l,.lf v,_,_,k,h,_,_,i=>by let(_,a,_,e,_):=k;let E:=h.1;rw[e]at E;rw[<- E]at i;cases i
 | .tp l,.tp m,_,_,h,k,_,i,j=>by let(o,a,xs,e,p,q):=h;let(r,b,Y,c,d,f):=k;rw[e]at c;cases c;rw[p]at d;cases d;rw[XU q f (o.trans r.symm) i j]
 | .nil,.nil,_,_,_,_,_,_,_=>rfl
 | .nil,.cons _ _,_,_,h,k,_,_,_ | .cons _ _,.nil,_,_,k,h,_,_,_=>by let(_,_,_,_,e,_):=k;let h:_=[]:=h;rw[e]at h;cases h
 | .cons h t,.cons G T,_,_,k,s,_,i,j=>by let(A,B,y,Y,e,d,f):=k;let(C,D,I,F,c,g,n):=s;rw[e]at c;cases c;rw[XU d g (A.trans C.symm) i.1 j.1,XU f n (B.trans D.symm) i.2 j.2]
 | .lf _,.nil,_,_,_,_,z,_,_ | .lf _,.cons _ _,_,_,_,_,z,_,_ | .tp _,.nil,_,_,_,_,z,_,_ | .tp _,.cons _ _,_,_,_,_,z,_,_ | .nil,.lf _,_,_,_,_,z,_,_ | .nil,.tp _,_,_,_,_,z,_,_ | .cons _ _,.lf _,_,_,_,_,z,_,_ | .cons _ _,.tp _,_,_,_,_,z,_,_=>nomatch z
theorem qT:∀{l:Tr} {X:FA V},l.isL=μ->l.In->aT H l .non X->ο X=ο l.items/\∀(j:Nat) (x:V),X[j]?=δ x->∃t,l.items[j]?=δ t/\t.isL=ξ/\t.In/\t.dep<=l.dep/\aT H t x []
 | .nil,X,_,_,h=>by let h:X=[]:=h;rw[h];rwa[Z,λj x z=>by simp at z]
 | .cons a t,X,_,i,h=>by
  let(A,c,y,Y,e,k,d):=h;subst e;let(L,f):=qT c i.2 d;erw[SQ (·+1) L,λj x b=>?_];cases j with
  |zero=>cases b;rwa[a,Z,A,i.1,U0 _ _,k]
  |succ j=>let(u,g,m,n,o,p):=f j x (b:);rwa[u,by simpa [_L.Tr.items] using g,m,n,Sf o$ UM _ _,p]
 | .lf _,_,z,_,_ | .tp _,_,z,_,_=>nomatch z
theorem Y2:∀{l m:Tr} {x y:FA V},l.isL=μ->m.isL=μ->aT H l .non x->aT H m .non y->(l=m↔l.items=m.items)
 | .nil,.nil,_,_,_,_,_,_=>#[λ_=>Z,λ_=>Z]
 | .nil,.cons _ _,_,_,_,_,_,_ | .cons _ _,.nil,_,_,_,_,_,_=>#[λz=>(nomatch z),λz=>(nomatch z)]
 | .cons a t,.cons b u,_,_,_,_,h,k=>by let(_,A,_,_,_,_,d):=h;let(_,B,_,_,_,_,c):=k;let i:=Y2 A B d c;erw[λz=>by cases z;rfl,λz=>?_];let z:a::t.items=b::u.items:=z;injection z with e f;rw[e,i.mpr f]
 | .lf _,_,_,_,z,_,_,_ | .tp _,_,_,_,z,_,_,_ | .nil,.lf _,_,_,_,z,_,_ | .nil,.tp _,_,_,_,z,_,_ | .cons _ _,.lf _,_,_,_,z,_,_ | .cons _ _,.tp _,_,_,_,z,_,_=>nomatch z
open Classical in
def ie(t u:Tr):Bool:=decide (t=u)
open Classical in
def zW(h:t=u):ie t u=μ:=by unfold ie;rwa[R0 h]
open Classical in
def zC(h:t≠u):ie t u=ξ:=by unfold ie;rwa[RW h]
def mh(l m:Tr)(j:Nat):Bool:=match l.items[j]?,m.items[j]? with
 |some t,δ u=>ie t u
 |_,_=>μ
def Y3{l m:Tr}(a:l.isL=μ)(b:m.isL=μ)(h:aT H l .non x)(k:aT H m .non y)(d:n=ο l.items)(E:N=ο m.items):((dg$ min n N).all (mh l m)&&n==N)=ie l m:=by
 by_cases e:l=m
 .subst e;rw[zW Z,d,E,Wo,Bool.and_true,Vd];intro j _;unfold mh;cases l.items[j]? with
  |none=>rfl
  |some t=>rwa[zW Z]
 .rw[zC e];let f:l.items≠m.items:=λz=>e ((Y2 a b h k).mpr z);by_cases g:n=N
  .let z:(dg$ min n N).all (mh l m)=ξ:=by rw[Wv];intro z;rw[Vd]at z;erw[f$ VL P' λj i o=>?_];let:=z j (mu.mpr P');unfold mh at this;rw[RI i,RI o]at this;exact Classical.byContradiction λc=>by let C:=zC c;dsimp only at this;rw[C]at this;cases this
   rw[z];rfl
  .rw[show(n==N)=ξ from beq_eq_false_iff_ne.mpr g,Wa]
section
open PySem.SeqAt
variable {X:Cx}
def Mw{w:V}(H:GZ v=μ)(h:GZ w=μ)(R:aB v a)(r:aB w b):EqAt A s a b (ie (.lf v)$ .lf w):=by
 cases v with
 |int i=>
  let(T,rfl):=R;cases w with
  |int j=>
   let(t,rfl):=r;let z:=EqAt.int_int (A:=A) (s:=s) i T j t;by_cases e:i=j
   .subst e;rw[Wo]at z;rw[zW Z];rwa[z]
   .rw[beq_eq_false_iff_ne.mpr e]at z;rw[zC (λc=>e (by injection c with c;injection c))];rwa[z]
  |str y=>let(t,rfl):=r;rw[zC (λc=>by injection c with c;cases c)];rwa[EqAt.int_str _ _ _ _]
  |_=>cases h
 |str i=>
  let(T,rfl):=R;cases w with
  |str j=>
   let(t,rfl):=r;let z:=EqAt.str_str (A:=A) (s:=s) i T j t;by_cases e:i=j
   .subst e;rw[Wo]at z;rw[zW Z];rwa[z]
   .rw[beq_eq_false_iff_ne.mpr e]at z;rw[zC (λc=>e (by injection c with c;injection c))];rwa[z]
  |int y=>let(t,rfl):=r;rw[zC (λc=>by injection c with c;cases c)];rwa[EqAt.str_int _ _ _ _]
  |_=>cases h
 |_=>cases H
def M3(I:aq X p σ H s)(n:Nat)(G:∀(t:Tr) {A:bU},t.dep<=n->A.units+n < cLine->t.In->t.isL=ξ->∀{u:Tr} {x y:V},u.In->u.isL=ξ->aT H t x []->aT H u y []->∀a b,aB x a->aB y b->EqAt A s a b (ie t u)){l m:Tr}(hn:l.dep<=n)(hu:A.units+n+1 < cLine)(J:l.In)(L:m.In)(d:l.isL=μ)(f:m.isL=μ)(M:H g= ~~~i)(N:H B= ~~~o)(T:aT H l .non i)(q:aT H m .non o):RcAt A s (.ref g) (.ref B) (ie (.tp l)$ .tp m):=by
 let(v,r,O,_):=I.tuple (aC.of (K:=X.K) M);let(C,R,Q,_):=I.tuple (aC.of (K:=X.K) N);let(S,U):=qT d J T;let(W,Y):=qT f L q;let z:=RcAt.tuples (A:=A) (e:=mh l m) (show s.heap.IsTuple g v.toArray from O) (show s.heap.IsTuple B C.toArray from Q) P' (λj h1 h2=>?_)
 .rw[Y3 d f T q (by rw[RS,<- r.length,S]) (by rw[RS,<- R.length,W])]at z;let E:ie (.tp l) (.tp m)=ie l m:=by
   by_cases c:l=m
   .rw[zW c,zW (by rw[c])]
   .rw[zC c,zC (λk=>c (by injection k))]
  rw[E];rwa[z]
 .let la:=r.length;let lb:=R.length;let D:j < ο i:=by simp at h1;omega
  let h:j < ο o:=by simp at h2;omega
  let(u1,q1,r1):=r.get (RI D);let(u2,q2,r2):=R.get (RI h);let e1:v.toArray[j]=u1:=by let(_,e):=ν.mp q1;simpa using e
  let E:C.toArray[j]=u2:=by let(_,e):=ν.mp q2;simpa using e
  rw[e1,E];let(F,g1,g2,g3,g4,g5):=U j _ (RI D);let(u',k1,k2,k3,k4,k5):=Y j _ (RI h);let et:mh l m j=ie F u':=by unfold mh;rw[g1,k1]
  rw[et];rwa[G F (A:=A.in1) P' (by show A.units+1+n < cLine;omega) g3 g2 k3 k2 g5 k5 _ _ r1 r2]
def XV(I:aq X z Y H s):∀(n:Nat) (t:Tr) {A:bU},t.dep<=n->A.units+n < cLine->t.In->t.isL=ξ->∀{u:Tr} {x y:V},u.In->u.isL=ξ->aT H t x []->aT H u y []->∀a b,aB x a->aB y b->EqAt A s a b (ie t u):=by
 intro n;induction n with
 |zero=>
  intro t A k J i L u x y d g j h a b R r;cases t with
  |tp l=>rwa[absurd k (by show ¬l.dep+1<=0;omega)]
  |nil |cons _ _=>cases L
  |lf v=>
   let(rfl,_):=j;cases u with
   |nil |cons _ _=>cases g
   |lf w=>let(rfl,_):=h;rwa[Mw i d R r]
   |tp m=>
    let(_,B,M,rfl,o,_):=h;cases r;let(W,N,C,_):=I.tuple (aC.of (K:=X.K) o);rw[zC (λc=>by cases c)];cases x<;>first |cases i |skip
    .let(T,rfl):=R;rwa[EqAt.int_tuple _ _ C N09]
    .let(T,rfl):=R;rwa[EqAt.str_tuple _ _ C P']
 |succ n D=>
  intro t A k J i L u x y d g j h a b R r;cases t with
  |nil |cons _ _=>cases L
  |lf v=>rwa[D (.lf v) (R4 _) P' i L d g j h a b R r]
  |tp l=>
   let(E,p,O,rfl,q,F):=j;cases R;let(ia,Q,G,_):=I.tuple (aC.of (K:=X.K) q);cases u with
   |nil |cons _ _=>cases g
   |lf w=>
    let(rfl,_):=h;rw[zC (λc=>by cases c)];cases y<;>first |cases d |skip
    .let(T,rfl):=r;rwa[EqAt.tuple_int _ _ G P']
    .let(T,rfl):=r;rwa[EqAt.tuple_str _ _ G P']
   |tp m=>
    let f:=id h;let(S,B,M,rfl,o,U):=h;cases r;by_cases e:p=B
    .subst e;rw[zW$ XU (H:=H) (t:=.tp l) (u:=.tp m) (x:=.ref p) (xs:=[]) #[E,p,O,Z,q,F] f Z i d];rwa[EqAt.same _]
    .rwa[EqAt.of_refs e$ M3 I n D (by let:l.dep+1<=n+1:=k;omega) N09 i d E S q o F U]
inductive MV(d:Nat)(x y:V)(H:Hp)(Q:VK):Prop
 |mk(l m:Tr)(_:l.dep < d)(_:l.In)(_:m.In)(_:aT H (.tp l) x [])(_:aT H (.tp m) y [])(_:Q (.bl (ie (.tp l) (.tp m))) H)
def ZE{d:Nat}(c:X.A.units+d+1 < cLine):gu X (compareOp .Eq) (MV d):=by intro p s n H x y v u Q I r R h;obtain⟨l,m,o,i,e,⟨f,a,z,rfl,g,t⟩,⟨j,b,B,rfl,k,T⟩,q⟩:=h;cases r;cases R;rwa[M3 I d (XV I d) P' c i e f j g k t T X.prog X.w _ _ #[.bl _,H,I,Z,q]]
end
abbrev IF:de:=bN 27
def iI{w:V}:dQ (v::u::w::y) 2=δ w:=jO (j:=2) Z
def Od{w:V}:dQ (v::u::w::z::y) 3=δ z:=jO (j:=3) Z
def CB{X:FA V}{i:Nat}{x:V}(h:X[i]?=δ x):X.drop i=x::X.drop (i+1):=by let(H,e):=ν.mp h;rw[<- e,Tl]
def qD(h:oX H f i s a u)(k:am H b):oX b f i s a u:=by let(c,g,e,S,E,d,j,l,m):=h;rwa[c,g,e,S,E,k _ _ d,k _ _ j,k _ _ l,m.mono k]
def fu:Sk->Tr
 | .rd c _=>aJ [a7 "read",aH c]
 | .cl f I _ _=>aJ [a7 "call",a7 f,aJ (I.map aH)]
 | .wr c i=>aJ [a7 "write",aH c,aH i]
 | .ask b=>aJ [a7 "ask",aH b]
 |_=>.nil
def Gh{call:nS}{w:Sk}(h:iA call C k L t e= .ok w i j):fu w=Mf k e:=by
 let b:=xK h;cases e with
 |ask d T=>rw[XS b]at h;cases h;rfl
 |st p l=>
  cases l with
  |gv d T |st x d T=>unfold iA at h;rw[RV b]at h;cases h
  |rd x d T=>rw[rQ b]at h;cases h;rfl
  |wr d u T U=>rw[rR b]at h;cases h;rfl
  |cl x f q g=>
   rw[K2 b]at h;cases e:call f (g.map λc=>c.2.ev k) L (t+1) with
   |long |deep=>rw[e]at h;cases h
   |ok s a _L m=>rw[e]at h;cases h;show aJ [_,_,aJ ((g.map λc=>c.2.ev k).map aH)]=_;rw[Ts];rfl
inductive oH(b:FA V)(H:Hp)(Q:VK)(a:XK):Prop
 |mk(u:V)(w:Sk)(_:b=[u])(_:eZ H w u [])(_:w.ok ξ)(_:∀(v:V) (H':Hp),aT H' (fu w) v []->aa H H'->Q v H')
def M6:al ["what"] ["what"] (ae IF):=bP
def HG(F:Fr K "deed_in" IF f B):⇑1 f B ["what"] oH:=by
 erw[F.ok M6 λC A o s H V Q E l h=>?_]
 let(u,w,rfl,m,t,q):=h;erw[_,%[Z|_cmrh0dkAα0Qxjscmrh0dknWfaobAαh0Qxjsdk0],?_];cases w with
 |nil |st=>rwa[t.elim]
 |ask b=>let(p,rfl,d):=m;erw[aj λk i=>(ju d Z #[212,aW P8$ i _ _ ?_])];erw[aj λk i=>(ju d Z #[212,aW P8$ i _ _ ?_])];rwa[12,q _ _ (jM d$ jp Z kh$ jp Z zg jH)$ aa.refl _]
 |wr b D=>let(p,rfl,d):=m;erw[aj λk i=>(ju d Z #[212,aW P8$ i _ _ ?_])];erw[aj λk i=>(ju d Z #[212,aW P8$ i _ _ ?_])];rwa[12,q _ _ (jM d$ jp Z kh$ jp Z zg$ jp Z zg jH)$ aa.refl _]
 |rd b D=>let(p,rfl,d):=m;erw[aj λk i=>(ju d Z #[212,cw P8 #[1212,p,12,d,λr y l S=>q _ _ ?_ S]])];let l:y r= ~~~[.str "read",.int b]:=l;rwa[jM l$ jp Z kh$ jp Z zg jH]
 |cl f R s a=>let(p,c,g,e,T,rfl,d,G,I,U,W):=m;erw[aj λk i=>(ju d Z #[212,aW P8$ i _ _ ?_])];erw[aj λk i=>(ju d Z #[212,cw P8 #[l7,λJ n=>(ju (ap d n) hZ #[12,c,12,ap G n,λL y v S=>#[J,L,1122,S _ _ jc,v,ip,λM N j z=>q _ _ ?_ (((je n).trans S).trans z)]])]])];let j:N M= ~~~[.str "call",.str f,.ref g]:=j;rwa[jM j$ jp Z kh$ jp Z kh$ jp Z (zL$ z _ _$ S _ _$ ap I n) jH]
abbrev D2:de:=bN 7
abbrev D3:de:=bN 8
abbrev DV:de:=bN 9
abbrev aD:=FA Int
abbrev aO:=Int×FA Int×Sk
abbrev RA(a:Type):=Hp->V->a->Prop
def aV{a:Type}(R:RA a)(H:Hp):FA a->FA V->Prop
 | [],v=>v=[]
 |w::W,v=>∃x r,v=x::r/\R H x w/\aV R H W r
def NG{a:Type}(R:RA a):Prop:=∀(H h:Hp) (x:V) (w:a),am H h->R H x w->R h x w
section
variable {α:Type}{R:RA α}
theorem aV.mono(a:NG R)(k:am H b):∀{W:FA α} {v:FA V},aV R H W v->aV R b W v
 | [],_,h=>h
 |_::_,_,z=>by let(x,r,e,c,d):=z;rwa[x,r,e,a _ _ _ _ k c,aV.mono a k d]
theorem aV.app(a:aV R H b y):∀{W:FA α} {v:FA V},aV R H W v->aV R H (W++b) (v++y)
 | [],_,h=>by let e:_=[]:=h;rw[e];rwa[a]
 |_::_,_,z=>by let(x,r,e,c,d):=z;rwa[x,r++y,by rw[e];rfl,c,aV.app a d]
theorem aV.len:∀{W:FA α} {v:FA V},aV R H W v->ο v=ο W
 | [],_,h=>by let e:_=[]:=h;rw[e];rfl
 |_::_,_,z=>by let(x,r,e,b,a):=z;rw[e];rwa[SQ (·+1) (aV.len a)]
theorem aV.at:∀{W:FA α} {v:FA V},aV R H W v->∀{i:Nat} {x:V},v[i]?=δ x->∃w,W[i]?=δ w/\R H x w
 | [],_,h,i,x,a=>by let e:_=[]:=h;rw[e]at a;simp at a
 |w::_,_,q,0,x,a=>by let(y,r,e,b,c):=q;rw[e]at a;cases a;rwa[w,Z,b]
 |w::W,_,q,i+1,x,a=>by let(y,r,e,b,c):=q;rw[e]at a;rwa[aV.at c (i:=i) (a:)]
def aV.one{w:α}(h:R H x w):aV R H [w] [x]:=#[x,[],Z,h,Z]
theorem aV.map{a:Type}{S:RA a}{g:α->a}{f:V->V}(h:∀x w,R H x w->S H (f x) (g w)):∀{W:FA α} {v:FA V},aV R H W v->aV S H (W.map g) (v.map f)
 | [],_,e=>by let e:_=[]:=e;rw[e];rfl
 |_::_,_,z=>by let(x,r,e,b,c):=z;rwa[f x,r.map f,by rw[e];rfl,h _ _ b,aV.map h c]
end
def eI:RA aD:=λH x p=>∃a,x= .ref a/\H a= ~~~(p.map Da)
def aL:NG eI:=λ_ _ _ _ k #[a,e,h]=>#[a,e,k _ _ h]
def LO:RA (aD×Sk):=λH x w=>∃q p u,x= .ref q/\H q= ~~~[.ref p,u]/\H p= ~~~(w.1.map Da)/\eZ H w.2 u []
def sT:NG LO:=λ_ _ _ _ k #[q,p,u,e,h,H,a]=>#[q,p,u,e,k _ _ h,k _ _ H,a.mono k]
noncomputable def Sk.steps:Sk->FA aO
 | .st n h w r=>(n,h,w)::r.steps
 |_=>[]
noncomputable def Sk.ws:Sk->aD->Nat->FA (aD×Sk)
 | .st _ _ w r,p,k=>((p++[(k:Int)],w)::w.ws (p++[(k:Int)]) 0)++r.ws p (k+1)
 | .cl _ _ s _,p,_=>s.ws p 0
 |_,_,_=>[]
noncomputable def eJ:FA aO->aD->Nat->FA (aD×Sk)
 | [],_,_=>[]
 |s::r,p,k=>((p++[(k:Int)],s.2.2)::s.2.2.ws (p++[(k:Int)]) 0)++eJ r p (k+1)
theorem zB:∀{s:Sk},s.ok μ->∀p k,s.ws p k=eJ s.steps p k
 | .nil,_,_,_=>rfl
 | .st _ _ w r,o,p,k=>by show _++r.ws p (k+1)=_++eJ r.steps p (k+1);rw[zB o.2]
theorem zZ:∀(a b:FA aO) (p:aD) (k:Nat),eJ (a++b) p k=eJ a p k++eJ b p (k+ο a)
 | [],_,_,_=>rfl
 |s::a,b,p,k=>by show _++eJ (a++b) p (k+1)=(_++eJ a p (k+1))++eJ b p (k+(ο a+1));rw[zZ a b,SI,show k+1+ο a=k+(ο a+1) by omega]
theorem kI:∀{b:Bool} {s:Sk},s.ok b->∀(p:aD) (k:Nat),(s.ws p k).length=s.size
 |true,.nil,_,_,_=>rfl
 |true,.st _ _ w r,o,p,k=>by let h:=kI (b:=ξ) (s:=w) o.1 (p++[(k:Int)]) 0;let H:=kI (b:=μ) (s:=r) o.2 p (k+1);show(((p++[(k:Int)],w)::w.ws (p++[(k:Int)]) 0)++r.ws p (k+1)).length=w.size+r.size+1;rw[RN,So,h,H];omega
 |false,.cl _ _ s _,o,p,_=>kI (b:=μ) (s:=s) o p 0
 |false,.ask _,_,_,_ |false,.rd _ _,_,_,_ |false,.wr _ _,_,_,_=>rfl
def XX(a:FA aO)(i:Nat)(p:aD)(k:Nat):(eJ (a.take i) p k).length<=(eJ a p k).length:=by let:=SQ hJ (zZ (a.take i) (a.drop i) p k);rw[Uf,RN]at this;omega
inductive qxr(H:Hp)(s:Sk)(i:Nat)(x:V):Prop|mk(n b w p h u:_)(_:s.steps[i]?=δ (n,b,w))(_:w.ok ξ)(_:w.dep<=s.dep)(_:w.size+1<=s.size)(_:x= .ref p)(_:H p= ~~~[.int n,.ref h,u])(_:H h= ~~~(b.map Da))(_:eZ H w u [])
theorem qx:∀{s:Sk} {S:FA V},s.ok μ->eZ H s .non S->∀{i:Nat} {x:V},S[i]?=δ x->qxr H s i x
 | .nil,_,_,e,i,x,a=>by let e:_=[]:=e;rw[e]at a;simp at a
 | .st n b w r,_,o,q,0,x,a=>by let(p,h,u,y,e,d,f,g,j):=q;rw[e]at a;cases a;rwa[n,b,w,p,h,u,Z,o.1,U0 _ _,by show w.size+1<=w.size+r.size+1;omega,Z,d,f,g]
 | .st n b w r,_,o,q,i+1,x,a=>by let(p,h,u,y,e,d,f,g,j):=q;rw[e]at a;let(N,c,W,k,l,U,t,T,m,z,v,A,B,C):=qx o.2 j (i:=i) (x:=x) (a:);rwa[N,c,W,k,l,U,t,T,Sf m$ UM _ _,by show W.size+1<=w.size+r.size+1;omega,v,A,B,C]
theorem zF:∀{s:Sk} {S:FA V},s.ok μ->eZ H s .non S->ο S=ο s.steps
 | .nil,_,_,e=>by let e:_=[]:=e;rw[e];rfl
 | .st n b w r,_,o,z=>by let(p,h,u,y,e,c,d,f,a):=z;rw[e];rwa[SQ (·+1) (zF o.2 a)]
def u5(p:aD)(k:Nat):p.map Da++[Da (k:Int)]=(p++[(k:Int)]).map Da:=by rw[RP];rfl
inductive oR(n:Nat)(d:FA V)(H:Hp)(Q:VK)(a:XK):Prop
 |mk(b:η)(c:aD)(w:Sk)(u:V)(_:d=[.ref b,u])(_:H b= ~~~(c.map Da))(_:ο c+n<=100)(_:eZ H w u [])(_:w.ok ξ)(_:w.dep < n)(_:w.size<=1000)(_:∀(r:η) (xs:FA V) (H':Hp),H r=ι->H' r=xs⁻¹->aV LO H' ((c,w)::w.ws c 0) xs->aa H H'->Q (.ref r) H')
inductive lU(n:Nat)(g:FA V)(H:Hp)(Q:VK)(b:XK):Prop
 |mk(d:η)(e:aD)(f:ρ)(c:FA Int)(s:Sk)(a:Int)(u:V)(_:g=[.ref d,u])(_:H d= ~~~(e.map Da))(_:ο e+n+1<=100)(_:oX H f c s a u)(_:s.ok μ)(_:s.dep < n)(_:s.size<=1000)(_:∀(r:η) (xs:FA V) (H':Hp),H r=ι->H' r=xs⁻¹->aV LO H' (s.ws e 0) xs->aa H H'->Q (.ref r) H')
inductive Pb(h k:η)(j:aD)(u:V)(s:Sk)(H:Hp)(i:Nat)(m:_L.St)(a:Hp):Prop
 |mk(f g:FC V)(l:FA V)(b:m=[↑h,δ u,↑k,f,g])(c:a k=l⁻¹)(d:aV LO a (eJ (s.steps.take i) j 0) l)(e:aa H a)
def cy(p:aD)(w:Sk):FA aD:=p::(w.ws p 0).map (·.1)
def Qr{w:Sk}(o:w.ok ξ)(p:aD):(cy p w).length=w.size+1:=by unfold cy;rw[So,RJ,kI o]
inductive mz(n:Nat)(d:FA V)(H:Hp)(Q:VK)(a:XK):Prop
 |mk(b:η)(c:aD)(w:Sk)(u:V)(_:d=[.ref b,u])(_:H b= ~~~(c.map Da))(_:ο c+n<=100)(_:eZ H w u [])(_:w.ok ξ)(_:w.dep < n)(_:w.size<=1000)(_:∀(r:η) (xs:FA V) (H':Hp),H r=ι->H' r=xs⁻¹->aV eI H' (cy c w) xs->aa H H'->Q (.ref r) H')
noncomputable def vm(H:Hp):V->V
 | .ref q=>match H q with
  |some (.tup (x::_))=>x
  |_=>.non
 |_=>.non
def JI(l:FA V):(dg l.length).map (λi=>(l[i]?).getD .non)=l:=by erw[VL P9 λi H h=>?_];simp [RI h]
def EQ{H:Hp}(h:H q= ~~~[.ref p,u]):vm H (.ref q)= .ref p:=by show(match H q with |some (.tup (x::_))=>x |_=>V.non)=_;rw[h]
def Fs:al ["path","what","within"] z8z (ae D2):=bP
def yV{n:Nat}(F:Fr K "whats_at" D2 f fd)(cI:{2*n+2} fI f0 ["path","chain"] (lU n) "whats_in"):⇑(2*n+3) f fd z8z (oR$ n+1):=by
 erw[F.ok Fs λc0 A O s H vs Q E hr h=>?_]
 let(j,v,w,u,rfl,U,h0,D,k,W,hz,q):=h;erw[_,%[Fs|_ce2Urh1 cI.e hr.m _a0ah1bqbdknρqafa0a1bb2],?_];let b0:=aI;let fl:=kI k v 0;erw[aj λF1 G=>?_];suffices X:∀(l:η) (x:FA V) (d:Hp),d l=x⁻¹->aV LO d (w.ws v 0) x->aa H d->F1 [↑j,δ u,↑l] d by
  cases w with
  |nil |st=>rwa[k.elim]
  |ask b |rd c i |wr c i=>let(p,rfl,y):=D;exact(ju y Z #[212,aW P8 #[iT,λl Y=>X l [] _ jc Z (je Y)]])
  |cl f is s a=>let(p,c,g,e,ss,rfl,y,h2,h3,h4,h5):=D;let W:s.dep+1 < n+1:=W;exact(ju y Z #[212,cw P8 #[12,ju y Z #[j,v,f,is,s,a,.ref c,Z,U,N09,#[c,g,e,ss,Z,h2,h3,h4,h5],k,P',hz,λl x d Y I B S=>X l x d I B S]]])
 intro l x d I B S;erw[G _ _ ?_];let lx:=B.len;erw[1212,b8,λt J=>#[l7,λL N=>#[12,L,l,1122,jc,ap (ap I J) N,by show 1+ο x<=_;omega,λr M=>?_]]];let C:aa d (af (af (af d t$ .tup [.ref j,u]) L$ .lst [.ref t]) r$ .lst ([.ref t]++x)):=((je J).trans$ je N).trans (je M);let ht:af (af (af d t$ .tup [.ref j,u]) L$ .lst [.ref t]) r (.lst ([.ref t]++x)) t= ~~~[.ref j,u]:=ap (ap jc N) M;let R:H r=ι:=by
  cases z:H r with
  |none=>rfl
  |some o=>have:=((je (o:=.lst [.ref t]) N) _ _ ((je (o:=.tup [.ref j,u]) J) _ _ (S _ _ z)));rw[M]at this;cases this
 rwa[q r _ _ R jc #[.ref t,x,Z,#[t,j,u,Z,ht,C _ _$ S _ _ U,D.mono$ aa.tm$ S.trans C],B.mono sT$ aa.tm C] (S.trans C)]
def uo:al ["path","chain","told","number","step"] ["path","chain"] (ae D3):=bP
def Ib(F:Fr K "whats_in" D3 f fd)(cA:{2*n+1} fA f2 z8z (oR n) "whats_at")(U:mg "enumerate"=ι):⇑(2*n+2) f fd ["path","chain"] (lU n):=by
 erw[F.ok uo λc0 A V s H vs Q E Y h=>?_]
 let(pa,k,f,is,s,a,u,rfl,hp,h6,hc,d,hd,hz,q):=h;erw[_,%[uo|_ce2qbcDOg (Qo Z U %[uo|_ah1b]) _S (n:=2) _gti3ti4κdzER TX TW qt _2a cA.e Y.m _anW0fa3bah4bbdk2],?_];let b0:=aI;let(c,g,e,ss,rfl,h1,h2,h3,h4):=hc;let fl:=kI d k 0;rw[zB d]at fl;let lt:=zF d h4;erw[aj λF1 v=>#[iT,λT N=>v _ _ ?_]];let s1:aa H (af H T$ .lst []):=je N;erw[aj λF1 v=>db λJ j=>(ju (s1 _ _ h1) Z #[e,Z,#[_,aC.of$ s1 _ _ h3],j _ _ ?_])];erw[Js (K:=K) (xs:=ss) (Pb pa T k (.ref c) s H) #[ι,ι,[],Z,jc,Z,s1] (λi σ Hx _ h=>?_) ?_ (λσ Hx h=>v _ _ ?_)]
 .let(_,_,_,_,_,_,y):=h;rwa[aC.of$ y _ _ h3]
 .intro E hE i x B σ O hx np f0 Gq l h;let(o3,o4,xs,rfl,R,W,y):=h;let C:aa O (af O B$ .tup [.int i,x]):=je np;let e8:af O B (.tup [.int i,x]) B= ~~~[.int i,x]:=jc;erw[l ?_];generalize af O B (.tup [.int i,x])=H8 at C e8 ⊢;let S8:=y.trans C;let(n1,D,w,p,hh,u,ht,o0,d0,s2,rfl,h0,h7,hw):=qx d (h4.mono$ aa.tm S8) hx;erw[B,12,aC.of e8,21121122,?_];erw[12,.inl #[21,aE.of$ C _ _ R],1212,l7,λt nt=>#[pa,t,1122,ap (S8 _ _ hp) nt,jc,by rw[RJ];show _+1<=_;omega,λr9 H9 e9 s9=>?_]];let S9:=(je (o:=.tup [.int i]) nt).trans s9;rw[u5]at e9;erw[(ju (S9 _ _ h0) Z #[r9,_,w,u,Z,e9,by rw[RN];show _+1+_<=_;omega,hw.mono$ aa.tm S9,o0,P',P',λr X G nr Y I s0=>?_])];let S:=S9.trans s0;let L:=S _ _ (C _ _ R);let lx:=W.len;let l0:=I.len;let bl:=XX s.steps (i+1) k 0;let h5:i < ο s.steps:=(ν.mp ht).1;let et:s.steps.take (i+1)=s.steps.take i++[(n1,D,w)]:=by rw[SG,ht];rfl
  let eb:eJ [(n1,D,w)] k (0+(s.steps.take i).length)=(k++[(i:Int)],w)::w.ws (k++[(i:Int)]) 0:=by rw[Se,TN$ Uo h5,UL];show(_::_)++[]=_;rw[Sw]
  rw[fl,et,zZ,eb]at bl;rw[RN]at bl;let M:am G (af G T$ .lst$ xs++X):=λb ys e=>by rw[jh$ jQ e L FI];rwa[e]
  erw[T,r,1122,L,Y,P',f0 _ _ #[11,xs++X,Z,jc,?_,λb o e=>?_]]
  .rw[et,zZ,eb];exact(I.mono sT M).app ((W.mono sT$ aa.tm$ C.trans S).mono sT M)
  .rw[jh$ jk e N];rwa[S _ _$ S8 _ _ e]
 .let(o3,o4,xs,rfl,R,W,y):=h;rw[lt,Su,<- zB d]at W;rwa[12,q T xs Hx N R W y]
def Hk:⇑k f c ["path","chain"] (lU 0):=by
 let n:∀v H Q E,¬lU 0 v H Q E:=λv H Q E h=>by let(p,d,f,i,s,a,u,_,_,_,_,_,z,_):=h;omega
 rwa[λv H Q E h=>absurd h (n v H Q E),λA o s H b U v Q E _ _ _ _ h=>absurd h (n v H Q E)]
theorem Nz(F:Fr K "whats_at" D2 g a)(B:ax K a z8z [])(M:mg "whats_at"=↑g)(b:Fr K "whats_in" D3 c f)(d:ax K f ["path","chain"] [])(e:mg "whats_in"=↑c)(m:mg "enumerate"=ι):∀n,⇑(2*n+2) c f ["path","chain"] (lU n)
 |0=>Hk
 |n+1=>by let h:=Nz F B M b d e m n;let H:=yV F #[h,d,b.kp,e];rwa[Ib b #[H,B,F.kp,M] m]
def M9:al z8z z8z (ae DV):=bP
noncomputable def wG:gO:=#[.function,[(".0",.local),("one",.local),("done",.local)],ξ,ξ,[]]
def yC:(["one","done"]:FA ρ).Nodup:=P8
def Gb:a5 z8z (ae DV) wG ["one","done"] 2 []:=pe
def HS{n:Nat}(F:Fr K "paths_at" DV f I)(J:{2*n+3} fA L z8z (oR$ n+1) "whats_at"):⇑(2*n+4) f I z8z (mz$ n+1):=by
 erw[F.ok M9 λM A O s H vs Q E R h=>?_]
 let(y,p,w,u,rfl,T,j,V,b,W,Y,q):=h;erw[_,%[Z|_dk (@km _ _ _ _ _ _ _ ["one","done"] 2 [] _ _ _ _ Z %[Z|_L J.e R.m _a0a1b] Gb (λ_ _ _ _ _=>tH (K:=K) (n:=2) Z Z (jC (jr (i:=0) yC Z$ Θ Z)$ jC (jr (i:=1) yC Z$ Θ Z) kj) Z Z) (λ_ _ _ _ _=>@kG _) (λ_ _ _ _ _=>pv 0) FO)],?_];let b0:=aI;let fl:=kI b p 0;erw[1212,y,p,w,u,Z,T,j,V,b,W,Y,λr X a nr c k C=>?_];let lx:=k.len;rw[So,fl]at lx;let lm:(X.map$ vm a).length=ο X:=RJ _;erw[r,Z,#[_,aE.of c],Zq (λi=>((X.map$ vm a)[i]?).getD .non) P' (aE.of c) (λi x D=>?_) λl N=>q l (X.map$ vm a) _ ?_ ?_ ?_ (C.trans$ je N)]
 .obtain⟨⟨p',w'⟩,_,t,v,U,rfl,g,G,g3⟩:=k.at D;erw[t,.ref v,U,Z,aC.of g,λQ d=>#[12,?_]];rw[RX,D]at d;let d:Q (vm a$ .ref t) a:=d;rw[EQ g]at d;rwa[d]
 .cases z:H l with
  |none=>rfl
  |some o=>rw[C _ _ z]at N;cases N
 .rw[jc,<- lm,JI]
 .let e:cy p w=((p,w)::w.ws p 0).map (·.1):=rfl;rw[e];exact(aV.map (S:=eI) (f:=vm a) (λx w #[t,v,U,e0,g,G,g3]=>by subst e0;rw[EQ g];rwa[v,Z,G]) k).mono aL (aa.tm$ je N)
abbrev AF:de:=bN 33
abbrev AE:de:=bN 34
abbrev IL:de:=bN 35
def om(h:bX k A):A.units+10+1 < cLine:=by let:=h.un;omega
theorem JL:∀{I J:FA Int},aG (I.map aH)=aG (J.map aH)->I=J
 | [],[],_=>rfl
 | [],_::_,e |_::_,[],e=>by cases e
 |i::I,j::J,e=>by let e:Tr.cons (aH i) (aG$ I.map aH)= .cons (aH j) (aG$ J.map aH):=e;injection e with E a;injection E with E;injection E with E;rw[E,JL a]
theorem z9:∀i:FA Int,(aG$ i.map aH).In
 | []=>trivial
 |_::i=>#[Z,z9 i]
def XY(n:Int)(h:FA Int):(aG [aH n,aJ$ h.map aH]).In:=#[Z,z9 h,trivial]
def rK(n:Int)(H:FA Int):(aG [aH n,aJ$ H.map aH]).dep < 10:=by let h:=qS H;show max 0 (max ((aG$ H.map aH).dep+1) 0) < 10;omega
noncomputable def CJ(P:aO->Bool):Nat->FA aO->FC Nat
 |_,[]=>ι
 |k,s::r=>if P s=μ then δ k else CJ P (k+1) r
def nX(P:aO->Bool)(os:FA aO)(m:Nat):FC Nat:=CJ P m (os.drop m)
def ZF{P:aO->Bool}{os:FA aO}(h:os[m]?=δ s):nX P os m=if P s=μ then δ m else nX P os (m+1):=by let(H,e):=ν.mp h;unfold nX;rw[<- Tl (h:=H),e];rfl
def sg{P:aO->Bool}{os:FA aO}(h:ο os<=m):nX P os m=ι:=by unfold nX;rw[List.drop_eq_nil_of_le h];rfl
theorem si{P:aO->Bool}:∀{os:FA aO} {k j:Nat},CJ P k os=δ j->∃i s,j=k+i/\os[i]?=δ s/\P s=μ
 | [],_,_,h=>nomatch h
 |s::r,k,j,h=>by
  let h:(if P s=μ then δ k else CJ P (k+1) r)=δ j:=h;by_cases H:P s=μ
  .rw[RV H]at h;cases h;rwa[0,s,22,H]
  .rw[RU H]at h;let(i,S,e,a,b):=si h;rwa[i+1,S,P',(a:),b]
def sh{P:aO->Bool}{os:FA aO}(h:nX P os m=δ j):m<=j/\∃s,os[j]?=δ s/\P s=μ:=by let(i,s,e,H,a):=si h;rw[Vr]at H;rwa[P',s,by rw[e];rwa[H],a]
noncomputable def y6:FC Nat->V
 |some j=>.int (j:Int)
 |none=>.non
noncomputable def bQ(n:Int)(h:FA Int)(s:aO):Bool:=decide (s.1=n/\s.2.1=h)
noncomputable def iJ(f:ρ)(i:FA Int)(s:aO):Bool:=match s.2.2 with
 | .cl g j _ _=>decide (g=f/\j=i)
 |_=>ξ
def ou(os:FA aO)(m:Nat):Sk->FC Nat
 | .cl f i _ _=>nX (iJ f i) os m
 |_=>ι
def dI(os:FA aO)(m:Nat)(n:Int)(h:FA Int)(w:Sk):FC Nat:=match nX (bQ n h) os m with
 |some j=>δ j
 |none=>ou os m w
def Cz{H h:FA Int}(e:aJ [aH n,aJ$ H.map aH]=aJ [aH N,aJ$ h.map aH]):n=N/\H=h:=by let e:Tr.tp (.cons (aH n)$ .cons (aJ$ H.map aH) .nil)= .tp (.cons (aH N)$ .cons (aJ$ h.map aH) .nil):=e;injection e with e;injection e with a A;injection A with b _;injection a with a;injection a with a;let b:Tr.tp (aG$ H.map aH)= .tp (aG$ h.map aH):=b;injection b with b;rwa[a,JL b]
def yv{a H:FA Int}{w:Sk}:ie (aJ [aH N,aJ$ H.map aH]) (aJ [aH n,aJ$ a.map aH])=bQ n a (N,H,w):=by
 by_cases h:N=n/\H=a
 .rw[h.1,h.2,zW Z];exact(R0 #[22]).symm
 .rw[zC λe=>h (Cz e)];exact(RW h).symm
def Y4{i j:FA Int}(e:aJ [a7 "call",a7 g,aJ$ j.map aH]=aJ [a7 "call",a7 f,aJ$ i.map aH]):g=f/\j=i:=by let e:Tr.tp (.cons (a7 "call")$ .cons (a7 g)$ .cons (aJ$ j.map aH) .nil)= .tp (.cons (a7 "call")$ .cons (a7 f)$ .cons (aJ$ i.map aH) .nil):=e;injection e with e;injection e with _ e;injection e with a A;injection A with b _;injection a with a;injection a with a;let b:Tr.tp (aG$ j.map aH)= .tp (aG$ i.map aH):=b;injection b with b;rwa[a,JL b]
def JD(e:aJ (a7 a::x)=aJ (a7 b::y)):a=b:=by let e:Tr.tp (.cons (a7 a)$ aG x)= .tp (.cons (a7 b)$ aG y):=e;injection e with e;injection e with e _;injection e with e;injection e
def GX{n':Int}{hs':FA Int}{w:Sk}(o:w.ok ξ):ie (fu w) (fu$ .cl f i s a)=iJ f i (n',hs',w):=by
 cases w with
 |nil |st _ _ _ _=>rwa[o.elim]
 |ask b |rd b c |wr b c=>show ie (aJ _) (aJ _)=_;rw[zC λe=>absurd (JD e) Ra];rfl
 |cl g j S A=>
  by_cases h:g=f/\j=i
  .rw[h.1,h.2];show ie (aJ _) (aJ _)=_;rw[zW Z];exact(R0 #[22]).symm
  .show ie (aJ _) (aJ _)=_;rw[zC λe=>h (Y4 e)];exact(RW h).symm
def rO{w:Sk}(o:w.ok ξ):∃l,fu w= .tp l/\l.dep < 10/\l.In/\∃v t,l= .cons (a7 v) t/\(v="call"↔∃f i s a,w= .cl f i s a):=by
 cases w with
 |nil |st _ _ _ _=>rwa[o.elim]
 |ask b |rd b B=>rwa[12,by show max 0 (max 0 0) < 10;decide,#[22,trivial],112,λe=>absurd e Ra,λ#[1111,e]=>nomatch e]
 |wr b B=>rwa[12,by show max 0 (max 0 (max 0 0)) < 10;decide,#[222,trivial],112,λe=>absurd e Ra,λ#[1111,e]=>nomatch e]
 |cl f i s a=>rwa[12,by show max 0 (max 0 (max ((aG (i.map aH)).dep+1) 0)) < 10;rw[qS];decide,#[22,z9 i,trivial],112,λ_=>#[11112],λ_=>Z]
inductive nG(f:FA V)(H:Hp)(Q:VK)(a:XK):Prop
 |mk(e:η)(d:FA V)(s:Sk)(m:Nat)(n:Int)(c:FA Int)(b:V)(_:f=[.ref e,.int (m:Int),b])(_:H e= ~~~d)(_:eZ H s .non d)(_:s.ok μ)(_:s.size<=1000)(_:m<=1000)(_:aT H (aJ [aH n,aJ (c.map aH)]) b [])(_:∀H',aa H H'->Q (y6 (nX (bQ n c) s.steps m)) H')
inductive nF(d:FA V)(H:Hp)(Q:VK)(a:XK):Prop
 |mk(e:η)(c:FA V)(s w:Sk)(m:Nat)(b:V)(_:d=[.ref e,.int (m:Int),b])(_:H e= ~~~c)(_:eZ H s .non c)(_:s.ok μ)(_:s.size<=1000)(_:m<=1000)(_:aT H (fu w) b [])(_:w.ok ξ)(_:∀H',aa H H'->Q (y6 (ou s.steps m w)) H')
inductive oQ(d:FA V)(H:Hp)(Q:VK)(a:XK):Prop
 |mk(e p h:η)(c:FA V)(s w:Sk)(m:Nat)(n:Int)(b:FA Int)(u:V)(_:d=[.ref e,.int (m:Int),.ref p])(_:H e= ~~~c)(_:eZ H s .non c)(_:s.ok μ)(_:s.size<=1000)(_:m<=1000)(_:H p= ~~~[.int n,.ref h,u])(_:H h= ~~~(b.map Da))(_:eZ H w u [])(_:w.ok ξ)(_:∀H',aa H H'->Q (y6 (dI s.steps m n b w)) H')
def A1:al ["steps","mark","cut","at"] ["steps","mark","cut"] (ae AF):=bP
def Db(F:Fr K "like_from" AF f T)(R:mg "len"=ι)(U:mg "range"=ι):⇑1 f T ["steps","mark","cut"] nG:=by
 erw[F.ok A1 λV A O s H vs Q E W h=>?_]
 let(e,v,s,m,n,c,C,rfl,G,g,k,Y,hm,hc,q):=h;erw[_,%[A1|_cDOg (J9 Z U %[A1|_a1aCψg R _σa0bb]) _i3dmu (ZE (d:=10)$ om W) _AαlI03pQxj2w _ _dk3sdk (@K9 _ _ _)],?_];let b0:=aI;let l0:=zF k g;let l1:=J3 k g;erw[aj λF1 f1=>db λJ j=>#[1212,e,12,.inr$ aC.of G,112,#[P',P',P',P'],j _ _ ?_]];erw[kn (λi x I=>(∃y,x=[↑e,δ$ .int (m:Int),δ C,y])/\aa H I/\nX (bQ n c) s.steps m=nX (bQ n c) s.steps (m+i)) #[#[12],aa.refl _,Z] ?_ (λx I h=>f1 _ _ ?_)]
 .intro L rt i x H2 hi fE X l h;obtain⟨⟨y,rfl⟩,S,b⟩:=h;erw[l ?_];let e0:(m:Int)+(i:Int)=((m+i:Nat):Int):=by omega
  rw[e0];let o:m+i < ο v:=P'
  let(N,a,w,p,h,u,ht,o0,_,_,ex,hp,hh,_):=qx k (g.mono$ aa.tm S) (RI o);let B:v[m+i]?=↑p:=by rw[RI o,ex]
  show gY _ _ _ L _ _;erw[iX λG1 kT kF=>#[1212,e,11122,aC.of$ S _ _ G,jO B,12,p,12,hp,λq2 H1 D r=>#[1211,rK N a,XY N a,XY n c,jM D$ jp Z zg$ jp Z (zL$ r _ _ hh) jH,hc.mono$ aa.tm$ S.trans r,12,?_]]];rw[show ie (.tp$ aG [aH N,aJ$ a.map aH]) (.tp$ aG [aH n,aJ$ c.map aH])=bQ n c (N,a,w) from yv];let t:=ZF (P:=bQ n c) ht;cases M:bQ n c (N,a,w) with
  |true=>erw[kT _ ?_];show gZ _ L _ _;unfold gZ;rw[rt];rw[RV M]at t;let z:=q _ (S.trans r);rw[b,t]at z;rwa[12,z]
  |false=>rw[RU (by rw[M];intro z;cases z)]at t;rwa[kF _$ fE _ _ #[#[12],S.trans r,by rw[b,t];rfl]]
 .obtain⟨⟨y,rfl⟩,S,b⟩:=h;let z:=q _ S;rw[b,sg P']at z;rwa[z]
def A0:al ["steps","mark","deed","at"] ["steps","mark","deed"] (ae AE):=bP
def C9(F:Fr K "lender_from" AE f fd)(cI:{1} fI f0 ["what"] oH "deed_in")(ml:mg "len"=ι)(mr:mg "range"=ι):⇑2 f fd ["steps","mark","deed"] nF:=by
 erw[F.ok A0 λc0 A O s H vs Q E hr h=>?_]
 let(e,D,s,w,m,dv,rfl,he,c,g,h0,hm,G,L,q):=h;erw[_,%[A0|_cmu Ys _h2ow _ _dk (@K9 _ _ _) _scDOg (J9 Z mr %[A0|_a1aCψg ml _σa0bb]) _i3dmu (ZE (d:=10)$ om hr) cI.e hr.m _ahlI03pb2w _ _dk3sdk (@K9 _ _ _)],?_];let b0:=aI;let l0:=zF g c;let l1:=J3 g c;let(l,el,dl,il,v0,ts,ev,r):=rO L;rw[el]at G;let(_,da,ds,rfl,M,t):=id G;rw[ev]at t;obtain⟨_,_,y0,y1,rfl,⟨rfl,_⟩,_⟩:=t;erw[aj λF1 y=>(ju M fV #[212,?_])];by_cases B:v0="call"
 .let(f,I,s1,a1,rfl):=r.mp B;subst B;erw[aW P8$ y _ _ ?_];erw[aj λF1 y=>db λJ j=>#[1212,e,12,.inr$ aC.of he,112,#[P',P',P',P'],j _ _ ?_]];refine kn (λi N R=>(∃T,N=[↑e,δ$ .int (m:Int),↑da,T])/\aa H R/\nX (iJ f I) s.steps m=nX (iJ f I) s.steps (m+i)) #[#[12],aa.refl _,Z] ?_ (λN R h=>y _ _ ?_)
  .intro E2 rt i N H2 hi fE Gq n h;obtain⟨⟨T,rfl⟩,S,b⟩:=h;erw[n ?_];let e0:(m:Int)+(i:Int)=((m+i:Nat):Int):=by omega
   rw[e0];let v:m+i < ο D:=by rwa[N09]
   let(n',hs',w,p,h,u,ht,o,_,_,ex,hp,hh,hw):=qx g (c.mono$ aa.tm S) (RI v);let U:D[m+i]?=↑p:=by rw[RI v,ex]
   let(l',x,W,X,_):=rO o;show gY _ _ _ E2 _ _;erw[iX λG1 kT kF=>#[1212,e,11122,aC.of$ S _ _ he,jO U,p,11122,aC.of hp,iI,u,w,Z,hw,o,λv1 H1 Y k=>#[12,l',l,W,X,il,x▸Y,G.mono$ aa.tm$ S.trans k,12,?_]]];rw[<- x,<- el,GX (n':=n') (hs':=hs') o];let C:=ZF (P:=iJ f I) ht;cases hb:iJ f I (n',hs',w) with
   |true=>erw[kT _ ?_];show gZ _ E2 _ _;unfold gZ;rw[rt];rw[RV hb]at C;let z:Q (y6$ nX (iJ f I) s.steps m) H1:=q _ (S.trans k);rw[b,C]at z;rwa[12,z]
   |false=>rw[RU (by rw[hb];intro z;cases z)]at C;rwa[kF _$ fE _ _ #[#[12],S.trans k,by rw[b,C];rfl]]
  .obtain⟨⟨T,rfl⟩,S,b⟩:=h;let z:Q (y6$ nX (iJ f I) s.steps m) R:=q _ S;rw[b,sg N09]at z;rwa[z]
 .refine cw ?_ ?_
  .show(!decide (Cv v0=Cv "call"))=μ;rw[RW λz=>B (by injection z)];rfl
  let z:=q _ (aa.refl _);let en:ou s.steps m w=ι:=by
   cases w with
   |cl f I s a=>rwa[absurd (r.mpr #[f,I,s,a,Z]) B]
   |_=>rfl
  rw[en]at z;rwa[z]
def Fp:al ["steps","mark","step","like"] ["steps","mark","step"] (ae IL):=bP
def HZ(F:Fr K "taken_from" IL f I)(J:{1} fL L ["steps","mark","cut"] nG "like_from")(M:{2} fD N ["steps","mark","deed"] nF "lender_from")(R:{1} fI T ["what"] oH "deed_in"):⇑3 f I ["steps","mark","step"] oQ:=by
 erw[F.ok Fp λU A O s H vs Q E i h=>?_]
 let(e,p,h,k,s,w,m,n,a,u,rfl,y,b,c,d,B,C,V,W,o,q):=h;erw[_,%[Fp|_ce3 J.e i.m _a0a1aAα2QxjbdkU (Qa$ @XH _ _ _ _ _$ pv 3) M.e i.m _a0a1a R.e i.m _ah2bb3],?_];erw[aj λF1 D=>#[12121212,p,12,C,λq2 H1 l g=>#[e,k,s,m,n,a,12,g _ _ y,b.mono$ aa.tm g,c,d,B,jM l$ jp Z zg$ jp Z (zL$ g _ _ V) jH,λH2 X=>D _ _ ?_]]];let S:=g.trans X;cases G:nX (bQ n a) s.steps m with
 |some j=>
  erw[1212,aW (RW FI) #[12,?_]];let z:=q _ S;let r:dI s.steps m n a w=δ j:=by unfold dI;rw[G]
  rw[r]at z;rwa[z]
 |none=>
  erw[1212,cw (R0 Z) #[1212,ju (S _ _ C) iI #[u,w,Z,W.mono$ aa.tm S,o,λY H3 t v=>#[e,k,s,w,m,Y,Z,v _ _$ S _ _ y,b.mono$ aa.tm$ S.trans v,c,d,B,t,o,λH4 s4=>?_]]]];let z:=q _ ((S.trans v).trans s4);let r:dI s.steps m n a w=ou s.steps m w:=by unfold dI;rw[G]
  rw[r]at z;rwa[z]
abbrev md:=aD×aD
structure Ly where
 k:FA md
 t:FA md
 f:FA aD
 d:FA aD
noncomputable def Ly.app(a b:Ly):Ly:=#[a.k++b.k,a.t++b.t,a.f++b.f,a.d++b.d]
noncomputable def Ly.nil:Ly:=#[[],[],[],[]]
noncomputable def Ly.tot(a:Ly):Nat:=ο a.k+ο a.t+ο a.f+ο a.d
def Ly.app_assoc(a b c:Ly):(a.app b).app c=a.app (b.app c):=by unfold Ly.app;simp [SI]
def Ly.app_nil(a:Ly):a.app .nil=a:=by unfold Ly.app Ly.nil;simp
def Ly.nil_app(a:Ly):Ly.nil.app a=a:=rfl
def Ly.tot_app(a b:Ly):(a.app b).tot=a.tot+b.tot:=by unfold Ly.app Ly.tot;simp only[RN];omega
noncomputable def Sk.fnd:Sk->Int
 | .ask b=>b
 | .rd _ i | .wr _ i=>i
 | .cl _ _ _ a=>a
 |_=>0
def fo:Sk->FA aO
 | .cl _ _ s _=>s.steps
 |_=>[]
def eS(p:aD)(os:FA aO)(m j:Nat):FA aD:=(eJ ((os.drop m).take$ j - m) p m).map (·.1)
def one(p:aD)(o:aO)(a:aD)(n:Int)(h:FA Int)(w:Sk):Ly:=
 if bQ n h o=μ then (if o.2.2.fnd=w.fnd then #[[(p,a)],[],[],[]] else #[[],[(p,a)],[],[]]) else #[[],[],[a],[p]]
noncomputable def d9:Sk->aD->FA aO->Nat->aD->Nat->Ly
 | .st n h w r,p,os,m,a,k=>match dI os m n h w with
  |none=>(#[[],[],cy (a++[(k:Int)]) w,[]]:Ly).app (d9 r p os m a (k+1))
  |some j=>match os[j]? with
   |none=>.nil
   |some o=>((#[[],[],[],eS p os m j]:Ly).app ((one (p++[(j:Int)]) o (a++[(k:Int)]) n h w).app (d9 w (p++[(j:Int)]) (fo o.2.2) 0 (a++[(k:Int)]) 0))).app (d9 r p os (j+1) a (k+1))
 | .cl _ _ s _,p,os,m,a,k=>d9 s p os m a k
 | .nil,p,os,m,_,_=>#[[],[],[],eS p os m os.length]
 |_,_,_,_,_,_=>.nil
def ql{w:Sk}{os:FA aO}(h:dI os m n H w=ι):d9 (.st n H w r) a os m p k=(#[[],[],cy (p++[(k:Int)]) w,[]]:Ly).app (d9 r a os m p$ k+1):=by show(match dI os m n H w with |none=>_ |some j=>_)=_;rw[h]
def qm{w:Sk}{os:FA aO}(h:dI os m n H w=δ j)(b:os[j]?=δ o):d9 (.st n H w r) p os m a k=((#[[],[],[],eS p os m j]:Ly).app ((one (p++[(j:Int)]) o (a++[(k:Int)]) n H w).app$ d9 w (p++[(j:Int)]) (fo o.2.2) 0 (a++[(k:Int)]) 0)).app (d9 r p os (j+1) a$ k+1):=by show(match dI os m n H w with |none=>_ |some j=>match os[j]? with |none=>Ly.nil |some o=>_)=_;rw[h];dsimp only;rw[b]
abbrev DF:=ρ->Int->FA Int->Tr
def Dt(D:DF):ρ->Sk->Prop
 |f,.st n h w r=>fu w=D f n h/\Dt D f w/\Dt D f r
 |_,.cl g _ s _=>Dt D g s
 |_,_=>True
theorem K6:∀{s:Sk},Dt D f s->∀{j:Nat} {o:aO},s.steps[j]?=δ o->fu o.2.2=D f o.1 o.2.1/\Dt D f o.2.2
 | .st n H w r,h,0,o,e=>by cases e;rwa[h.1,h.2.1]
 | .st n H w r,h,j+1,o,e=>K6 h.2.2 (j:=j) (by let e:((n,H,w)::r.steps)[j+1]?=δ o:=e;simpa using e)
 | .nil,_,j,o,e | .ask _,_,j,o,e | .rd _ _,_,j,o,e | .wr _ _,_,j,o,e | .cl _ _ _ _,_,j,o,e=>by let e:([]:FA aO)[j]?=δ o:=e;simp at e
def j5{os:FA aO}{w:Sk}(h:dI os m n d w=δ j):m<=j/\∃o,os[j]?=δ o/\(bQ n d o=μ∨∃f I s a,w= .cl f I s a/\iJ f I o=μ):=by
 unfold dI at h;cases e:nX (bQ n d) os m with
 |some i=>rw[e]at h;cases h;let(H,s,b,c):=sh e;rwa[H,s,b,.inl c]
 |none=>
  rw[e]at h;let h:ou os m w=δ j:=h;cases w with
  |cl f I s a=>let(H,S,b,c):=sh (show nX (iJ f I) os m=δ j from h);rwa[H,S,b,.inr #[f,I,s,a,Z,c]]
  |_=>cases h
def yu(h:bQ n H o=μ):o.1=n/\o.2.1=H:=SF h
def EZ(h:iJ f i o=μ):∃s a,o.2.2= .cl f i s a:=by
 unfold iJ at h;split at h
 .rename_i g j s a e
  let(rfl,rfl):=SF h;rwa[s,a,e]
 .cases h
def ZG{w:Sk}(o:w.ok ξ)(e:fu w=fu (.cl f i s a)):∃S A,w= .cl f i S A:=by
 cases w with
 |nil |st _ _ _ _=>rwa[o.elim]
 |ask b |rd b c |wr b c=>rwa[absurd (JD e) Ra]
 |cl g j S A=>let(rfl,rfl):=Y4 e;rwa[S,A,Z]
def ZH{os s:Sk}{w:Sk}(r:os.ok μ)(k:Dt D f os)(h:dI os.steps m n l w=δ j)(b:os.steps[j]?=δ o)(O:o.2.2.ok ξ)(p:fu w=D f n l):∀g i s a,w= .cl g i s a->∃S A,o.2.2= .cl g i S A:=by
 intro g i s a e;let(_,t,H,c):=j5 h;rw[b]at H;cases H;rcases c with c | ⟨F,I,S,A,E,c⟩
 .let(C,q):=yu c;let(d,_):=K6 k b;rw[C,q,<- p,e]at d;rwa[ZG O d]
 .rw[e]at E;cases E;rwa[EZ c]
def mj:RA md:=λH x p=>∃q a b,x= .ref q/\H q= ~~~[.ref a,.ref b]/\H a= ~~~(p.1.map Da)/\H b= ~~~(p.2.map Da)
def bK:NG mj:=λ_ _ _ _ k #[q,a,b,e,h,H,c]=>#[q,a,b,e,k _ _ h,k _ _ H,k _ _ c]
structure LK(K:γ)(C:η):Prop where
 cl:rE K C
 n1:be K C "kept"
 n2:be K C "turned"
 n3:be K C "fresh"
 n4:be K C "dropped"
noncomputable def NZ(k t f d:η):FA (ρ×V):=[("kept",.ref k),("turned",.ref t),("fresh",.ref f),("dropped",.ref d)]
structure L4(H:Hp)(ob:HO)(r kA tA fA dA:η)(y:Ly):Prop where
 ins:H r=δ ob
 kv:∃xs,H kA=xs⁻¹/\aV mj H y.k xs
 tv:∃xs,H tA=xs⁻¹/\aV mj H y.t xs
 fv:∃xs,H fA=xs⁻¹/\aV eI H y.f xs
 dv:∃xs,H dA=xs⁻¹/\aV eI H y.d xs
 ne:kA≠tA/\kA≠fA/\kA≠dA/\tA≠fA/\tA≠dA/\fA≠dA
 nl:∀xs,ob≠ .lst xs
abbrev Lg(H:Hp)(C r D k t f d:η)(y:Ly):Prop:=L4 H (.ins C D$ NZ k t f d) r k t f d y
abbrev Lt(H:Hp)(z k t f d:η)(y:Ly):Prop:=L4 H (.tup [.ref k,.ref t,.ref f,.ref d]) z k t f d y
def cR(a b c d:η)(H h:Hp):Prop:=∀x o,x≠a->x≠b->x≠c->x≠d->H x=δ o->h x=δ o
def cR.of_same(s:aa H h):cR a b c d H h:=λ_ _ _ _ _ _ e=>s _ _ e
def cR.trans{a:η}(h:cR a b c d H i)(k:cR a b c d i j):cR a b c d H j:=λx o n N f g e=>k x o n N f g (h x o n N f g e)
section
variable {H H':Hp}{ob:HO}{r kA tA fA dA:η}{y:Ly}
def L4.tm(h:L4 H ob r kA tA fA dA y)(k:cR kA tA fA dA H H'):am H H':=λb x e=>by let(_,a,_):=h.kv;let(_,c,_):=h.tv;let(_,d,_):=h.fv;let(_,f,_):=h.dv;rwa[k b _ (jQ e a FI) (jQ e c FI) (jQ e d FI) (jQ e f FI) e]
def L4.same(h:L4 H ob r kA tA fA dA y)(s:aa H H'):L4 H' ob r kA tA fA dA y:=by let(x,a,g):=h.kv;let(X,b,G):=h.tv;let(c,d,g3):=h.fv;let(e,f,i):=h.dv;rwa[s _ _ h.ins,#[x,s _ _ a,g.mono bK$ aa.tm s],#[X,s _ _ b,G.mono bK$ aa.tm s],#[c,s _ _ d,g3.mono aL$ aa.tm s],#[e,s _ _ f,i.mono aL$ aa.tm s],h.ne,h.nl]
def J4{o:HO}(h:H a=x⁻¹):am H (af H a o):=λb Y e=>by rw[jh$ jQ e h FI];rwa[e]
def L4.setK(h:L4 H ob r kA tA fA dA y)(a:H kA=x⁻¹)(g:aV mj H p Y):L4 (af H kA$ .lst$ x++Y) ob r kA tA fA dA (y.app #[p,[],[],[]])/\cR kA tA fA dA H (af H kA$ .lst$ x++Y):=by
 let T:=J4 (o:=.lst (x++Y)) a;let(v,c,G):=h.kv;let(X,i,j):=h.tv;let(k,l,g3):=h.fv;let(m,n,q):=h.dv;let(N,s,u,z,B,C):=h.ne;rw[c]at a;cases a;erw[#[?_,#[_,jc,(aV.app g G).mono bK T],#[X,?_,?_],#[k,?_,?_],#[m,?_,?_],h.ne,h.nl],λb o A D E F e=>by rw[jh A];rwa[e]]
 .rw[jh$ jQ h.ins c$ h.nl _];rwa[h.ins]
 .rw[jh$ Sx N];rwa[i]
 .show aV mj _ (y.t++[]) _;rw[Sw];rwa[j.mono bK T]
 .rw[jh$ Sx s];rwa[l]
 .show aV eI _ (y.f++[]) _;rw[Sw];rwa[g3.mono aL T]
 .rw[jh$ Sx u];rwa[n]
 .show aV eI _ (y.d++[]) _;rw[Sw];rwa[q.mono aL T]
def L4.setT(h:L4 H ob r kA tA fA dA y)(a:H tA=x⁻¹)(g:aV mj H p Y):L4 (af H tA$ .lst$ x++Y) ob r kA tA fA dA (y.app #[[],p,[],[]])/\cR kA tA fA dA H (af H tA$ .lst$ x++Y):=by
 let t:=J4 (o:=.lst (x++Y)) a;let(X,i,G):=h.kv;let(z,c,j):=h.tv;let(l,m,g3):=h.fv;let(n,q,s):=h.dv;let(N,B,C,u,v,D):=h.ne;rw[c]at a;cases a;erw[#[?_,#[X,?_,?_],#[_,jc,(aV.app g j).mono bK t],#[l,?_,?_],#[n,?_,?_],h.ne,h.nl],λb o E A F I e=>by rw[jh A];rwa[e]]
 .rw[jh$ jQ h.ins c$ h.nl _];rwa[h.ins]
 .rw[jh N];rwa[i]
 .show aV mj _ (y.k++[]) _;rw[Sw];rwa[G.mono bK t]
 .rw[jh$ Sx u];rwa[m]
 .show aV eI _ (y.f++[]) _;rw[Sw];rwa[g3.mono aL t]
 .rw[jh$ Sx v];rwa[q]
 .show aV eI _ (y.d++[]) _;rw[Sw];rwa[s.mono aL t]
def L4.setF(h:L4 H ob r kA tA fA dA y)(a:H fA=x⁻¹)(f:aV eI H p Y):L4 (af H fA$ .lst$ x++Y) ob r kA tA fA dA (y.app #[[],[],p,[]])/\cR kA tA fA dA H (af H fA$ .lst$ x++Y):=by
 let T:=J4 (o:=.lst (x++Y)) a;let(X,g,G):=h.kv;let(i,j,l):=h.tv;let(v,c,g3):=h.fv;let(m,n,q):=h.dv;let(z,N,B,s,C,u):=h.ne;rw[c]at a;cases a;erw[#[?_,#[X,?_,?_],#[i,?_,?_],#[_,jc,(aV.app f g3).mono aL T],#[m,?_,?_],h.ne,h.nl],λb o D E A F e=>by rw[jh A];rwa[e]]
 .rw[jh$ jQ h.ins c$ h.nl _];rwa[h.ins]
 .rw[jh N];rwa[g]
 .show aV mj _ (y.k++[]) _;rw[Sw];rwa[G.mono bK T]
 .rw[jh s];rwa[j]
 .show aV mj _ (y.t++[]) _;rw[Sw];rwa[l.mono bK T]
 .rw[jh$ Sx u];rwa[n]
 .show aV eI _ (y.d++[]) _;rw[Sw];rwa[q.mono aL T]
def L4.setD(h:L4 H ob r kA tA fA dA y)(a:H dA=x⁻¹)(d:aV eI H p Y):L4 (af H dA$ .lst$ x++Y) ob r kA tA fA dA (y.app #[[],[],[],p])/\cR kA tA fA dA H (af H dA$ .lst$ x++Y):=by
 let T:=J4 (o:=.lst (x++Y)) a;let(X,g,G):=h.kv;let(i,j,l):=h.tv;let(m,n,g3):=h.fv;let(v,c,q):=h.dv;let(z,B,N,C,s,u):=h.ne;rw[c]at a;cases a;erw[#[?_,#[X,?_,?_],#[i,?_,?_],#[m,?_,?_],#[_,jc,(aV.app d q).mono aL T],h.ne,h.nl],λb o D E F A e=>by rw[jh A];rwa[e]]
 .rw[jh$ jQ h.ins c$ h.nl _];rwa[h.ins]
 .rw[jh N];rwa[g]
 .show aV mj _ (y.k++[]) _;rw[Sw];rwa[G.mono bK T]
 .rw[jh s];rwa[j]
 .show aV mj _ (y.t++[]) _;rw[Sw];rwa[l.mono bK T]
 .rw[jh u];rwa[n]
 .show aV eI _ (y.f++[]) _;rw[Sw];rwa[g3.mono aL T]
end
def CC(p:aD)(os:FA aO)(m:Nat):eS p os m m=[]:=by unfold eS;rw[Vo,WX];rfl
def xM{po:aD}{os:FA aO}{m j:Nat}(h:m<=j)(H:os[j]?=δ o):eS po os m (j+1)=eS po os m j++cy (po++[(j:Int)]) o.2.2:=by
 unfold eS;let e:(os.drop m).take (j+1 - m)=(os.drop m).take (j - m)++[o]:=by rw[show j+1 - m=(j - m)+1 by omega,SG,Vr,show m+(j - m)=j by omega,H];rfl
 let a:((os.drop m).take$ j - m).length=j - m:=by let:=(ν.mp H).1;rw[Se,Td];omega
 rw[e,zZ,RP,a,show m+(j - m)=j by omega];congr 1;show(((_,_)::_)++[]).map _=_;rw[Sw];rfl
abbrev AA:de:=bH (bN 36) 0
abbrev DT:de:=bH (bN 36) 1
abbrev Ax:de:=bH (bN 36) 2
abbrev DS:de:=bH (bN 36) 3
abbrev AB:de:=bN 37
section
open SeqAt
variable {X:Cx}
def Oz(I:aq X p σ H s)(n:Nat)(G:∀(t:Tr) {A:bU},t.dep<=n->A.units+n < cLine->t.In->t.isL=ξ->∀{u:Tr} {x y:V},u.In->u.isL=ξ->aT H t x []->aT H u y []->∀a b,aB x a->aB y b->EqAt A s a b (ie t u)){l m:Tr}(hn:l.dep<=n)(hu:A.units+n+1 < cLine)(J:l.In)(L:m.In)(d:l.isL=μ)(f:m.isL=μ)(M:H g= ~~~i)(N:H B= ~~~o)(T:aT H l .non i)(q:aT H m .non o):RcNeAt A s (.ref g) (.ref B) (!ie (.tp l) (.tp m)):=by
 let(v,r,O,_):=I.tuple (aC.of (K:=X.K) M);let(C,R,Q,_):=I.tuple (aC.of (K:=X.K) N);let(S,U):=qT d J T;let(W,Y):=qT f L q;let z:=RcNeAt.tuples (A:=A) (e:=mh l m) (show s.heap.IsTuple g v.toArray from O) (show s.heap.IsTuple B C.toArray from Q) P' (λj h1 h2=>?_)
 .rw[Y3 d f T q (by rw[RS,<- r.length,S]) (by rw[RS,<- R.length,W])]at z;let E:ie (.tp l) (.tp m)=ie l m:=by
   by_cases c:l=m
   .rw[zW c,zW (by rw[c])]
   .rw[zC c,zC (λk=>c (by injection k))]
  rw[E];rwa[z]
 .let la:=r.length;let lb:=R.length;let D:j < ο i:=by simp at h1;omega
  let h:j < ο o:=by simp at h2;omega
  let(u1,q1,r1):=r.get (RI D);let(u2,q2,r2):=R.get (RI h);let e1:v.toArray[j]=u1:=by let(_,e):=ν.mp q1;simpa using e
  let E:C.toArray[j]=u2:=by let(_,e):=ν.mp q2;simpa using e
  rw[e1,E];let(F,g1,g2,g3,g4,g5):=U j _ (RI D);let(u',k1,k2,k3,k4,k5):=Y j _ (RI h);let et:mh l m j=ie F u':=by unfold mh;rw[g1,k1]
  rw[et];rwa[G F (A:=A.in1) P' (by show A.units+1+n < cLine;omega) g3 g2 k3 k2 g5 k5 _ _ r1 r2]
inductive MZ(d:Nat)(x y:V)(H:Hp)(Q:VK):Prop
 |mk(l m:Tr)(_:l.dep < d)(_:l.In)(_:m.In)(_:aT H (.tp l) x [])(_:aT H (.tp m) y [])(_:Q (.bl (!ie (.tp l) (.tp m))) H)
def yZ{d:Nat}(c:X.A.units+d+1 < cLine):gu X (compareOp .NotEq) (MZ d):=by intro p s n H x y v u Q I r R h;obtain⟨l,m,o,i,e,⟨f,a,z,rfl,g,t⟩,⟨j,b,B,rfl,k,T⟩,q⟩:=h;cases r;cases R;rwa[Oz I d (XV I d) P' c i e f j g k t T X.prog X.w _ _ #[.bl _,H,I,Z,q]]
end
inductive lH(b:FA V)(H:Hp)(Q:VK)(a:XK):Prop
 |mk(u:V)(w:Sk)(_:b=[u])(_:eZ H w u [])(_:w.ok ξ)(_:Q (.int w.fnd) H)
inductive nC(C:η)(d:FA V)(H:Hp)(Q:VK)(a:XK):Prop
 |mk(r c:η)(_:d=[.ref r])(_:H r=δ (.ins C c []))(_:∀(kA tA fA dA:η) (H':Hp),Lg H' C r c kA tA fA dA .nil->(∀b o,b≠r->H b=δ o->H' b=δ o)->H kA=ι->H tA=ι->H fA=ι->H dA=ι->Q .non H')
inductive lG(C:η)(o:FA V)(H:Hp)(Q:VK)(b:XK):Prop
 |mk(r e i n g d k c:η)(l:aD)(f:ρ)(h:FA Int)(s:Sk)(a:Int)(m j:Nat)(y:Ly)(_:o=[.ref r,.ref k,.ref c,.int (m:Int),.int (j:Int)])(_:Lg H C r e i n g d y)(_:H k= ~~~(l.map Da))(_:ο l<=50)(_:oX H f h s a (.ref c))(_:s.ok μ)(_:s.dep<=15)(_:s.size<=1000)(_:m<=j)(_:j<=ο s.steps)(_:ο y.d+(eS l s.steps m j).length<=100000)(_:∀H',Lg H' C r e i n g d (y.app #[[],[],[],eS l s.steps m j])->cR i n g d H H'->Q .non H')
inductive oJ(C:η)(n:Nat)(A:FA V)(H:Hp)(Q:VK)(b:XK):Prop
 |mk(D:DF)(r f k w h e t q i o p j:η)(v u:aD)(l m:Int)(c d:FA Int)(x z:V)(B E:Sk)(y:Ly)(_:A=[.ref r,.ref t,.ref q,.ref o,.ref p])(_:Lg H C r f k w h e y)(_:H t= ~~~(v.map Da))(_:H o= ~~~(u.map Da))(_:ο v+n<=50)(_:ο u+n<=50)(_:H q= ~~~[.int l,.ref i,x])(_:H i= ~~~(c.map Da))(_:eZ H B x [])(_:B.ok ξ)(_:B.dep<=15)(_:B.size<=1000)(_:H p= ~~~[.int m,.ref j,z])(_:H j= ~~~(d.map Da))(_:eZ H E z [])(_:E.ok ξ)(_:E.dep < n)(_:E.dep<=15)(_:E.size<=1000)(_:∀g is s a,E= .cl g is s a->∃s' a',B= .cl g is s' a'/\Dt D g s/\Dt D g s')(_:(y.app ((one v (l,c,B) u m d E).app (d9 E v (fo B) 0 u 0))).tot<=100000)(_:∀H',Lg H' C r f k w h e (y.app ((one v (l,c,B) u m d E).app (d9 E v (fo B) 0 u 0)))->cR k w h e H H'->Q .non H')
inductive my(C:η)(n:Nat)(v:FA V)(H:Hp)(Q:VK)(a:XK):Prop
 |mk(D:DF)(r h l u i g o c m b:η)(q p:aD)(f:ρ)(j k:FA Int)(s t:Sk)(d e:Int)(y:Ly)(_:v=[.ref r,.ref o,.ref c,.ref m,.ref b])(_:Lg H C r h l u i g y)(_:H o= ~~~(q.map Da))(_:H m= ~~~(p.map Da))(_:ο q+n<=49)(_:ο p+n<=49)(_:oX H f j s d (.ref c))(_:s.ok μ)(_:s.dep<=15)(_:s.size<=1000)(_:oX H f k t e (.ref b))(_:t.ok μ)(_:t.dep < n)(_:t.dep<=15)(_:t.size<=1000)(_:Dt D f s)(_:Dt D f t)(_:(y.app (d9 t q s.steps 0 p 0)).tot<=100000)(_:∀H',Lg H' C r h l u i g (y.app (d9 t q s.steps 0 p 0))->cR l u i g H H'->Q .non H')
inductive O1(C r d k q h b o c:η)(p:aD)(n:FA aO)(m j:Nat)(y:Ly)(H:Hp)(i:Nat)(s:_L.St)(a:Hp):Prop
 |mk(l:FC V)(e:s=[↑r,↑o,↑c,δ (.int (m:Int)),δ (.int (j:Int)),l])(f:Lg a C r d k q h b (y.app #[[],[],[],eS p n m (m+i)]))(g:cR k q h b H a)
inductive O3(D:DF)(C r h w M v g F c x b:η)(J I:aD)(f:ρ)(G:FA aO)(L:FA V)(K:Sk)(d:Ly)(H:Hp)(i:Nat)(N:_L.St)(e:Hp):Prop
 |mk(z A B E:FC V)(m:Nat)(a:Sk)(y:Ly)(j:N=[↑r,↑F,↑c,↑x,↑b,δ (.int (m:Int)),z,A,B,E])(k:Lg e C r h w M v g y)(l:eZ e a .non (L.drop i))(n:a.ok μ)(o:a.dep<=K.dep)(p:a.size<=K.size)(q:Dt D f a)(s:m<=ο G)(t:y.app (d9 a J G m I i)=d)(u:cR w M v g H e)
def MK:one p (n,h,b) a N H c=if bQ N H (n,h,b)=μ then (if b.fnd=c.fnd then #[[(p,a)],[],[],[]] else #[[],[(p,a)],[],[]]) else #[[],[],[a],[p]]:=rfl
def vV(F:Fr K "found_in" gF f r):⇑1 f r ["what"] lH:=by
 erw[F.ok mw λC A o s H v Q E x h=>?_]
 let(u,w,rfl,l,d,q):=h;erw[_,%[Z|_dkUrh0hlI0jplI0Z qw _jp],?_];cases w with
 |nil |st _ _ _ _=>rwa[d.elim]
 |ask b |rd a i |wr a i=>let(p,rfl,m):=l;exact(ju m fV #[212,aW P8 #[1212,p,11122,aC.of m,Z,q]])
 |cl f I s i=>let(p,c,g,e,S,rfl,n,t,_):=l;exact(ju n fV #[212,cw P8$ ju n hZ #[c,11122,aC.of t,jO (j:=3) Z,q]])
def IN:al ["self"] ["self"] (ae AA):=bP
def Dc(F:aM K "__init__" "Laying.__init__" AA f U)(c:LK K C):⇑1 f U ["self"] (nC C):=by
 erw[F.ok IN λR A O s H V Q E S h=>?_]
 let(r,D,rfl,g,q):=h;erw[_,%[Z|_c (@zJ _ _ _ _ _ _ _ _ (pv 0) (jE jb) Z) _c (@zJ _ _ _ _ _ _ _ _ (pv 0) (jE jb) Z) _c (@zJ _ _ _ _ _ _ _ _ (pv 0) (jE jb) Z) _d (@zJ _ _ _ _ _ _ _ _ (pv 0) (jE jb) Z)],?_];erw[aj λM d=>#[iT,λk l=>#[12,r,C,D,12,ap g l,c.cl,c.n1,(by show 0 < 1000;decide),d _ _ ?_]]];erw[aj λM d=>#[iT,λt a=>#[12,r,C,D,12,ap jc a,c.cl,c.n2,(by show 1 < 1000;decide),d _ _ ?_]]];erw[aj λM d=>#[iT,λi N=>#[12,r,C,D,12,ap jc N,c.cl,c.n3,(by show 2 < 1000;decide),d _ _ ?_]]];erw[iT,λj n=>#[12,r,C,D,12,ap jc n,c.cl,c.n4,(by show 3 < 1000;decide),?_]];let m:k≠r:=(jk g l).symm;let T:t≠r:=λz=>by rw[z,jc]at a;cases a
 let p:i≠r:=λz=>by rw[z,jc]at N;cases N
 let u:j≠r:=λz=>by rw[z,jc]at n;cases n
 rw[jh T]at a;let x:t≠k:=λz=>by rw[z,jc]at a;cases a
 rw[jh x]at a;rw[jh p]at N;let y:i≠t:=λz=>by rw[z,jc]at N;cases N
 rw[jh y,jh p]at N;let B:i≠k:=λz=>by rw[z,jc]at N;cases N
 rw[jh B]at N;rw[jh u]at n;let G:j≠i:=λz=>by rw[z,jc]at n;cases n
 rw[jh G,jh u]at n;let I:j≠t:=λz=>by rw[z,jc]at n;cases n
 rw[jh I,jh u]at n;let J:j≠k:=λz=>by rw[z,jc]at n;cases n
 rw[jh J]at n;erw[q k t i j _ #[jc,#[[],?_,Z],#[[],?_,Z],#[[],?_,Z],#[[],?_,Z],#[x.symm,B.symm,J.symm,y.symm,I.symm,G.symm],λ_ z=>nomatch z] (λb o v e=>?_) l a N n]
 .rw[jh m,jh J.symm,jh m,jh B.symm,jh m,jh x.symm,jh m,jc]
 .rw[jh T,jh I.symm,jh T,jh y.symm,jh T,jc]
 .rw[jh p,jh G.symm,jh p,jc]
 .rw[jh u,jc]
 .rw[jh v,jh$ jk e n,jh v,jh$ jk e N,jh v,jh$ jk e a,jh v,jh$ jk e l];rwa[e]
def AW:al ["self","path","chain","begin","end","at"] z21z (ae Ax):=bP
def C7(F:aM K "drop" "Laying.drop" Ax f fd)(ck:LK K C)(cP:{36} fP f0 z8z (mz 17) "paths_at")(mr:mg "range"=ι):⇑37 f fd z21z (lG C):=by
 erw[F.ok AW λc0 A O s H vs Q E hr h=>?_]
 let(r,D,kA,tA,fA,G,I,c,po,f,is,s,a,m,j,y,rfl,hL,M,h5,hc,b,h6,h7,h8,h',h0,q):=h;erw[_,%[AW|_dDOg (J9 Z mr %[AW|_a3a4b]) _i5dzER TX TW qt _J0ga cP.e hr.m _anW1fa5bahlIlI2jp5pbb],?_];let b1:=aI;let(_,g,e,ss,ec,h1,h2,h3,N):=id hc;cases ec;let l0:=zF b N;let l1:=J3 b N;erw[db λJ jj=>#[1212112,#[P',P',P',P'],jj _ _ ?_]];erw[kn (O1 C r D kA tA fA G I c po s.steps m j y H) #[ι,Z,?_,λ_ _ _ _ _ _ e=>e] ?_ (λσ H' h=>?_)]
 .rw[Nat.add_zero,CC];exact(Ly.app_nil y).symm▸hL
 .intro E2 rt i σ H2 hi fE Gq k h;let(o5,rfl,_L,B):=h;erw[k ?_];let T:=hL.tm B;let e0:(m:Int)+(i:Int)=((m+i:Nat):Int):=by omega
  rw[e0];let n:m+i < ο ss:=P'
  let(n',a0,w,p,h,u,ht,R,d0,s0,ex,hp,hh,hw):=qx b (N.mono T) (RI n);let U:ss[m+i]?=↑p:=by rw[RI n,ex]
  let(xs,W,lx):=_L.dv;erw[12,r,C,D,112,_L.ins,ck.cl,ck.n4,Z,.inl #[21,aE.of W],1212,l7,λt nt=>#[I,t,1122,ap (T _ _ M) nt,jc,by rw[RJ];show _+1<=_;omega,λr9 H9 z s9=>?_]];let v:=(je (o:=.tup [.int ((m+i:Nat):Int)]) nt).trans s9;let z:H9 r9= ~~~(po.map Da++[.int ((m+i:Nat):Int)]):=z;rw[u5]at z;erw[(ju (v _ _$ T _ _ h1) iI #[12,e,11122,aC.of$ v _ _$ T _ _ h3,jO U,p,11122,aC.of$ v _ _ hp,iI,r9,_,w,u,Z,z,by rw[RN];show _+1+_<=_;omega,hw.mono$ aa.tm v,R,P',P',λl zs H0 nl hl hz X=>?_])];let S:=v.trans X;let Y:=_L.same S;let lz:=hz.len;let x:=lx.len;let ds:eS po s.steps m (m+i+1)=eS po s.steps m (m+i)++cy (po++[((m+i:Nat):Int)]) w:=xM (po:=po) (os:=s.steps) (m:=m) (j:=m+i) P' ht;let dl:(eS po s.steps m$ m+i+1).length<=(eS po s.steps m j).length:=by unfold eS;rw[RJ,RJ];let:=XX ((s.steps.drop m).take$ j - m) (m+i+1 - m) po m;rw[WY,TN P']at this;rwa[this]
  rw[ds,RN]at dl;let x:ο xs=ο y.d+(eS po s.steps m$ m+i).length:=by rw[x];rwa[RN]
  let(L,b0):=Y.setD (S _ _ W) hz;erw[G,l,1122,S _ _ W,hl,P',fE _ _ #[12,?_,(B.trans$ cR.of_same S).trans b0]];rw[Ly.app_assoc]at L;let ee:(#[[],[],[],eS po s.steps m$ m+i]:Ly).app #[[],[],[],cy (po++[((m+i:Nat):Int)]) w]=#[[],[],[],eS po s.steps m$ m+(i+1)]:=by rw[show m+(i+1)=m+i+1 by omega,ds];rfl
  rw[ee]at L;rwa[L]
 .let(o5,rfl,_L,B):=h;rw[show m+((j:Int) - (m:Int)).toNat=j by omega]at _L;rwa[q _ _L B]
def yq{w:Sk}{os:FA aO}(o:w.ok ξ)(h:∀f i s a,w≠ .cl f i s a):d9 w p os m b k= .nil:=by
 cases w with
 |nil |st _ _ _ _=>rwa[o.elim]
 |cl f i s a=>rwa[absurd Z (h f i s a)]
 |_=>rfl
def Yc{w:Sk}(o:w.ok ξ)(h:eZ H w u []):∃p v r,u= .ref p/\H p= ~~~(.str v::r)/\(v="call"↔∃f i s a,w= .cl f i s a):=by
 cases w with
 |nil |st _ _ _ _=>rwa[o.elim]
 |ask b |rd b c |wr b c=>let(p,e,h):=h;rwa[p,11,e,h,λe=>absurd e Ra,λ#[1111,e]=>nomatch e]
 |cl f i s a=>let(p,c,g,E,S,e,h,_):=h;rwa[p,11,e,h,λ_=>#[11112],λ_=>Z]
def uL:decide (Cv a=Cv b)=decide (a=b):=by
 by_cases h:a=b
 .rw[R0 h,R0 (by rw[h])]
 .rw[RW h,RW λz=>h (by injection z)]
def Ly.f_le(a b:Ly):ο a.f<=(a.app b).tot/\ο a.k<=(a.app b).tot/\ο a.t<=(a.app b).tot/\ο a.d<=(a.app b).tot:=by rw[Ly.tot_app];unfold Ly.tot;omega
def M8:al z4z z4z (ae DS):=bP
def HN(F:aM K "lay_step" "Laying.lay_step" DS f fd)(l:LK K C)(cF:{1} fF f3 ["what"] lH "found_in")(GL:⇑(2*n+38) fL f0 z4z (my C n))(bL:ax K f0 z4z [])(m0:bq K C "lay" fL):⇑(2*n+39) f fd z4z (oJ C$ n+1):=by
 erw[F.ok M8 λc2 A o1 s H vs Q E hr h=>?_]
 let(D,r,x,kA,tA,fA,dA,O,q0,h0,N,p,h1,B,G,I,V,b,c,u0,u1,W,w1,y,rfl,hL,h3,h4,b0,b1,X,h',h5,o0,h6,a2,hp,a3,Y,o,h7,J,a4,h2,L,q):=h;erw[_,%[Z|_cmu (yZ (d:=10)$ om hr) _Aα2QxjAα4Qxjw _ _czERηθδJ0ga3bdzERηθδJ0ga1bdmu Jd cF.e hr.m _ah2b cF.e hr.m _ah4bw _ _dzERηθδJ0gafa1a3bbdzERηθδJ0gafa1a3bbdmrhlI4jpdzM0 l.cl _β GL hr.m bL .nil _γa1ahlI2jpa3ahlI4jpbs],?_];let b2:=aI;erw[aj λF1 f1=>?_];suffices M:∀H',Lg H' C r x kA tA fA dA (y.app$ one B (I,b,W) G V c w1)->cR kA tA fA dA H H'->F1 [↑r,↑O,↑q0,↑N,↑p] H' by
  let o2:=Ly.f_le y ((one B (I,b,W) G V c w1).app$ d9 w1 B (fo W) 0 G 0);erw[1212,q0,12,X,λq1 H1 e1 u=>#[1212,p,12,u _ _ hp,λq2 H2 e2 s2=>#[11,rK I b,XY I b,XY V c,jM (s2 _ _ e1)$ jp Z zg$ jp Z (zL$ s2 _ _$ u _ _ h') jH,jM e2$ jp Z zg$ jp Z (zL$ s2 _ _$ u _ _ a3) jH,12,?_]]];rw[show ie (.tp$ aG [aH I,aJ$ b.map aH]) (.tp$ aG [aH V,aJ$ c.map aH])=bQ V c (I,b,W) from yv];let v:=u.trans s2;let _L:=hL.same v;let t0:=aa.tm v;let i:=v _ _ h3;let j:=v _ _ h4;rw[MK]at M;cases hb:bQ V c (I,b,W) with
  |false=>
   rw[hb,RU FI]at M;erw[cw Z ?_];let(xs,k,lx):=_L.fv;let l0:=lx.len;erw[aj λF2 f2=>#[12,r,C,x,112,_L.ins,l.cl,l.n3,Z,.inl #[21,aE.of k],12,fA,1122,k,P',f2 _ _ ?_]];let(U,b3):=_L.setF k (aV.one (R:=eI) (w:=G) #[N,Z,j]);let T:=_L.tm b3;generalize af H2 fA (.lst$ xs++[.ref N])=H3 at U b3 T ⊢;let(zs,hz,lz):=U.dv;let l1:=lz.len;let l1:ο zs=ο y.d:=by rw[l1];show(y.d++[]).length=_;rw[Sw]
   erw[12,r,C,x,112,U.ins,l.cl,l.n4,Z,.inl #[21,aE.of hz],12,dA,1122,hz,P',?_];let(L4,b4):=U.setD hz (aV.one (R:=eI) (w:=B) #[O,Z,T _ _ i]);rw[Ly.app_assoc]at L4;rwa[M _ L4 (((cR.of_same v).trans b3).trans b4)]
  |true=>
   rw[hb,RV Z]at M;erw[aW Z ?_];erw[(ju (v _ _ X) iI #[u0,W,Z,h5.mono t0,o0,ju (v _ _ hp) iI #[u1,w1,Z,Y.mono t0,o,212,?_]])];by_cases hf:W.fnd=w1.fnd
   .rw[RV hf]at M;erw[cw (R0 (by rw[hf])) ?_];let(xs,k,lx):=_L.kv;let l0:=lx.len;erw[12,r,C,x,112,_L.ins,l.cl,l.n1,Z,.inl #[21,aE.of k],1212,b8,λt nt=>#[kA,1122,ap k nt,P',?_]];let S:aa H2 (af H2 t$ .tup [.ref O,.ref N]):=je nt;let(L4,b4):=(_L.same S).setK (S _ _ k) (aV.one (R:=mj) (w:=(B,G)) #[t,O,N,Z,jc,S _ _ i,S _ _ j]);rwa[M _ L4 ((cR.of_same$ v.trans S).trans b4)]
   .rw[RU hf]at M;erw[aW (RW λz=>hf (by injection z)) ?_];let(xs,k,lx):=_L.tv;let l0:=lx.len;erw[12,r,C,x,112,_L.ins,l.cl,l.n2,Z,.inl #[21,aE.of k],1212,b8,λt nt=>#[tA,1122,ap k nt,P',?_]];let S:aa H2 (af H2 t$ .tup [.ref O,.ref N]):=je nt;let(L4,b4):=(_L.same S).setT (S _ _ k) (aV.one (R:=mj) (w:=(B,G)) #[t,O,N,Z,jc,S _ _ i,S _ _ j]);rwa[M _ L4 ((cR.of_same$ v.trans S).trans b4)]
 intro H3 U b3;erw[f1 _ _ ?_];let T:=hL.tm b3;rw[<- Ly.app_assoc]at L q;let(p3,v3,r3,eu,a',h8):=Yc o (Y.mono T);subst eu;erw[(ju (T _ _ hp) iI #[p3,11122,aC.of a',fV,212,?_])];rw[uL];by_cases hv:v3="call"
 .let(g,is,u,a1,rfl):=h8.mp hv;let(s0,a0,rfl,D1,D0):=h2 g is u a1 Z;erw[cw (R0 hv) ?_];let(x1,c1,g1,e1,s4,e3,k1,k2,k3,k4,k5):=Y.mono T;let(x0,c0,g0,e0,s5,e4,i1,i2,i3,i4,i5):=h5.mono T;cases e3;subst e4;let h7:u.dep+1 < n+1:=h7;let J:u.dep+1<=15:=J;let h6:s0.dep+1<=15:=h6;rwa[12,r,x,12,U.ins,212,ju (T _ _ X) iI #[x0,11122,aC.of i1,hZ,12,ju (T _ _ hp) iI #[p3,11122,aC.of k1,hZ,D,r,x,kA,tA,fA,dA,O,c0,N,c1,B,G,g,is,is,s0,u,a0,a1,12,U,T _ _ h3,T _ _ h4,N09,P',#[c0,g0,e0,s5,Z,i2,i3,i4,i5],o0,N09,a2,#[c1,g1,e1,s4,Z,k2,k3,k4,k5],o,N09,N09,a4,D0,D1,L,λH4 L4 b4=>q H4 L4 (b3.trans b4)]]]
 .erw[aW (RW hv) ?_];rw[yq o (λf is s a e=>hv (h8.mpr #[f,is,s,a,e])),Ly.app_nil]at q;rwa[q H3 U b3]
def i9:al ["self","old_path","old","new_path","new","mark","number","step","here","taken"] z4z (ae DT):=bP
def yN(F:aM K "lay" "Laying.lay" DT f fd)(ck:LK K C)(cT:{3} fT f3 ["steps","mark","step"] oQ "taken_from")(cP:{36} fP f4 z8z (mz 17) "paths_at")(GD:⇑37 fD f0 z21z (lG C))(bD:ax K f0 z21z [])(m0:bq K C "drop" fD)(GS:⇑(2*n+37) fS f2 z4z (oJ C n))(bS:ax K f2 z4z [])(m1:bq K C "lay_step" fS)(m2:mg "enumerate"=ι)(ml:mg "len"=ι):⇑(2*n+38) f fd z4z (my C n):=by
 erw[F.ok i9 λd4 A o0 s H vs Q E hr h=>?_]
 symm;let(D,r,U,kA,tA,fA,dA,X,c,na,b,u,G,f,is,js,p,s1,a0,a1,y,rfl,hL,h6,c3,d5,d6,h7,O,a3,h8,c4,o1,d7,c',d8,D0,D1,M,q):=h;erw[_,%[i9|_ce5jcDOg (Qo Z m2 %[i9|_ah4b]) _S (n:=2) _gti6ti7κce8nW3fa6bce9 cT.e hr.m _ah2a5a7bdm (Qa$ @XH _ _ _ _ _$ pv 9) _dzER TX TW qt _J0ga cP.e hr.m _a8ah7bbczM0 ck.cl _β GD hr.m bD .nil _γa1a2a5a9bczM0 ck.cl m1 GS hr.m bS .nil _γanW1fa9balIh29pa8a7bde5nυ9jdzM0 ck.cl _β GD hr.m bD .nil _γa1a2a5aCψg ml _σah2bb],?_];let d':=aI;symm;let(_,g0,e0,s2,e4,h1,h2,h3,h4):=id h7;cases e4;let(_,g1,e1,s3,e6,k1,k2,k3,k4):=id c4;cases e6;let l0:=zF O h4;let l1:=J3 O h4;sleep 2;erw[aj λF1 v=>v _ _ ?_];left;erw[aj λF1 v=>db λJ jj=>(ju k1 iI #[e1,Z,#[_,aC.of k3],jj _ _ ?_])];erw[Js (K:=K) (xs:=s3) (O3 D C r U kA tA fA dA X c na b u G f p.steps s3 s1 (y.app$ d9 s1 u p.steps 0 G 0) H) #[ι,ι,ι,ι,0,s1,y,Z,hL,k4,o1,RO _,RO _,D1,R4 _,Z,λ_ _ _ _ _ _ e=>e] (λk σ Hx _ h=>?_) ?_ (λσ Hx h=>v _ _ ?_)]
 .symm;let(_,_,_,_,_,_,_,_,_,_,_,_,_,_,_,_,b7):=h;rwa[aC.of$ hL.tm b7 _ _ k3]
 .intro E rt k x pp σ H4 c5 n2 fE Gq kq h;left;symm;let(o6,o7,o8,o9,m,R,Y,rfl,L4,w2,w3,w4,w5,w6,w7,W,b4):=h;let s5:aa H4 (af H4 pp$ .tup [.int k,x]):=je n2;let e5:af H4 pp (.tup [.int k,x]) pp= ~~~[.int k,x]:=jc;erw[kq ?_];generalize af H4 pp (.tup [.int k,x])=H5 at s5 e5 ⊢;let b5:=b4.trans (cR.of_same s5);let c6:=hL.tm b5;let L5:=L4.same s5;erw[pp,12,aC.of e5,21121122,?_];rw[CB c5]at w2;let w2:=w2.mono (aa.tm s5);symm;cases R with
  |nil=>rwa[nomatch (show _::_=[] from w2)]
  |ask _ |rd _ _ |wr _ _ |cl _ _ _ _=>rwa[w3.elim]
  |st n1 h5 w r1=>
   let(p',h',u',y0,ex,i1,i2,i3,i4):=w2;injection ex with ex ey;subst ex;subst ey;let e7:w.dep<=s1.dep:=Sf (U0 _ _) w4;let d2:r1.dep<=s1.dep:=Sf (UM _ _) w4;let w5:w.size+r1.size+1<=s1.size:=w5;show dq (dP _ _) (dq _ _) E [↑r,↑X,↑c,↑na,↑b,δ$ .int (m:Int),δ$ .int k,↑p',o8,o9] H5;sleep 2;erw[aj λF1 v=>#[1212,l7,λt nt=>#[na,t,1122,ap (c6 _ _ c3) nt,jc,by rw[RJ];show _+1<=_;omega,λr9 H9 e9 s9=>v _ _ ?_]]];left;let S9:aa H5 H9:=(je (o:=.tup [.int k]) nt).trans s9;let e9:H9 r9= ~~~(G.map Da++[.int (k:Int)]):=e9;rw[u5]at e9;let b9:=b5.trans (cR.of_same S9);let a2:=hL.tm b9;erw[aj λF1 v=>(ju (a2 _ _ h1) iI #[1212,e0,p',h',s2,p,w,m,n1,h5,u',Z,a2 _ _ h3,h4.mono a2,O,h8,P',S9 _ _ i1,S9 _ _ i2,i3.mono$ aa.tm S9,w3.1,λH0 s4=>v _ _ ?_])];let B:=S9.trans s4;let b1:=b5.trans (cR.of_same B);let t5:=hL.tm b1;let L:=L5.same B;let e3:=s4 _ _ e9;let i0:=B _ _ i1;let j0:=i3.mono (aa.tm B);cases hb:dI p.steps m n1 h5 w with
   |none=>
    rw[ql hb]at W;show gY _ _ _ E [↑r,↑X,↑c,↑na,↑b,δ$ .int (m:Int),δ$ .int k,↑p',↑r9,δ .non] H0;erw[iX λG1 yT yF=>#[1212,?_]];rw[R0 Z];erw[yT _ ?_];symm;let(xs,hx,lx):=L.fv;let l2:=lx.len;let pl:=Qr w3.1 (G++[(k:Int)]);let tt:Y.tot+((w.size+1)+(d9 r1 u p.steps m G$ k+1).tot)<=100000:=by
     let z:=M;rw[<- W,Ly.tot_app,Ly.tot_app]at z;let z2:(#[[],[],cy (G++[(k:Int)]) w,[]]:Ly).tot=w.size+1:=by show 0+0+(cy (G++[(k:Int)]) w).length+0=_;rw[pl];omega
     rw[z2]at z;rwa[z]
    let ty:ο Y.f<=Y.tot:=by unfold Ly.tot;omega
    erw[12,r,C,U,112,L.ins,ck.cl,ck.n3,Z,.inl #[21,aE.of hx],12,ju i0 iI #[r9,G++[(k:Int)],w,u',Z,e3,by rw[RN];show _+1+_<=_;omega,j0,w3.1,P',P',λl zs H1 nl hl hz I=>?_]];let lz:=hz.len;symm;let(L1,b2):=(L.same I).setF (I _ _ hx) hz;erw[fA,l,1122,I _ _ hx,hl,P',fE _ _ #[1111,m,r1,12,L1,?_,w3.2,d2,P',w6.2.2,w7,?_,?_]]
    .rwa[i4.mono ((aa.tm$ B.trans I).trans ((L.same I).tm b2))]
    .rw[Ly.app_assoc];rwa[W]
    .exact(b1.trans$ cR.of_same I).trans b2
   |some j=>
    symm;let(c8,o,ho,e8):=j5 hb;let e':=(ν.mp ho).1;let(n0,a4,w0):=o;rw[qm hb ho]at W;show gY _ _ _ E [↑r,↑X,↑c,↑na,↑b,δ$ .int (m:Int),δ$ .int k,↑p',↑r9,δ$ .int (j:Int)] H0;erw[iX λG1 yT yF=>#[1212,?_]];rw[RW FI];erw[yF _ ?_];let tt:=M;rw[<- W,Ly.tot_app,Ly.tot_app,Ly.tot_app,Ly.tot_app]at tt;let z2:(#[[],[],[],eS u p.steps m j]:Ly).tot=(eS u p.steps m j).length:=UL _;rw[z2]at tt;let ty:ο Y.d<=Y.tot:=by unfold Ly.tot;omega
    show dq _ (dq _ _) E [↑r,↑X,↑c,↑na,↑b,δ$ .int (m:Int),δ$ .int k,↑p',↑r9,δ$ .int (j:Int)] H0;sleep 2;erw[aj λF1 v=>#[12,r,U,12,L.ins,212121212,r,U,kA,tA,fA,dA,X,c,u,f,is,p,a0,m,j,Y,Z,L,t5 _ _ h6,P',qD h7 t5,O,a3,h8,c8,P',P',λH1 L0 b3=>v _ _ ?_]];left;let b0:=b1.trans b3;let T:=hL.tm b0;let N:=L.tm b3;symm;obtain⟨xv,b'⟩:∃xv,s2[j]?=δ xv:=#[_,RI P'];let(n4,d3,w1,q,h0,u0,t1,t2,t3,t4,rfl,t6,t7,t8):=qx O (h4.mono T) b';rw[ho]at t1;cases t1;erw[aj λF1 v=>#[12,r,U,12,L0.ins,21212,l7,λt nt=>#[X,t,1122,ap (T _ _ h6) nt,jc,by rw[RJ];show _+1<=_;omega,λr0 H2 e2 s6=>?_]]];let S:aa H1 H2:=(je (o:=.tup [.int (j:Int)]) nt).trans s6;let e2:H2 r0= ~~~(u.map Da++[.int (j:Int)]):=e2;rw[u5]at e2;let t':=T.trans (aa.tm S);let c9:=ZH (s:=.nil) O D0 hb ho t2 w6.1;erw[(ju (t' _ _ h1) iI #[12,e0,11122,aC.of$ t' _ _ h3,jO b',1212,D,r,U,kA,tA,fA,dA,r0,q,h0,r9,p',h',u++[(j:Int)],G++[(k:Int)],n0,n1,a4,h5,u0,u',w0,w,12,L0.same S,e2,aa.tm S _ _$ N _ _ e3,by rw[RN];show _+1+_<=_;omega,by rw[RN];show _+1+_<=_;omega,S _ _ t6,S _ _ t7,t8.mono$ aa.tm S,t2,P',P',aa.tm S _ _$ N _ _ i0,aa.tm S _ _$ N _ _$ B _ _ i2,(j0.mono N).mono$ aa.tm S,w3.1,P',P',P',λg is s a e=>?_,?_,λH3 L3 c0=>v _ _ ?_])]
    .symm;let(s',a',ew):=c9 g is s a e;let ew:w0= .cl g is s' a':=ew;let d0:Dt D f w0:=(K6 D0 ho).2;let d1:Dt D f w:=w6.2.1;rw[e]at d1;rw[ew]at d0;rwa[s',a',ew,d1,d0]
    .rw[Ly.tot_app,Ly.tot_app,Ly.tot_app,z2];let tt:Y.tot+(((eS u p.steps m j).length+((one (u++[(j:Int)]) (n0,a4,w0) (G++[(k:Int)]) n1 h5 w).tot+(d9 w (u++[(j:Int)]) (fo w0) 0 (G++[(k:Int)]) 0).tot))+(d9 r1 u p.steps (j+1) G$ k+1).tot)<=100000:=tt;omega
    left;let c1:=(b0.trans$ cR.of_same S).trans c0;let c2:=(L0.same S).tm c0;let ej:(j:Int)+1=((j+1:Nat):Int):=P'
    erw[121122,fE _ _ #[δ$ .int k,↑p',↑r9,δ$ .int (j:Int),j+1,r1,_,?_,L3,?_,w3.2,d2,P',w6.2.2,P',?_,c1]]
    .rw[<- ej];rfl
    .rwa[i4.mono (((aa.tm B).trans N).trans ((aa.tm S).trans c2))]
    .rw[Ly.app_assoc,Ly.app_assoc];rw[Ly.app_assoc]at W;rwa[W]
 .symm;let(o6,o7,o8,o9,m,R,Y,rfl,L4,w2,w3,w4,w5,w6,w7,W,b4):=h;let t0:=hL.tm b4;rw[List.drop_length]at w2;cases R with
  |st n hs w r=>let(_,_,_,_,z,_):=w2;cases z
  |ask _ |rd _ _ |wr _ _ |cl _ _ _ _=>rwa[w3.elim]
  |nil=>
   let W:Y.app #[[],[],[],eS u p.steps m p.steps.length]=_:=W;let tt:=M;rw[<- W,Ly.tot_app]at tt;let z2:(#[[],[],[],eS u p.steps m p.steps.length]:Ly).tot=(eS u p.steps m p.steps.length).length:=UL _;rw[z2]at tt;let ty:ο Y.d<=Y.tot:=by unfold Ly.tot;omega
   erw[12,r,U,12,L4.ins,2121212,ju (t0 _ _ h1) iI #[e0,12,.inr$ aC.of$ t0 _ _ h3,r,U,kA,tA,fA,dA,X,c,u,f,is,p,a0,m,p.steps.length,Y,by rw[<- l0];rfl,L4,t0 _ _ h6,P',qD h7 t0,O,a3,h8,w7,RO _,P',λH5 L5 b5=>q H5 (W▸L5) (b4.trans b5)]]
def Gk(p:aD)(os:FA aO)(m j:Nat):(eS p os m j).length<=(eJ (os.drop m) p m).length:=by unfold eS;rw[RJ];rwa[XX _ _ _ _]
def BP{os:FA aO}(p:aD)(h:m<=j)(H:os[j]?=δ o)(O:o.2.2.ok ξ):(eJ (os.drop m) p m).length=(eS p os m j).length+(o.2.2.size+1)+(eJ (os.drop$ j+1) p$ j+1).length:=by
 let d:=(ν.mp H).1;let e:os.drop m=(os.drop m).take (j - m)++(o::os.drop (j+1)):=by let z:=Uf (j - m) (os.drop m);rw[List.drop_drop,show m+(j - m)=j by omega]at z;let(a,E):=ν.mp H;rw[<- Tl (h:=a),E]at z;rwa[z.symm]
 let b:((os.drop m).take$ j - m).length=j - m:=by rw[Se,Td];omega
 let z:(eJ (os.drop m) p m).length=((eJ ((os.drop m).take$ j - m) p m)++eJ (o::os.drop (j+1)) p (m+(j - m))).length:=by
  conv=>lhs;rw[e]
  rw[zZ,b]
 rw[z,RN,show m+(j - m)=j by omega];let c:(eJ (o::os.drop (j+1)) p j).length=(o.2.2.size+1)+(eJ (os.drop$ j+1) p$ j+1).length:=by show(((_,_)::_)++_).length=_;rw[RN,So,kI O]
 rw[c];unfold eS;rw[RJ];omega
theorem qN:∀{s:Sk},s.ok μ->∀{j:Nat} {o:aO},s.steps[j]?=δ o->o.2.2.ok ξ
 | .st n H w r,h,0,o,e=>by cases e;rwa[h.1]
 | .st n H w r,h,j+1,o,e=>qN h.2 (j:=j) (by let e:((n,H,w)::r.steps)[j+1]?=δ o:=e;simpa using e)
 | .nil,_,j,o,e=>by let e:([]:FA aO)[j]?=δ o:=e;simp at e
def FY{w:Sk}(o:w.ok ξ)(p:aD):(eJ (fo w) p 0).length=w.size:=by
 cases w with
 |nil |st _ _ _ _=>rwa[o.elim]
 |cl f i s a=>show(eJ s.steps p 0).length=s.size;rw[<- zB (show s.ok μ from o),kI (show s.ok μ from o)]
 |_=>rfl
def Dr(p:aD)(o:aO)(a:aD)(n:Int)(h:FA Int)(w:Sk):(one p o a n h w).tot<=2:=by
 unfold one;split
 .split
  .rwa[SY 1]
  .rwa[SY 1]
 .rwa[RO 2]
theorem JE:∀{b:Bool} {s:Sk},s.ok b->∀(p:aD) (os:FA aO) (m:Nat) (c:aD) (k:Nat),(∀o∈os,o.2.2.ok ξ)->(d9 s p os m c k).tot<=s.size+(eJ (os.drop m) p m).length
 |true,.nil,_,p,os,m,c,k,_=>by let:=Gk p os m os.length;show 0+0+0+(eS p os m os.length).length<=0+_;omega
 |true,.st n q w r,o,p,os,m,c,k,H=>by
  show _<=w.size+r.size+1+_;cases h:dI os m n q w with
  |none=>
   rw[ql h,Ly.tot_app];let t:(#[[],[],cy (c++[(k:Int)]) w,[]]:Ly).tot=w.size+1:=by show 0+0+(cy (c++[(k:Int)]) w).length+0=_;rw[Qr o.1];omega
   let u:=JE o.2 p os m c (k+1) H;omega
  |some j=>
   let(g,x,l,_):=j5 h;let O:=H x (Sc l);rw[qm h l,Ly.tot_app,Ly.tot_app,Ly.tot_app];let t:(#[[],[],[],eS p os m j]:Ly).tot=(eS p os m j).length:=UL _;let u:=Dr (p++[(j:Int)]) x (c++[(k:Int)]) n q w;let v:=JE o.1 (p++[(j:Int)]) (fo x.2.2) 0 (c++[(k:Int)]) 0 (λy d=>by
    cases e:x.2.2 with
    |cl f I s a=>rw[e]at d O;let(i,z):=List.getElem?_of_mem d;rwa[qN (show s.ok μ from O) z]
    |_=>rw[e]at d;cases d)
   rw[Tu,FY O]at v;let A:=JE o.2 p os (j+1) c (k+1) H;let B:=BP p g l O;omega
 |false,.cl _ _ s _,o,p,os,m,c,k,H=>JE (b:=μ) (s:=s) o p os m c k H
 |false,.ask _,_,p,os,m,c,k,_ |false,.rd _ _,_,p,os,m,c,k,_ |false,.wr _ _,_,p,os,m,c,k,_=>R4 _
def Pm(H:Hp)(x:V)(k t f d:η)(y:Ly):Prop:=∃q,x= .ref q/\Lt H q k t f d y
inductive nE(k:FA V)(H:Hp)(Q:VK)(a:XK):Prop
 |mk(D:DF)(c b:η)(f:ρ)(g h:FA Int)(i j:Sk)(d e:Int)(_:k=[.ref c,.ref b])(_:oX H f g i d (.ref c))(_:i.ok μ)(_:i.dep<=15)(_:i.size<=1000)(_:oX H f h j e (.ref b))(_:j.ok μ)(_:j.dep<=15)(_:j.size<=1000)(_:Dt D f i)(_:Dt D f j)(_:∀(x:V) (kA tA fA dA:η) (H':Hp),Pm H' x kA tA fA dA (d9 j [] i.steps 0 [] 0)->H kA=ι->H tA=ι->H fA=ι->H dA=ι->aa H H'->Q x H')
def Hi:⇑k f d z4z (oJ C 0):=by
 let n:∀{v H Q E},¬oJ C 0 v H Q E:=by rintro v H Q E ⟨D,r,e,g,t,F,i,O,q,j,N,p,l,m,u,x,B,b,c,U,G,W,I,y,_,_,_,_,_,_,_,_,_,_,_,_,_,_,_,_,z,_⟩;omega
 rwa[λv H Q E h=>(n h).elim,λA o s H a J v Q E L M R S h=>(n h).elim]
theorem Mu(c:LK K C)(F:aM K "lay" "Laying.lay" DT k f)(l:ax K f z4z [])(b:bq K C "lay" k)(o:aM K "lay_step" "Laying.lay_step" DS q d)(B:ax K d z4z [])(m:bq K C "lay_step" q)(e:{3} v r ["steps","mark","step"] oQ "taken_from")(g:{36} x s z8z (mz 17) "paths_at")(G:⇑37 t h z21z (lG C))(i:ax K h z21z [])(M:bq K C "drop" t)(p:{1} y u ["what"] lH "found_in")(a:mg "enumerate"=ι)(j:mg "len"=ι):∀n,⇑(2*n+38) k f z4z (my C n)
 |0=>yN F c e g G i M Hi B m a j
 |n+1=>yN F c e g G i M (HN o c p (Mu c F l b o B m e g G i M p a j n) l b) B m a j
def AZ:al ["old","new","laying"] ["old","new"] (ae AB):=bP
def C8(F:Fr K "laid" AB f fd)(a:LK K C)(mk:Mk K C fI)(GI:⇑1 fI v ["self"] (nC C))(bI:ax K v ["self"] [])(mC:mg "Laying"=↑C)(GL:⇑70 fL y z4z (my C 16))(bL:ax K y z4z [])(M:bq K C "lay" fL):⇑71 f fd ["old","new"] nE:=by
 erw[F.ok AZ λc0 A B s H vs Q E hr h=>?_]
 let(D,c,b,f,is,js,G,S,a0,a1,rfl,I,O,J,R,T,g,U,V,D0,D1,q):=h;erw[_,%[AZ|_ce2 (@Ac _ _ _ _ _ _ _ _ _ _ _ _ _ _ mk GI hr.m Z mC bI .nil bg Ra) _czM2 a.cl M GL hr.m bL .nil _γafba0afba1bdkfaJ2gaJ2gaJ2gaJ2gb],?_];let b0:=aI;erw[aj λF1 j=>λr d nr N h0=>#[r,d,Z,jc,λW X Y dA t L1 k nk nt nf nd=>#[Z,j _ _ ?_]]];let up:∀b o,b≠r->b≠d->H b=δ o->t b=δ o:=λb o n1 n2 e=>k b o n1 (by rw[jh n1,jh n2];rwa[e]);let s1:aa H t:=λb o e=>up b o (jk e nr) (jk e N) e;let n:∀x,af (af H d$ .own r) r (.ins C d []) x=ι->H x=ι:=λx hx=>by
  cases z:H x with
  |none=>rfl
  |some o=>rw[jh (jk z nr),jh (jk z N),z]at hx;cases hx
 let t0:=JE g [] G.steps 0 [] 0 λo ho=>by let(i,hi):=List.getElem?_of_mem ho;rwa[qN O hi]
 rw[Tu,<- zB O,kI O]at t0;erw[aj λF1 j=>#[12,r,d,12,L1.ins,Z,iT,λpa n0=>#[12,iT,λpb l=>#[12,?_]]]];let u:aa t (af (af t pa$ .tup []) pb$ .tup []):=(je n0).trans (je l);erw[D,r,d,W,X,Y,dA,pa,c,pb,b,[],[],f,is,js,G,S,a0,a1,.nil,Z,L1.same u,ap jc l,jc,Ra,Ra,qD I$ aa.tm$ s1.trans u,O,J,R,qD T$ aa.tm$ s1.trans u,g,P',U,V,D0,D1,by rw[Ly.nil_app];omega,λH3 L b3=>j _ _ ?_];rw[Ly.nil_app]at L;erw[12,r,C,d,112,L.ins,a.cl,a.n1,212,r,C,d,112,L.ins,a.cl,a.n2,212,r,C,d,112,L.ins,a.cl,a.n3,212,r,C,d,112,L.ins,a.cl,a.n4,Z,wW,λz nz=>?_];let s4:aa H3 (af H3 z$ .tup [.ref W,.ref X,.ref Y,.ref dA]):=je nz;let p:=L.same s4;erw[q _ W X Y dA _ #[z,Z,jc,p.kv,p.tv,p.fv,p.dv,p.ne,λ_ z=>nomatch z] (n _ nk) (n _ nt) (n _ nf) (n _ nd) λx o e=>?_];rwa[s4 _ _$ b3 _ _ (jk e$ n _ nk) (jk e$ n _ nt) (jk e$ n _ nf) (jk e$ n _ nd)$ u _ _$ s1 _ _ e]
abbrev pY:de:=bN 73
abbrev IE:de:=bN 74
abbrev AC:de:=bN 83
def DI(a:bf)(k:a9)(v:V):(a6 a k v).length<=ο a+1:=qk
inductive iS(b:FA V)(H:Hp)(Q:VK)(a:XK):Prop
 |mk(p:η)(_:b=[.ref p])(_:ar H p)(_:∀(l:η) (C:bf) (H':Hp),H l=ι->H' l=δ (.dK C)->GT C->ο C<=13->ar H' p->aA p H H'->Q (.ref l) H')
inductive CL(p l:η)(H:Hp)(i:Nat)(k:_L.St)(a:Hp):Prop
 |mk(h j:FC V)(C:bf)(b:k=[↑p,↑l,h,j])(c:a l=δ (.dK C))(d:GT C)(e:ο C<=i)(f:ar a p)(g:aA p H a)
def Hm:NX (.lst x):=λa z=>by cases z
def Hn:NX (.tup x):=λa z=>by cases z
def Kp.tm(k:Kp H h):am H h:=λb x e=>k b _ Hn e
def Kp.seq{K:γ}(e:Kp H b)(h:aE K H a x):aE K b a x:=by
 rcases h with (h | ⟨o,h⟩) |h
 .rwa[.inl$ .inl$ e _ _ Hm h]
 .rwa[.inl$ .inr #[o,e _ _ (by intro c z;cases z) h]]
 .rwa[.inr h]
def Im{H:Hp}{D:FA Df}{n:FA Nat}(h:n8 H D n){i:Nat}{d:Df}{p:FA ρ}(a:D[i]?=δ d)(c:H d.pa= ~~~(p.map Cv)):n[i]?=δ p.length:=by let f:i < ο D:=(ν.mp a).1;let b:n[i]?=δ (n[i]'(by rw[<- h.1];rwa[f])):=RI _;let(g,e,l,_):=h.2 i d _ a b;rw[c]at e;injection e with e;injection e with e;let:=SQ hJ e;rw[RJ,RJ]at this;rw[b,<- l,this]
def MD:NX (.dK x):=λa z=>by cases z
def xh(H:Hp)(X:FA V):Prop:=∀x∈X,∃(q:η) (c i:Int),x= .ref q/\H q= ~~~[.int c,.int i]/\g9 i
def xh.mono(k:am H a)(h:xh H b):xh a b:=λx d=>let #[q,c,i,e,f,g]:=h x d;#[q,c,i,e,k _ _ f,g]
inductive uC(b:FA V)(H:Hp)(Q:VK)(a:XK):Prop
 |mk(p:η)(m:Int)(_:b=[.ref p,.int m])(_:ar H p)(_:0 < m)(_:m<=100)(_:∀(l:η) (xs:FA V) (H':Hp),H l=ι->H' l=xs⁻¹->xh H' xs->ο xs<=100->ar H' p->aA p H H'->Q (.ref l) H')
inductive OZ(p l:η)(m:Int)(H:Hp)(i:Nat)(n:_L.St)(a:Hp):Prop
 |mk(h j:FC V)(k:FA V)(b:n=[↑p,δ (.int m),↑l,h,j])(c:a l=k⁻¹)(d:xh a k)(e:ο k<=i)(f:ar a p)(g:aA p H a)
structure Lv(H:Hp)(nA pA ag cA:η)(i:Nat)(Cs:bf)(d:Df)(ds:FA Df)(ns:FA Nat)(xs:FA V)(pds:FA dU)(is:FA Int):Prop where
 ps:Ps H nA pA ds ns xs pds
 xl:ο xs<=1000
 hd:ds[i]?=δ d
 hn:ns[i]?=δ is.length
 ag:H ag= ~~~(is.map Da)
 hi:∀z∈is,g9 z
 il:ο is<=100
 ce:H cA=δ (.dK Cs)
 gc:GT Cs
def Lv.kp(h:Lv H n a A c i C d D N x p I)(k:Kp H b):Lv b n a A c i C d D N x p I:=#[h.ps.mono k.tm,h.xl,h.hd,h.hn,k.tm _ _ h.ag,h.hi,h.il,k _ _ MD h.ce,h.gc]
inductive nD(l:η)(o:FA V)(H:Hp)(Q:VK)(b:XK):Prop
 |mk(n g h:η)(i:Nat)(f:bf)(d:Df)(j:FA Df)(m:FA Nat)(p:FA V)(e:FA dU)(k:FA Int)(_:o=[.ref n,.str d.f,.ref g,.ref h])(_:Lv H l n g h i f d j m p e k)(_:∀(c:η) (sk:Sk) (a:Int) (L':bf) (H':Hp),cq e f 16 d.f k [] 0= .ok sk a L' sk.size->oX H' d.f k sk a (.ref c)->sk.ok μ->sk.dep<=15->sk.size<=60->Kp H H'->Q (.ref c) H')(_:(∀sk a L' t',cq e f 16 d.f k [] 0≠ .ok sk a L' t')->∀H',Kp H H'->Q .non H')
inductive oK(K:γ)(d:FA V)(H:Hp)(Q:VK)(b:XK):Prop
 |mk(a:η)(c:FA Int)(_:d=[.ref a])(_:aE K H a (c.map Da))(_:ο c<=63)(_:∀H',Q (.bl μ) H')
def gH:al ["_law_box_here","_law_cells_here","_law_k","_law_cell"] z2z (ae pY):=bP
def yI(F:Fr K "_law_cells" pY f fd)(r:{1} fT f0 z0z aZ "_law_take")(cU:{2} fU f2 z2z iG "_law_number")(mr:mg "range"=ι):⇑3 f fd z2z iS:=by
 erw[F.ok gH λc0 A O s H vs Q E g h=>?_]
 let(p,rfl,B,q):=h;erw[_,%[gH|_ce1 YG _cDOgτg mr _a r.e g.m _a0ajbbi2ce3 r.e g.m _a0ajbcmB r.e g.m _a0ajbde3nεnεn JX _jjj r.e g.m _a0ajbsdπK g _13 cU.e g.m _a0bgdk1],?_];let b0:=aI;let t0:=uQ;erw[aj λt a=>λl N=>a _ _ ?_];let S:aa H (af H l$ .dK []):=je N;let I:af H l (.dK []) l=δ (.dK []):=jc;generalize af H l (.dK [])=H1 at S I;let L:l≠p:=B.ne N;let B1:=B.same S;erw[aj λt a=>db λJ j=>#[12,p,(14),Z,B1,Ra,Ra,λd H2 d0 d1 B2 M=>#[12,P',P',j _ _ ?_]]];erw[kn (lo:=0) (CL p l H) #[ι,ι,[],Z,by rw[M l L];rwa[I],_K.GT.nil,RO _,B2,(aA.of_same S).trans$ aA.of_eq M] ?_ (λσ H' h=>a _ _ ?_)]
 .intro E0 _ i σ H3 hi fE Gq o h;let(o2,o3,C,rfl,x,G,lC,y,D):=h;erw[o ?_];show dq (dP _ _) _ E0 _ _;erw[aj λt a=>#[12,p,(14),Z,y,Ra,Ra,λc4 H4 d2 d3 B4 R=>a _ _ ?_]];erw[aj λt a=>?_];let c:∀(u:Int) (v:Hp),ar v p->(∀b,b≠p->v b=H3 b)->t [↑p,↑l,δ$ .int (0+(i:Int)),δ$ .int u] v:=λu v BH T=>a _ _ (by
   erw[12,p,Z,BH,λm H7 m0 m1 B7 U=>?_];let h7:H7 l=δ (.dK C):=by rw[U l L,T l L];rwa[x]
   let pl:=DI C (.inl u) (.int m);rwa[1212,l,12,iU.k (k:=.inl u) h7 P',fE _ _ #[1112,jc,G.put _ #[m0,m1],P',B7.eq$ jh$ Sx L,(D.trans ((aA.of_eq T).trans$ aA.of_eq U)).upd_own N]])
  erw[iX λG1 yT yF=>#[12,p,8,Z,B4,Ra,Ra,λd5 H5 d4 d7 W X=>#[212,?_]]];by_cases Y:d5=0
  .rw[Y,R0 (Z:Da 0=Da 0)];erw[yT _ #[1122,#[Ra,Ra,Ra],112212,p,4,Z,W,Ra,Ra,λd6 H6 d8 d' B6 e6=>#[1122,c _ H6 B6 λb n=>(e6 b n).trans ((X b n).trans$ R b n)]]]
  .rw[RW (λz=>Y (by injection z))];rwa[yF _$ c _ H5 W λb n=>(X b n).trans (R b n)]
 .let(o2,o3,C,rfl,x,G,lC,y,D):=h;rwa[12,q l C H' N x G P' y D]
def oC:al ["_law_box_here","_law_most","_law_found","_law_k","_law_cell"] ["_law_box_here","_law_most"] (ae IE):=bP
def HE(F:Fr K "_law_changes" IE f fd)(D:{1} fT f0 z0z aZ "_law_take")(cN:{2} fN f2 z2z iG "_law_number")(mr:mg "range"=ι):⇑3 f fd ["_law_box_here","_law_most"] uC:=by
 erw[F.ok oC λc0 A O s H vs Q E g h=>?_]
 let(p,m,rfl,B,m0,m1,q):=h;erw[_,%[oC|_ce2qbcDOgτg mr _anυj D.e g.m _a0a1bbi3ce4 D.e g.m _a0ajbcmB D.e g.m _a0ajbde4nεnεn JX _jjj D.e g.m _a0ajbsdzERηθδ2afa4a cN.e g.m _a0bbbdk2],?_];let b0:=aI;let t0:=uQ;erw[aj λG a=>#[iT,λl I=>a _ _ ?_]];let R:aa H (af H l$ .lst []):=je I;let e1:af H l (.lst []) l=[]⁻¹:=jc;generalize af H l (.lst [])=H1 at R e1;let L:l≠p:=B.ne I;let B1:=B.same R;erw[aj λG a=>db λJ j=>#[1212,p,m,Z,B1,m0,P',λd H2 d0 d1 B2 e2=>#[112212,P',P',j _ _ ?_]]];erw[kn (lo:=0) (OZ p l m H) #[ι,ι,[],Z,by rw[e2 l L];rwa[e1],(λ_ h=>nomatch h),RO _,B2,(aA.of_same R).trans$ aA.of_eq e2] ?_ (λσ H' h=>a _ _ ?_)]
 .intro E0 _ i σ H3 hi fE Gq k h;let(o3,o4,X,rfl,U,W,lV,M,Y):=h;erw[k ?_];show dq (dP _ _) _ E0 _ _;erw[aj λG a=>#[12,p,(15),Z,M,Ra,Ra,λc4 H4 d2 d3 B4 e4=>a _ _ ?_]];erw[aj λG a=>?_];let c:∀(C:Int) (r:Hp),ar r p->(∀b,b≠p->r b=H3 b)->G [↑p,δ$ .int m,↑l,δ$ .int (0+(i:Int)),δ$ .int C] r:=λC r BH eH=>a _ _ (by
   let u:r l=X⁻¹:=by rw[eH l L];rwa[U]
   erw[12,.inl #[21,aE.of u],1212,p,Z,BH,λn v n0 n1 B7 e7=>#[b8,λt nt=>?_]];let h7:v l=X⁻¹:=by rw[e7 l L];rwa[u]
   let S:aa v (af v t$ .tup [.int C,.int n]):=je nt;let t8:af v t (.tup [.int C,.int n]) t= ~~~[.int C,.int n]:=jc;erw[l,1122,S _ _ h7,P',fE _ _ ?_];generalize af v t (.tup [.int C,.int n])=y at S t8;let k8:aA p H3 y:=((aA.of_eq eH).trans$ aA.of_eq e7).trans (aA.of_same S);let l8:=S _ _ h7;let kl:aA l y (af y l$ .lst$ X++[.ref t]):=λb o N e=>by rw[jh N];rwa[e]
   let T:am y (af y l$ .lst$ X++[.ref t]):=λb ys e=>kl _ _ (jQ e l8 FI) e;erw[11,X++[.ref t],Z,jc,?_,by rw[RN];show ο X+1<=_;omega,(B7.same S).eq$ jh$ Sx L,(Y.trans k8).upd_own I];intro x hx;rcases ψ.mp hx with z |z
   .exact((W.mono$ k8.tm M).mono T) x z
   .rw[τ.mp z];rwa[t,C,n,Z,T _ _ t8,n0,n1])
  erw[iX λG1 yT yF=>#[12,p,8,Z,B4,Ra,Ra,λd5 H5 d4 d7 B5 e5=>#[212,?_]]];by_cases h3:d5=0
  .rw[h3,R0 (Z:Da 0=Da 0)];erw[yT _ #[1122,#[Ra,Ra,Ra],112212,p,4,Z,B5,Ra,Ra,λd6 H6 d8 d' B6 e6=>#[1122,c _ H6 B6 λb N=>(e6 b N).trans ((e5 b N).trans$ e4 b N)]]]
  .rw[RW (λz=>h3 (by injection z))];rwa[yF _$ c _ H5 B5 λb N=>(e5 b N).trans (e4 b N)]
 .let(o3,o4,X,rfl,U,W,lV,M,Y):=h;rwa[12,q l X H' I U W P' M Y]
abbrev p8:de:=bN 76
abbrev ID:de:=bN 77
abbrev IB:de:=bN 78
structure Xb(K:γ)(mg:ρ->FC ζ)(B TL TD:η):Prop where
 g:mg "BookError"=↑B
 h:clsIn K B≠ι
 t:typeIn K (.ref B)=δ (.type "type")
 m:mroIn K B (.type "BaseException")=δ μ
 L:mroIn K TL (.ref B)=δ μ
 D:mroIn K TD (.ref B)=δ μ
def GT.drop(h:GT C)(k:a9):GT (mn C k):=λp H=>h p (ot.mp H).1
inductive uB(c:FA V)(H:Hp)(Q:VK)(a:XK):Prop
 |mk(p b:η)(C:bf)(_:c=[.ref p,.ref b])(_:ar H p)(_:H b=δ (.dK C))(_:GT C)(_:ο C<=100)(_:∀(l:η) (C':bf) (H':Hp),H l=ι->H' l=δ (.dK C')->GT C'->ο C'<=ο C+100->ar H' p->aA p H H'->Q (.ref l) H')
inductive OY(p c l:η)(C:bf)(H:Hp)(i:Nat)(n:_L.St)(b:Hp):Prop
 |mk(k m:FC V)(a:bf)(d:n=[↑p,↑c,↑l,k,m])(e:b l=δ (.dK a))(f:GT a)(g:ο a<=ο C+i)(h:ar b p)(j:aX p l H b)
def nR(H:Hp)(p:FA dU)(f:ρ)(i:FA Int)(s:Sk)(a:Int)(u:V):Prop:=oX H f i s a u/\s.ok μ/\s.dep<=15/\s.size<=60/\∃(C L:bf),cq p C 16 f i [] 0= .ok s a L s.size
def nR.mono(k:am H b)(h:nR H p f i s a u):nR b p f i s a u:=#[qD h.1 k,h.2]
def NR(H:Hp)(l:η):Prop:=H l=[]⁻¹∨∃(p:FA dU) (f:ρ) (i:FA Int) (c C:η) (s S:Sk) (a A:Int),H l=[.ref c,.ref C]⁻¹/\nR H p f i s a (.ref c)/\nR H p f i S A (.ref C)
inductive uy(K:γ)(d:FA V)(H:Hp)(Q:VK)(b:XK):Prop
 |mk(a:η)(c:FA Int)(_:d=[.ref a])(_:aE K H a (c.map Da))(_:ο c<=63)(_:∀(l:η) (H':Hp),NR H' l->Kp H H'->Q (.ref l) H')
def iQ:al ["_law_parts","_law_f","_law_args","_law_cells_here","_law_book_here"] z36z (ae p8):=bP
def yO(F:Fr K "_law_book" p8 f fd)(GR:ai P w K mg base (gr P w) 45 Y q z28z (uK TL TD nA))(bR:ax K q z28z [])(kR:ii K (.ref Y)=μ)(mR:mg "run"=↑Y)(X:Xb K mg B TL TD)(M:mg "dict"=ι):⇑46 f fd z36z (nD nA):=by
 erw[F.ok iQ λc0 A r s H vs Q E hr h=>?_]
 let(v,y,G,i,j,d,V,W,xs,p,is,rfl,c,q1,q2):=h;erw[_,%[iQ|_ce4 (@K9 _ _ _) _c (@DE _ _ _ _ _ _ _ _ _ _ _ Z Z (@DG _ _ _ _ 4 _ _ iQ.nd Z (Θ Z) (@Af _ _ _ _ _ _ _ _ _ _ _ _ _ _ GR hr.m Z mR kR bR .nil %[iQ|_a0a1a2aF Xr _g M boot_dict _a3bajb] Ra P7 P7) P7 FL) Z X.g X.h X.t X.m (λ_=>%[iQ|_de4 (@K9 _ _ _)]) Ra) _dk4],?_];erw[aj λF1 k=>k _ _ ?_];erw[aj λF1 k=>?_];show FD _ _ _ _ _ [↑v,δ$ .str d.f,↑y,↑G,δ .non] H;erw[12121212,G,j,Z,c.ce,λO not=>?_];let S:aa H (af H O$ .dK j):=je not;let e1:af H O (.dK j) O=δ (.dK j):=jc;generalize af H O (.dK j)=H1 at S e1 ⊢;let c:=c.kp (Kp.of_same S);erw[v,y,O,i,j,d,V,W,xs,p,is,Z,c.ps,c.hd,c.hn,c.ag,c.hi,e1,c.gc,λu sk a L' H2 l hc ok dp sz s2=>?_,λl=>?_,λl=>?_]
 .let(c',_,_,_,rfl,_,_,_,_):=id hc;rwa[k _ _ #[12,q1 c' sk a L' H2 l hc ok dp sz$ Kp.of_same$ S.trans s2]]
 .intro _ H7 I x C T J R hT U;cases J;erw[X.L,λT' n=>k _ _ #[12,q2 (λ_ _ _ _ z=>by rw[l]at z;cases z) _ ?_]];exactλb o N e=>KI (H:=H) (I _ _ N$ S _ _ e) N R n
 .intro _ H7 I x C T J R hT U;cases J;erw[X.D,λT' n=>k _ _ #[12,q2 (λ_ _ _ _ z=>by rw[l]at z;cases z) _ ?_]];exactλb o N e=>KI (H:=H) (I _ _ N$ S _ _ e) N R n
def ug:al ["_law_box_here","_law_cells_here","_law_other","_law_cell","_law_number_here"] ["_law_box_here","_law_cells_here"] (ae ID):=bP
def Hz(F:Fr K "_law_changed" ID f fd)(cG:{3} fG f0 ["_law_box_here","_law_most"] uC "_law_changes")(cT:{1} fT f2 z0z aZ "_law_take")(Y:mg "dict"=ι):⇑4 f fd ["_law_box_here","_law_cells_here"] uB:=by
 erw[F.ok ug λc0 A o0 s H vs Q E hr h=>?_]
 let(p,O,C,rfl,B,hC,gC,h3,q):=h;erw[_,%[ug|_ce2F Xr _g Y boot_dict _a1bcDOgL cG.e hr.m _a0ajbS (n:=2) _gti3ti4κcπKP234gdmB cT.e hr.m _a0ajbdzE WU xD PySem.F.type_dict_pop CV _2a3bsdk2],?_];let b0:=aI;erw[aj λF1 g=>#[12,O,C,Z,hC,λl R=>g _ _ ?_]];let s1:aa H (af H l$ .dK C):=je R;let e1:af H l (.dK C) l=δ (.dK C):=jc;generalize af H l (.dK C)=H1 at s1 e1 ⊢;let S:l≠p:=B.ne R;let B1:=B.same s1;erw[aj λF1 g=>db λJ j=>#[12,p,4,Z,B1,Ra,Ra,λT x0 H2 N u pV lV B2 k2=>#[T,Z,#[_,aE.of u],j _ _ ?_]]];let l2:H2 l=δ (.dK C):=k2 _ _ S e1;let l0:T≠l:=(jk e1 N).symm;let p0:T≠p:=B1.ne N;erw[qu (K:=K) (a:=T) (xs:=x0) (OY p O l C H2) #[ι,ι,C,Z,l2,gC,RO _,B2,λ_ _ _ _ e=>e] (λk σ H' _ h=>?_) ?_ (λσ H' h=>g _ _ ?_)]
 .let(_,_,_,_,_,_,_,_,kk):=h;rwa[aE.of$ kk _ _ p0 l0 u]
 .intro E rt k x σ r y fE Gq t h;let(o3,o4,d,rfl,l3,g3,n3,B3,U):=h;erw[t ?_];let h4:=(ν.mp y).1;let(qq,c,I,rfl,D,h1):=pV x (Sc y);let(_,_,_,_,_,h2):=B2.ob;let D:=U _ _ (jQ D h2 FI) (jQ D l2 FI) D;erw[qq,12,aC.of D,21121122,?_];show dq _ _ E [↑p,↑O,↑l,δ$ .int c,δ$ .int I] r;let pl:=qk (kvs:=d) (k:=.inl c) (v:=.int I);erw[aj λF1 g=>#[121212,l,12,iU.k (k:=.inl c) l3 P',g _ _ ?_]];let kE:aA l r (af r l$ .dK$ a6 d (.inl c)$ .int I):=λb o W e=>by rw[jh W];exact e
  let eE:af r l (.dK$ a6 d (.inl c)$ .int I) l=δ (.dK$ a6 d (.inl c)$ .int I):=jc;let B4:ar (af r l$ .dK$ a6 d (.inl c)$ .int I) p:=B3.eq (jh S.symm);generalize af r l (.dK$ a6 d (.inl c)$ .int I)=H4 at kE eE B4;let g4:=g3.put (.inl c) h1;erw[iX λG1 yT yF=>#[12,p,5,Z,B4,Ra,Ra,λd1 G d0 d2 L q1=>#[212,?_]]];let l5:G l=δ (.dK$ a6 d (.inl c)$ .int I):=by rw[q1 l S];rwa[eE]
  let k5:aX p l H2 G:=λb o X M e=>by rw[q1 b X];rwa[kE _ _ M$ U _ _ X M e]
  by_cases h0:d1=0
  .rw[h0,R0 (Z:Da 0=Da 0)];erw[yT _ #[12,.inr$ .inr$ .inl #[Z,.inl #[_,l5]],12,l,_,.inl c,.int I,22,l5,by rw[BG,RV Z],fE _ _ #[1112,jc,g4.drop _,?_,L.eq$ jh S.symm,λb o X M e=>by rw[jh M];rwa[k5 _ _ X M e]]]];let:=YF (a6 d (.inl c)$ .int I) (.inl c);omega
  .rw[RW (λz=>h0 (by injection z))];rwa[yF _$ fE _ _ #[1112,l5,g4,P',L,k5]]
 .let(_,_,d,rfl,l3,g3,n3,B3,U):=h;rwa[12,q l d H' R l3 g3 P' B3 λb o W e=>U _ _ W (jk e R) (k2 _ _ W$ s1 _ _ e)]
def iE:al ["_law_script","_law_program","_law_f","_law_args","_law_parts","_law_cells_here","_law_old","_law_new"] ["_law_script"] (ae IB):=bP
def Hu(F:Fr K "_law_books" IB f fd)(cB:{1} fB f0 ["_law_script","_law_k"] (uA K) "_law_box")(cK:{23} fK f2 z2z nB "_law_case")(cM:{65} fM f3 ["program"] (nH K nA) "made")(cC:{3} fC f4 z2z iS "_law_cells")(cU:{46} fU f5 z36z (nD nA) "_law_book")(cD:{4} fD f6 ["_law_box_here","_law_cells_here"] uB "_law_changed"):⇑66 f fd ["_law_script"] (uy K):=by
 erw[F.ok iE λc2 A o0 s H vs Q E u h=>?_]
 symm;let(a,ns,rfl,hS,a4,q):=h;erw[_,%[iE|_cY cK.e u.m _a cB.e u.m _a0ajbbS (n:=3) _gti1ti2ti3κce4 cM.e u.m _a1bce5 cC.e u.m _a cB.e u.m _a0ajbbce6 cU.e u.m _a4a2a3a5bce7 cU.e u.m _a4a2a3a cD.e u.m _a cB.e u.m _a0ajba5bbcm (PW.pt$ KP (Qa$ @XH _ _ _ _ _$ pv 6)$ JW$ Qa$ @XH _ _ _ _ _$ pv 7) _dkqbsdkqa6a7b],?_];let b4:=aI;sleep 6;erw[aj λB g=>#[12,a,ns,1,Z,hS,Ra,Ra,λp H1 np B1 e1=>#[p,Z,B1,λt r v2 v3 O R H3 ht u hD h1 h8 N hN U h3 B3 k3=>#[t,12,aC.of ht,21121121122,g _ _ ?_]]]];left;let s1:aa H H1:=λb o e=>by rw[e1 b$ jk e np];rwa[e]
 let s3:aa H H3:=λb o e=>k3 _ _ (jk e np) (s1 _ _ e);symm;let(d,ps,I,J,hd,rfl,h4,rfl,h5,h6,D,h7):=h3;show dq (dP _ _) _ _ [↑a,↑r,δ$ .str d.f,↑I,ι,ι,ι,ι] H3;erw[aj λB g=>#[12,r,O,R,Z,u,hD,P',λd hd=>(hN.1 d hd).1,λv H4 hv s4=>g _ _ ?_]];left;symm;let(W,X,rfl,h',a1):=KJ hv;let S4:=s3.trans s4;erw[aj λB g=>#[12,a,ns,2,Z,S4.seq hS,Ra,Ra,λp5 H5 Y B5 e5=>#[p5,Z,B5,λcA Cs H6 n1 a2 gC lC B6 k6=>g _ _ ?_]]];left;let s6:aa H4 H6:=λb o e=>k6 _ _ (jk e Y) (by rw[e5 b$ jk e Y];rwa[e]);let S6:=S4.trans s6;let T:=aa.tm (s4.trans s6);symm;let(i0,hi,ei):=im.mp hd;let h0:O[i0]?=δ d:=by rw[<- ei];rwa[RI hi]
 let h2:=Im U h0 h4;rw[<- h6]at h2;let(k,hP):=MS (s6 _ _ h') (a1.mono$ aa.tm s6) #[R,hD.mono T] hN (U.mono T);let lx:=zu hP.tr;rw[RJ]at lx;let ak:Lv H6 nA W I cA i0 Cs d O N X k J:=#[hP,P',h0,h2,T _ _ h5,h7,D,a2,gC];let kS:Kp H H6:=Kp.of_same S6;erw[aj λB g=>?_];suffices go:∀(ch:V) (x:Hp),Kp H6 x->(ch= .non∨∃c S b,ch= .ref c/\nR x k d.f J S b (.ref c))->B [↑a,↑r,δ$ .str d.f,↑I,↑W,↑cA,δ ch,ι] x by left;rwa[12121212,W,I,cA,i0,Cs,d,O,N,X,k,J,Z,ak,λc S b L' x eq hc ok dp sz L=>go _ x L (.inr #[c,S,b,Z,hc,ok,dp,sz,Cs,L',eq]),λno x L=>go _ x L (.inl Z)]
 intro ch x L rv;erw[g _ _ ?_];left;let a0:=ak.kp L;let k0:=kS.trans L;erw[aj λB g=>?_];suffices go:∀(C:V) (y:Hp),Kp x y->(C= .non∨∃c S b,C= .ref c/\nR y k d.f J S b (.ref c))->B [↑a,↑r,δ$ .str d.f,↑I,↑W,↑cA,δ ch,δ C] y by
  left;erw[12121212,a,ns,3,Z,k0.seq hS,Ra,Ra,λpB HA n0 BA eA=>#[12,?_]];let sA:aa x HA:=λb o e=>by rw[eA b$ jk e n0];rwa[e]
  erw[pB,cA,Cs,Z,BA,sA _ _ a0.ce,gC,P',λl C' HB n2 a3 gB lB BB k1=>?_];let sB:aa x HB:=λb o e=>k1 _ _ (jk e n0) (sA _ _ e);let j:=a0.kp (Kp.of_same sB);rwa[W,I,l,i0,C',d,O,N,X,k,J,Z,#[j.ps,j.xl,j.hd,j.hn,j.ag,j.hi,j.il,a3,gB],λc S b L' y eq hc ok dp sz M=>go _ y ((Kp.of_same sB).trans M) (.inr #[c,S,b,Z,hc,ok,dp,sz,C',L',eq]),λno y M=>go _ y ((Kp.of_same sB).trans M) (.inl Z)]
 intro C y M r0;erw[g _ _ ?_];left;let G:=k0.trans M;erw[aj λB g=>#[1212,?_]];symm;rcases rv with rfl | ⟨c0,s0,b0,rfl,b2⟩
 .rwa[cw (R0 Z) #[iT,λl N=>q l _ (.inl jc) (G.trans$ Kp.of_same$ je N)]]
 .erw[aW (RW FI) #[1212,?_]];symm;rcases r0 with rfl | ⟨c1,s2,b1,rfl,b3⟩
  .rwa[cw (R0 Z) #[iT,λl N=>q l _ (.inl jc) (G.trans$ Kp.of_same$ je N)]]
  .erw[aW (RW FI)$ g _ _ #[1212,b8,λl N=>?_]];rwa[q l _ (.inr #[k,d.f,J,c0,c1,s0,s2,b0,b1,jc,(b2.mono M.tm).mono$ aa.tm$ je N,b3.mono$ aa.tm$ je N])$ G.trans$ Kp.of_same$ je N]
def sj{call:nS}(h:nY call C p (m+1) (.go n H) L t= .ok d a g i):∃c w l T r,p.cs[n]?=δ c/\iA call C (bn c.nm H) L t c.e= .ok w l T/\d= .st (n:Int) H w r/\nY call C p m (Dq p c H w.wh) l T= .ok r a g i:=by
 unfold nY at h;cases e:p.cs[n]? with
 |none=>rw[e]at h;cases h
 |some c=>
  rw[e]at h;dsimp only at h;cases E:iA call C (bn c.nm H) L t c.e with
  |long |deep=>rw[E]at h;cases h
  |ok w l T=>
   rw[E]at h;dsimp only at h;cases f:nY call C p m (Dq p c H w.wh) l T with
   |long |deep=>rw[f]at h;cases h
   |ok r b _L j=>rw[f]at h;cases h;rwa[c,w,l,T,r,Z,E,Z,f]
def ED(p:FA dU):DF:=λf n h=>match dX p f with
 |none=>.nil
 |some a=>match a.cs[n.toNat]? with
  |none=>.nil
  |some c=>Mf (bn c.nm h) c.e
def NV(D:DF)(call:nS):Prop:=∀f i L t s a l T,call f i L t= .ok s a l T->Dt D f s
def Mg{call:nS}{w:Sk}(H:NV D call)(h:iA call C k L t e= .ok w j m)(g:ρ):Dt D g w:=by
 let b:=xK h;cases e with
 |ask d T=>rw[XS b]at h;cases h;trivial
 |st p l=>
  cases l with
  |gv d T |st x d T=>unfold iA at h;rw[RV b]at h;cases h
  |rd x d T=>rw[rQ b]at h;cases h;trivial
  |wr d u T U=>rw[rR b]at h;cases h;trivial
  |cl x f q i=>
   rw[K2 b]at h;cases e:call f (i.map λc=>c.2.ev k) L (t+1) with
   |long |deep=>rw[e]at h;cases h
   |ok s a _L n=>rw[e]at h;cases h;show Dt D f s;rwa[H _ _ _ _ _ _ _ _ e]
theorem ER{call:nS}(H:NV (ED p) call)(d:dX p f=δ c):∀(m:Nat) {g:Gd} {L l:bf} {t T:Nat} {R:Sk} {a:Int},nY call q c m g L t= .ok R a l T->Dt (ED p) f R
 |0,_,_,_,_,_,_,_,h=>by cases h
 |m+1,.give b,_,_,_,_,_,_,h=>by cases h;trivial
 |m+1,.go n j,_,_,_,_,_,_,h=>by let(C,w,s,u,r,k,i,rfl,o):=sj h;erw[?_,Mg H i f,ER H d m o];rw[Gh i];show _=(match dX p f with |none=>Tr.nil |some c=>match c.cs[((n:Int)).toNat]? with |none=>Tr.nil |some C=>Mf (bn C.nm j) C.e);rw[d];dsimp only;rw[SJ,k]
theorem As:∀j,NV (ED p) (cq p C j)
 |0=>λf i L t s a l T h=>by cases h
 |j+1=>λf i L t s a l T h=>by
  let h:(match dX p f with |none=>OC.long |some b=>nY (cq p C j) C b 62 (iY (wV b) (dh b.way.sets$ bn b.ps i) b.way.goal) L t)= .ok s a l T:=h;cases e:dX p f with
  |none=>rw[e]at h;cases h
  |some b=>rw[e]at h;rwa[ER (As j) e 62 h]
def nR.dt(h:nR H p f i s a u):Dt (ED p) f s:=by let(_,_,_,_,C,L,e):=h;rwa[As 16 _ _ _ _ _ _ _ _ e]
noncomputable def iZ:Sk->aD->FA aO->Nat->FA aD
 | .st n h w r,p,os,m=>match dI os m n h w with
  |none=>iZ r p os m
  |some j=>match os[j]? with
   |none=>[]
   |some o=>((if bQ n h o=μ then [p++[(j:Int)]] else [])++iZ w (p++[(j:Int)]) (fo o.2.2) 0)++iZ r p os (j+1)
 | .cl _ _ s _,p,os,m=>iZ s p os m
 |_,_,_,_=>[]
def qU{w:Sk}{os:FA aO}(h:dI os m n H w=ι):iZ (.st n H w r) p os m=iZ r p os m:=by show(match dI os m n H w with |none=>_ |some j=>_)=_;rw[h]
def qV{w:Sk}{os:FA aO}(h:dI os m n H w=δ j)(a:os[j]?=δ o):iZ (.st n H w r) p os m=((if bQ n H o=μ then [p++[(j:Int)]] else [])++iZ w (p++[(j:Int)]) (fo o.2.2) 0)++iZ r p os (j+1):=by show(match dI os m n H w with |none=>_ |some j=>match os[j]? with |none=>([]:FA aD) |some o=>_)=_;rw[h];dsimp only;rw[a]
def wS(a:aD)(m:Nat)(p:aD):Prop:=∃(j:Nat) (q:aD),m<=j/\p=a++(j:Int)::q
def Be(p:aD)(m:Nat):wS p m (p++[(m:Int)]):=#[m,[],RO _,Z]
def wS.le(h:wS a m p)(l:M<=m):wS a M p:=by let(j,q,H,b):=h;rwa[j,q,Sf l H,b]
def wS.up{a:aD}{m j i:Nat}{p:aD}(h:wS (a++[(j:Int)]) i p)(l:m<=j):∃q,p=a++(j:Int)::q/\q≠[]:=by let(k,q,_,e):=h;rwa[(k:Int)::q,by rw[e,SI];rfl,λz=>by cases z]
def qy{q:aD}(h:p++(i:Int)::q=p++(j:Int)::Q):i=j/\q=Q:=by let:=VN h;injection this with a H;rwa[N09,H]
theorem Kj:∀(s:Sk) (p:aD) (k:Nat),∀q∈(s.ws p k).map (·.1),wS p 0 q
 | .st _ _ w r,p,k,q,h=>by
  let h:q∈(((p++[(k:Int)],w)::w.ws (p++[(k:Int)]) 0)++r.ws p (k+1)).map (·.1):=h;rw[RP,SN]at h;rcases ψ.mp h with h |h
  .rcases ω.mp h with rfl |h
   .exact(Be p k).le (R4 _)
   .let(Q,e,_):=(Kj w _ 0 q h).up (m:=0) (R4 _);rwa[k,Q,R4 _,e]
  .rwa[Kj r p (k+1) q h]
 | .cl _ _ s _,p,_,q,h=>Kj s p 0 q h
 | .nil,_,_,_,h | .ask _,_,_,_,h | .rd _ _,_,_,_,h | .wr _ _,_,_,_,h=>nomatch h
def KL{w:Sk}{p:aD}{k:Nat}{q:aD}(h:q∈cy (p++[(k:Int)]) w):∃Q,q=p++(k:Int)::Q:=by
 rcases ω.mp h with rfl |h
 .exact#[[],Z]
 .let(Q,e,_):=(Kj w _ 0 q h).up (m:=0) (R4 _);rwa[Q,e]
def Qs(s:aO)(r:FA aO)(p:aD)(k:Nat):(eJ (s::r) p k).map (·.1)=cy (p++[(k:Int)]) s.2.2++(eJ r p$ k+1).map (·.1):=by show((_::_)++_).map _=_;rw[RP];rfl
theorem XZ:∀(os:FA aO) (p:aD) (k:Nat),∀q∈(eJ os p k).map (·.1),∃(i:Nat) (Q:aD),k<=i/\i < k+ο os/\q=p++(i:Int)::Q
 | [],_,_,_,h=>nomatch h
 |s::r,p,k,q,h=>by
  rw[Qs]at h;rcases ψ.mp h with h |h
  .let(Q,e):=KL h;rwa[k,Q,RO _,by show k < k+(ο r+1);omega,e]
  .let(i,Q,H,a,e):=XZ r p (k+1) q h;rwa[i,Q,P',by show i < k+(ο r+1);omega,e]
theorem qA:∀(s:Sk) (a:aD) (os:FA aO) (m:Nat),∀p∈iZ s a os m,wS a m p
 | .st n b w r,a,os,m,p,h=>by
  cases e:dI os m n b w with
  |none=>rw[qU e]at h;rwa[qA r a os m p h]
  |some j=>
   let(H,x,d,_):=j5 e;rw[qV e d]at h;rcases ψ.mp h with h |h
   .rcases ψ.mp h with h |h
    .by_cases c:bQ n b x=μ
     .rw[RV c]at h;cases τ.mp h;exact(Be a j).le H
     .rw[RU c]at h;cases h
    .let(q,E,_):=(qA w _ _ 0 p h).up (m:=m) H;rwa[j,q,H,E]
   .exact(qA r a os (j+1) p h).le P'
 | .cl _ _ s _,a,os,m,p,h=>qA s a os m p h
 | .nil,_,_,_,_,h | .ask _,_,_,_,_,h | .rd _ _,_,_,_,_,h | .wr _ _,_,_,_,_,h=>nomatch h
def Y5{os:FA aO}(p:aD)(h:m<=j)(H:os[j]?=δ o):(eJ (os.drop m) p m).map (·.1)=eS p os m j++(cy (p++[(j:Int)]) o.2.2++(eJ (os.drop$ j+1) p$ j+1).map (·.1)):=by
 let e:os.drop m=(os.drop m).take (j - m)++(o::os.drop (j+1)):=by let z:=Uf (j - m) (os.drop m);rw[List.drop_drop,show m+(j - m)=j by omega]at z;let(a,E):=ν.mp H;rw[<- Tl (h:=a),E]at z;rwa[z.symm]
 let c:=(ν.mp H).1;let b:((os.drop m).take$ j - m).length=j - m:=by rw[Se,Td];omega
 conv=>lhs;rw[e]
 rw[zZ,b,RP,show m+(j - m)=j by omega,Qs];rfl
def CQ{W w:Sk}(o:W.ok ξ)(O:w.ok ξ)(k:Dt D f W)(j:Dt D f w)(h:∀g i s a,w= .cl g i s a->∃S A,W= .cl g i S A)(H:∀g i s a,W= .cl g i s a->∃S A,w= .cl g i S A):∃g d,d.ok μ/\fo W=d.steps/\Dt D g d/\Dt D g w/\(∀G i s a,w= .cl G i s a->g=G)/\((∀g i s a,w≠ .cl g i s a)->d= .nil):=by
 cases W with
 |nil |st _ _ _ _=>rwa[o.elim]
 |cl g i s a=>let(S,A,rfl):=H g i s a Z;rwa[g,s,o,Z,k,j,λ_ _ _ _ e=>by cases e;rfl,λz=>absurd Z (z _ _ _ _)]
 |ask b |rd b c |wr b c=>rwa[f,.nil,trivial,Z,trivial,j,λg i s a e=>(let #[11,z]:=h g i s a e;nomatch z),λ_=>Z]
def By{os:Sk}{w:Sk}(O:w.ok ξ)(k:Dt D f os)(h:dI os.steps m n l w=δ j)(b:os.steps[j]?=δ o)(p:fu w=D f n l):∀g i s a,o.2.2= .cl g i s a->∃S A,w= .cl g i S A:=by
 intro g i s a e;let(_,t,H,c):=j5 h;rw[b]at H;cases H;rcases c with c | ⟨F,I,S,A,q,c⟩
 .let(C,r):=yu c;let(d,_):=K6 k b;rw[C,r,<- p,e]at d;rwa[ZG O d.symm]
 .let(u,v,E):=EZ c;rw[e]at E;cases E;rwa[S,A,q]
noncomputable def ff(L:FA aD)(l:FA aD):FA aD:=l.filter λp=>decide (p∉L)
def Y6(L a b:FA aD):ff L (a++b)=ff L a++ff L b:=U1 ..
def Y7(h:∀p∈a,p∉L):ff L a=a:=List.filter_eq_self.mpr λp H=>R0 (h p H)
def vK(L:FA aD)(p:aD)(l:FA aD):ff L (p::l)=if p∈L then ff L l else p::ff L l:=by
 unfold ff;by_cases h:p∈L
 .rw[RV h,VJ (by simp [h])]
 .rw[RU h,VI (by simp [h])]
def EC{w:Sk}(o:w.ok ξ)(p:aD):w.ws p 0=eJ (fo w) p 0:=by
 cases w with
 |nil |st _ _ _ _=>rwa[o.elim]
 |cl f i s a=>rwa[zB (s:=s) o p 0]
 |_=>rfl
theorem Xg{D:DF}:∀{b:Bool} {s:Sk},s.ok b->∀{f:ρ} {so:Sk} {po pn:aD} {m k:Nat} {L:FA aD},so.ok μ->Dt D f so->Dt D f s->(∀g I t a,s= .cl g I t a->f=g)->(b=ξ->(∀g I t a,s≠ .cl g I t a)->so= .nil)->(∀p,wS po m p->(p∈L↔p∈iZ s po so.steps m))->
  (d9 s po so.steps m pn k).d=ff L ((eJ (so.steps.drop m) po m).map (·.1))
 |true,.nil,_,f,so,po,pn,m,k,L,_,_,_,_,_,H=>by show eS po so.steps m (ο so.steps)=_;unfold eS;rw[Tk (by rw[Td];rwa[RO _]),Y7];intro p c z;let(i,Q,J,_,e):=XZ _ _ _ p c;rwa[nomatch (H p #[i,Q,J,e]).mp z]
 |true,.st n E w r,o,f,so,po,pn,m,k,L,O,v,y,_,_,H=>by
  let nr:∀g I t a,r= .cl g I t a->f=g:=λg I t a e=>by let z:=o.2;rw[e]at z;rwa[z.elim]
  cases h:dI so.steps m n E w with
  |none=>rw[ql h];rw[qU h]at H;rwa[Xg (b:=μ) (s:=r) o.2 O v y.2.2 nr (λz=>nomatch z) H]
  |some j=>
   let(l,x,A,hc):=j5 h;let B:=qN O A;let(d1,d2):=K6 v A;let kd:=ZH (s:=.nil) O v h A B y.1;let N:=By o.1 v h A y.1;let(g,S,R,T,U,V,W,X):=CQ B o.1 d2 y.2.1 kd N;rw[qV h A,T]at H;let M:∀p,p∈((if bQ n E x=μ then [po++[(j:Int)]] else [])++iZ w (po++[(j:Int)]) S.steps 0)++iZ r po so.steps (j+1)↔((bQ n E x=μ/\p=po++[(j:Int)])∨p∈iZ w (po++[(j:Int)]) S.steps 0)∨p∈iZ r po so.steps (j+1):=λp=>by
    rw[Tw,Tw];by_cases u:bQ n E x=μ
    .rw[RV u,Vq];simp [u]
    .rw[RU u];simp [u]
   let C:∀p,p∈iZ w (po++[(j:Int)]) S.steps 0->∃q,p=po++(j:Int)::q/\q≠[]:=λp c=>(qA w _ _ 0 p c).up (m:=m) l;let inR:∀p,p∈iZ r po so.steps (j+1)->wS po (j+1) p:=λp c=>qA r _ _ _ p c;let ih:=Xg (D:=D) (b:=ξ) (s:=w) o.1 (m:=0) (k:=0) (pn:=pn++[(k:Int)]) (po:=po++[(j:Int)]) (L:=L) R U V W (λ_=>X) λp c=>by
    let(q,e,Y):=c.up (m:=m) l;rw[H p #[j,q,l,e],M p];constructor
    .rintro ((⟨_,z⟩ |z) |z)
     .rw[e]at z;let(_,z):=qy z;rwa[absurd z Y]
     .rwa[z]
     .let(i,Q,hi,z):=inR p z;rw[e]at z;let:=(qy z).1;omega
    .exactλz=>.inl (.inr z)
   let i0:=Xg (D:=D) (b:=μ) (s:=r) o.2 (m:=j+1) (k:=k+1) (pn:=pn) (po:=po) (L:=L) O v y.2.2 nr (λz=>nomatch z) λp c=>by
    let(i,q,hi,e):=c;rw[H p #[i,q,P',e],M p];constructor
    .rintro ((⟨_,z⟩ |z) |z)
     .rw[e]at z;let:=(qy z).1;omega
     .let(Q,z,_):=C p z;rw[e]at z;let:=(qy z).1;omega
     .rwa[z]
    .exactλz=>.inr z
   rw[Tu]at ih;rw[qm h A,Y5 po l A,Y6,Y6,<- i0];let e1:ff L (eS po so.steps m j)=eS po so.steps m j:=Y7 λp c z=>by
    let(i,Q,J,h2,e):=XZ _ _ _ p c;rw[Se,Td]at h2;rw[H p #[i,Q,J,e],M p]at z;rcases z with (⟨_,z⟩ |z) |z
    .rw[e]at z;let:=(qy z).1;omega
    .let(q2,z,_):=C p z;rw[e]at z;let:=(qy z).1;omega
    .let(i',q2,hi,z):=inR p z;rw[e]at z;let:=(qy z).1;omega
   let e2:ff L (cy (po++[(j:Int)]) x.2.2)=(one (po++[(j:Int)]) x (pn++[(k:Int)]) n E w).d++(d9 w (po++[(j:Int)]) S.steps 0 (pn++[(k:Int)]) 0).d:=by
    rw[ih];unfold cy;rw[vK,EC B,T];let hm:=(H (po++[(j:Int)]) #[j,[],l,Z]).trans (M _);unfold one;by_cases u:bQ n E x=μ
    .rw[RV$ hm.mpr$ .inl$ .inl #[u,Z],RV u];by_cases G:x.2.2.fnd=w.fnd
     .rw[RV G];rfl
     .rw[RU G];rfl
    .rw[RU u,RU]
     .rfl
     .rw[hm];rintro ((⟨z,_⟩ |z) |z)
      .rwa[u z]
      .let(q2,z,Y):=C _ z;let(_,z):=qy (q:=[]) z;rwa[Y z.symm]
      .let(i',q2,hi,z):=inR _ z;let:=(qy (q:=[]) z).1;omega
   rw[e1,e2,T];show(eS po so.steps m j++((one _ _ _ _ _ _).d++(d9 _ _ _ _ _ _).d))++(d9 _ _ _ _ _ _).d=_;rw[SI]
 |false,.cl g _ s _,o,f,so,po,pn,m,k,L,O,v,y,G,_,H=>by
  let z:=G g _ s _ Z;subst z;exact Xg (b:=μ) (s:=s) o O v y (λg I t a e=>by
   rw[e]at o;rwa[o.elim]) (λz=>nomatch z) H
 |false,.ask _,_,f,so,po,pn,m,k,L,_,_,_,_,F,_ |false,.rd _ _,_,f,so,po,pn,m,k,L,_,_,_,_,F,_ |false,.wr _ _,_,f,so,po,pn,m,k,L,_,_,_,_,F,_=>by let z:=F Z (λ_ _ _ _ z=>nomatch z);subst z;show []=ff L ((eJ (([]:FA aO).drop m) po m).map (·.1));rw[Ch];rfl
theorem Yd:∀(p x y:aD),dJ (p++x) (p++y)=dJ x y
 | [],_,_=>rfl
 |a::p,x,y=>by show(if a=a then dJ (p++x) (p++y) else _)=_;rw[RV Z,Yd p]
def JF{p q Q:aD}{i j:Nat}(h:i < j):dJ (p++(i:Int)::q) (p++(j:Int)::Q)=μ:=by rw[Yd];show(if (i:Int)=(j:Int) then _ else decide ((i:Int) < (j:Int)))=μ;rw[RU P'];rwa[R0 P']
def KM:dJ p (p++(i:Int)::q)=μ:=by let:=Yd p [] ((i:Int)::q);rw[Sw]at this;rwa[this]
abbrev lY(l:FA aD):Prop:=l.Pairwise λa b=>dJ a b=μ
def wQ:∀(s:Sk) (p:aD) (k:Nat),s.ok μ->∀q∈(s.ws p k).map (·.1),wS p k q
 |s,p,k,o,q,h=>by rw[zB o]at h;let(i,Q,H,_,e):=XZ _ _ _ q h;rwa[i,Q,H,e]
def Qk(H:lY a)(c:lY b)(h:∀x∈a,∀y∈b,dJ x y=μ):lY (a++b):=List.pairwise_append.mpr #[H,c,h]
theorem Je:∀{b:Bool} {s:Sk},s.ok b->∀(p:aD) (k:Nat),lY ((s.ws p k).map (·.1))
 |true,.nil,_,_,_=>du
 |true,.st _ _ w r,o,p,k=>by
  show lY ((((p++[(k:Int)],w)::w.ws (p++[(k:Int)]) 0)++r.ws p (k+1)).map (·.1));rw[RP];erw[Qk ?_ (Je o.2 p$ k+1) λx H y h=>?_]
  .rw[SN];erw[hY.mpr #[λy h=>?_,Je o.1 _ 0]];let(i,q,_,e):=Kj w _ 0 y h;rw[e];rwa[KM]
  .let(q,e):=KL (w:=w) (show x∈cy (p++[(k:Int)]) w from H);let(i,Q,a,E):=wQ r p (k+1) o.2 y h;rw[e,E];rwa[JF a]
 |false,.cl _ _ s _,o,p,_=>Je (b:=μ) (s:=s) o p 0
 |false,.ask _,_,_,_ |false,.rd _ _,_,_,_ |false,.wr _ _,_,_,_=>du
def DH{w:Sk}(o:w.ok ξ)(p:aD):lY (cy p w):=by erw[hY.mpr #[λy h=>?_,Je o _ 0]];let(i,q,_,e):=Kj w _ 0 y h;rw[e];rwa[KM]
theorem Yv:∀{b:Bool} {s:Sk},s.ok b->∀(c:aD) (os:FA aO) (m:Nat) (a:aD) (k:Nat),lY (d9 s c os m a k).f/\∀p∈(d9 s c os m a k).f,wS a k p
 |true,.nil,_,_,_,_,_,_=>#[du,λ_ h=>(nomatch h)]
 |true,.st n H w r,o,c,os,m,a,k=>by
  cases h:dI os m n H w with
  |none=>
   rw[ql h];let(l,I):=Yv o.2 c os m a (k+1);show lY (cy (a++[(k:Int)]) w++_)/\∀p∈(cy (a++[(k:Int)]) w++_),_;erw[Qk (DH o.1 _) l λx d y g=>?_,λp hp=>?_]
   .let(q,e):=KL d;let(i,Q,t,E):=I y g;rw[e,E];rwa[JF t]
   .rcases ψ.mp hp with hp |hp
    .let(q,e):=KL hp;rwa[k,q,RO _,e]
    .exact(I p hp).le (SY _)
  |some j=>
   let(z,x,d,_):=j5 h;rw[qm h d];let(l,I):=Yv o.2 c os (j+1) a (k+1);let(J,u):=Yv o.1 (c++[(j:Int)]) (fo x.2.2) 0 (a++[(k:Int)]) 0;let o1:(one (c++[(j:Int)]) x (a++[(k:Int)]) n H w).f=[]∨(one (c++[(j:Int)]) x (a++[(k:Int)]) n H w).f=[a++[(k:Int)]]:=by
    unfold one;split
    .split
     .rwa[.inl Z]
     .rwa[.inl Z]
    .rwa[.inr Z]
   let M:lY ((one (c++[(j:Int)]) x (a++[(k:Int)]) n H w).f++(d9 w (c++[(j:Int)]) (fo x.2.2) 0 (a++[(k:Int)]) 0).f)/\∀p∈((one (c++[(j:Int)]) x (a++[(k:Int)]) n H w).f++(d9 w (c++[(j:Int)]) (fo x.2.2) 0 (a++[(k:Int)]) 0).f),∃q,p=a++(k:Int)::q:=by
    let v:∀p∈(d9 w (c++[(j:Int)]) (fo x.2.2) 0 (a++[(k:Int)]) 0).f,∃q,p=a++(k:Int)::q:=λp hp=>let #[q,e,_]:=(u p hp).up (m:=0) (R4 _);#[q,e]
    rcases o1 with o1 |o1
    .rw[o1];rwa[J,v]
    .rw[o1];refine#[hY.mpr #[λy g=>?_,J],λp hp=>?_]
     .let(i,q,_,e):=u y g;rw[e];rwa[KM]
     .rcases ω.mp hp with rfl |hp
      .exact#[[],Z]
      .rwa[v p hp]
   show lY (([]++(_++_))++_)/\∀p∈(([]++(_++_))++_),_;rw[TF];erw[Qk M.1 l λx d y g=>?_,λp hp=>?_]
   .let(q,e):=M.2 x d;let(i,Q,t,E):=I y g;rw[e,E];rwa[JF t]
   .rcases ψ.mp hp with hp |hp
    .let(q,e):=M.2 p hp;rwa[k,q,RO _,e]
    .exact(I p hp).le (SY _)
 |false,.cl _ _ s _,o,c,os,m,a,k=>Yv (b:=μ) (s:=s) o c os m a k
 |false,.ask _,_,_,_,_,_,_ |false,.rd _ _,_,_,_,_,_,_ |false,.wr _ _,_,_,_,_,_,_=>#[du,λ_ h=>(nomatch h)]
abbrev DM:de:=bN 75
inductive Y8(x y:V)(H:Hp)(Q:VK):Prop
 |mk(a b c:_)(_:x= .ref a)(_:y= .ref b)(_:H a=c⁻¹)(_:H b=[]⁻¹)(_:Q (.bl c.isEmpty) H)
def Ie{X:Cx}(c:X.A.units < cLine):gu X (compareOp .Eq) Y8:=by
 intro p s J H x y v u Q I i l h;let(a,b,m,rfl,rfl,n,o,q):=h;cases i;cases l;let(t,R,d,_):=I.list (aE.of n);let(B,C,f,_):=I.list (aE.of o);let E:B=[]:=C.nil_iff.mpr Z;subst E;cases g:m with
 |nil=>subst g;let D:t=[]:=R.nil_iff.mpr Z;subst D;erw[Wp (e:=λ_=>μ) d.isList f.isList Z c (λj F M=>absurd F P9) X.prog X.w _ _ ?_];rwa[.bl μ,H,I,Z,q]
 |cons z r=>subst g;let L:=R.length;erw[PySem.SeqAt.RcAt.lists_lengths d.isList f.isList (by simp [<- L]) c X.prog X.w _ _ ?_];rwa[.bl ξ,H,I,Z,q]
def pF{K:γ}{xs:FA V}{t:TT}{Q:FA V->Hp->Prop}(A:ο xs<=υ)(Pv:Nat->FA V->Hp->Prop)(n:Pv 0 [] H)
  (o:∀i Y h,Pv i Y h->aE K h a xs/\ο Y<=i) (q:∀i x Y h,xs[i]?=δ x->Pv i Y h->t (δ x::c) h λb d=>if b=μ then T (δ x::c) d λy r=>Pv (i+1) (Y++[y]) r else Pv (i+1) Y d) (s:∀Y h,Pv xs.length Y h->Q Y h):
  eQ (BR K a) 1 c (bo 0) t T Q H:=by
 erw[λi m Y h=>m=ο xs - i/\i<=ο xs/\Pv i Y h,#[xs.length,P9,R4 _,n],?_];intro i m Y h g;let(rfl,B,p):=g;let(j,C):=o i Y h p;by_cases f:i < ο xs
 .erw[.inr #[#[xs,xs[i],j,RI f],P',Pv$ i+1,λu d z=>#[ο xs - (i+1),P',Z,f,z],λv d D k y=>?_]];let(e,y):=y;subst e;let(w,rfl):=vE k;rwa[#[[δ _],22],q i v Y d (y xs j) p]
 .let e:i=ο xs:=by omega
  subst e;rwa[.inl #[#[xs,j,RO _],s Y h p]]
inductive iF(n:Nat)(e:FA V)(H:Hp)(Q:VK)(b:XK):Prop
 |mk(d:η)(p:aD)(f:ρ)(c:FA Int)(s:Sk)(a:Int)(u:V)(_:e=[u,.ref d])(_:H d= ~~~(p.map Da))(_:ο p+n<=100)(_:oX H f c s a u)(_:s.ok μ)(_:s.dep < n)(_:s.size<=1000)(_:∀(r:η) (xs:FA V) (H':Hp),H r=ι->H' r=xs⁻¹->aV eI H' ((s.ws p 0).map (·.1)) xs->aa H H'->Q (.ref r) H')
inductive OV(h j:η)(p:aD)(u:V)(s:Sk)(H:Hp)(i:Nat)(l:_L.St)(a:Hp):Prop
 |mk(f g:FC V)(k:FA V)(b:l=[δ u,↑h,↑j,f,g])(c:a j=k⁻¹)(d:aV eI a ((eJ (s.steps.take i) p 0).map (·.1)) k)(e:aa H a)
def ue:al ["_law_chain","_law_at_here","_law_found","_law_k","_law_step"] z17z (ae DM):=bP
def Hq(F:Fr K "_law_all_in" DM f fd)(cS:{n+1} fS f0 z17z (iF n) "_law_all_in")(m0:mg "enumerate"=ι):⇑(n+2) f fd z17z (iF$ n+1):=by
 erw[F.ok ue λc0 A o0 s H vs Q E hr h=>?_]
 symm;let(M,p,f,is,s,a,u,rfl,hp,h',hc,d,hd,hz,q):=h;erw[_,%[ue|_ce2qbcDOg (Qo Z m0 %[ue|_ah0b]) _S (n:=2) _gti3ti4κczERηθδ2anW1fa3bbdmrhlI4jpdzER TX TW qt _2a cS.e hr.m _ahlI4jpanW1fa3bbbsdk2],?_];let b1:=aI;symm;let(c,g,e,ss,rfl,h1,h2,h3,h4):=hc;let lt:=zF d h4;let fl:=kI d p 0;rw[zB d]at fl;sleep 2;erw[aj λF1 B=>#[iT,λT N=>B _ _ ?_]];left;let s1:aa H (af H T$ .lst []):=je N;erw[aj λF1 B=>db λJ j=>(ju (s1 _ _ h1) iI #[e,Z,#[_,aC.of$ s1 _ _ h3],j _ _ ?_])];erw[Js (K:=K) (xs:=ss) (OV M T p (.ref c) s H) #[ι,ι,[],Z,jc,Z,s1] (λi σ Hx _ h=>?_) ?_ (λσ Hx h=>B _ _ ?_)]
 .symm;let(_,_,_,_,_,_,W):=h;rwa[aC.of$ W _ _ h3]
 .intro E hE i x X σ H7 hx np Y Gq U h;left;symm;let(o3,o4,xs,rfl,w1,w2,W):=h;let s8:aa H7 (af H7 X$ .tup [.int i,x]):=je np;let e8:af H7 X (.tup [.int i,x]) X= ~~~[.int i,x]:=jc;erw[U ?_];generalize af H7 X (.tup [.int i,x])=H8 at s8 e8 ⊢;let S8:=W.trans s8;symm;let(n1,h6,w,q,hh,u,ht,O,d0,s0,rfl,h0,a0,hw):=qx d (h4.mono$ aa.tm S8) hx;erw[X,12,aC.of e8,21121122,?_];let h7:i < ο s.steps:=(ν.mp ht).1;let et:s.steps.take (i+1)=s.steps.take i++[(n1,h6,w)]:=by rw[SG,ht];rfl
  let eb:(eJ (s.steps.take$ i+1) p 0).map (·.1)=(eJ (s.steps.take i) p 0).map (·.1)++cy (p++[(i:Int)]) w:=by rw[et,zZ,RP,Se,TN$ Uo h7,UL,Qs];show _++(_++[])=_;rw[Sw]
  let bl:=XX s.steps (i+1) p 0;let b0:=SQ hJ eb;rw[RN,RJ,Qr O]at b0;let lx:=w2.len;rw[fl]at bl;show dq _ _ E [↑c,↑M,↑T,δ$ .int i,↑q] H8;erw[aj λF1 B=>#[12,.inl #[21,aE.of$ s8 _ _ w1],1212,l7,λt nt=>#[M,t,1122,ap (S8 _ _ hp) nt,jc,by rw[RJ];show _+1<=_;omega,λR C e9 s9=>?_]]];let S9:aa H8 C:=(je (o:=.tup [.int i]) nt).trans s9;let e9:C R= ~~~(p.map Da++[.int (i:Int)]):=e9;rw[u5]at e9;let w9:=S9 _ _ (s8 _ _ w1);erw[T,xs,122,w9,P',B _ _ ?_];left;let G:am C (af C T$ .lst$ xs++[.ref R]):=J4 w9;let k:af C T (.lst$ xs++[.ref R]) T=(xs++[.ref R])⁻¹:=jc;let k0:∀b o,b≠T->C b=δ o->af C T (.lst$ xs++[.ref R]) b=δ o:=λb o nb e=>by rw[jh nb];rwa[e]
  generalize af C T (.lst$ xs++[.ref R])=v at G k k0;let r:am H8 v:=(aa.tm S9).trans G;let I:aa H v:=λb o e=>k0 _ _ (jk e N) (S9 _ _$ S8 _ _ e);let x0:aV eI v ((eJ (s.steps.take i) p 0).map (·.1)++[p++[(i:Int)]]) (xs++[.ref R]):=aV.app (aV.one #[R,Z,G _ _ e9]) (((w2.mono aL$ aa.tm s8).mono aL r));symm;let(p3,v3,r3,eu,h8,h5):=Yc O (hw.mono r);subst eu;erw[iX λG1 yT yF=>(ju (r _ _ h0) iI #[p3,11122,aC.of h8,fV,212,?_])];rw[uL];symm;by_cases hv:v3="call"
  .let(g',L,D,a',rfl):=h5.mp hv;right;rw[R0 hv];symm;let(x1,c1,g1,e1,s2,e2,k1,k2,k3,k4,k5):=hw.mono r;cases e2;let d0:D.dep+1<=s.dep:=d0;let s0:D.size+1<=s.size:=s0;erw[yT _ #[12,.inl #[21,aE.of k],ju (r _ _ h0) iI #[p3,11122,aC.of k1,hZ,1212,l7,λt2 n0=>#[M,t2,1122,ap (I _ _ hp) n0,jc,by rw[RJ];show _+1<=_;omega,λr0 H0 y s3=>?_]]]];let S:aa v H0:=(je (o:=.tup [.int i]) n0).trans s3;let y:H0 r0= ~~~(p.map Da++[.int (i:Int)]):=y;rw[u5]at y;erw[r0,_,g',L,D,a',.ref c1,Z,y,by rw[RN];show _+1+_<=_;omega,#[c1,g1,e1,s2,Z,S _ _ k2,S _ _ k3,S _ _ k4,k5.mono$ aa.tm S],O,P',P',λl zs H1 nl hl hz s4=>?_];let z:=S.trans s4;let lz:=hz.len;rw[RJ,kI (show D.ok μ from O)]at lz;let ez:(xs++[Fa R]).length=ο xs+1:=by rw[RN];rfl
   let s5:(Sk.cl g' L D a').size=D.size:=rfl;erw[T,l,1122,z _ _ k,hl,P',Y _ _ #[1112,jc,?_,λb o e=>?_]]
   .rw[eb];let t0:am H1 (af H1 T$ .lst$ xs++[.ref R]++zs):=J4 (z _ _ k);let e0:cy (p++[(i:Int)]) (.cl g' L D a')=[p++[(i:Int)]]++(D.ws (p++[(i:Int)]) 0).map (·.1):=rfl;rw[e0,<- SI];exact(aV.app hz$ x0.mono aL$ aa.tm z).mono aL t0
   .rw[jh$ jk e N];rwa[z _ _$ I _ _ e]
  .right;rw[RW hv];erw[yF _$ Y _ _ #[1112,k,?_,I]];rw[eb];let e0:cy (p++[(i:Int)]) w=[p++[(i:Int)]]:=by
    symm;cases w with
    |nil |st _ _ _ _=>rwa[O.elim]
    |cl f is s a=>rwa[absurd (h5.mpr #[f,is,s,a,Z]) hv]
    |_=>right;rfl
   rw[e0];rwa[x0]
 .symm;let(o3,o4,xs,rfl,w1,w2,W):=h;rw[lt,Su,<- zB d]at w2;rwa[12,q T xs Hx N w1 w2 W]
def Hg:⇑k f c z17z (iF 0):=by
 let n:∀{v H Q E},¬iF 0 v H Q E:=by rintro v H Q E ⟨d,p,f,i,s,a,u,_,_,_,_,_,z,_⟩;omega
 rwa[λv H Q E h=>(n h).elim,λA o s H b U v Q E e g j l h=>(n h).elim]
theorem LV(F:Fr K "_law_all_in" DM f a)(b:ax K a z17z [])(M:mg "_law_all_in"=↑f)(m:mg "enumerate"=ι):∀n,⇑(n+1) f a z17z (iF n)
 |0=>Hg
 |n+1=>Hq F #[(LV F b M m n),b,F.kp,M] m
abbrev lW:=aD×Nat×Sk
def sN(n:Int)(h:FA Int)(w:Sk)(o:aO):Nat:=if bQ n h o=μ then (if o.2.2.fnd=w.fnd then 0 else 1) else 2
def ij(p:aD)(w:Sk):FA lW:=((p,w)::w.ws p 0).map λx=>(x.1,2,x.2)
noncomputable def iM:Sk->FA aO->Nat->aD->Nat->FA lW
 | .st n h w r,os,m,p,k=>match dI os m n h w with
  |none=>ij (p++[(k:Int)]) w++iM r os m p (k+1)
  |some j=>match os[j]? with
   |none=>[]
   |some o=>((p++[(k:Int)],sN n h w o,w)::iM w (fo o.2.2) 0 (p++[(k:Int)]) 0)++iM r os (j+1) p (k+1)
 | .cl _ _ s _,os,m,p,k=>iM s os m p k
 |_,_,_,_,_=>[]
section
variable {n:Int}{hs:FA Int}{w r:Sk}{os:FA aO}{m j k:Nat}{pn po:aD}{o:aO}
def qo(h:dI os m n hs w=ι):iM (.st n hs w r) os m pn k=ij (pn++[(k:Int)]) w++iM r os m pn (k+1):=by show(match dI os m n hs w with |none=>_ |some j=>_)=_;rw[h]
def zS(h:dI os m n hs w=δ j)(H:os[j]?=δ o):iM (.st n hs w r) os m pn k=((pn++[(k:Int)],sN n hs w o,w)::iM w (fo o.2.2) 0 (pn++[(k:Int)]) 0)++iM r os (j+1) pn (k+1):=by show(match dI os m n hs w with |none=>_ |some j=>match os[j]? with |none=>([]:FA lW) |some o=>_)=_;rw[h];dsimp only;rw[H]
end
def Gr(p:aD)(w:Sk):(ij p w).map (λx=>(x.1,x.2.2))=(p,w)::w.ws p 0:=by unfold ij;rw[Ts];rwa[List.map_id _]
theorem J5:∀{b:Bool} {s:Sk},s.ok b->∀(os:FA aO) (m:Nat) (p:aD) (k:Nat),(b=ξ->k=0)->(iM s os m p k).map (λx=>(x.1,x.2.2))=s.ws p k
 |true,.nil,_,_,_,_,_,_=>rfl
 |true,.st n H w r,o,os,m,p,k,_=>by
  cases h:dI os m n H w with
  |none=>rw[qo h,RP,J5 o.2 os m p (k+1) (λz=>nomatch z),Gr];rfl
  |some j=>let(_,x,a,_):=j5 h;rw[zS h a,RP,SN,J5 o.1 _ 0 _ 0 (λ_=>Z),J5 o.2 os (j+1) p (k+1) (λz=>nomatch z)];rfl
 |false,.cl _ _ s _,o,os,m,p,k,c=>by cases c Z;rwa[J5 (b:=μ) (s:=s) o os m p 0 λz=>nomatch z]
 |false,.ask _,_,_,_,_,_,_ |false,.rd _ _,_,_,_,_,_,_ |false,.wr _ _,_,_,_,_,_,_=>rfl
def KN{b:Bool}{s:Sk}(o:s.ok b)(os:FA aO)(m:Nat)(p:aD)(k:Nat)(h:b=ξ->k=0):(iM s os m p k).map (·.1)=(s.ws p k).map (·.1):=by rw[<- J5 o os m p k h,Ts];rfl
noncomputable def dj(l:Nat)(W:FA lW):FA aD:=(W.filter λx=>decide (x.2.1=l)).map (·.1)
def q9(l:Nat)(a b:FA lW):dj l (a++b)=dj l a++dj l b:=by unfold dj;rw[U1,RP]
def qp(l:Nat)(x:lW)(a:FA lW):dj l (x::a)=(if x.2.1=l then [x.1] else [])++dj l a:=by
 unfold dj;by_cases h:x.2.1=l
 .rw[RV h,VI (by simp [h])];rfl
 .rw[RU h,VJ (by simp [h])];rfl
def Ye(l:Nat)(p:aD)(w:Sk):dj l (ij p w)=if l=2 then cy p w else []:=by
 unfold dj ij;by_cases h:l=2
 .rw[RV h,List.filter_eq_self.mpr (λx H=>by let(y,_,rfl):=β.mp H;simp [h]),Ts];rfl
 .rw[RU h,List.filter_eq_nil_iff.mpr (λx H=>by let(y,_,rfl):=β.mp H;simp;omega)];rfl
theorem K7:∀(s:Sk) (a:aD) (os:FA aO) (m:Nat) (p:aD) (k:Nat),(d9 s a os m p k).k.map (·.2)=dj 0 (iM s os m p k)/\(d9 s a os m p k).t.map (·.2)=dj 1 (iM s os m p k)/\(d9 s a os m p k).f=dj 2 (iM s os m p k)
 | .st n d w r,a,os,m,p,k=>by
  cases h:dI os m n d w with
  |none=>let(i,I,c):=K7 r a os m p (k+1);rw[ql h,qo h,q9,q9,q9,Ye,Ye,Ye];rwa[i,I,by show cy _ _++_=cy _ _++_;rw[c]]
  |some j=>
   let(_,x,e,_):=j5 h;let(i,I,c):=K7 r a os (j+1) p (k+1);let(J,g,l):=K7 w (a++[(j:Int)]) (fo x.2.2) 0 (p++[(k:Int)]) 0;rw[qm h e,zS h e,q9,q9,q9,qp,qp,qp,<- i,<- I,<- c,<- J,<- g,<- l];unfold one sN;by_cases H:bQ n d x=μ
   .rw[RV H,RV H];by_cases b:x.2.2.fnd=w.fnd
    .rw[RV b,RV b];refine#[?_,?_,Z]
     .show(([]++(_++_))++_:FA md).map _=_;rw[TF,RP,RP];rfl
     .show(([]++(_++_))++_:FA md).map _=_;rw[TF,RP,RP];rfl
    .rw[RU b,RU b];refine#[?_,?_,Z]
     .show(([]++(_++_))++_:FA md).map _=_;rw[TF,RP,RP];rfl
     .show(([]++(_++_))++_:FA md).map _=_;rw[TF,RP,RP];rfl
   .rw[RU H,RU H];refine#[?_,?_,Z]
    .show(([]++(_++_))++_:FA md).map _=_;rw[TF,RP,RP];rfl
    .show(([]++(_++_))++_:FA md).map _=_;rw[TF,RP,RP];rfl
 | .cl _ _ s _,a,os,m,p,k=>K7 s a os m p k
 | .nil,_,_,_,_,_ | .ask _,_,_,_,_,_ | .rd _ _,_,_,_,_,_ | .wr _ _,_,_,_,_,_=>#[222]
theorem J6:∀(s:Sk) (os:FA aO) (m:Nat) (p:aD) (k:Nat),∀x∈iM s os m p k,x.2.1 < 3
 | .st n H w r,os,m,p,k,x,hx=>by
  cases h:dI os m n H w with
  |none=>
   rw[qo h]at hx;rcases ψ.mp hx with hx |hx
   .let(y,_,rfl):=β.mp hx;rwa[Tz 2]
   .rwa[J6 r _ _ _ _ x hx]
  |some j=>
   let(_,y,a,_):=j5 h;rw[zS h a]at hx;rcases ψ.mp hx with hx |hx
   .rcases ω.mp hx with rfl |hx
    .show sN n H w y < 3;unfold sN;split
     .split<;>omega
     .omega
    .rwa[J6 w _ _ _ _ x hx]
   .rwa[J6 r _ _ _ _ x hx]
 | .cl _ _ s _,os,m,p,k,x,hx=>J6 s os m p k x hx
 | .nil,_,_,_,_,_,hx | .ask _,_,_,_,_,_,hx | .rd _ _,_,_,_,_,_,hx | .wr _ _,_,_,_,_,_,hx=>nomatch hx
theorem JM:∀(W:FA lW),(∀x∈W,x.2.1 < 3)->((dj 0 W++dj 1 W)++dj 2 W).Perm (W.map (·.1))
 | [],_=>.nil
 |x::W,h=>by
  let i:=JM W λy H=>h y (Sd _ H);let b:=h x Sa;rw[qp,qp,qp,SN];let a:x.2.1=0∨x.2.1=1∨x.2.1=2:=P'
  rcases a with e |e |e
  .rw[RV e,RU P',RU P'];rwa[i.cons x.1]
  .rw[RU P',RV e,RU P'];show((dj 0 W++(x.1::dj 1 W))++dj 2 W).Perm _;rw[SI];rw[SI]at i;rwa[mU.trans$ tz x.1 i]
  .rw[RU P',RU P',RV e];show((dj 0 W++dj 1 W)++(x.1::dj 2 W)).Perm _;rwa[mU.trans$ i.cons x.1]
def uq(l:Nat)(W:FA lW):(dj l W).Sublist (W.map (·.1)):=(Wl (l:=W)).map _
noncomputable def pf:Sk->aD->FA aO->Nat->aD->Nat->FA md
 | .st n h w r,p,os,m,a,k=>match dI os m n h w with
  |none=>pf r p os m a (k+1)
  |some j=>match os[j]? with
   |none=>[]
   |some o=>((if bQ n h o=μ then [(a++[(k:Int)],p++[(j:Int)])] else [])++pf w (p++[(j:Int)]) (fo o.2.2) 0 (a++[(k:Int)]) 0)++pf r p os (j+1) a (k+1)
 | .cl _ _ s _,p,os,m,a,k=>pf s p os m a k
 |_,_,_,_,_,_=>[]
section
variable {n:Int}{hs:FA Int}{w r:Sk}{os:FA aO}{m j k:Nat}{pn po:aD}{o:aO}
def Qt(h:dI os m n hs w=ι):pf (.st n hs w r) po os m pn k=pf r po os m pn (k+1):=by show(match dI os m n hs w with |none=>_ |some j=>_)=_;rw[h]
def Qu(h:dI os m n hs w=δ j)(H:os[j]?=δ o):pf (.st n hs w r) po os m pn k=((if bQ n hs o=μ then [(pn++[(k:Int)],po++[(j:Int)])] else [])++pf w (po++[(j:Int)]) (fo o.2.2) 0 (pn++[(k:Int)]) 0)++pf r po os (j+1) pn (k+1):=by show(match dI os m n hs w with |none=>_ |some j=>match os[j]? with |none=>([]:FA md) |some o=>_)=_;rw[h];dsimp only;rw[H]
end
theorem Ja:∀(s:Sk) (p:aD) (os:FA aO) (m:Nat) (a:aD) (k:Nat),(pf s p os m a k).map (·.2)=iZ s p os m
 | .st n b w r,p,os,m,a,k=>by
  cases h:dI os m n b w with
  |none=>rw[Qt h,qU h];rwa[Ja r p os m a (k+1)]
  |some j=>
   let(_,x,c,_):=j5 h;rw[Qu h c,qV h c,RP,RP,Ja w,Ja r];by_cases H:bQ n b x=μ
   .rw[RV H,RV H];rfl
   .rw[RU H,RU H];rfl
 | .cl _ _ s _,p,os,m,a,k=>Ja s p os m a k
 | .nil,_,_,_,_,_ | .ask _,_,_,_,_,_ | .rd _ _,_,_,_,_,_ | .wr _ _,_,_,_,_,_=>rfl
theorem Jb:∀(s:Sk) (a:aD) (os:FA aO) (m:Nat) (p:aD) (k:Nat),((pf s a os m p k).map (·.1)).Sublist ((iM s os m p k).map (·.1))
 | .st n H w r,a,os,m,p,k=>by
  cases h:dI os m n H w with
  |none=>rw[Qt h,qo h,RP];exact(Jb r a os m p (k+1)).trans (List.sublist_append_right _ _)
  |some j=>
   let(_,x,b,_):=j5 h;rw[Qu h b,zS h b,RP,RP,RP,SN];erw[List.Sublist.append ?_$ Jb r a os (j+1) p$ k+1];by_cases c:bQ n H x=μ
   .rw[RV c];exact(Jb w _ _ 0 _ 0).cons₂ _
   .rw[RU c];exact(Jb w _ _ 0 _ 0).cons _
 | .cl _ _ s _,a,os,m,p,k=>Jb s a os m p k
 | .nil,_,_,_,_,_ | .ask _,_,_,_,_,_ | .rd _ _,_,_,_,_,_ | .wr _ _,_,_,_,_,_=>Vi _
def Ff{g:Type}{a b c d e f:FA g}(h:(a++b).Perm e)(H:(c++d).Perm f):((a++c)++(b++d)).Perm (e++f):=by erw[rb.trans ?_$ h.append H];rw[SI,SI];erw[X' a ?_];rw[<- SI,<- SI];rwa[WR d List.perm_append_comm]
theorem qr:∀(s:Sk) (p:aD) (os:FA aO) (m:Nat) (a:aD) (k:Nat),((d9 s p os m a k).k++(d9 s p os m a k).t).Perm ((pf s p os m a k).map λx=>(x.2,x.1))
 | .st n b w r,p,os,m,a,k=>by
  cases h:dI os m n b w with
  |none=>rw[ql h,Qt h];rwa[qr r p os m a (k+1)]
  |some j=>
   let(_,x,c,_):=j5 h;rw[qm h c,Qu h c,RP,RP];show((([]++(_++_))++_)++(([]++(_++_))++_)).Perm _;rw[TF,TF];erw[Ff (Ff ?_$ qr w _ _ 0 _ 0)$ qr r p os (j+1) a$ k+1];unfold one;by_cases H:bQ n b x=μ
   .rw[RV H,RV H];by_cases d:x.2.2.fnd=w.fnd
    .rw[RV d];rwa[Tt _]
    .rw[RU d];rwa[Tt _]
   .rw[RU H,RU H];rwa[Tt _]
 | .cl _ _ s _,p,os,m,a,k=>qr s p os m a k
 | .nil,_,_,_,_,_ | .ask _,_,_,_,_,_ | .rd _ _,_,_,_,_,_ | .wr _ _,_,_,_,_,_=>Tt _
theorem J7:∀(s:Sk) (p:aD) (os:FA aO) (m:Nat),lY (iZ s p os m)
 | .st n c w r,p,os,m=>by
  cases h:dI os m n c w with
  |none=>rw[qU h];rwa[J7 r p os m]
  |some j=>
   let(d,x,g,_):=j5 h;rw[qV h g];erw[Qk (Qk ?_ (J7 w _ _ 0) λa ha b f=>?_) (J7 r p os$ j+1) λa ha b f=>?_]
   .by_cases H:bQ n c x=μ
    .rw[RV H];rwa[hY.mpr #[λ_ z=>(nomatch z),du]]
    .rw[RU H];rwa[.nil]
   .let(i,q,_,e):=qA w _ _ 0 b f;by_cases H:bQ n c x=μ
    .rw[RV H]at ha;cases τ.mp ha;rw[e];rwa[KM]
    .rw[RU H]at ha;cases ha
   .let(I,Q,k,E):=qA r _ _ (j+1) b f;rcases ψ.mp ha with ha |ha
    .by_cases H:bQ n c x=μ
     .rw[RV H]at ha;cases τ.mp ha;rw[E];rwa[JF (q:=[]) P']
     .rw[RU H]at ha;cases ha
    .let(q,e,_):=(qA w _ _ 0 a ha).up (m:=m) d;rw[e,E];rwa[JF P']
 | .cl _ _ s _,p,os,m=>J7 s p os m
 | .nil,_,_,_ | .ask _,_,_,_ | .rd _ _,_,_,_ | .wr _ _,_,_,_=>.nil
def LY{w:Sk}(o:w.ok ξ):∀x∈fo w,x.2.2.ok ξ:=by
 cases w with
 |nil |st _ _ _ _=>rwa[o.elim]
 |cl f I s a=>intro x h;let(i,e):=ks.mp h;rwa[qN (s:=s) o e]
 |_=>intro x h;cases h
theorem Ql:∀(s:Sk) (a:aD) (os:FA aO) (m:Nat),(∀x∈os,x.2.2.ok ξ)->∀p∈iZ s a os m,p∈(eJ (os.drop m) a m).map (·.1)
 | .st n d w r,a,os,m,H,p,hp=>by
  cases h:dI os m n d w with
  |none=>rw[qU h]at hp;rwa[Ql r a os m H p hp]
  |some j=>
   let(b,x,c,_):=j5 h;let o:=H x (ks.mpr #[j,c]);rw[qV h c]at hp;rw[Y5 a b c,Tw,Tw];rcases ψ.mp hp with hp |hp
   .rcases ψ.mp hp with hp |hp
    .by_cases e:bQ n d x=μ
     .rw[RV e]at hp;cases τ.mp hp;rwa[.inr$ .inl Sa]
     .rw[RU e]at hp;cases hp
    .erw[.inr$ .inl$ Sd _ ?_];rw[EC o];rwa[Ql w _ _ 0 (LY o) p hp]
   .rwa[.inr$ .inr$ Ql r a os (j+1) H p hp]
 | .cl _ _ s _,a,os,m,H,p,hp=>Ql s a os m H p hp
 | .nil,_,_,_,_,_,hp | .ask _,_,_,_,_,_,hp | .rd _ _,_,_,_,_,_,hp | .wr _ _,_,_,_,_,_,hp=>nomatch hp
theorem sR:∀(p:aD),dJ p p=ξ
 | []=>rfl
 |a::p=>by show(if a=a then dJ p p else _)=_;rw[RV Z];rwa[sR p]
def zT{l:FA aD}(h:lY l):l.Nodup:=List.Pairwise.imp (λ{a b} z e=>by rw[e,sR]at z;cases z) h
def yX{L A:FA aD}(h:lY L)(H:lY A)(a:∀p∈L,p∈A):(L++ff L A).Perm A:=by
 let e:ff L A=A.filter λx=>!decide (x∈L):=by unfold ff;congr 1;funext x;rwa[decide_not]
 rw[e];erw[rb.trans (WR _ ?_)$ List.filter_append_perm (λp=>decide (p∈L)) A]
 .erw[(List.perm_ext_iff_of_nodup (zT h)$ BT Wl$ zT H).mpr λp=>?_];rw[UX];rwa[λz=>#[a p z,R0 z],λz=>SF z.2]
section
variable (G0:ρ->FA Int->Gd)(GN:ρ->Int->FA Int->Wh->Gd)
def iy:ρ->Gd->Sk->Int->Prop
 |f,g,.st n H w r,a=>(∃m:Nat,n=(m:Int)/\g= .go m H)/\iy f g w 0/\iy f (GN f n H w.wh) r a
 |_,g,.nil,a=>g= .give a
 |_,_,.cl h i s b,_=>iy h (G0 h i) s b
 |_,_,_,_=>True
end
noncomputable def mq(a:Int):FA aO->Gd
 | []=>.give a
 | (n,h,_)::_=>.go n.toNat h
section
variable {G0:ρ->FA Int->Gd}{GN:ρ->Int->FA Int->Wh->Gd}
def J8{f:ρ}{g:Gd}{a:Int}:∀{s:Sk},s.ok μ->iy G0 GN f g s a->g=mq a s.steps
 | .nil,_,h=>h
 | .st n H w r,_,h=>by obtain⟨⟨m,e,E⟩,_⟩:=h;rw[E,e];rfl
theorem X0{f:ρ}{a:Int}:∀{s:Sk},s.ok μ->∀{g:Gd},iy G0 GN f g s a->∀{j:Nat} {o:aO},s.steps[j]?=δ o->(∃m:Nat,o.1=(m:Int))/\(∃G,iy G0 GN f G o.2.2 0)/\GN f o.1 o.2.1 o.2.2.wh=mq a (s.steps.drop$ j+1)
 | .nil,_,g,h,j,o,e=>by let e:([]:FA aO)[j]?=δ o:=e;simp at e
 | .st n H w r,O,g,h,0,o,e=>by cases e;obtain⟨⟨m,E,_⟩,b,c⟩:=h;rwa[#[m,E],#[g,b],J8 O.2 c]
 | .st n H w r,O,g,h,j+1,o,e=>by
  let e:r.steps[j]?=δ o:=by let e:((n,H,w)::r.steps)[j+1]?=δ o:=e;simpa using e
  rwa[X0 O.2 h.2.2 e]
def Gi{w v:Sk}(o:w.ok ξ)(q:v.ok ξ)(e:fu v=fu w)(h:v.fnd=w.fnd):v.wh=w.wh:=by
 cases w with
 |nil |st _ _ _ _=>rwa[o.elim]
 |cl f i s a=>let(S,A,rfl):=ZG q e;let h:A=a:=h;rw[h];rfl
 |ask b=>
  cases v with
  |nil |st _ _ _ _=>rwa[q.elim]
  |ask c=>have h:c=b:=h;rw[h]
  |rd c d |wr c d |cl g j s a=>rwa[absurd (JD e) Ra]
 |rd b c=>
  cases v with
  |nil |st _ _ _ _=>rwa[q.elim]
  |ask c |wr c d |cl g j s a=>rwa[absurd (JD e) Ra]
  |rd C d=>have h:d=c:=h;let e:Tr.tp (.cons (a7 "read") (.cons (aH C) .nil))= .tp (.cons (a7 "read") (.cons (aH b) .nil)):=e;injection e with e;injection e with _ e;injection e with e _;injection e with e;injection e with e;rw[h,e]
 |wr b c=>
  cases v with
  |nil |st _ _ _ _=>rwa[q.elim]
  |ask c |rd c d |cl g j s a=>rwa[absurd (JD e) Ra]
  |wr C d=>have h:d=c:=h;let e:Tr.tp (.cons (a7 "write") (.cons (aH C) (.cons (aH d) .nil)))= .tp (.cons (a7 "write") (.cons (aH b) (.cons (aH c) .nil))):=e;injection e with e;injection e with _ e;injection e with e _;injection e with e;injection e with e;rw[h,e]
def ZI{f:ρ}{s:Sk}{g:Gd}{A:Int}(O:s.ok μ)(l:iy G0 GN f g s A){m:Nat}{n:Int}{a:FA Int}{w:Sk}{R:FA aO}{c:Int}(d:∃i:Nat,n=(i:Int))(h:mq c ((n,a,w)::R)=mq A (s.steps.drop m)):dI s.steps m n a w=δ m/\∃o,s.steps[m]?=δ o/\bQ n a o=μ:=by
 cases e:s.steps[m]? with
 |none=>rw[List.drop_eq_nil_of_le$ List.getElem?_eq_none_iff.mp e]at h;cases h
 |some o=>let(j,k):=ν.mp e;rw[<- Tl (h:=j),k]at h;let(N,H,W):=o;let h:Gd.go n.toNat a= .go N.toNat H:=h;injection h with r p;obtain⟨⟨i,E⟩,_⟩:=X0 O l e;let(I,q):=d;let E:N=(i:Int):=E;let b:bQ n a (N,H,W)=μ:=R0 #[by show N=n;omega,by show H=a;rw[p]];erw[?_,12,b];unfold dI;rw[ZF e,RV b]
def NA(W:FA lW)(p:aD):Prop:=∃q,(p=q++[0]/\∃w,(q,2,w)∈W)∨∃(i l:Nat) (w:Sk),p=q++[((i+1:Nat):Int)]/\l≠0/\(q++[(i:Int)],l,w)∈W
theorem X1{W:FA lW}:∀{b:Bool} {s:Sk},s.ok b->∀{p:aD} {k:Nat},(b=ξ->k=0)->(∃w,(p,2,w)∈W)->(∀y∈s.ws p k,(y.1,2,y.2)∈W)->(k=0∨∃i w,k=i+1/\(p++[(i:Int)],2,w)∈W)->∀y∈s.ws p k,NA W y.1
 |true,.nil,_,_,_,_,_,_,_,y,hy=>nomatch hy
 |true,.st n g w r,o,p,k,_,a,H,d,y,hy=>by
  let H:∀y∈((p++[(k:Int)],w)::w.ws (p++[(k:Int)]) 0)++r.ws p (k+1),(y.1,2,y.2)∈W:=H;let hy:y∈((p++[(k:Int)],w)::w.ws (p++[(k:Int)]) 0)++r.ws p (k+1):=hy;let h:=H _ (Sr _ Sa);rcases ψ.mp hy with hy |hy
  .rcases ω.mp hy with rfl |hy
   .rcases d with rfl | ⟨i,e,rfl,f⟩
    .exact#[p,.inl #[Z,a]]
    .exact#[p,.inr #[i,2,e,Z,Ra,f]]
   .rwa[X1 (b:=ξ) (s:=w) o.1 (λ_=>Z) #[w,h] (λy hy=>H y (Sr _$ Sd _ hy)) (.inl Z) y hy]
  .rwa[X1 (b:=μ) (s:=r) o.2 (λz=>nomatch z) a (λy hy=>H y (R3 _ hy)) (.inr #[k,w,Z,h]) y hy]
 |false,.cl _ _ s _,o,p,k,c,a,H,d,y,hy=>by cases c Z;rwa[X1 (b:=μ) (s:=s) o (λz=>nomatch z) a H (.inl Z) y hy]
 |false,.ask _,_,_,_,_,_,_,_,y,hy |false,.rd _ _,_,_,_,_,_,_,_,y,hy |false,.wr _ _,_,_,_,_,_,_,_,y,hy=>nomatch hy
def Sk.row:Sk->FA aO
 | .cl _ _ s _ |s=>s.steps
noncomputable def Sk.ans:Sk->Int->Int
 | .cl _ _ _ b,_=>b
 |_,a=>a
def yg{D:DF}{f:ρ}{d:Sk}{A:Int}{y:Gd}{m j:Nat}{n:Int}{q:FA Int}{w:Sk}{x:aO}{B:Gd}(O:d.ok μ)(l:Dt D f d)(C:iy G0 GN f y d A)(k:w.ok ξ)(r:fu w=D f n q)(u:Dt D f w)(E:iy G0 GN f B w 0)(h:dI d.steps m n q w=δ j)(H:d.steps[j]?=δ x):∃g S b G,S.ok μ/\fo x.2.2=S.steps/\Dt D g S/\Dt D g w/\(∀G i s a,w= .cl G i s a->g=G)/\iy G0 GN g G S b/\((∀g i s a,w≠ .cl g i s a)->S= .nil)/\(∀g i t c,w= .cl g i t c->mq c t.steps=mq b S.steps/\x.2.2.fnd=b)/\x.2.2.ok ξ:=by
 let o:=qN O H;let(J,F):=K6 l H;obtain⟨_,⟨M,L⟩,_⟩:=X0 O C H;let v:=ZH (s:=.nil) O l h H o r;let p:=By k l h H r;let(N,Q,W):=x;cases W with
 |nil |st _ _ _ _=>rwa[o.elim]
 |cl g i t c=>let(T,R,rfl):=p g i t c Z;erw[g,t,c,G0 g i,o,Z,F,u,λ_ _ _ _ e=>by cases e;rfl,L,λz=>absurd Z (z _ _ _ _),λG I U V e=>?_,o];cases e;rwa[(J8 (s:=T) k E).symm.trans$ J8 (s:=t) o L,Z]
 |ask b |rd b c |wr b c=>rwa[f,.nil,0,.give 0,trivial,Z,trivial,u,λg i s a e=>(let #[11,z]:=v g i s a e;nomatch z),Z,λ_=>Z,λg i s a e=>(let #[11,z]:=v g i s a e;nomatch z),trivial]
def sL{D:DF}{f:ρ}{s:Sk}{A d:Int}{G:Gd}{j:Nat}{n:Int}{H:FA Int}{w r:Sk}{x:aO}(o:s.ok μ)(k:Dt D f s)(l:iy G0 GN f G s A)(O:w.ok ξ)(a:r.ok μ)(m:fu w=D f n H)(L:iy G0 GN f (GN f n H w.wh) r d)(b:s.steps[j]?=δ x)(h:sN n H w x=0):mq d r.steps=mq A (s.steps.drop$ j+1):=by
 unfold sN at h;by_cases c:bQ n H x=μ
 .rw[RV c]at h;by_cases g:x.2.2.fnd=w.fnd
  .let(C,i):=yu c;let(_,_,e):=X0 o l b;rw[<- e,<- J8 a L,C,i,Gi O (qN o b) (by rw[(K6 k b).1,C,i,m]) g]
  .rw[RU g]at h;cases h
 .rw[RU c]at h;cases h
theorem Yw{D:DF}{W:FA lW}:∀{b:Bool} {s:Sk},s.ok b->∀{f:ρ} {S:Sk} {m k:Nat} {p:aD} {a1 A:Int} {g G:Gd},S.ok μ->Dt D f S->Dt D f s->iy G0 GN f G S A->(b=μ->iy G0 GN f g s a1)->(∀h I t c,s= .cl h I t c->f=h/\iy G0 GN h (G0 h I) t c/\k=0)->(b=ξ->(∀h I t c,s≠ .cl h I t c)->S= .nil)->(∀x∈iM s S.steps m p k,x∈W)->(mq (s.ans a1) s.row=mq A (S.steps.drop m)∨∃i l w,k=i+1/\l≠0/\(p++[(i:Int)],l,w)∈W)->∀x∈iM s S.steps m p k,x.2.1=2->NA W x.1
 |true,.nil,_,f,S,m,k,p,a1,A,g,G,_,_,_,_,_,_,_,_,_,x,hx,_=>nomatch hx
 |true,.st n B w r,o,f,S,m,k,p,a1,A,g,G,O,C,u,L,lN,_,_,d,E,x,hx,q=>by
  obtain⟨⟨mi,en,eg⟩,J,M⟩:=lN Z;let nr:∀h I t c,r= .cl h I t c->f=h/\iy G0 GN h (G0 h I) t c/\k+1=0:=λh I t c e=>by let z:=o.2;rw[e]at z;rwa[z.elim]
  let er:r.row=r.steps/\r.ans a1=a1:=by
   cases r with
   |cl _ _ _ _=>rwa[o.2.elim]
   |_=>exact#[22]
  let hd:∀(l:Nat) (v:Sk),l=2->(mq a1 ((n,B,w)::r.steps)=mq A (S.steps.drop m)->False)->NA W (p++[(k:Int)]):=λl v _ N=>by
   rcases E with E | ⟨i,l,w',rfl,hl,hi⟩
   .exact(N E).elim
   .exact#[p,.inr #[i,l,w',Z,hl,hi]]
  cases h:dI S.steps m n B w with
  |none=>
   rw[qo h]at d hx;let N:mq a1 ((n,B,w)::r.steps)=mq A (S.steps.drop m)->False:=λz=>by rw[(ZI O L #[mi,en] z).1]at h;cases h
   let H:(p++[(k:Int)],2,w)∈W:=d _ (Sr _ Sa);rcases ψ.mp hx with hx |hx
   .let(y,hy,rfl):=β.mp hx;rcases ω.mp hy with rfl |hy
    .rwa[hd 2 w Z N]
    .rwa[X1 (b:=ξ) (s:=w) o.1 (λ_=>Z) #[w,H] (λy hy=>d _ (Sr _$ β.mpr #[y,Sd _ hy,Z])) (.inl Z) y hy]
   .rwa[Yw (b:=μ) (s:=r) o.2 O C u.2.2 L (λ_=>M) nr (λz=>nomatch z) (λx hx=>d x (R3 _ hx)) (.inr #[k,2,w,Z,Ra,H]) x hx q]
  |some j=>
   let(h1,y,hy,_):=j5 h;rw[zS h hy]at d hx;let H:(p++[(k:Int)],sN n B w y,w)∈W:=d _ (Sr _ Sa);let(g',s0,b',gi,Q,e',R,T,U,V,X,Y,o0):=yg O C L o.1 u.1 u.2.1 J h hy;rcases ψ.mp hx with hx |hx
   .rcases ω.mp hx with rfl |hx
    .erw[hd 2 w Z λz=>?_];let(z1,o',z2,z3):=ZI O L #[mi,en] z;rw[h]at z1;cases z1;rw[hy]at z2;cases z2;let q:sN n B w y=2:=q;unfold sN at q;rw[RV z3]at q;split at q<;>omega
    .rw[e']at d hx;refine Yw (b:=ξ) (s:=w) o.1 (a1:=0) (g:=gi) Q R T V (λz=>nomatch z) (λh I t c e=>?_) (λ_=>X) (λx hx=>d x (Sr _$ Sd _ hx)) ?_ x hx q
     .erw[#[U h I t c e,?_,Z]];rw[e]at J;rwa[J]
     .by_cases F:∀g I s a,w≠ .cl g I s a
      .exfalso;cases w with
       |cl g I s a=>rwa[F _ _ _ _ Z]
       |nil |st _ _ _ _=>rwa[o.1.elim]
       |_=>cases hx
      .cases w with
       |cl g I t c=>rwa[.inl (Y _ _ _ _ Z).1]
       |_=>rwa[absurd (λ_ _ _ _ z=>nomatch z) F]
   .erw[Yw (b:=μ) (s:=r) o.2 O C u.2.2 L (λ_=>M) nr (λz=>nomatch z) (λx hx=>d x (R3 _ hx)) ?_ x hx q];by_cases h0:sN n B w y=0
    .erw[.inl ?_];rw[er.1,er.2];rwa[sL O C L o.1 o.2 u.1 M hy h0]
    .rwa[.inr #[k,_,w,Z,h0,H]]
 |false,.cl h I t c,o,f,S,m,k,p,a1,A,g,G,O,C,u,L,_,F,_,d,E,x,hx,q=>by
  let(rfl,lt,rfl):=F h I t c Z;let et:t.row=t.steps/\t.ans c=c:=by
   cases t with
   |cl _ _ _ _=>rwa[o.elim]
   |_=>exact#[22]
  erw[Yw (b:=μ) (s:=t) (a1:=c) o O C u L (λ_=>lt) (λh I t' c' e=>?_) (λz=>nomatch z) d ?_ x hx q]
  .rw[e]at o;rwa[o.elim]
  .rw[et.1,et.2];rwa[E]
 |false,.ask _,_,f,S,m,k,p,a1,A,g,G,_,_,_,_,_,_,_,_,_,x,hx,_ |false,.rd _ _,_,f,S,m,k,p,a1,A,g,G,_,_,_,_,_,_,_,_,_,x,hx,_ |false,.wr _ _,_,f,S,m,k,p,a1,A,g,G,_,_,_,_,_,_,_,_,_,x,hx,_=>nomatch hx
theorem sK{D:DF}:∀{s:Sk},s.ok μ->∀{f:ρ} {S:Sk} {m k:Nat} {pn:aD} {A b:Int} {g G:Gd},S.ok μ->Dt D f S->Dt D f s->iy G0 GN f G S b->iy G0 GN f g s A->mq A s.steps=mq b (S.steps.drop m)->(∀x∈iM s S.steps m pn k,x.2.1=0)->A=b
 | .nil,_,f,S,m,k,pn,A,b,g,G,O,d,c,l,L,a,H=>by
  cases e:S.steps.drop m with
  |nil=>rw[e]at a;injection a
  |cons x r=>rw[e]at a;cases a
 | .st n p w r,o,f,S,m,k,pn,A,b,g,G,O,d,c,l,L,a,H=>by obtain⟨⟨M,E,u⟩,v,i⟩:=L;let(h,y,j,z):=ZI O l #[M,E] a;rw[zS h j]at H;let q:sN n p w y=0:=H _ (Sr _ Sa);rwa[sK (s:=r) o.2 O d c.2.2 l i (sL O d l o.1 o.2 c.1 i j q) λx t=>H x (R3 _ t)]
theorem Yx{D:DF}:∀{b:Bool} {s:Sk},s.ok b->∀{f:ρ} {S:Sk} {m k:Nat} {pn:aD} {a1 a:Int} {g G:Gd},S.ok μ->Dt D f S->Dt D f s->iy G0 GN f G S a->(b=μ->iy G0 GN f g s a1)->(∀h I t c,s= .cl h I t c->f=h/\iy G0 GN h (G0 h I) t c/\k=0)->∀x∈iM s S.steps m pn k,x.2.1=1->(∃h I t c,x.2.2= .cl h I t c)->∃y∈iM s S.steps m pn k,y.2.1≠0/\∃i q,y.1=x.1++(i:Int)::q
 |true,.nil,_,f,S,m,k,pn,a1,a,g,G,_,_,_,_,_,_,x,hx,_,_=>nomatch hx
 |true,.st n U w r,o,f,S,m,k,pn,a1,a,g,G,O,v,l,L,X,_,x,hx,H,p=>by
  obtain⟨⟨mi,en,eg⟩,M,V⟩:=X Z;let W:∀h I t c,r= .cl h I t c->f=h/\iy G0 GN h (G0 h I) t c/\k+1=0:=λh I t c e=>by let z:=o.2;rw[e]at z;rwa[z.elim]
  cases h:dI S.steps m n U w with
  |none=>
   rw[qo h]at hx ⊢;rcases ψ.mp hx with hx |hx
   .let(y,d,rfl):=β.mp hx;cases H
   .let(y,d,z):=Yx (b:=μ) (s:=r) o.2 O v l.2.2 L (λ_=>V) W x hx H p;rwa[y,R3 _ d,z]
  |some j=>
   let(Y,y,d,_):=j5 h;rw[zS h d]at hx ⊢;let(N,A,b',gi,B,e',C,E,F,J,h0,Q,o0):=yg O v L o.1 l.1 l.2.1 M h d;rw[e']at hx ⊢;rcases ψ.mp hx with hx |hx
   .rcases ω.mp hx with rfl |hx
    .let(h',I,t,c,R):=p;let R:w= .cl h' I t c:=R;subst R;let(ag,ef):=Q _ _ _ _ Z;obtain rfl:=F _ _ _ _ Z;let H:sN n U (.cl N I t c) y=1:=H;by_cases all:∀z∈iM (.cl N I t c) A.steps 0 (pn++[(k:Int)]) 0,z.2.1=0
     .exfalso;let z:=sK (s:=t) (pn:=pn++[(k:Int)]) (k:=0) (m:=0) o.1 B C E J M ag all;unfold sN at H;split at H
      .rw[RV (by rw[ef,<- z];rfl)]at H;cases H
      .cases H
     .let(z,u):=Classical.not_forall.mp all;let(u,nz):=Classical.not_imp.mp u;erw[z,Sr _$ Sd _ u,nz,?_];let hm:z.1∈((Sk.cl N I t c).ws (pn++[(k:Int)]) 0).map (·.1):=by rw[<- KN (b:=ξ) o.1 A.steps 0 (pn++[(k:Int)]) 0 λ_=>Z];exact β.mpr #[z,u,Z]
      let(i,q,_,e):=Kj _ _ 0 _ hm;rwa[(i:Int),q,e]
    .let(z,u,q):=Yx (b:=ξ) (s:=w) o.1 (a1:=0) (g:=gi) B C E J (λz=>nomatch z) (λh I t c e=>#[F h I t c e,by rw[e]at M;rwa[M],Z]) x hx H p;rwa[z,Sr _$ Sd _ u,q]
   .let(y,d,z):=Yx (b:=μ) (s:=r) o.2 O v l.2.2 L (λ_=>V) W x hx H p;rwa[y,R3 _ d,z]
 |false,.cl h I t c,o,f,S,m,k,pn,a1,a,g,G,O,v,l,L,_,T,x,hx,H,p=>by let(rfl,lt,rfl):=T h I t c Z;rwa[Yx (b:=μ) (s:=t) (a1:=c) o O v l L (λ_=>lt) (λh I t' c' e=>by rw[e]at o;rwa[o.elim]) x hx H p]
 |false,.ask _,_,f,S,m,k,pn,a1,a,g,G,_,_,_,_,_,_,x,hx,_,_ |false,.rd _ _,_,f,S,m,k,pn,a1,a,g,G,_,_,_,_,_,_,x,hx,_,_ |false,.wr _ _,_,f,S,m,k,pn,a1,a,g,G,_,_,_,_,_,_,x,hx,_,_=>nomatch hx
end
def Gs(a:FA dU):ρ->FA Int->Gd:=λf i=>match dX a f with
 |none=>.give 0
 |some p=>iY (wV p) (dh p.way.sets (bn p.ps i)) p.way.goal
def Lr(p:FA dU):ρ->Int->FA Int->Wh->Gd:=λf n h w=>match dX p f with
 |none=>.give 0
 |some a=>match a.cs[n.toNat]? with
  |none=>.give 0
  |some c=>Dq a c h w
def N0(p:FA dU)(call:nS):Prop:=∀f i L t s a l T,call f i L t= .ok s a l T->iy (Gs p) (Lr p) f (Gs p f i) s a
def Gj{b:FA dU}{call:nS}{C k L j:bf}{t m:Nat}{e:DD}{w:Sk}(H:N0 b call)(h:iA call C k L t e= .ok w j m)(g:ρ)(G:Gd):iy (Gs b) (Lr b) g G w 0:=by
 let d:=xK h;cases e with
 |ask i T=>rw[XS d]at h;cases h;trivial
 |st p l=>
  cases l with
  |gv i T |st x i T=>unfold iA at h;rw[RV d]at h;cases h
  |rd x i T=>rw[rQ d]at h;cases h;trivial
  |wr i u T U=>rw[rR d]at h;cases h;trivial
  |cl x f q n=>
   rw[K2 d]at h;cases e:call f (n.map λc=>c.2.ev k) L (t+1) with
   |long |deep=>rw[e]at h;cases h
   |ok s a _L o=>rw[e]at h;cases h;rwa[H _ _ _ _ _ _ _ _ e]
theorem yb{p:FA dU}{call:nS}{C:bf}{c:dU}{f:ρ}(H:N0 p call)(d:dX p f=δ c):∀(m:Nat) {g:Gd} {L l:bf} {t T:Nat} {R:Sk} {a:Int},nY call C c m g L t= .ok R a l T->iy (Gs p) (Lr p) f g R a
 |0,_,_,_,_,_,_,_,h=>by cases h
 |m+1,.give b,_,_,_,_,_,_,h=>by cases h;rfl
 |m+1,.go n i,_,_,_,_,_,_,h=>by
  let(j,w,s,u,r,k,o,rfl,q):=sj h;erw[#[n,22],Gj H o f _,?_];let e:Lr p f (n:Int) i w.wh=Dq c j i w.wh:=by unfold Lr;rw[d];dsimp only;rw[SJ,k]
  rw[e];rwa[yb H d m q]
theorem tR{p:FA dU}{C:bf}:∀j,N0 p (cq p C j)
 |0=>λf i L t s a l T h=>by cases h
 |j+1=>λf i L t s a l T h=>by
  let h:(match dX p f with |none=>OC.long |some b=>nY (cq p C j) C b 62 (iY (wV b) (dh b.way.sets$ bn b.ps i) b.way.goal) L t)= .ok s a l T:=h;cases e:dX p f with
  |none=>rw[e]at h;cases h
  |some b=>rw[e]at h;let z:=yb (tR j) e 62 h;unfold Gs;rw[e];rwa[z]
noncomputable def wU:aO->aD->FC aO
 |o,[]=>δ o
 |o,k::p=>if 0<=k then (match (fo o.2.2)[k.toNat]? with |some O=>wU O p |none=>ι) else ι
def xW{o O:aO}{k:Nat}{p:aD}(h:(fo o.2.2)[k]?=δ O):wU o ((k:Int)::p)=wU O p:=by show(if 0<=(k:Int) then (match (fo o.2.2)[((k:Int)).toNat]? with |some O=>wU O p |none=>ι) else ι)=_;rw[RV P',SJ,h]
def se{o z:aO}{k:Int}{p:aD}(h:wU o (k::p)=δ z):∃(j:Nat) (O:aO),k=(j:Int)/\(fo o.2.2)[j]?=δ O/\wU O p=δ z:=by
 let h:(if 0<=k then (match (fo o.2.2)[k.toNat]? with |some O=>wU O p |none=>ι) else ι)=δ z:=h;by_cases H:0<=k
 .rw[RV H]at h;cases e:(fo o.2.2)[k.toNat]? with
  |none=>rw[e]at h;cases h
  |some O=>rw[e]at h;rwa[k.toNat,O,P',e,h]
 .rw[RU H]at h;cases h
theorem Y9{o z:aO}{j:Nat}(H:(fo o.2.2)[j]?=δ z):∀{p:aD} {O:aO},wU O p=δ o->wU O (p++[(j:Int)])=δ z
 | [],O,h=>by cases h;rwa[xW H]
 |k::p,O,h=>by let(i,c,rfl,a,b):=se h;show wU O ((i:Int)::(p++[(j:Int)]))=δ z;rw[xW a];rwa[Y9 H b]
def Lw(S:FA aO)(p:aD)(o:aO):Prop:=∃(k:Nat) (a:aD) (O:aO),p=(k:Int)::a/\S[k]?=δ O/\wU O a=δ o
def Ln(S:FA aO)(q:aD)(os:FA aO):Prop:=(q=[]/\os=S)∨∃o,Lw S q o/\os=fo o.2.2
def Ln.at{S os:FA aO}{q:aD}{j:Nat}{o:aO}(h:Ln S q os)(H:os[j]?=δ o):Lw S (q++[(j:Int)]) o:=by
 rcases h with ⟨rfl,rfl⟩ | ⟨c,⟨k,p,O,rfl,a,b⟩,rfl⟩
 .exact#[j,[],o,Z,H,Z]
 .exact#[k,p++[(j:Int)],O,Z,a,Y9 H b]
def Ln.in{S os:FA aO}{q:aD}{j:Nat}{o:aO}(h:Ln S q os)(H:os[j]?=δ o):Ln S (q++[(j:Int)]) (fo o.2.2):=.inr #[o,h.at H,Z]
def PJ:Bool->Sk->FA aO
 |true,s=>s.steps
 |false,w=>fo w
theorem uT{S:FA aO}:∀{b:Bool} {s:Sk},s.ok b->∀{p:aD} {k:Nat} {ns:FA aO},Ln S p ns->PJ b s=ns.drop k->(b=ξ->k=0)->∀x∈s.ws p k,∃o,Lw S x.1 o/\o.2.2=x.2
 |true,.nil,_,_,_,_,_,_,_,x,hx=>nomatch hx
 |true,.st n H w r,o,p,k,ns,c,e,_,x,hx=>by
  let e:(n,H,w)::r.steps=ns.drop k:=e;let h:ns[k]?=δ (n,H,w):=by let z:=SQ (λl=>l[0]?) e;rw[Vr]at z;rwa[z.symm]
  let d:r.steps=ns.drop (k+1):=by let z:=SQ List.tail e;rw[List.tail_drop]at z;rwa[z]
  let hx:x∈((p++[(k:Int)],w)::w.ws (p++[(k:Int)]) 0)++r.ws p (k+1):=hx;rcases ψ.mp hx with hx |hx
  .rcases ω.mp hx with rfl |hx
   .exact#[_,c.at h,Z]
   .rwa[uT (b:=ξ) (s:=w) o.1 (c.in h) (by rw[Tu];rfl) (λ_=>Z) x hx]
  .rwa[uT (b:=μ) (s:=r) o.2 c d (λz=>nomatch z) x hx]
 |false,.cl g i s a,o,p,k,ns,c,e,h,x,hx=>by cases h Z;rwa[uT (b:=μ) (s:=s) o c e (λz=>nomatch z) x hx]
 |false,.ask _,_,_,_,_,_,_,_,x,hx |false,.rd _ _,_,_,_,_,_,_,_,x,hx |false,.wr _ _,_,_,_,_,_,_,_,x,hx=>nomatch hx
def LP(H:Hp)(x y:V):Prop:=∃t:Tr,t.dep<=5/\t.In/\t.isL=ξ/\aT H t x []/\aT H t y []
def wK{H:Hp}{x y:V}{p:aD}(h:eI H x p)(g:eI H y p):LP H x y:=by let(a,rfl,h):=h;let(b,rfl,g):=g;rwa[aJ$ p.map aH,(by show(aG$ p.map aH).dep+1<=5;rw[qS];decide),z9 p,Z,zL h,zL g]
inductive Za(x y:V)(H:Hp)(Q:VK):Prop
 |mk(a b:η)(c d:FA V)(_:x= .ref a)(_:y= .ref b)(_:H a=c⁻¹)(_:H b=d⁻¹)(_:ο c=ο d)(_:∀(j:Nat) (u v:V),c[j]?=δ u->d[j]?=δ v->LP H u v)(_:Q (.bl ξ) H)
def ZJ{X:Cx}(hu:X.A.units+10 < cLine):gu X (compareOp .NotEq) Za:=by
 intro p s σ H x y v u Q I g k h;let(a,b,l,Y,rfl,rfl,m,n,hl,o,q):=h;cases g;cases k;let(i,r,B,_):=I.list (aE.of (K:=X.K) m);let(C,R,D,_):=I.list (aE.of (K:=X.K) n);let la:=r.length;let lb:=R.length;erw[PySem.SeqAt.RcNeAt.lists (e:=λ_=>μ) B.isList D.isList (by simp;omega) P' (λj E h2=>?_) X.prog X.w _ _ ?_]
 .let d:j < ο l:=by simp at E;omega
  let c:j < ο Y:=P'
  let(U,F,G):=r.get (RI d);let(J,L,M):=R.get (RI c);let N:i.toArray[j]=U:=by let(_,e):=ν.mp F;simpa using e
  let O:C.toArray[j]=J:=by let(_,e):=ν.mp L;simpa using e
  rw[N,O];let(t,S,T,f,V,W):=o j _ _ (RI d) (RI c);let z:=XV I 5 t (A:=X.A.in1) S (by show X.A.units+1+5 < cLine;omega) T f T f V W _ _ G M;rw[zW Z]at z;rwa[z]
 .let e:((dg i.toArray.size).all λ_=>μ)=μ:=by simp
  rw[e];rwa[.bl ξ,H,I,Z,q]
inductive Zb(x y:V)(H:Hp)(Q:VK):Prop
 |mk(a b:η)(c d:FA V)(_:x= .ref a)(_:y= .ref b)(_:H a=c⁻¹)(_:H b=d⁻¹)(_:ο c=ο d)(_:∀(j:Nat) (u v:V),c[j]?=δ u->d[j]?=δ v->LP H u v)(_:Q (.bl μ) H)
def ZK{X:Cx}(hu:X.A.units+10 < cLine):gu X (compareOp .Eq) Zb:=by
 intro p s σ H x y v u Q I g k h;let(a,b,l,Y,rfl,rfl,m,n,hl,o,q):=h;cases g;cases k;let(i,r,B,_):=I.list (aE.of (K:=X.K) m);let(C,R,D,_):=I.list (aE.of (K:=X.K) n);let la:=r.length;let lb:=R.length;erw[Wp (e:=λ_=>μ) B.isList D.isList (by simp;omega) P' (λj E h2=>?_) X.prog X.w _ _ ?_]
 .let d:j < ο l:=by simp at E;omega
  let c:j < ο Y:=P'
  let(U,F,G):=r.get (RI d);let(J,L,M):=R.get (RI c);let N:i.toArray[j]=U:=by let(_,e):=ν.mp F;simpa using e
  let O:C.toArray[j]=J:=by let(_,e):=ν.mp L;simpa using e
  rw[N,O];let(t,S,T,f,V,W):=o j _ _ (RI d) (RI c);let z:=XV I 5 t (A:=X.A.in1) S (by show X.A.units+1+5 < cLine;omega) T f T f V W _ _ G M;rw[zW Z]at z;rwa[z]
 .let e:((dg i.toArray.size).all λ_=>μ)=μ:=by simp
  rw[e];rwa[.bl μ,H,I,Z,q]
def aV.sm{a:Type}{R:RA a}(b:∀{H x y w},R H x w->R H y w->LP H x y){H:Hp}{W:FA a}{X Y:FA V}(h:aV R H W X)(g:aV R H W Y):ο X=ο Y/\∀(j:Nat) (u v:V),X[j]?=δ u->Y[j]?=δ v->LP H u v:=by erw[by rw[h.len,g.len],λj u v c d=>?_];let(w,E,r):=h.at c;let(i,e,f):=g.at d;rw[E]at e;cases e;rwa[b r f]
def Ls{A:bU}{k:Nat}(h:bX k A):A.units+10 < cLine:=by let:=h.un;omega
def Op{A:bU}{k:Nat}(h:bX k A):A.units+16 < cLine:=by let:=h.un;omega
theorem sQ{H:Hp}:∀{W:FA aD} {a:FA V},ο a=ο W->(∀(i:Nat) (x:V) (p:aD),a[i]?=δ x->W[i]?=δ p->eI H x p)->aV eI H W a
 | [],[],_,_=>rfl
 | [],_::_,e,_ |_::_,[],e,_=>by cases e
 |w::W,v::a,e,h=>#[v,a,Z,h 0 v w Z Z,sQ (e:) λi x p b c=>h (i+1) x p (b:) (c:)]
noncomputable def Hl(y:Ly):FA aD:=(y.k++y.t).map (·.2)++y.f
noncomputable def Ho(y:Ly):FA aD:=(y.k++y.t).map (·.1)++y.d
def sW{s:Sk}(o:s.ok μ)(os:FA aO):(Hl$ d9 s [] os 0 [] 0).Perm ((s.ws [] 0).map (·.1)):=by let(e,E,a):=K7 s [] os 0 [] 0;let z:=JM (iM s os 0 [] 0) (J6 s os 0 [] 0);rw[KN o os 0 [] 0 (λz=>nomatch z),<- e,<- E,<- a]at z;unfold Hl;rw[RP];rwa[z]
def sX{D:DF}{f:ρ}{s so:Sk}(o:s.ok μ)(O:so.ok μ)(d:Dt D f so)(c:Dt D f s):(Ho$ d9 s [] so.steps 0 [] 0).Perm ((so.ws [] 0).map (·.1)):=by
 let e:=Xg (D:=D) (b:=μ) (s:=s) o (f:=f) (so:=so) (po:=[]) (pn:=[]) (m:=0) (k:=0) (L:=iZ s [] so.steps 0) O d c (λg I t a z=>by rw[z]at o;rwa[o.elim]) (λz=>nomatch z) λp _=>Wn;let h:=(qr s [] so.steps 0 [] 0).map (·.1);let H:((pf s [] so.steps 0 [] 0).map λx=>(x.2,x.1)).map (·.1)=iZ s [] so.steps 0:=by rw[Ts,<- Ja s [] so.steps 0 [] 0];rfl
 rw[H]at h;unfold Ho;rw[e,Tu,<- zB O];erw[(h.append_right _).trans (yX (J7 s [] so.steps 0) (Je O [] 0) λp j=>?_)];let:=Ql s [] so.steps 0 (λx l=>by let(i,e):=ks.mp l;rwa[qN O e]) p j;rw[Tu,<- zB O]at this;rwa[this]
def K8{s:Sk}{p:aD}(h:p∈(s.ws [] 0).map (·.1)):p≠[]:=by let(j,q,_,e):=Kj s [] 0 p h;rw[e];exactλz=>nomatch z
abbrev IH:de:=bN 79
abbrev DU:de:=bN 80
def LQ(H:Hp)(x:V)(o:aO):Prop:=∃q h u,x= .ref q/\H q= ~~~[.int o.1,.ref h,u]/\H h= ~~~(o.2.1.map Da)/\eZ H o.2.2 u []
inductive uF(g:FA V)(H:Hp)(Q:VK)(b:XK):Prop
 |mk(c e:η)(f:ρ)(d:FA Int)(s:Sk)(a:Int)(p:aD)(o:aO)(_:g=[.ref c,.ref e])(_:oX H f d s a (.ref c))(_:s.ok μ)(_:H e= ~~~(p.map Da))(_:Lw s.steps p o)(_:∀(x:V) (H':Hp),LQ H' x o->aa H H'->Q x H')
inductive OX(c k:η)(p:aD)(o:aO)(H:Hp)(i:Nat)(l:_L.St)(a:Hp):Prop
 |mk(x:V)(h:FC V)(j:aO)(b:l=[↑c,↑k,δ x,h])(d:LQ a x j)(e:j.2.2.ok ξ)(f:wU j (p.drop i)=δ o)(g:aa H a)
def Of(x:V)(X:FA V):aN (x::X) (δ 1) ι=X:=by
 let e:HT.sIx (x::X).length 0 (δ 1)=1:=by unfold HT.sIx;simp
 let E:HT.sIx (x::X).length (x::X).length ι=(x::X).length:=rfl;unfold aN;rw[e,E];simp
def FJ(H:Hp)(f:ρ)(j:FA Int)(s:Sk)(a:Int)(b:η):Prop:=oX H f j s a (.ref b)/\s.ok μ/\s.dep<=15/\s.size<=60
def FJ.same{H c:Hp}{f:ρ}{j:FA Int}{S:Sk}{a:Int}{b:η}(s:aa H c)(h:FJ H f j S a b):FJ c f j S a b:=#[qD h.1$ aa.tm s,h.2]
inductive uI(o:FA V)(H:Hp)(Q:VK)(a:XK):Prop
 |mk(D:DF)(c b z k l j i:η)(f:ρ)(g h:FA Int)(n m:Sk)(d e:Int)(_:o=[.ref c,.ref b,.ref z])(_:FJ H f g n d c)(_:FJ H f h m e b)(_:Dt D f n)(_:Dt D f m)(_:Lt H z k l j i (d9 m [] n.steps 0 [] 0))(_:∀(H':Hp),aa H H'->Q (.bl μ) H')
def ui:al ["_law_chain","_law_path","_law_step","_law_k"] ["_law_chain","_law_path"] (ae IH):=bP
def HK{f:η}{fd:dN}(F:Fr K "_law_at" IH f fd):⇑1 f fd ["_law_chain","_law_path"] uF:=by
 erw[F.ok ui λc0 A C s H vs Q E hr h=>?_]
 let(c,D,f,is,s,a,p,o,rfl,hc,n,r,G,q):=h;erw[_,%[ui|_ce2lIh0h1pcDOgTAα1xjQi3de2lIhlIlI2jpjp3pdk2],?_];let(k,t,o1,rfl,hk,hf):=G;let(_,g,e,ss,ec,h1,h2,h3,h4):=hc;cases ec;let l1:=zF n h4;let h5:=(ν.mp hk).1;obtain⟨X,u⟩:∃X,ss[k]?=δ X:=#[_,RI P'];let(n0,I,w0,q0,h0,u0,t1,t2,t3,t4,rfl,t6,t7,t8):=qx n h4 u;rw[hk]at t1;cases t1;erw[aj λF1 v=>(ju h1 iI$ ju r fV #[e,11122,aC.of h3,jO u,v _ _ ?_])];erw[aj λF1 v=>db λJ jj=>#[1212,D,12,r,λL H1 b B=>#[L,Z,#[_,aC.of b],jj _ _ ?_]]];let b:H1 L= ~~~(aN (Da (k:Int)::t.map Da) (δ 1) ι):=b;rw[Of]at b;erw[qQ (K:=K) (a:=L) (xs:=t.map Da) (OX c D t o H1) #[.ref q0,ι,(n0,I,w0),Z,#[q0,h0,u0,Z,B _ _ t6,B _ _ t7,t8.mono$ aa.tm B],t2,hf,aa.refl _] (λi σ Hx _ h=>?_) ?_ (λσ Hx h=>v _ _ ?_)]
 .let(_,_,_,_,_,_,_,s7):=h;rwa[aC.of$ s7 _ _ b]
 .intro E rt i x σ H2 hx fE Gq m h;obtain⟨xc,o3,oi,rfl,⟨q2,h6,u2,rfl,j1,j2,j3⟩,O,d,M⟩:=h;erw[m ?_];rw[RX]at hx;let(kk,N,rfl):=cJ.mp hx;let hd:t.drop i=kk::t.drop (i+1):=by let(hi,ek):=ν.mp N;rw[<- ek,Tl]
  rw[hd]at d;let(j,o',rfl,y,T):=se d;let(n2,h7,w2):=oi;cases w2 with
  |cl f2 i0 S a2=>let(x3,c3,g3,e3,U,rfl,k1,k2,k3,k4,k5):=j3;let y:S.steps[j]?=δ o':=y;let z:S.ok μ:=O;let l0:=zF z k5;let h8:=(ν.mp y).1;obtain⟨x0,l⟩:∃X,U[j]?=δ X:=#[_,RI P'];let(n4,W,w4,q4,Y,u4,R,r2,r3,r4,rfl,r6,r7,r8):=qx z k5 l;rw[y]at R;cases R;exact(ju j1 iI #[x3,11122,aC.of k1,hZ,c3,11122,aC.of k2,iI,12,e3,11122,aC.of k4,jO l,fE _ _ #[11,(n4,W,w4),Z,#[q4,Y,u4,Z,r6,r7,r8],r2,T,M]])
  |nil |st _ _ _ _=>rwa[O.elim]
  |ask _ |rd _ _ |wr _ _=>rwa[absurd y (by simp [fo])]
 .let(xc,o3,oi,rfl,st,O,d,M):=h;rw[RJ,List.drop_length]at d;cases d;rwa[12,q _ _ st$ B.trans M]
def uj:al ["_law_old","_law_new","_law_told","_law_pairs","_law_news","_law_olds"] ["_law_old","_law_new","_law_told"] (ae DU):=bP
noncomputable def wF:gO:=#[.function,[(".0",.local),("_law_pair",.local)],ξ,ξ,[]]
def yB:(z6z:FA ρ).Nodup:=P8
def xC:a5 ["_law_old","_law_new","_law_told","_law_pairs","_law_news","_law_olds"] (ae DU) wF z6z 1 []:=pe
def HQ{f:η}{fd:dN}{fA:η}{f0:dN}(F:Fr K "_law_all_once" DU f fd)(cA:{18} fA f0 z17z (iF 17) "_law_all_in")(m0:mg "sorted"=ι):⇑40 f fd ["_law_old","_law_new","_law_told"] uI:=by
 erw[F.ok uj λc0 A o0 s H vs Q E hr h=>?_]
 symm;let(D,c,b,z,lK,lT,lF,lD,f',is,js,so,sk,a0,a1,rfl,a,G,d0,d1,hL,q):=h;erw[_,%[uj|_ce3nρh2h2ce4nρ (@km _ _ _ _ _ _ _ z6z 1 [] _ _ _ _ Z (jZ$ pv 3) xC (λ_ _ _ _ _=>jr (i:=0) yB Z$ Θ Z) (λ_ _ _ _ _=>@kG _) (λ_ _ _ _ _=>%[uj|_ζ (r:=dY K) _I0jp]) FO) _h2ce5nρ (@km _ _ _ _ _ _ _ z6z 1 [] _ _ _ _ Z (jZ$ pv 3) xC (λ_ _ _ _ _=>jr (i:=0) yB Z$ Θ Z) (λ_ _ _ _ _=>@kG _) (λ_ _ _ _ _=>%[uj|_ζ (r:=dY K) _I0jp]) FO) _h2dk (Aa (qZ (ZK$ Ls hr) %[uj|_C kQ _gβωa4b] (cA.e hr.m %[uj|_a1afbb])$ aF _)$ Ae$ qZ (ZK$ Ls hr) %[uj|_C kQ _gβωa5b] (cA.e hr.m %[uj|_a0afbb])$ aF _)],?_];let b0:=aI;let pn:=sW G.2.1 so.steps;let po:=sX G.2.1 a.2.1 d0 d1;let wn:=kI G.2.1 [] 0;let wo:=kI a.2.1 [] 0;let ln:=pn.length_eq;let lo:=po.length_eq;let zn:=G.2.2.2;let zo:=a.2.2.2;rw[RJ]at ln lo;generalize hy:d9 sk [] so.steps 0 [] 0=y at hL pn po ln lo;symm;obtain⟨hz,⟨X,hk,lk⟩,⟨I,ht,lt⟩,⟨xf,hf,lf⟩,⟨xd,hd,ld⟩,_,_⟩:=hL;let ek:=lk.len;let et:=lt.len;let ef:=lf.len;let ed:=ld.len;let e1:(Hl y).length=ο y.k+ο y.t+ο y.f:=by unfold Hl;rw[RN,RJ,RN]
 let e2:(Ho y).length=ο y.k+ο y.t+ο y.d:=by unfold Ho;rw[RN,RJ,RN]
 sleep 3;erw[aj λF1 J=>(ju hz fV$ ju hz hZ #[lK,lT,1122,hk,ht,P',λl1 n1=>J _ _ ?_])];left;let M:aa H (af H l1$ .lst$ X++I):=je n1;let j:af H l1 (.lst$ X++I) l1=(X++I)⁻¹:=jc;generalize af H l1 (.lst$ X++I)=H1 at M j ⊢;let l0:aV mj H1 (y.k++y.t) (X++I):=aV.app (lt.mono bK$ aa.tm M) (lk.mono bK$ aa.tm M);let lx:(X++I).length=ο y.k+ο y.t:=by rw[RN];omega
 erw[aj λF1 J=>#[12,l1,Z,#[_,aE.of j],zi (K:=K) (xs:=X++I) P' (λi g o=>o=H1/\aV eI H1 (((y.k++y.t).take i).map (·.2)) g) #[22] (λi g o h=>?_) (λi x g o hx h=>?_) λg o h l2 n2=>?_]]
 .symm;let(rfl,h):=h;rwa[aE.of j,by rw[h.len,RJ,Se];rwa[T5 _ _]]
 .symm;let(rfl,h):=h;let(pr,N,v,pa,pb,rfl,O,g2,g3):=l0.at hx;erw[(ju O hZ #[Z,?_])];rw[SG,N,RP];rwa[aV.app (aV.one (R:=eI) #[pb,Z,g3]) h]
 symm;let(rfl,h):=h;rw[lx,<- RN,Su]at h;let s2:aa o (af o l2$ .lst g):=je n2;let lz:=h.len;rw[RJ,RN]at lz;erw[(ju (s2 _ _$ M _ _ hz) iI #[l2,lF,1122,jc,s2 _ _$ M _ _ hf,P',λl3 n3=>J _ _ ?_])];left;let T:aa o (af (af o l2$ .lst g) l3$ .lst$ g++xf):=s2.trans (je n3);let e3:af (af o l2$ .lst g) l3 (.lst$ g++xf) l3=(g++xf)⁻¹:=jc;generalize af (af o l2$ .lst g) l3 (.lst$ g++xf)=H3 at T e3 ⊢;let la:aV eI H3 (Hl y) (g++xf):=aV.app (lf.mono aL$ aa.tm$ M.trans T) (h.mono aL$ aa.tm T);let S3:=M.trans T;erw[aj λF1 J=>#[12,l1,Z,#[_,aE.of$ T _ _ j],zi (K:=K) (xs:=X++I) P' (λi Y u=>u=H3/\aV eI H3 (((y.k++y.t).take i).map (·.1)) Y) #[22] (λi Y u h=>?_) (λi x Y u hx h=>?_) λY u h l4 n4=>?_]]
 .symm;let(rfl,h):=h;rwa[aE.of$ T _ _ j,by rw[h.len,RJ,Se];rwa[T5 _ _]]
 .symm;let(rfl,h):=h;let(pr,N,v,pa,pb,rfl,O,g2,g3):=(l0.mono bK$ aa.tm T).at hx;erw[(ju O fV #[Z,?_])];rw[SG,N,RP];rwa[aV.app (aV.one (R:=eI) #[pa,Z,g2]) h]
 symm;let(rfl,h):=h;rw[lx,<- RN,Su]at h;let s5:aa u (af u l4$ .lst Y):=je n4;let ly:=h.len;rw[RJ,RN]at ly;erw[(ju (s5 _ _$ S3 _ _ hz) Od #[l4,lD,1122,jc,s5 _ _$ S3 _ _ hd,P',λl5 n5=>J _ _ ?_])];left;let s6:aa u (af (af u l4$ .lst Y) l5$ .lst$ Y++xd):=s5.trans (je n5);let e5:af (af u l4$ .lst Y) l5 (.lst$ Y++xd) l5=(Y++xd)⁻¹:=jc;generalize af (af u l4$ .lst Y) l5 (.lst$ Y++xd)=H5 at s6 e5 ⊢;let S5:=S3.trans s6;let lb:aV eI H5 (Ho y) (Y++xd):=aV.app (ld.mono aL$ aa.tm S5) (h.mono aL$ aa.tm s6);replace la:=la.mono aL (aa.tm s6);let e3:=s6 _ _ e3;let sn:=Je G.2.1 [] 0;let s':=Je a.2.1 [] 0;erw[12,l3,g++xf,Hl y,Z,aE.of e3,la.len,by rw[RN];omega,λi x p j B=>?_,pn.nodup_iff.mpr$ zT sn,λL l rs n6 O g2 g3 g4=>?_]
 .symm;let(p',n,v,U,V):=la.at j;rw[B]at n;cases n;rwa[v,U,V,K8$ pn.mem_iff.mp$ Sc B]
 let er:rs=(sk.ws [] 0).map (·.1):=ZA g2 sn (O.trans pn);symm;subst er;let lw:aV eI H5 ((sk.ws [] 0).map (·.1)) l:=sQ g3 λi x p j B=>let #[v,U,V,_]:=g4 i x p j B;#[v,U,V]
 let s7:aa H5 (af H5 L$ .lst l):=je n6;let e7:af H5 L (.lst l) L=l⁻¹:=jc;right;generalize af H5 L (.lst l)=H7 at s7 e7 ⊢;let S7:=S5.trans s7;erw[12,by show 0<=υ;decide,λt nt=>?_];let s8:aa H7 (af H7 t$ .tup []):=je nt;let e8:af H7 t (.tup []) t= ~~~[]:=jc;generalize af H7 t (.tup [])=H8 at s8 e8 ⊢;let S8:=S7.trans s8;let c8:=(G.same S8);erw[t,[],f',js,sk,a1,12,e8,Ra,c8.1,G.2.1,by let:=G.2.2.1;omega,P',λr xs H9 nr h3 lr s9=>?_];let l9:=(lw.mono aL$ aa.tm ((s7.trans s8).trans s9));symm;let(q1,q2):=l9.sm wK lr;erw[L,r,l,xs,22,s9 _ _$ s8 _ _ e7,h3,q1,q2,?_];let S9:=S8.trans s9;let l8:=lb.mono aL (aa.tm ((s7.trans s8).trans s9));let e6:=s9 _ _ (s8 _ _$ s7 _ _ e5);erw[μ,Z,cw Z ?_];erw[12,l5,Y++xd,Ho y,Z,aE.of e6,l8.len,by rw[RN];omega,λi x p j B=>?_,po.nodup_iff.mpr$ zT s',λL W rs n0 O g2 g3 g4=>?_]
 .symm;let(p',n,v,U,V):=l8.at j;rw[B]at n;cases n;rwa[v,U,V,K8$ po.mem_iff.mp$ Sc B]
 let er:rs=(so.ws [] 0).map (·.1):=ZA g2 s' (O.trans po);symm;subst er;let lv:aV eI H9 ((so.ws [] 0).map (·.1)) W:=sQ g3 λi x p j B=>let #[v,U,V,_]:=g4 i x p j B;#[v,U,V]
 let s0:aa H9 (af H9 L$ .lst W):=je n0;let e0:af H9 L (.lst W) L=W⁻¹:=jc;right;generalize af H9 L (.lst W)=C at s0 e0 ⊢;erw[12,by show 0<=υ;decide,λt nt=>?_];let S:aa C (af C t$ .tup []):=je nt;let e4:af C t (.tup []) t= ~~~[]:=jc;generalize af C t (.tup [])=H0 at S e4 ⊢;let S1:=(S9.trans s0).trans S;erw[t,[],f',is,so,a0,12,e4,Ra,(a.same S1).1,a.2.1,by let:=a.2.2.1;omega,P',λr' x0 H2 n7 h0 l' s4=>?_];symm;let(q1,q2):=(lv.mono aL$ aa.tm ((s0.trans S).trans s4)).sm wK l';rwa[L,r',W,x0,22,s4 _ _$ S _ _ e0,h0,q1,q2,q _$ S1.trans s4]
abbrev Az:de:=bN 81
structure LS(K:γ):Prop where
 tt:kitOne K (.type "tuple") (.type "tuple")=δ μ
 ll:kitOne K (.type "list") (.type "list")=δ μ
def X2{K:γ}{H:Hp}{Q:VK}{l:η}{X:FA V}{a q:FA aD}(g:H l=X⁻¹)(L:aV eI H a X)(j:ο a < 64)(s:lY q)(f:a.Perm q)(n:∀p∈a,p≠[])(k:∀(r:η) (W:FA V),H r=ι->aV eI H q W->Q (.ref r) (af H r$ .lst W)):pW K [.ref l] H Q:=by
 erw[l,X,a,Z,aE.of g,L.len,by rw[L.len];rwa[j],λi x p c b=>?_,f.nodup_iff.mpr$ zT s,λr W R N G m g3 o=>?_]
 .let(t,h,y,d,e):=L.at c;rw[b]at h;cases h;rwa[y,d,e,n p$ Sc b]
 let E:R=q:=ZA m s (G.trans f);subst E;rwa[k r W N (sQ g3 λi x p c b=>let #[y,d,e,_]:=o i x p c b;#[y,d,e])]
structure O4(y:Ly)(M:FA md):Prop where
 sf:lY y.f
 sd:lY y.d
 sk:lY (y.k.map (·.2))
 st:lY (y.t.map (·.2))
 m1:lY (M.map (·.1))
 m2:lY (M.map (·.2))
 pm:((y.k++y.t).map λx=>(x.2,x.1)).Perm M
 nf:∀p∈y.f,p≠[]
 nd:∀p∈y.d,p≠[]
 n2:∀p∈y.k++y.t,p.2≠[]
 n1:∀p∈y.k++y.t,p.1≠[]
 ln:ο y.k+ο y.t+ο y.f<=60
 lo:ο y.k+ο y.t+ο y.d<=60
def Ii{D:DF}{f:ρ}{s so:Sk}(o:s.ok μ)(O:so.ok μ)(i:Dt D f so)(j:Dt D f s)(q:s.size<=60)(r:so.size<=60):O4 (d9 s [] so.steps 0 [] 0) (pf s [] so.steps 0 [] 0):=by
 let pn:=sW o so.steps;let po:=sX o O i j;let l:=pn.length_eq;let lo:=po.length_eq;rw[RJ,kI o [] 0]at l;rw[RJ,kI O [] 0]at lo;let S:=Je o [] 0;let c:=Je O [] 0;let W:=KN o so.steps 0 [] 0 (λz=>nomatch z);rw[<- W]at S;let(E,n,u):=K7 s [] so.steps 0 [] 0;let e:=Xg (D:=D) (b:=μ) (s:=s) o (f:=f) (so:=so) (po:=[]) (pn:=[]) (m:=0) (k:=0) (L:=iZ s [] so.steps 0) O i j (λg I t a z=>by rw[z]at o;rwa[o.elim]) (λz=>nomatch z) λp _=>Wn;let H:=(qr s [] so.steps 0 [] 0).map (λx:md=>(x.2,x.1));rw[Ts]at H;let d:(pf s [] so.steps 0 [] 0).map ((λx:md=>(x.2,x.1)) ∘ λx:md=>(x.2,x.1))=pf s [] so.steps 0 [] 0:=List.map_id _;rw[d]at H;erw[(Yv (b:=μ) (s:=s) o [] so.steps 0 [] 0).1,?_,?_,?_,UT (Jb s [] so.steps 0 [] 0) S,?_,H,λp h=>?_,λp h=>?_,λp h=>?_,λp h=>?_,?_,?_]
 .rw[e,Tu,<- zB O];rwa[UT Wl c]
 .rw[E];rwa[UT (uq 0 _) S]
 .rw[n];rwa[UT (uq 1 _) S]
 .rw[Ja];rwa[J7 s [] so.steps 0]
 .rwa[K8$ pn.mem_iff.mp$ R3 _ h]
 .rwa[K8$ po.mem_iff.mp$ R3 _ h]
 .rwa[K8$ pn.mem_iff.mp$ Sr _$ β.mpr #[p,h,Z]]
 .rwa[K8$ po.mem_iff.mp$ Sr _$ β.mpr #[p,h,Z]]
 .unfold Hl at l;rw[RN,RJ,RN]at l;omega
 .unfold Ho at lo;rw[RN,RJ,RN]at lo;omega
theorem yw{b:Type}{R:RA b}{H:Hp}:∀{W:FA b} {a:FA V},ο a=ο W->(∀(i:Nat) (x:V) (p:b),a[i]?=δ x->W[i]?=δ p->R H x p)->aV R H W a
 | [],[],_,_=>rfl
 | [],_::_,e,_ |_::_,[],e,_=>by cases e
 |w::W,v::a,e,h=>#[v,a,Z,h 0 v w Z Z,yw (e:) λi x p c d=>h (i+1) x p (c:) (d:)]
def Cp{a b:FA md}(c:a.Pairwise λx y=>dJ x.1 y.1=μ)(d:b.Pairwise λx y=>dJ x.1 y.1=μ)(h:a.Perm b):a=b:=
 h.eq_of_pairwise (λx y _ _ e H=>by rw[JJ e]at H;cases H) c d
def Oi(a b c d:V):aN [a,b,c,d] ι (δ 2)=[a,b]:=rfl
inductive uE(f:FA V)(H:Hp)(Q:VK)(a:XK):Prop
 |mk(z d e c b:η)(y:Ly)(M:FA md)(_:f=[.ref z])(_:Lt H z d e c b y)(_:O4 y M)(_:∀(H':Hp),aa H H'->Q (.bl μ) H')
def Yp{X:Cx}{K:γ}(h:X.K=K):dy X (.builtin "isinstance") (qg K):=by subst h;rwa[Zf]
def uh:al z37z ["_law_told"] (ae Az):=bP
noncomputable def wB:gO:=#[.function,[(".0",.local),("_law_pair",.local)],ξ,ξ,[]]
def X3:(z6z:FA ρ).Nodup:=P8
def X4:a5 z37z (ae Az) wB z6z 1 []:=pe
noncomputable def wC:gO:=#[.function,[(".0",.local),("_law_pair",.local),("isinstance",.globalImplicit),("tuple",.globalImplicit)],ξ,ξ,[]]
def Hc:(z6z:FA ρ).Nodup:=P8
def F8:a5 z37z (ae Az) wC z6z 1 []:=pe
def HJ{f:η}{fd:dN}(F:Fr K "_law_in_order" Az f fd)(tk:LS K)(I:mg "sorted"=ι)(m0:mg "isinstance"=ι)(m4:mg "tuple"=ι)(m5:mg "all"=ι):⇑40 f fd ["_law_told"] uE:=by
 erw[F.ok uh λc1 A o0 s H vs Q E hr h=>?_]
 symm;let(z,lK,lT,lF,lD,y,M,rfl,hL,g,q):=h;erw[_,%[uh|_cm (PW.pt %[uh|_μu (ZJ$ Ls hr) _h0C kQ _g I _ωah0bw _ _ςu (ZJ$ Ls hr) _h0C kQ _g I _ωah0bw _]) _dk (@Kf _ _ _ _) _scDOgTAα0Qxji1dmu (ZJ$ Ls hr) (@km _ _ _ _ _ _ _ z6z 1 [] _ _ _ _ Z (jZ$ pv 1) X4 (λ_ _ _ _ _=>jr (i:=0) X3 Z$ Θ Z) (λ_ _ _ _ _=>@kG _) (λ_ _ _ _ _=>%[uh|_ζ (r:=dY K) _I0jp]) FO) _C kQ _g I _ωa (@km _ _ _ _ _ _ _ z6z 1 [] _ _ _ _ Z (jZ$ pv 1) X4 (λ_ _ _ _ _=>jr (i:=0) X3 Z$ Θ Z) (λ_ _ _ _ _=>@kG _) (λ_ _ _ _ _=>%[uh|_ζ (r:=dY K) _I0jp]) FO) _bw _ _dk (@Kf _ _ _ _) _sce2C (Yo$ Op hr) _g I _ωa (@km _ _ _ _ _ _ _ z6z 1 [] _ _ _ _ Z %[uh|_Lnρh0h0] X4 (λ_ _ _ _ _=>jr (i:=0) X3 Z$ Θ Z) (λ_ _ _ _ _=>@kG _) (λ_ _ _ _ _=>%[uh|_faζ (r:=dY K) _I0jpaζ (r:=dY K) _I0jpb]) FO) _bc (@Jy _ _ _ _ _ _ _ _ _ _ 3 z6z 1 [] _ _ _ _ uh.nd Z (Θ Z) Z (jZ$ pv 2) X4 (λ_ _ _ _ _=>jr (i:=0) X3 Z$ Θ Z) (λ_ _ _ _ _=>@kG _) (λ_ _ _ _ _=>%[uh|_ζ (r:=dY K) _I0jp]) P7 FL FO) _dk (Aa (qZ (ZK$ Ls hr) (pv 3) (jJ kQ Z I Up %[uh|_a3b])$ aF _)$ Ae$ jJ (xu Z) Z m5 boot_all$ ja (@km _ _ _ _ _ _ _ z6z 1 [] _ _ _ _ Z %[uh|_Lnρh0h0] F8 (λ_ _ _ _ _=>jr (i:=0) Hc Z$ Θ Z) (λ_ _ _ _ _=>@kG _) (λ_ _ _ _ _=>jJ (Yp (K:=K) Z) Z m0 boot_isinstance %[uh|_a0a (Dx (v:=.ty "tuple") Z m4 TQ Z) _b]) FO) jb)],?_];let b0:=aI;symm;obtain⟨hz,⟨X,hk,lk⟩,⟨m,ht,lt⟩,⟨xf,hf,lf⟩,⟨xd,hd,ld⟩,_,_⟩:=hL;let ek:=lk.len;let et:=lt.len;let ef:=lf.len;let ed:=ld.len;let l1:=g.ln;let L:=g.lo;sleep 4;erw[aj λF1 C=>iX λG1 yT yF=>(ju hz iI$ ju hz iI$ X2 hf lf P' g.sf (Tt _) g.nf λr W nr lw=>?_)];let S:aa H (af H r$ .lst W):=je nr;let e1:af H r (.lst W) r=W⁻¹:=jc;let m1:=(lf.mono aL$ aa.tm S).sm wK (lw.mono aL$ aa.tm S);generalize af H r (.lst W)=H1 at S e1 m1 ⊢;erw[lF,r,xf,W,22,S _ _ hf,e1,m1.1,m1.2,12,aW Z$ ju (S _ _ hz) Od$ ju (S _ _ hz) Od$ X2 (S _ _ hd) (ld.mono aL$ aa.tm S) P' g.sd (Tt _) g.nd λr' N n0 l5=>?_];let s2:aa H1 (af H1 r'$ .lst N):=je n0;let e2:af H1 r' (.lst N) r'=N⁻¹:=jc;let m2:=(ld.mono aL$ aa.tm$ S.trans s2).sm wK (l5.mono aL$ aa.tm s2);generalize af H1 r' (.lst N)=H2 at s2 e2 m2 ⊢;let S2:=S.trans s2;erw[lD,r',xd,N,22,S2 _ _ hd,e2,m2.1,m2.2,12,yF _$ C _ _ ?_];erw[aj λF1 C=>db λJ jj=>#[1212,z,12,S2 _ _ hz,λr1 H3 h0 s3=>#[r1,Z,#[_,aC.of h0],jj _ _ ?_]]];rw[Oi]at h0;let S3:=S2.trans s3;erw[qQ (K:=K) (a:=r1) (xs:=[.ref lK,.ref lT]) (λ_ σ d=>(∃o1,σ=[↑z,o1,ι,ι])/\aa H3 d) #[#[12],aa.refl _] (λi σ d _ h=>aC.of (h.2 _ _ h0)) ?_ (λσ d h=>C _ _ ?_)]
 .left;intro E rt i x σ H4 hx fE Gq kq h;symm;obtain⟨⟨o1,rfl⟩,s4⟩:=h;erw[kq ?_];let O:=S3.trans s4;obtain⟨l,Y,n,rfl,hl,lq,sq,l',nq⟩:∃(l:η) (Y:FA V) (n:FA md),x= .ref l/\H4 l=Y⁻¹/\aV mj H4 n Y/\lY (n.map (·.2))/\ο n<=60/\∀p∈n.map (·.2),p≠[]:=by
   symm;rcases ω.mp (Sc hx) with rfl |hx
   .erw[#[lK,X,y.k,Z,O _ _ hk,lk.mono bK$ aa.tm O,g.sk,P',λp hp=>?_]];symm;let(q',hq,rfl):=β.mp hp;rwa[g.n2 _$ Sr _ hq]
   .cases τ.mp hx;erw[lT,m,y.t,Z,O _ _ ht,lt.mono bK$ aa.tm O,g.st,P',λp hp=>?_];symm;let(q',hq,rfl):=β.mp hp;rwa[g.n2 _$ R3 _ hq]
  let l0:=lq.len;let c0:∀(j:Hp),aa H4 j->∀(i:Nat) (v:V),Y[i]?=δ v->∃pr pa u y',n[i]?=δ pr/\v= .ref y'/\j y'= ~~~[.ref pa,.ref u]/\j u= ~~~(pr.2.map Da):=λj o i v hv=>by let(pr,e,y',pa,u,rfl,G,g2,g3):=lq.at hv;rwa[pr,pa,u,y',e,Z,o _ _ G,o _ _ g3]
  show gY _ _ _ E [↑z,↑l,ι,ι] H4;erw[iX λG1 yT yF=>#[12,l,Z,#[_,aE.of hl],zi (K:=K) (xs:=Y) P' (λi c d=>d=H4/\aV eI H4 ((n.take i).map (·.2)) c) #[22] (λi c d h=>?_) (λi x c d hx h=>?_) (λc d h L n2=>?_)]]
  .symm;let(rfl,h):=h;rwa[aE.of hl,by rw[h.len,RJ,Se];rwa[T5 _ _]]
  .symm;let(rfl,h):=h;let(pr,pa,u,y',e,rfl,G,g3):=c0 _ (aa.refl _) i x hx;erw[(ju G hZ #[Z,?_])];rw[SG,e,RP];rwa[aV.app (aV.one (R:=eI) #[u,Z,g3]) h]
  symm;let(rfl,h):=h;rw[l0,Su]at h;let o:aa d (af d L$ .lst c):=je n2;let e5:af d L (.lst c) L=c⁻¹:=jc;replace h:=h.mono aL (aa.tm o);right;generalize af d L (.lst c)=j at o e5 h ⊢;erw[12,l,Z,#[_,aE.of$ o _ _ hl],zi (K:=K) (xs:=Y) P' (λi c B=>B=j/\aV eI j ((n.take i).map (·.2)) c) #[22] (λi c B h=>?_) (λi x c B hx h=>?_) (λz0 B h' l3 n3=>?_)]
  .symm;let(rfl,h):=h;rwa[aE.of$ o _ _ hl,by rw[h.len,RJ,Se];rwa[T5 _ _]]
  .symm;let(rfl,h):=h;let(pr,pa,u,y',e,rfl,G,g3):=c0 _ o i x hx;erw[(ju G hZ #[Z,?_])];rw[SG,e,RP];rwa[aV.app (aV.one (R:=eI) #[u,Z,g3]) h]
  symm;let(rfl,h'):=h';rw[l0,Su]at h';let D:aa B (af B l3$ .lst z0):=je n3;let e6:af B l3 (.lst z0) l3=z0⁻¹:=jc;replace h':=h'.mono aL (aa.tm D);right;generalize af B l3 (.lst z0)=H7 at D e6 h' ⊢;erw[X2 e6 h' (by rw[RJ];omega) sq (Tt _) nq λr W nr lw=>?_];let s7:aa H7 (af H7 r$ .lst W):=je nr;let e7:af H7 r (.lst W) r=W⁻¹:=jc;let m3:=(h.mono aL$ aa.tm$ D.trans s7).sm wK (lw.mono aL$ aa.tm s7);generalize af H7 r (.lst W)=H8 at s7 e7 m3 ⊢;rwa[L,r,c,W,22,s7 _ _$ D _ _ e5,e7,m3.1,m3.2,12,yF _$ fE _ _ #[#[12],((s4.trans o).trans D).trans s7]]
 symm;obtain⟨⟨o1,rfl⟩,s4⟩:=h;left;let O:=S3.trans s4;let T:aV mj d (y.k++y.t) (X++m):=aV.app (lt.mono bK$ aa.tm O) (lk.mono bK$ aa.tm O);let lx:(X++m).length=(y.k++y.t).length:=by rw[RN,RN];omega
 let a0:(y.k++y.t).length=ο y.k+ο y.t:=RN;let h4:=O _ _ hk;let h5:=O _ _ ht;let h3:=O _ _ hz;erw[aj λF1 C=>(ju h3 fV$ ju h3 hZ #[lK,lT,1122,h4,h5,P',λl1 n1=>?_])];let S:aa d (af d l1$ .lst$ X++m):=je n1;let h1:af d l1 (.lst$ X++m) l1=(X++m)⁻¹:=jc;replace T:=T.mono bK (aa.tm S);generalize af d l1 (.lst$ X++m)=H1 at S h1 T ⊢;erw[l1,Z,#[_,aE.of h1],zi (K:=K) (xs:=X++m) P' (λi c d=>aa H1 d/\aV mj d (((y.k++y.t).take i).map λx=>(x.2,x.1)) c) #[aa.refl _,Z] (λi c d h=>?_) (λi x c d hx h=>?_) λc H2 h L n2=>?_]
 .symm;let(s,h):=h;rwa[aE.of$ s _ _ h1,by rw[h.len,RJ,Se];rwa[T5 _ _]]
 .symm;let(s,h):=h;let(pr,e,y',pa,u,rfl,G,g2,g3):=(T.mono bK$ aa.tm s).at hx;erw[(ju G hZ$ ju G fV #[by show 2<=υ;decide,λt nt=>#[s.trans$ je nt,?_]])];rw[SG,e,RP];rwa[aV.app (aV.one (R:=mj) #[t,u,pa,Z,jc,je nt _ _ g3,je nt _ _ g2])$ h.mono bK$ aa.tm$ je nt]
 symm;let(s2,h):=h;rw[lx,Su]at h;let s3:aa H2 (af H2 L$ .lst c):=je n2;let e3:af H2 L (.lst c) L=c⁻¹:=jc;replace h:=h.mono bK (aa.tm s3);let S3:=s2.trans s3;right;generalize af H2 L (.lst c)=H3 at s3 e3 h S3 ⊢;let lz:=h.len;rw[RJ]at lz;let nd:(((y.k++y.t).map λx=>(x.2,x.1)).map (·.1)).Nodup:=(g.pm.map (·.1)).nodup_iff.mpr (zT g.m1);erw[L,c,12,aE.of e3,h.len,P',λi v p G g2=>?_,nd,λr W n nr G g2 g3 g4=>C _ _ ?_]
 .symm;let(p',h6,k1):=h.at G;rw[g2]at h6;cases h6;exact let #[q,a,b,e1,e2,e3,e4]:=k1;#[q,a,b,e1,e2,e3,e4]
 left;let em:n=M:=Cp g2 (List.pairwise_map.mp g.m1) (G.trans g.pm);symm;subst em;let lM:aV mj H3 n W:=yw g3 λi x p h1 h2=>let #[q,a,b,e1,e2,e3,e4]:=g4 i x p h1 h2;#[q,a,b,e1,e2,e3,e4]
 let s4:aa H3 (af H3 r$ .lst W):=je nr;let e4:af H3 r (.lst W) r=W⁻¹:=jc;replace lM:=lM.mono bK (aa.tm s4);let S1:=S.trans (S3.trans s4);right;generalize af H3 r (.lst W)=H4 at s4 e4 lM S1 ⊢;let lw:=lM.len;let lq:ο n=(y.k++y.t).length:=by let:=G.length_eq;rw[RJ]at this;rwa[this]
 erw[aj λF1 C=>#[12,r,Z,#[_,aE.of e4],zi (K:=K) (xs:=W) P' (λi c j=>j=H4/\aV eI H4 ((n.take i).map (·.2)) c) #[22] (λi c j h=>?_) (λi x c j hx h=>?_) λos j h l3 n3=>C _ _ ?_]]
 .symm;let(rfl,h):=h;rwa[aE.of e4,by rw[h.len,RJ,Se];rwa[T5 _ _]]
 .symm;let(rfl,h):=h;let(pr,e,y',pa,u,rfl,G,g2,g3):=lM.at hx;erw[(ju G hZ #[Z,?_])];rw[SG,e,RP];rwa[aV.app (aV.one (R:=eI) #[u,Z,g3]) h]
 left;symm;let(rfl,h):=h;rw[lw,Su]at h;let o:aa j (af j l3$ .lst os):=je n3;let e5:af j l3 (.lst os) l3=os⁻¹:=jc;replace h:=h.mono aL (aa.tm o);let S5:=S1.trans o;right;generalize af j l3 (.lst os)=B at o e5 h S5 ⊢;let nm:∀p∈n.map (·.2),p≠[]:=λp hp=>by let(x,hx,rfl):=β.mp hp;let:=g.pm.mem_iff.mpr hx;let(x',h8,rfl):=β.mp this;rwa[g.n1 _ h8]
 erw[1212,X2 e5 h (by rw[RJ];omega) g.m2 (Tt _) nm λr2 U n4 l6=>?_];let D:aa B (af B r2$ .lst U):=je n4;let e6:af B r2 (.lst U) r2=U⁻¹:=jc;let m3:=(h.mono aL$ aa.tm D).sm wK (l6.mono aL$ aa.tm D);let S6:=S5.trans D;generalize af B r2 (.lst U)=H7 at D e6 m3 S6 ⊢;erw[l3,r2,os,U,22,D _ _ e5,e6,m3.1,m3.2,μ,Z,cw Z ?_];let h7:=S6 _ _ h3;erw[(ju h7 fV$ ju h7 hZ #[lK,lT,1122,S6 _ _ h4,S6 _ _ h5,P',λl9 n9=>?_])];let s7:aa H7 (af H7 l9$ .lst$ X++m):=je n9;let e7:af H7 l9 (.lst$ X++m) l9=(X++m)⁻¹:=jc;let l4:=T.mono bK (aa.tm ((((S3.trans s4).trans o).trans D).trans s7));generalize af H7 l9 (.lst$ X++m)=H8 at s7 e7 l4 ⊢;erw[l9,Z,#[_,aE.of e7],zi (K:=K) (xs:=X++m) P' (λi Y H9=>Y=(fJ i μ).map V.bl/\H9=H8) #[22] (λi Y H9 h=>?_) (λi v Y H9 hv h=>?_) λY H9 h l8 n5=>?_]
 .symm;let(rfl,rfl):=h;rwa[aE.of e7,by rw[RJ,Va];rwa[RO _]]
 .symm;let(rfl,rfl):=h;let(pr,e,y',pa,u,rfl,G,g2,g3):=l4.at hv;rwa[121,.ty "tuple",_,.type "tuple",μ,22,.tup G,tk.tt,by rw[List.replicate_succ',RP];rfl,Z]
 symm;let(rfl,rfl):=h;erw[l8,fJ (X++m).length μ,Z,aE.of jc,?_];let e9:(fJ (X++m).length μ).all id=μ:=tT.mpr λx hx=>(List.mem_replicate.mp hx).2;rw[e9];rwa[q _ (((O.trans S6).trans s7).trans$ je n5)]
noncomputable def ma:Nat->ρ
 |0=>"kept"
 |1=>"turned"
 |_=>"fresh"
noncomputable def oq(p:aD):FA a9:=p.map Sum.inl
def iB(L:FA (aD×Nat)):FA (FA a9×V):=L.map λx=>(oq x.1,.str$ ma x.2)
noncomputable def fe(W:FA lW):Nat->FA (aD×Nat)
 |0=>[]
 |i+1=>fe W i++(dj i W).map λp=>(p,i)
def yo(p:aD):(oq p).map kV=p.map Da:=by unfold oq;rw[Ts];rfl
def yn{p q:aD}(h:oq p=oq q):p=q:=by
 let H:=SQ (λl=>l.map λ(k:a9)=>match k with | .inl i=>i | .inr _=>(0:Int)) h;unfold oq at H;simp only[Ts]at H;let e:∀l:aD,l.map ((λ(k:a9)=>match k with | .inl i=>i | .inr _=>(0:Int)) ∘ Sum.inl)=l:=λl=>by
  induction l with
  |nil=>rfl
  |cons a l I=>rw[SN,I];rfl
 rw[e,e]at H;rwa[H]
def Lh{L:FA (aD×Nat)}{p:aD}(h:p∉L.map (·.1)):bV (iB L) (oq p)=ι:=by
 induction L with
 |nil=>rfl
 |cons x L i=>rw[SN,Ua]at h;show bV ((oq x.1,Cv$ ma x.2)::iB L) _=_;rw[ki (λe=>h (.inl (yn e).symm))];rwa[i λz=>h (.inr z)]
def Le{L:FA (aD×Nat)}(n:(L.map (·.1)).Nodup){p:aD}{l:Nat}(h:(p,l)∈L):bV (iB L) (oq p)=δ (.str$ ma l):=by
 induction L with
 |nil=>rwa[nomatch h]
 |cons x L i=>
  rw[SN,WK]at n;show bV ((oq x.1,Cv$ ma x.2)::iB L) _=_;rcases ω.mp h with rfl |h
  .rwa[ky Z]
  .rw[ki (λe=>n.1 (by rw[yn e];rwa[β.mpr #[_,h,Z]]))];rwa[i n.2 h]
def tM{L:FA (aD×Nat)}{p:aD}(l:Nat)(h:p∉L.map (·.1)):a6 (iB L) (oq p) (.str$ ma l)=iB (L++[(p,l)]):=by unfold a6;rw[qP,Lh h];show iB L++_=_;unfold iB;rw[RP];rfl
def EY{L:FA (aD×Nat)}{i:Nat}{k:FA a9}{v:V}(h:(iB L)[i]?=δ (k,v)):∃p l,L[i]?=δ (p,l)/\k=oq p:=by unfold iB at h;rw[RX]at h;let(x,H,a):=cJ.mp h;cases a;rwa[x.1,x.2,H,Z]
def Qm(L:FA (aD×Nat)):(iB L).length=ο L:=RJ _
def Fb(W:FA lW):(fe W 3).map (·.1)=(dj 0 W++dj 1 W)++dj 2 W:=by
 show((([]++_)++_)++_:FA (aD×Nat)).map _=_;rw[TF,RP,RP];let e:∀(i:Nat) (l:FA aD),(l.map λp=>(p,i)).map (·.1)=l:=λi l=>by rw[Ts];rwa[List.map_id _]
 rw[e,e,e]
def sP(W:FA lW){i:Nat}(h:i<=3):∃r,fe W 3=fe W i++r:=by
 rcases(P':i=0∨i=1∨i=2∨i=3) with rfl |rfl |rfl |rfl
 .exact#[fe W 3,Z]
 .exact#[_,SI _ _ _]
 .exact#[12]
 .exact#[[],(Sw _).symm]
def D8{l:Nat}{W:FA lW}{p:aD}:p∈dj l W↔∃w,(p,l,w)∈W:=by
 unfold dj;rw[β];constructor
 .rintro ⟨⟨a,L,w⟩,h,rfl⟩;rw[UX]at h;let e:L=l:=SF h.2;subst e;rwa[w,h.1]
 .rintro ⟨w,h⟩;rwa[(p,l,w),ot.mpr #[h,R0 Z],Z]
def KO{W:FA lW}{p:aD}{l:Nat}:(p,l)∈fe W 3↔l < 3/\∃w,(p,l,w)∈W:=by
 show(p,l)∈((([]++_)++_)++_:FA (aD×Nat))↔_;rw[TF,Tw,Tw];let e:∀i:Nat,(p,l)∈((dj i W).map λp=>(p,i))↔l=i/\∃w,(p,i,w)∈W:=λi=>by rw[β,<- D8];rwa[λ#[q,h,z]=>by cases z;rwa[Z,h],λ#[z,h]=>#[p,h,by rw[z]]]
 rw[e,e,e];constructor
 .rintro ((⟨rfl,h⟩ | ⟨rfl,h⟩) | ⟨rfl,h⟩)
  .exact#[Ra,h]
  .exact#[Ra,h]
  .exact#[Ra,h]
 .rintro ⟨H,h⟩;rcases(P':l=0∨l=1∨l=2) with rfl |rfl |rfl
  .rwa[.inl$ .inl #[Z,h]]
  .rwa[.inl$ .inr #[Z,h]]
  .rwa[.inr #[Z,h]]
structure uX(S:FA aO)(W:FA lW)(y:Ly):Prop where
 k:y.k.map (·.2)=dj 0 W
 t:y.t.map (·.2)=dj 1 W
 f:y.f=dj 2 W
 nd:(W.map (·.1)).Nodup
 lt:∀x∈W,x.2.1 < 3
 fr:∀x∈W,x.2.1=2->NA W x.1
 tr:∀x∈W,x.2.1=1->(∃g is t c,x.2.2= .cl g is t c)->∃y∈W,y.2.1≠0/\∃i q,y.1=x.1++(i:Int)::q
 at':∀x∈W,∃o,Lw S x.1 o/\o.2.2=x.2.2
 ne:∀x∈W,x.1≠[]
 ln:ο W<=60
 pl:∀x∈W,ο x.1<=60
 okw:∀x∈W,x.2.2.ok ξ
section
variable {S:FA aO}{W:FA lW}{y:Ly}
def uX.nd3(h:uX S W y):((fe W 3).map (·.1)).Nodup:=by rw[Fb];exact(JM W h.lt).nodup_iff.mpr h.nd
def uX.fresh(h:uX S W y){i j:Nat}(H:i < 3){p:aD}(a:(dj i W)[j]?=δ p):p∉(fe W i++((dj i W).take j).map λp=>(p,i)).map (·.1):=by
 let(r,e):=sP W (i:=i+1) H;let n:=h.nd3;let E:dj i W=(dj i W).take j++p::(dj i W).drop (j+1):=by let(d,b):=ν.mp a;rw[<- b,Tl,Uf]
 let c:fe W (i+1)=(fe W i++((dj i W).take j).map λp=>(p,i))++(p,i)::((dj i W).drop$ j+1).map λp=>(p,i):=by
  show fe W i++(dj i W).map _=_
  conv=>lhs;rw[E,RP,SN]
  rw[SI]
 rw[e,c,SI,RP,List.nodup_append]at n;intro z;rwa[n.2.2 p z p Sa Z]
def uX.len3(h:uX S W y):(fe W 3).length<=60:=by let e:=SQ hJ (Fb W);let z:=(JM W h.lt).length_eq;rw[RJ]at e z;let:=h.ln;omega
def uX.leni(h:uX S W y){i:Nat}(H:i < 3)(j:Nat):(fe W i++((dj i W).take j).map λp=>(p,i)).length<=60:=by
 let(r,e):=sP W (i:=i+1) H;let e:=SQ hJ e;let a:=h.len3;let E:(fe W$ i+1).length=(fe W i).length+(dj i W).length:=by show(fe W i++(dj i W).map _).length=_;rw[RN,RJ]
 rw[RN]at e;rw[RN,RJ,Se];omega
def uX.wd(h:uX S W y){p:aD}{l:Nat}{w:Sk}(z:(p,l,w)∈W):bV (iB$ fe W 3) (oq p)=δ (.str$ ma l):=Le h.nd3 (KO.mpr #[h.lt _ z,w,z])
end
def Zc{W:FA lW}{i j:Nat}{p:aD}(h:(dj i W)[j]?=δ p):(fe W i++((dj i W).take j).map λp=>(p,i))++[(p,i)]=fe W i++((dj i W).take$ j+1).map λp=>(p,i):=by rw[SG,h,RP,SI];rfl
def ZL(q:aD)(e:Int):aN ((q++[e]).map Da) ι (δ (-1))=q.map Da:=by
 rw[RP];unfold aN;let E:HT.sIx (q.map Da++[e].map Da).length 0 ι=0:=rfl;let a:HT.sIx (q.map Da++[e].map Da).length (q.map Da++[e].map Da).length (δ (-1))=(q.map Da).length:=by unfold HT.sIx;simp;omega
 rw[E,a,Tu,U9];rwa[List.take_left]
def Ge(p:aD)(n:Nat):aN (p.map Da) ι (δ (n:Int))=(p.take n).map Da:=by
 unfold aN;let e:HT.sIx (p.map Da).length 0 ι=0:=rfl;rw[e,Tu,U9,<- Uw,Uw,<- Uw];let E:HT.sIx (p.map Da).length (p.map Da).length (δ (n:Int))=min n p.length:=by unfold HT.sIx;simp;omega
 rw[E];congr 1;rcases Nat.le_total n p.length with h |h
 .rw[TN h]
 .rw[Nat.min_eq_right h,Su,Tk h]
abbrev AD:de:=bN 82
def Yq{a:η}{o:gb}{c:FA (FA a9×V)}{t:TT}{T:TE}{Q:FA V->Hp->Prop}{d:_L.St}{H:Hp}(I:ο c<=υ)(Pv:Nat->FA V->Hp->Prop)(r:Pv 0 [] H)
  (s:∀i Y h,Pv i Y h->h a=δ (.frz o$ .dT c)/\ο Y<=i) (x:∀i b k v Y h,c[i]?=δ (k,v)->h b= ~~~(k.map kV)->Pv i Y h->t (↑b::d) h λB g=>if B=μ then T (↑b::d) g λy z=>Pv (i+1) (Y++[y]) z else Pv (i+1) Y g) (A:∀Y h,Pv c.length Y h->Q Y h):
  eQ (wY a o c) 1 d (bo 0) t T Q H:=by
 erw[λi m Y h=>m=ο c - i/\i<=ο c/\Pv i Y h,#[c.length,P9,R4 _,r],?_];intro i m Y h j;let(rfl,L,p):=j;let(q,M):=s i Y h p;by_cases f:i < ο c
 .erw[.inr #[#[f,q],P',Pv$ i+1,λC g D=>#[ο c - (i+1),P',Z,f,D],λv g N l y=>?_]];let(e,b,k,u,E,F,G):=y;subst e;subst F;let(w,rfl):=vE l;rwa[#[[δ _],22],x i b k u Y _ E G p]
 .let e:i=ο c:=by omega
  subst e;rwa[.inl #[#[Z,q],A Y h p]]
def XG{S:FA aO}{W:FA lW}{y:Ly}(h:uX S W y){p:aD}{l:Nat}{w:Sk}(c:(p,l,w)∈W){H:Hp}{a b:η}{o:gb}(e:H a=δ (.frz o$ .dT$ iB$ fe W 3))(E:H b= ~~~(p.map Da)):gg H a (.ref b) (δ$ .str$ ma l):=.inr #[_,oq p,b,.inr #[o,e],Z,by rw[yo];rwa[E],(h.wd c).symm]
def Pe{l:Nat}(h:l < 3)(n:l≠0):decide (Cv (ma l)=Cv "kept")=ξ:=by rcases(P':l=1∨l=2) with rfl |rfl<;>decide+kernel
def Po:decide (Cv (ma 0)=Cv "kept")=μ:=P8
def Pd{l:Nat}(h:l < 3)(n:l≠2):decide (Cv (ma l)=Cv "fresh")=ξ:=by rcases(P':l=0∨l=1) with rfl |rfl<;>decide+kernel
def Ol:decide (Cv (ma 2)=Cv "fresh")=μ:=P8
def Pp{l:Nat}(h:l < 3)(n:l≠1):decide (Cv (ma l)=Cv "turned")=ξ:=by rcases(P':l=0∨l=2) with rfl |rfl<;>decide+kernel
def Pq:decide (Cv (ma 1)=Cv "turned")=μ:=P8
def Pr{l:Nat}(h:l < 3)(n:l≠0):δ (Cv$ ma l)≠δ (Cv$ ma 0):=by rcases(P':l=1∨l=2) with rfl |rfl<;>decide+kernel
def Nt{a b:aD}:ie (.tp$ aG$ a.map aH) (.tp$ aG$ b.map aH)=decide (a=b):=by
 by_cases h:a=b
 .rw[h,zW Z,R0 Z]
 .rw[zC (λe=>h (JL (by injection e))),RW h]
def tJ(p:aD):(aG$ p.map aH).dep < 10:=by rw[qS];decide
noncomputable def EV(p a:aD):Bool:=decide (a.take (ο p)=p)&&!decide (a=p)
def CO{p q:aD}{i:Int}:EV p (p++i::q)=μ:=by
 unfold EV;rw[List.take_left,R0 Z,RW]
 .rfl
 .intro z;let:=SQ hJ z;rw[RN,So]at this;omega
def J'{L:FA (aD×Nat)}{i l:Nat}{p:aD}(P:aD->Bool)(h:L[i]?=δ (p,l)):((L.take$ i+1).map (·.1)).filter P=((L.take i).map (·.1)).filter P++(if P p=μ then [p] else []):=by
 rw[SG,h,RP,U1];congr 1;show List.filter P [p]=_;by_cases H:P p=μ
 .rw[RV H,VI H];rfl
 .rw[RU H,VJ H];rfl
inductive uG(k:FA V)(H:Hp)(Q:VK)(c:XK):Prop
 |mk(b z h i g e:η)(f:ρ)(d:FA Int)(j:Sk)(a:Int)(y:Ly)(W:FA lW)(_:k=[.ref b,.ref z])(_:oX H f d j a (.ref b))(_:j.ok μ)(_:Lt H z h i g e y)(_:uX j.steps W y)(_:∀(H':Hp),aa H H'->Q (.bl μ) H')
def f8:al z38z ["_law_new","_law_told"] (ae AD):=bP
noncomputable def wD:gO:=#[.function,[(".0",.local),("_law_spot_here",.local),("len",.globalImplicit),("_law_path",.free)],ξ,ξ,[]]
def Hd:(["_law_spot_here","_law_path"]:FA ρ).Nodup:=P8
def F':a5 z38z (ae AD) wD ["_law_spot_here","_law_path"] 1 [5]:=pe
noncomputable def wE:gO:=#[.function,[(".0",.local),("_law_spot_here",.local),("_law_words",.free)],ξ,ξ,[]]
def He:(["_law_spot_here","_law_words"]:FA ρ).Nodup:=P8
def Ga:a5 z38z (ae AD) wE ["_law_spot_here","_law_words"] 1 [2]:=pe
def HM{f:η}{fd:dN}{fA:η}{f0:dN}(F:Fr K "_law_led" AD f fd)(cA:{1} fA f0 ["_law_chain","_law_path"] uF "_law_at")(mr:mg "range"=ι)(ml:mg "len"=ι):⇑40 f fd ["_law_new","_law_told"] uG:=by
 erw[F.ok f8 λc8 A o0 s H vs Q E hr h=>?_]
 symm;let(b,z,lK,lT,lF,lD,f',js,sk,a,y,W,rfl,hc,b5,hL,C,q):=h;erw[_,%[f8|_c (zf (i:=2) f8.nd Z (ge Z) Ab) _cDOgτg mr _ajbi3dDOgLlI13pi4dπKP2h4lyqaoaob3pgcDOgLh1G (i:=5) f8.nd _g (ge Z) _dπKP25ogcDOg (Ai$ pv 2) _G (i:=5) f8.nd _g (ge Z) _ce6nWAα5QxZ qw _jfanεlI5Z qw _jpjbcmBlI5Z qw _jpde6Aα5QxZ qw _jscm (PW.pt %[f8|_XrφKP25pνr (@JH _ _ _ _ _ _ _ _ _ (zh hr) (pv 2) (pv 6) jl #[2222])]) _dk (@Kf _ _ _ _) _scm (PW.pt %[f8|_XrφKP25pXBlI5Z qw _jpνu Ys _φKP26pow _]) _dk (@Kf _ _ _ _) _sc (@Jy _ _ _ _ _ _ _ _ _ _ 7 ["_law_spot_here","_law_path"] 1 [5] _ _ _ _ f8.nd Z (Θ Z) Z (Ah$ pv 2) F' (λ_ _ _ _ _=>jr (i:=0) Hd Z$ Θ Z) (λ_ _ _ _ _=>@Zy _ _ _$ PW.pt %[f8|_Xu (ZE (d:=10)$ om hr) _Aα0QxC (uZ (K:=K) Z) _g ml _σa1b1w _ _νu (yZ (d:=10)$ om hr) _01w _]) (λ_ _ _ _ _=>pv 0) P7 FL FO) _c (@Jy _ _ _ _ _ _ _ _ _ _ 8 ["_law_spot_here","_law_words"] 1 [2] _ _ _ _ f8.nd Z (Θ Z) Z (jZ$ pv 7) Ga (λ_ _ _ _ _=>jr (i:=0) He Z$ Θ Z) (λ_ _ _ _ _=>@Zy _ _ _ %[f8|_u Ys _φKP10pow _]) (λ_ _ _ _ _=>pv 0) P7 FL FO) _dm (PW.pt %[f8|_XrφKP25pXu Jd _lIlI cA.e hr.m _a0a5bjpjpow _ _νu (Ie$ Ww$ zh hr) _8qbw _]) _dk (@Kf _ _ _ _) _sdk (@Kf _ _ _ _)],?_];let c9:=aI;let w0:(60:Nat)<=υ:=Ra
 symm;obtain⟨hz,⟨xk,hk,lk⟩,⟨xt,ht,lt⟩,⟨xf,hf,lf⟩,_,_,_⟩:=hL;sleep 4;erw[aj λF1 u=>λd nd=>u _ _ ?_];left;let E0:af H d (.dT []) d=δ (.dT$ iB$ fe W 0):=jc;let B0:aA d H (af H d$ .dT []):=aA.of_eq λ_ n=>jh n;let kd:∀{x:η} {o:HO},H x=δ o->∀{B:Hp},aA d H B->B x=δ o:=λh _ b=>b _ _ (jk h nd) h;let t0:∀{B:Hp},aA d H B->am H B:=λb x xs h=>kd h b;generalize af H d (.dT [])=H1 at E0 B0 ⊢;erw[aj λF1 u=>db λJ jj=>#[2,Z,P',P',jj _ _ ?_]];erw[kn (lo:=0) (λi I B=>(∃o3 T,I=[↑b,↑z,↑d,o3,T,ι,ι,ι,ι])/\B d=δ (.dT$ iB$ fe W i)/\aA d H B) #[#[112],E0,B0] ?_ (λI B h=>u _ _ ?_)]
 .left;intro E rt i I H2 hi fE Gq S h;symm;obtain⟨⟨o3,T,rfl⟩,M,b2⟩:=h;erw[S ?_];let hi:i < 2:=hi;obtain⟨l,ys,qs,a0,a4,lq,hq,hw⟩:∃(l:η) (ys:FA V) (qs:FA md),dQ [Fa lK,Fa lT,Fa lF,Fa lD] (0+(i:Int))=↑l/\H l=ys⁻¹/\aV mj H qs ys/\qs.map (·.2)=dj i W/\dQ [Cv "kept",Cv "turned"] (0+(i:Int))=δ (.str$ ma i):=by
   rcases(P':i=0∨i=1) with rfl |rfl
   .exact#[lK,xk,y.k,Z,hk,lk,C.k,Z]
   .exact#[lT,xt,y.t,Z,ht,lt,C.t,Z]
  show Ej _ _ _ E [↑b,↑z,↑d,δ$ .int (0+(i:Int)),T,ι,ι,ι,ι] H2;erw[db λJ jj=>#[1212,z,11122,aC.of$ kd hz b2,a0,l,Z,#[_,aE.of$ kd a4 b2],jj _ _ ?_]];erw[qu (K:=K) (a:=l) (xs:=ys) (λj I B=>(∃T,I=[↑b,↑z,↑d,δ$ .int (0+(i:Int)),T,ι,ι,ι,ι])/\B d=δ (.dT$ iB$ fe W i++((dj i W).take j).map λp=>(p,i))/\aA d H B) #[#[12],by rw[WX];show H2 d=δ (.dT$ iB$ fe W i++[]);rw[Sw];rwa[M],b2] (λj I B _ h=>aE.of (kd a4 h.2.2)) ?_ (λI B h=>fE _ _ ?_)]
  .intro E rt j x I H3 hx fE Gq S h;symm;obtain⟨⟨T,rfl⟩,e3,b3⟩:=h;erw[S ?_];symm;let(pr,b7,y',pa,pb,rfl,g1,g2,g3):=lq.at hx;let hp:(dj i W)[j]?=δ pr.2:=by rw[<- hq,RX,b7];rfl
   show tV _ _ _ E [↑b,↑z,↑d,δ$ .int (0+(i:Int)),↑y',ι,ι,ι,ι] H3;erw[b8,λt nt=>?_];let e4:=ap (o:=.lst [Cv "kept",Cv "turned"]) e3 nt;let b4:=b3.trans (aA.of_same$ je (o:=.lst [Cv "kept",Cv "turned"]) nt);let et:af H3 t (.lst [Cv "kept",Cv "turned"]) t=[Cv "kept",Cv "turned"]⁻¹:=jc;generalize af H3 t (.lst [Cv "kept",Cv "turned"])=H4 at e4 b4 et ⊢;rwa[12,t,11122,aE.of et,hw,12,ju (kd g1 b4) hZ #[d,12,iU.t (k:=oq pr.2) e4 (by rw[yo];rwa[kd g3 b4]) (by rw[Qm];let:=C.leni (i:=i) P' j;omega),fE _ _ #[#[12],by rw[tM i$ C.fresh P' hp,Zc hp];rwa[jc],b4.trans$ aA.of_eq λ_ n=>jh n]]]
  .symm;obtain⟨⟨o1,rfl⟩,e3,b3⟩:=h;let eL:ο ys=(dj i W).length:=by rw[<- hq,RJ];exact lq.len
   rw[eL,Su]at e3;rwa[#[112],e3,b3]
 symm;obtain⟨⟨o3,T,rfl⟩,M,b2⟩:=h;erw[aj λF1 u=>db λJ jj=>(ju (kd hz b2) iI #[lF,Z,#[_,aE.of$ kd hf b2],jj _ _ ?_])];let M:B d=δ (.dT$ iB$ fe W 2):=M;rw[C.f]at lf;erw[qu (K:=K) (a:=lF) (xs:=xf) (λj I B=>(∃o5,I=[↑b,↑z,↑d,o3,T,o5,ι,ι,ι])/\B d=δ (.dT$ iB$ fe W 2++((dj 2 W).take j).map λp=>(p,2))/\aA d H B) #[#[12],by rw[WX];show B d=δ (.dT$ iB$ fe W 2++[]);rw[Sw];rwa[M],b2] (λj I B _ h=>aE.of (kd hf h.2.2)) ?_ (λI B h=>u _ _ ?_)]
 .left;intro E rt j x I H3 hx fE Gq S h;symm;obtain⟨⟨o5,rfl⟩,e3,b3⟩:=h;erw[S ?_];symm;let(p,hp,pb,rfl,g3):=lf.at hx;rwa[1212,d,12,iU.t (k:=oq p) e3 (by rw[yo];rwa[kd g3 b3]) (by rw[Qm];let:=C.leni (i:=2) P' j;omega),fE _ _ #[#[12],by rw[show Cv "fresh"=Cv (ma 2) from Z,tM 2$ C.fresh P' hp,Zc hp];rwa[jc],b3.trans$ aA.of_eq λ_ n=>jh n]]
 symm;obtain⟨⟨o5,rfl⟩,M,b2⟩:=h;rw[lf.len,Su]at M;let M:B d=δ (.dT$ iB$ fe W 3):=M;erw[aj λF1 u=>db λJ jj=>#[12,d,12,M,λo=>jj _ _ ?_]];let bF:aA d H (af B d$ .frz o$ .dT$ iB$ fe W 3):=b2.trans (aA.of_eq λ_ n=>jh n);let eF:af B d (.frz o$ .dT$ iB$ fe W 3) d=δ (.frz o$ .dT$ iB$ fe W 3):=jc;generalize af B d (.frz o$ .dT$ iB$ fe W 3)=HF at bF eF ⊢;let sH:∀{B:Hp},aa HF B->aa H B:=λs b o e=>s _ _ (bF _ _ (jk e nd) e);erw[vk (λi I B=>(∃o3 T o5 o6 o7 o8,I=[↑b,↑z,↑d,o3,T,o5,o6,o7,o8])/\aa HF B) #[#[1111112],aa.refl _] (λi I B h=>h.2 _ _ eF) ?_ (λI B h=>u _ _ (q _$ sH h.2))];left;intro E rt i bp k v I H4 hx hb fE Gq S h;symm;obtain⟨⟨o3,T,o5,o6,o7,o8,rfl⟩,s4⟩:=h;erw[S ?_];symm;let(p,l,b9,rfl):=EY hx;rw[yo]at hb;let(a1,wk,D):=KO.mp (Sc b9);let h6:=C.pl _ D;let a0:=C.at' _ D;obtain⟨N,e,h0⟩:∃N e,p=N++[e]:=#[11,(List.dropLast_concat_getLast$ C.ne _ D).symm];let h6:ο p<=60:=h6;let lq:ο N+1<=60:=by rw[h0,RN]at h6;rwa[h6]
 let O:H4 bp= ~~~((N++[e]).map Da):=by rw[<- h0];rwa[hb]
 let h4:dQ ((N++[e]).map Da) (-1)=δ (.int e):=by rw[RP];rwa[xq _ _]
 show dq (dP _ _) (dq _ _) E [↑b,↑z,↑d,o3,T,↑bp,o6,o7,o8] H4;sleep 6;erw[aj λF1 u=>#[121212,bp,12,O,λr1 H5 U s1=>#[1212,bp,11122,aC.of$ s1 _ _ O,h4,1122,l7,λt nt=>#[r1,t,1122,ap U nt,jc,?_,λr9 H9 e9 s9=>u _ _ ?_]]]]
 .rw[ZL,RJ];show ο N+1<=υ;omega
 left;rw[ZL]at e9;let S9:aa HF H9:=s4.trans (s1.trans ((je nt).trans s9));let h5:H9 bp= ~~~((N++[e]).map Da):=s9 _ _ (ap (s1 _ _ O) nt);let e9:H9 r9= ~~~((N++[e - 1]).map Da):=by rw[RP];rwa[e9]
 show dq (gY _ _ _) (dq _ _) E [↑b,↑z,↑d,o3,T,↑bp,↑r9,o7,o8] H9;erw[aj λF1 u=>?_];let go:∀(ra:η) (HA:Hp),aa H9 HA->HA ra= ~~~((if e=0 then N else N++[e - 1]).map Da)->F1 [↑b,↑z,↑d,o3,T,↑bp,↑ra,o7,o8] HA:=by
  intro ra HA sa ea;erw[u _ _ ?_];let SA:=S9.trans sa;replace O:=sa _ _ h5;let L:HA bp= ~~~(p.map Da):=by rw[h0];rwa[O]
  let eA:=SA _ _ eF;let h7:l=2->∃l' w',((if e=0 then N else N++[e - 1]),l',w')∈W/\l'≠0/\(e=0->l'=2):=by
   intro h2;symm;subst h2;let(r,c0):=C.fr _ D Z;rcases c0 with ⟨ep,w',G⟩ | ⟨i',l',w',ep,c1,G⟩
   .let ep:N++[e]=r++[0]:=by rw[<- h0];exact ep
    let(e1,e0):=VM ep Z;cases e0;rwa[2,w',by rw[RV Z,e1];rwa[G],P',λ_=>Z]
   .let ep:N++[e]=r++[((i'+1:Nat):Int)]:=by rw[<- h0];exact ep
    let(e1,e0):=VM ep Z;let e0:e=((i'+1:Nat):Int):=by injection e0
    erw[l',w',?_,c1,λz=>absurd z P'];rw[RU P',show e - 1=(i':Int) by omega,e1];rwa[G]
  generalize (if e=0 then N else N++[e - 1])=ah at h7 ea;erw[aj λF1 u=>iX λG1 yT yF=>?_];erw[(λ(n1:G1 ξ HA)=>?_) (yF _$ u _ _ ?_)]
  .left;symm;by_cases h2:l=2
   .let(l',w',G,n0,_):=h7 h2;subst h2;erw[1212,d,12,XG C D eA L,212,cw Ol #[12,d,Z,.inr #[_,.inr #[o,eA]],121,XG C G eA ea,212,?_]];show G1 (decide$ Cv (ma l')=Cv "kept") HA;rw[Pe (C.lt _ G) n0];rwa[n1]
   .exact#[1212,d,12,XG C D eA L,212,aW (Pd a1 h2) n1]
  erw[aj λF1 u=>iX λG1 yT yF=>?_];erw[(λ(n1:G1 ξ HA)=>?_) (yF _$ u _ _ ?_)]
  .left;symm;by_cases h2:l=2
   .let(l',w',G,_,n2):=h7 h2;subst h2;erw[1212,d,12,XG C D eA L,212,cw Ol #[1212,bp,11122,aC.of O,h4,212,?_]];symm;by_cases he:e=0
    .cases n2 he;erw[cw (R0 (by rw[he])) #[1212,d,12,XG C G eA ea,212,?_]];show G1 (!decide (Cv (ma 2)=Cv "fresh")) HA;rw[Ol];rwa[n1]
    .rwa[aW (RW λz=>he (by cases z;rfl)) n1]
   .exact#[1212,d,12,XG C D eA L,212,aW (Pd a1 h2) n1]
  erw[aj λF1 u=>#[12,d,o,12,eA,?_]];erw[Yq (by rw[Qm];let:=C.len3;omega) (λi zs Hx=>aa HA Hx/\ο zs<=i/\aV eI Hx ((((fe W 3).take i).map (·.1)).filter$ EV p) zs) #[aa.refl _,RO 0,Z] (λi ys Hx h=>#[h.1 _ _ eA,h.2.1]) ?_ ?_]
  .left;intro i b' k' v' zs Hx c2 X h;symm;let(sx,lz,a2):=h;let(p',l',h8,rfl):=EY c2;rw[yo]at X;erw[1212,bp,12,.inr$ aC.of$ sx _ _ L,12,b',12,X,λr1 Hy a' sy=>?_];rw[RJ,Ge]at a';erw[1211,tJ _,z9 _,z9 _,zL a',zL$ sy _ _$ sx _ _ L,12,?_];let tf:=J' (EV p) h8;rw[Nt];symm;by_cases U:p'.take (ο p)=p
   .right;rw[R0 U];erw[yj #[121211,tJ _,z9 _,z9 _,zL$ sy _ _ X,zL$ sy _ _$ sx _ _ L,12,?_]];rw[Nt];symm;by_cases h3:p'=p
    .right;rw[R0 h3];erw[pM #[sx.trans sy,P',?_]];rw[tf,RU (by unfold EV;rw[R0 h3];simp),Sw];rwa[a2.mono aL$ aa.tm sy]
    .right;rw[RW h3];erw[yj #[12,sx.trans sy,by rw[RN];show _+1<=_;omega,?_]];rw[tf,RV (by unfold EV;rw[RW h3,R0 U];rfl)];rwa[aV.app (aV.one (R:=eI) #[b',Z,sy _ _ X])$ a2.mono aL$ aa.tm sy]
   .right;rw[RW U];erw[pM$ pM #[sx.trans sy,P',?_]];rw[tf,RU (by unfold EV;rw[RW U];simp),Sw];rwa[a2.mono aL$ aa.tm sy]
  intro zs HB h sl n3;erw[u _ _ ?_];left;symm;let(sB,lz,Y):=h;rw[Qm,Su]at Y;rw[Qm]at lz;let l3:=C.len3;right;generalize b0:(((fe W 3).map (·.1)).filter$ EV p)=ps at Y;let s5:aa HB (af HB sl$ .lst zs):=je n3;let e5:af HB sl (.lst zs) sl=zs⁻¹:=jc;generalize af HB sl (.lst zs)=HC at s5 e5 ⊢;replace Y:=Y.mono aL (aa.tm s5);let SC:=SA.trans (sB.trans s5);erw[aj λF1 u=>#[12,sl,Z,#[_,aE.of e5],?_]];erw[pF (K:=K) (xs:=zs) P' (λi us Hx=>aa HC Hx/\ο us<=i/\((∃j p',j < i/\ps[j]?=δ p'/\bV (iB$ fe W 3) (oq p')≠δ (.str$ ma 0))->us≠[])) #[aa.refl _,RO 0,λ#[j,_,hj,_]=>absurd hj (Uv _)] (λi us Hx h=>#[aE.of$ h.1 _ _ e5,h.2.1]) ?_ ?_]
  .left;intro i x us Hx hx h;symm;let(sx,lu,hu):=h;let(p',h8,b',rfl,X):=Y.at hx;let m:p'∈ps:=Sc h8;rw[<- b0,UX,β]at m;obtain⟨⟨⟨p2,l'⟩,c3,M⟩,_⟩:=m;let M:p2=p':=M;subst M;let(l1,w',G):=KO.mp c3;erw[1212,d,12,XG C G (sx _ _$ SC _ _ eF)$ sx _ _ X,212,?_];symm;by_cases l0:l'=0
   .subst l0;erw[aW (by show(!decide (Cv (ma 0)=Cv "kept"))=ξ;rw[Po];rfl) #[sx,P',λ#[j,p3,hj,g1,g2]=>hu #[j,p3,?_,g1,g2]]];let:j≠i:=λz=>by subst z;rw[h8]at g1;cases g1;exact g2$ C.wd G
    omega
   .rwa[cw (by show(!decide (Cv (ma l')=Cv "kept"))=μ;rw[Pe l1 l0];rfl) #[12,sx,by rw[RN];show _+1<=_;omega,λ_=>by simp]]
  intro us HD h sm n4;erw[u _ _ ?_];left;symm;let(sD,_,hu):=h;let s6:aa HD (af HD sm$ .lst us):=je n4;let e6:af HD sm (.lst us) sm=us⁻¹:=jc;right;generalize af HD sm (.lst us)=HX at s6 e6 ⊢;let SX:=SC.trans (sD.trans s6);let a3:=((sB.trans s5).trans$ sD.trans s6) _ _ L;let eX:=SX _ _ eF;let c4:=qD hc (t0$ bF.trans$ aA.of_same SX);erw[iX λG1 yT yF=>?_];let n1:∀{B:Hp},aa HX B->G1 ξ B:=λs=>yF _ (fE _ _ #[#[1111112],SX.trans s]);symm;by_cases U:l=1
  .subst U;let(oo,c5,b1):=a0;erw[1212,d,12,XG C D eX a3,212,cw Pq #[1212,b,bp,f',js,sk,a,p,oo,Z,c4,b5,a3,c5,λx HY c6 sY=>?_]];symm;let(q3,h3,u3,rfl,j1,j2,j3):=c6;let(p4,vv,r4,rfl,k1,k2):=Yc (by rw[b1];rwa[C.okw _ D]) j3;erw[q3,11122,aC.of j1,iI,p4,11122,aC.of k1,fV,212,?_];symm;by_cases hv:vv="call"
   .let u0:us≠[]:=by
     symm;let(g,is,t',c,ec):=k2.mp hv;let(y',h',n0,i',q5,ey):=C.tr _ D Z #[g,is,t',c,by rw[<- b1];rwa[ec]];let m:y'.1∈ps:=by rw[<- b0,UX];rwa[β.mpr #[(y'.1,y'.2.1),KO.mpr #[C.lt _ h',y'.2.2,h'],Z],by rw[ey];rwa[CO]]
     let(j,hj):=ks.mp m;erw[hu #[j,y'.1,?_,hj,?_]]
     .rw[Y.len];exact(ν.mp hj).1
     .rw[C.wd (p:=y'.1) (l:=y'.2.1) (w:=y'.2.2) h'];rwa[Pr (C.lt _ h') n0]
    subst hv;erw[cw P8 #[12,R4 _,λr nr=>#[sm,r,us,22,ap (sY _ _ e6) nr,jc,12,?_]]];rw[show us.isEmpty=ξ by cases us with |nil=>exact absurd rfl u0 |cons _ _=>rfl];rwa[n1$ sY.trans$ je nr]
   .rwa[aW (RW λz=>hv (by cases z;rfl))$ n1 sY]
  .exact#[1212,d,12,XG C D eX a3,212,aW (Pp a1 U)$ n1$ aa.refl _]
 symm;by_cases he:e=0
 .erw[iX λG1 yT yF=>#[1212,bp,11122,aC.of h5,h4,212,?_]];rw[R0 (show Da e=Da 0 by rw[he])];erw[yT _ #[121212,bp,12,h5,λr1 H5 U s1=>?_]];rw[ZL]at U;rwa[go r1 H5 s1 (by rw[RV he];rwa[U])]
 .erw[iX λG1 yT yF=>#[1212,bp,11122,aC.of h5,h4,212,?_]];rw[RW (show ¬Da e=Da 0 from λz=>he (by cases z;rfl))];rwa[yF _$ go r9 H9 (aa.refl _) (by rw[RU he];rwa[e9])]
theorem Yy:∀{b:Bool} {s:Sk},s.ok b->∀(p:aD) (k:Nat),∀y∈s.ws p k,ο y.1<=ο p+s.dep+(if b=μ then 1 else 0)/\y.2.ok ξ
 |true,.nil,_,_,_,y,h=>nomatch h
 |true,.st n H w r,o,p,k,y,h=>by
  let h:y∈((p++[(k:Int)],w)::w.ws (p++[(k:Int)]) 0)++r.ws p (k+1):=h;show _<=ο p+max w.dep r.dep+1/\_;let c:(p++[(k:Int)]).length=ο p+1:=by rw[RN];rfl
  let m:=U0 w.dep r.dep;let M:=UM w.dep r.dep;rcases ψ.mp h with h |h
  .rcases ω.mp h with rfl |h
   .exact#[by show(p++[(k:Int)]).length<=_;omega,o.1]
   .let z:=Yy (b:=ξ) (s:=w) o.1 _ _ y h;let a:ο y.1<=(p++[(k:Int)]).length+w.dep+0:=z.1;rwa[P',z.2]
  .let z:=Yy (b:=μ) (s:=r) o.2 _ _ y h;let a:ο y.1<=ο p+r.dep+1:=z.1;rwa[P',z.2]
 |false,.cl _ _ s _,o,p,_,y,h=>by let z:=Yy (b:=μ) (s:=s) o p 0 y h;let a:ο y.1<=ο p+s.dep+1:=z.1;rwa[by show _<=ο p+(s.dep+1)+0;rwa[N09],z.2]
 |false,.ask _,_,_,_,y,h |false,.rd _ _,_,_,_,y,h |false,.wr _ _,_,_,_,y,h=>nomatch h
def nR.led{H:Hp}{p:FA dU}{f:ρ}{i:FA Int}{s:Sk}{a:Int}{u:V}(h:nR H p f i s a u):iy (Gs p) (Lr p) f (Gs p f i) s a:=by let(_,_,_,_,C,L,b):=h;rwa[tR 16 _ _ _ _ _ _ _ _ b]
def Iy{s:Sk}(o:s.ok μ)(a:Int):mq (s.ans a) s.row=mq a s.steps:=by
 cases s with
 |cl _ _ _ _=>rwa[o.elim]
 |_=>rfl
def GV{H:Hp}{p:FA dU}{f:ρ}{I:FA Int}{S s:Sk}{A g:Int}{u U:V}(d:nR H p f I S A u)(B:nR H p f I s g U):uX s.steps (iM s S.steps 0 [] 0) (d9 s [] S.steps 0 [] 0):=by
 let O:=d.2.1;let o:=B.2.1;let n:∀h i t c,s≠ .cl h i t c:=λh i t c e=>by rw[e]at o;rwa[o.elim]
 let j:=J5 (b:=μ) o S.steps 0 [] 0 (λz=>nomatch z);let W:=KN o S.steps 0 [] 0 (λz=>nomatch z);let m:∀x∈iM s S.steps 0 [] 0,(x.1,x.2.2)∈s.ws [] 0:=λx a=>by rw[<- j];rwa[β.mpr #[x,a,Z]]
 let k:mq (s.ans g) s.row=mq A (S.steps.drop 0):=by rw[Iy o,Tu,<- J8 o B.led,<- J8 O d.led]
 let(E,l,q):=K7 s [] S.steps 0 [] 0;erw[E,l,q,?_,J6 s S.steps 0 [] 0,?_,?_,λx a=>?_,λx a=>?_,?_,λx a=>?_,λx a=>?_]
 .rw[W];rwa[zT$ Je o [] 0]
 .rwa[Yw (D:=ED p) (b:=μ) o O d.dt B.dt d.led (λ_=>B.led) (λh i t c e=>absurd e (n h i t c)) (λz=>nomatch z) (λx a=>a)$ .inl k]
 .rwa[Yx (D:=ED p) (b:=μ) o O d.dt B.dt d.led (λ_=>B.led) (λh i t c e=>absurd e (n h i t c))]
 .rwa[uT (b:=μ) o (.inl #[22]) (ns:=s.steps) (by rw[Tu];rfl) (λz=>nomatch z) _$ m x a]
 .rwa[K8$ β.mpr #[_,m x a,Z]]
 .let e:=SQ hJ W;rw[RJ,RJ,kI o]at e;let:=B.2.2.2.1;omega
 .let z:=(Yy (b:=μ) o [] 0 _$ m x a).1;let z:ο x.1<=0+s.dep+1:=z;let:=B.2.2.1;omega
 .exact(Yy (b:=μ) o [] 0 _$ m x a).2
def Lt.same'{H a:Hp}{z l L b c:η}{y:Ly}(s:aa H a)(h:Lt H z l L b c y):Lt a z l L b c y:=by obtain⟨d,⟨x,e,lk⟩,⟨X,f,g⟩,⟨i,j,k⟩,⟨m,n,ld⟩,N,o⟩:=h;rwa[s _ _ d,#[x,s _ _ e,lk.mono bK$ aa.tm s],#[X,s _ _ f,g.mono bK$ aa.tm s],#[i,s _ _ j,k.mono aL$ aa.tm s],#[m,s _ _ n,ld.mono aL$ aa.tm s],N,o]
abbrev Fm:de:=bN 83
def oE:al ["_law_script","_law_books_here","_law_old","_law_new","_law_told"] ["_law_script"] (ae Fm):=bP
def HL{f:η}{fd:dN}{fB fL fO fI fD:η}{f0 f2 f3 f4 f5:dN}(F:Fr K "law" Fm f fd)(cB:{66} fB f0 ["_law_script"] (uy K) "_law_books")(cL:{71} fL f2 ["old","new"] nE "laid")(cO:{40} fO f3 ["_law_old","_law_new","_law_told"] uI "_law_all_once")(cI:{40} fI f4 ["_law_told"] uE "_law_in_order")(cD:{40} fD f5 ["_law_new","_law_told"] uG "_law_led")(ml:mg "len"=ι)(O:mg "tuple"=ι):⇑72 f fd ["_law_script"] (oK K):=by
 erw[F.ok oE λc2 A o0 s H vs Q E R h=>?_]
 symm;let(a,ns,rfl,hS,W,q):=h;erw[_,%[oE|_ce1 cB.e R.m _a0bcDOgLA kL _qaFοg O _ιa1baFοg O _ιa (@wj _ _ _ _ _ _ _ _ _ _ _ (pv 1) jS jS (Jt qw jf) (by intro _ _;rfl)) _bbQxCψg ml _σa1bS (n:=2) _gti2ti3κce4 cL.e R.m _a2a3bdm (PW.pt$ KP (Zw$ Zv$ cO.e R.m %[oE|_a2a3a4b])$ KP (Zw$ Zv$ cI.e R.m %[oE|_a4b])$ JW$ Zw$ Zv$ cD.e R.m %[oE|_a3a4b]) _dk (@Kf _ _ _ _) _sdk (@Kf _ _ _ _)],?_];let b4:=aI;sleep 2;erw[aj λF1 v=>#[12,a,ns,Z,hS,W,λl z bk k1=>v _ _ ?_]];left;erw[aj λF1 v=>db λJ jj=>?_];obtain⟨y,hl,hy⟩:∃y,z l=y⁻¹/\(y=[]∨∃(p:FA dU) (f:ρ) (I:FA Int) (o C:η) (S G:Sk) (u r:Int),y=[.ref o,.ref C]/\nR z p f I S u (.ref o)/\nR z p f I G r (.ref C)):=by
  symm;rcases bk with h | ⟨p,f,I,o,C,S,G,u,r,h,g,B⟩
  .exact#[_,h,.inl Z]
  .exact#[_,h,.inr #[p,f,I,o,C,S,G,u,r,Z,g,B]]
 let h3:ο y<=2:=by rcases hy with rfl | ⟨_,_,_,_,_,_,_,_,_,rfl,_⟩<;>rwa[Nat.le_of_ble_eq_true Z]
 erw[12,l,y,Z,.inl #[aE.of hl,λT n0=>?_]];let S:aa z (af z T$ .tup y):=je n0;let g0:af z T (.tup y) T= ~~~y:=jc;generalize af z T (.tup y)=H2 at S g0 ⊢;erw[1212,l,y,μ,2222,aE.of$ S _ _ hl,λX m0=>?_];let G:aa H2 (af H2 X$ .lst (if μ=μ then y.reverse else y)):=je m0;let g1:af H2 X (.lst (if μ=μ then y.reverse else y)) X=y.reverse⁻¹:=jc;erw[X,y.reverse,Z,.inl #[aE.of g1,λj n1=>?_]];generalize af H2 X (.lst (if μ=μ then y.reverse else y))=H3 at G g1 n1 ⊢;let s2:aa H3 (af H3 j$ .tup y.reverse):=je n1;let g2:af H3 j (.tup y.reverse) j= ~~~y.reverse:=jc;generalize af H3 j (.tup y.reverse)=H4 at s2 g2 ⊢;erw[b8,λY n2=>?_];let s3:aa H4 (af H4 Y$ .lst [.ref T,.ref j]):=je n2;let g3:af H4 Y (.lst [.ref T,.ref j]) Y=[.ref T,.ref j]⁻¹:=jc;generalize af H4 Y (.lst [.ref T,.ref j])=H5 at s3 g3 ⊢;let S5:aa z H5:=((S.trans G).trans s2).trans s3;erw[12,l,y,Z,.inl$ aE.of$ S5 _ _ hl,12,Y,12,aE.of g3,λM n3=>#[M,Z,#[_,aE.of jc],jj _ _ ?_]];let s6:aa H5 (af H5 M$ .lst$ aN [.ref T,.ref j] ι$ δ (y.length:Int)):=je n3;let g6:af H5 M (.lst$ aN [.ref T,.ref j] ι$ δ (y.length:Int)) M=(aN [.ref T,.ref j] ι$ δ (y.length:Int))⁻¹:=jc;generalize af H5 M (.lst$ aN [.ref T,.ref j] ι$ δ (y.length:Int))=H6 at s6 g6 ⊢;let S6:=S5.trans s6;let g0:=s6 _ _ (s3 _ _$ s2 _ _$ G _ _ g0);let g2:=s6 _ _ (s3 _ _ g2);erw[qu (K:=K) (a:=M) (xs:=aN [.ref T,.ref j] ι (δ (y.length:Int))) (λ_ σ N=>(∃o2 o3 o4,σ=[↑a,↑l,o2,o3,o4])/\aa H6 N) #[#[1112],aa.refl _] (λk σ N _ h=>aE.of (h.2 _ _ g6)) ?_ (λσ N h=>v _ _ (q _))];left;intro E rt k x σ H7 d fE Gq U h;symm;obtain⟨⟨o2,o3,o4,rfl⟩,s7⟩:=h;erw[U ?_];let hx:∃(p:FA dU) (f:ρ) (I:FA Int) (o C t:η) (L D:Sk) (u r:Int),x= .ref t/\H7 t= ~~~[.ref o,.ref C]/\nR H7 p f I L u (.ref o)/\nR H7 p f I D r (.ref C):=by
  let tm:=aa.tm (S6.trans s7);symm;rcases hy with rfl | ⟨p,f,I,o,C,L,D,u,r,rfl,g,B⟩
  .rwa[absurd d (by show([]:FA V)[k]?≠_;simp)]
  .let d:[Fa T,Fa j][k]?=δ x:=d
   right;match k,d with
   |0,d=>symm;cases d;rwa[p,f,I,o,C,T,L,D,u,r,Z,s7 _ _ g0,g.mono tm,B.mono tm]
   |1,d=>symm;cases d;rwa[p,f,I,C,o,j,D,L,r,u,Z,s7 _ _ g2,B.mono tm,g.mono tm]
   |k+2,d=>rwa[absurd d P9]
 symm;let(p,f,I,o,C,t,L,D,u,r,rfl,ht,g,B):=hx;erw[t,12,aC.of ht,21121122,?_];show dq (dP _ _) _ E [↑a,↑l,↑o,↑C,o4] H7;let z2:=g.2.2.2.1;let z3:=B.2.2.2.1;erw[aj λF1 v=>#[1212,ED p,o,C,f,I,I,L,D,u,r,Z,g.1,g.2.1,g.2.2.1,P',B.1,B.2.1,B.2.2.1,P',g.dt,B.dt,λxl kA tA fA dA H8 ld _ _ _ _ s8=>v _ _ ?_]];left;symm;let(zt,rfl,h0):=ld;let b3:=g.mono (aa.tm s8);let b2:=B.mono (aa.tm s8);let lb:∀{N:Hp} {sk:Sk} {a:Int} {c:η},aa H8 N->nR H8 p f I sk a (.ref c)->FJ N f I sk a c:=λs b=>FJ.same s #[b.1,b.2.1,b.2.2.1,b.2.2.2.1];erw[iX λG1 yT yF=>#[121212,ED p,o,C,zt,kA,tA,fA,dA,f,I,I,L,D,u,r,Z,lb (aa.refl _) b3,lb (aa.refl _) b2,g.dt,B.dt,h0,λH9 s9=>#[12,aW Z ?_]]];let h1:=h0.same' s9;erw[12,zt,kA,tA,fA,dA,112,h1,Ii B.2.1 g.2.1 g.dt B.dt B.2.2.2.1 g.2.2.2.1,λH0 s4=>#[12,aW Z ?_]];let h2:=h1.same' s4;let S1:=s9.trans s4;rwa[1212,C,zt,kA,tA,fA,dA,f,I,D,r,112,(lb S1 b2).1,B.2.1,h2,GV g B,λa2 s5=>#[12,yF _$ fE _ _ #[#[1112],s7.trans$ s8.trans$ S1.trans s5]]]
@[elab_as_elim] theorem PY{P:FA ζ->Prop}(u:FA ζ)(h:ο u=1)(q:∀a,P [a]):P u:=by
 symm;cases u with
 |nil=>cases h
 |cons a r=>
  cases r with
  |nil=>rwa[q a]
  |cons _ _=>cases h
def _root_._L.aM.b1{K:γ}{st:de}{p:FA ρ}(F:aM K x q st f g)(h:∀(kV d b:ζ) (A:FC η) (c C a:ζ),bindArgs (ua x q (bZ st) (bG st) (ae st) .none kV d b A c C) #[[a],[]]=pure (p.zip [a]):=by intros;rfl)(e:↥(ο p=1)):ax K g p []:=F.binds λkV d b A c C u H=>PY u (H.trans e) λa=>h kV d b A c C a
@[elab_as_elim] theorem PZ{P:FA ζ->Prop}(u:FA ζ)(h:ο u=2)(q:∀a b,P [a,b]):P u:=by
 cases u with
 |nil=>cases h
 |cons a r=>
  cases r with
  |nil=>cases h
  |cons b R=>
   cases R with
   |nil=>rwa[q a b]
   |cons _ _=>cases h
def _root_._L.aM.b2{K:γ}{st:de}{p:FA ρ}(F:aM K x q st f i)(h:autoParam (∀(kV d g:ζ) (A:FC η) (c C a b:ζ),bindArgs (ua x q (bZ st) (bG st) (ae st) .none kV d g A c C) #[[a,b],[]]=pure (p.zip [a,b])) _L.aM.b1._auto_1)(e:↥(ο p=2)):ax K i p []:=F.binds λkV d g A c C u H=>PZ u (H.trans e) λa b=>h kV d g A c C a b
@[elab_as_elim] theorem P0{P:FA ζ->Prop}(u:FA ζ)(h:ο u=3)(q:∀a b c,P [a,b,c]):P u:=by
 cases u with
 |nil=>cases h
 |cons a r=>
  cases r with
  |nil=>cases h
  |cons b R=>
   cases R with
   |nil=>cases h
   |cons c d=>
    cases d with
    |nil=>rwa[q a b c]
    |cons _ _=>cases h
def _root_._L.aM.b3{K:γ}{st:de}{p:FA ρ}(F:aM K x q st f j)(h:autoParam (∀(kV d g:ζ) (A:FC η) (C i a b c:ζ),bindArgs (ua x q (bZ st) (bG st) (ae st) .none kV d g A C i) #[[a,b,c],[]]=pure (p.zip [a,b,c])) _L.aM.b1._auto_1)(e:↥(ο p=3)):ax K j p []:=F.binds λkV d g A C i u H=>P0 u (H.trans e) λa b c=>h kV d g A C i a b c
@[elab_as_elim] theorem P5{P:FA ζ->Prop}(u:FA ζ)(h:ο u=4)(q:∀a b c d,P [a,b,c,d]):P u:=by
 cases u with
 |nil=>cases h
 |cons a r=>
  cases r with
  |nil=>cases h
  |cons b R=>
   cases R with
   |nil=>cases h
   |cons c e=>
    cases e with
    |nil=>cases h
    |cons d f=>
     cases f with
     |nil=>rwa[q a b c d]
     |cons _ _=>cases h
def _root_._L.aM.b4{K:γ}{st:de}{p:FA ρ}(F:aM K x q st f j)(h:autoParam (∀(kV D g:ζ) (A:FC η) (C i a b c d:ζ),bindArgs (ua x q (bZ st) (bG st) (ae st) .none kV D g A C i) #[[a,b,c,d],[]]=pure (p.zip [a,b,c,d])) _L.aM.b1._auto_1)(e:↥(ο p=4)):ax K j p []:=F.binds λkV D g A C i u H=>P5 u (H.trans e) λa b c d=>h kV D g A C i a b c d
@[elab_as_elim] theorem P6{P:FA ζ->Prop}(u:FA ζ)(h:ο u=5)(q:∀a b c d e,P [a,b,c,d,e]):P u:=by
 cases u with
 |nil=>cases h
 |cons a r=>
  cases r with
  |nil=>cases h
  |cons b R=>
   cases R with
   |nil=>cases h
   |cons c f=>
    cases f with
    |nil=>cases h
    |cons d g=>
     cases g with
     |nil=>cases h
     |cons e i=>
      cases i with
      |nil=>rwa[q a b c d e]
      |cons _ _=>cases h
def _root_._L.aM.b5{K:γ}{st:de}{p:FA ρ}(F:aM K x q st f j)(h:autoParam (∀(kV D g:ζ) (A:FC η) (C i a b c d e:ζ),bindArgs (ua x q (bZ st) (bG st) (ae st) .none kV D g A C i) #[[a,b,c,d,e],[]]=pure (p.zip [a,b,c,d,e])) _L.aM.b1._auto_1)(e:↥(ο p=5)):ax K j p []:=F.binds λkV D g A C i u H=>P6 u (H.trans e) λa b c d e=>h kV D g A C i a b c d e
def eK(K:γ)(p q:ρ)(st:de)(f:η):Prop:=∃(o:ζ) (O:FC η) (kV d a:ζ) (A:FC η) (c C:ζ) (s:Array (FC ζ)),K.lookup f=δ #[o,O,.func$ ua p q (bZ st) (bG st) (ae st) .none kV d a A c C,s]/\codeIn K c q=μ/\ii K (.ref f)=μ
def cg(K:γ)(p:ρ)(st:de)(f:η):Prop:=nsIn K ab p=δ (↑f)/\eK K p p st f
section
variable {K:γ}{py q:ρ}{st:de}{f:η}{oc:ζ}{od:FC η}{kV dc pm:ζ}{an:FC η}{cd ct:ζ}{sl:Array (FC ζ)}
def Pf(l:K.lookup f=δ #[oc,od,.func$ ua py q (bZ st) (bG st) (ae st) .none kV dc pm an cd ct,sl])(c:codeIn K cd q=μ)(k:ii K (.ref f)=μ):eK K py q st f:=#[111111111,l,c,k]
def OR(a:nsIn K ab py=δ (↑f))(l:K.lookup f=δ #[oc,od,.func$ ua py py (bZ st) (bG st) (ae st) .none kV dc pm an cd ct,sl])(c:codeIn K cd py=μ)(k:ii K (.ref f)=μ):cg K py st f:=#[a,Pf l c k]
def eK.go(h:eK K py q st f):∃F,aM K py q st f F/\ii K (.ref f)=μ:=by let(oc,od,kV,dc,pm,an,cd,ct,sl,l,c,k):=h;rwa[_,xZ l c k,k]
def cg.go{mg:ρ->FC ζ}(t:cg K py st f)(X:K.In h)(G:h.Ns ab mg):∃a,aM K py py st f a/\ii K (.ref f)=μ/\mg py=↑f:=by let(a,F,k):=t.2.go;rwa[a,F,k,WB X G t.1]
end
def FR{l:ti}{w:cv}{K:γ}{mg:ρ->FC ζ}(X:K.In h)(G:h.Ns ab mg)(o4:mg "law"=↑fa)

  (t3:cg K "names_in" fh f0)
  (t4:cg K "own_terms" II o5)
  (t5:cg K "used_behind_terms" AT fUb)
  (t6:cg K "used_ahead_of" DY f1)
  (t7:cg K "used_ahead" DX fUa)
  (t8:cg K "bodies_in" IA o6)
  (t':cg K "many_cuts" AG o7)
  (o8:cg K "deed_of" Aw o9)
  (o':cg K "place_of_give" nh f2)
  (p0:cg K "place_of_set" AM p1)
  (p2:cg K "part_made" AH p3)
  (p4:cg K "made" tW p5)
  (p6:cg K "_law_box" IC p9)
  (BX:cg K "_law_take" AS p')
  (q0:cg K "_law_number" mX q1)
  (q2:cg K "_law_names" i8 q3)
  (q4:cg K "_law_term" t9 q5)
  (q6:cg K "_law_spot" AN q7)
  (q':cg K "_law_statement" AO fSt)
  (r0:cg K "_law_body" tS r1)
  (r2:cg K "_law_any" Iz r3)
  (eW:cg K "_law_op" OB r4)
  (r5:cg K "_law_inner" p7 r6)
  (r7:cg K "_law_looped" iO r8)
  (r9:cg K "_law_ticking" gG r')
  (s0:cg K "_law_busy" Au s1)
  (s2:cg K "_law_case" tU s3)
  (s4:cg K "joined" mV s5)
  (s6:cg K "worth" ni s7)
  (s8:cg K "named" mW s9)
  (s':cg K "begun" pX u0)
  (u1:cg K "deeper" mO u2)
  (u3:cg K "part_of" mZ u4)
  (u8:cg K "cut_at" pZ u9)
  (u':cg K "held_at" mQ v1)
  (v2:cg K "worths" iP v3)
  (v4:cg K "deed_at" mN v5)
  (v7:cg K "found_in" gF f3)
  (v8:cg K "end_of" mP v9)
  (v':cg K "first_of" i7 w0)
  (w1:cg K "onward" mY w2)
  (w3:cg K "run" IK w4)
  (w5:cg K "whats_at" D2 w6)
  (w7:cg K "whats_in" D3 w8)
  (w9:cg K "paths_at" DV w')
  (x0:cg K "deed_in" IF x1)
  (x2:cg K "like_from" AF x3)
  (x4:cg K "lender_from" AE x5)
  (x7:cg K "taken_from" IL x8)
  (x9:cg K "laid" AB x')
  (y0:cg K "_law_cells" pY y1)
  (y2:cg K "_law_changes" IE y3)
  (y4:cg K "_law_book" p8 y5)
  (y':cg K "_law_changed" ID z7)
  (z8:cg K "_law_books" IB z')
  (A':cg K "_law_at" IH B0)
  (B1:cg K "_law_all_in" DM B2)
  (B3:cg K "_law_all_once" DU B4)
  (B5:cg K "_law_in_order" Az B6)
  (B7:cg K "_law_led" AD B8)
  (tZ:cg K "law" AC fZ)
  (B9:nsIn K ab "NOUGHT"=δ (↑y)) (B':K.lookup y=δ #[.type "tuple",odN,.seq (ε [.str "num" rN0,.int 0 rN1]) nN,slN]) (C':nsIn K ab "Cutting"=δ (↑i)) (v0:nsIn K ab "TOP"=δ (δ$ .int 1000000000000000000 tTop)) (vD:nsIn K ab "DEEPEST"=δ (δ$ .int 15 tD)) (vR:nsIn K ab "BookRun"=δ (↑C)) (vT:nsIn K ab "Turns"=δ (↑c0)) (vL:nsIn K ab "Laying"=δ (↑j)) (vB:nsIn K ab "BookError"=δ (↑xB))
  (D0:nsIn K ab "TooLong"=δ (↑A))
  (D1:nsIn K ab "TooDeep"=δ (↑B))
  (D':K.lookup A=δ #[ocxL,odxL,.cls cdxL,slxL]) (t0:typeIn K (.ref A)=δ (.type "type")) (mbxL:mroIn K A (.type "BaseException")=δ μ) (k3:ii K (.ref A)=μ)
  (E1:K.lookup B=δ #[ocxD,odxD,.cls cdxD,slxD]) (t1:typeIn K (.ref B)=δ (.type "type")) (mbxD:mroIn K B (.type "BaseException")=δ μ) (k4:ii K (.ref B)=μ)
  (E2:K.lookup xB=δ #[ocxB,odxB,.cls cdxB,slxB]) (t2:typeIn K (.ref xB)=δ (.type "type")) (m8:mroIn K xB (.type "BaseException")=δ μ) (E3:mroIn K A (.ref xB)=δ μ) (E4:mroIn K B (.ref xB)=δ μ)
  (e0:excIn K A uY "ValueError.__new__"=μ) (e1:excIn K B uY "ValueError.__new__"=μ)
  (b7:xj K A) (b9:xj K B)
  (rk:RK K C) (E5:Mk K C f4) (tm:FG K c0 "__init__" f5) (m9:bq K C "take_turn" f6) (m':bq K C "number_in" f7) (m4:bq K C "chain_of" E6) (b':bq K C "what_of" E7)
  (lk:LK K j) (E8:Mk K j f9) (m5:bq K j "lay" f') (c1:bq K j "drop" c2) (c3:bq K j "lay_step" E9)
  (ck:CK K i) (mk:Mk K i c4) (c5:bq K i "place_of_body" c6) (E':bq K i "place_of" H0) (H1:bq K i "place_of_cut" H2) (H3:bq K i "ways_of" H4)
  (H5:eK K "__init__" "Cutting.__init__" Ay c4)
  (H6:eK K "place_of_body" "Cutting.place_of_body" DP c6)
  (H7:eK K "place_of" "Cutting.place_of" DW H0)
  (H8:eK K "place_of_cut" "Cutting.place_of_cut" DQ H2)
  (H9:eK K "ways_of" "Cutting.ways_of" DZ H4)
  (H':eK K "__init__" "Turns.__init__" AQ f5)
  (I1:eK K "take_turn" "Turns.take_turn" re f6)
  (I2:eK K "number_in" "Turns.number_in" AR f7)
  (I3:eK K "__init__" "BookRun.__init__" At f4)
  (I4:eK K "chain_of" "BookRun.chain_of" DN E6)
  (I5:eK K "what_of" "BookRun.what_of" DO E7)
  (I6:eK K "__init__" "Laying.__init__" AA f9)
  (I7:eK K "lay" "Laying.lay" DT f')
  (I':eK K "drop" "Laying.drop" Ax c2)
  (J0:eK K "lay_step" "Laying.lay_step" DS E9)
  (z2:nsIn K ab "len"=δ ι)
  (z3:nsIn K ab "int"=δ ι)
  (R:nsIn K ab "range"=δ ι)
  (z0:nsIn K ab "list"=δ ι)
  (t:nsIn K ab "reversed"=δ ι)
  (S:nsIn K ab "tuple"=δ ι)
  (D:nsIn K ab "sorted"=δ ι)
  (z4:nsIn K ab "set"=δ ι)
  (z5:nsIn K ab "zip"=δ ι)
  (z1:nsIn K ab "dict"=δ ι)
  (r:nsIn K ab "enumerate"=δ ι)
  (o:nsIn K ab "isinstance"=δ ι)
  (z6:nsIn K ab "all"=δ ι)
  (tk:LS K)
  :∃fd:dN,(∀(s:θ) (v:ζ),BindsTo s fd #[[v],[]] [("_law_script",v)])/\∀base:df,K.In base->base.Ns ab mg->ai l.prog w K mg base ay 72 fa fd ["_law_script"] (oK K):=by
 let e:=o4.symm.trans (WB X G tZ.1);symm;cases e;let(K1,u,T,M):=t3.go X G;let(dOw,c8,K3,K4):=t4.go X G;let(dUb,c9,kUb,K5):=t5.go X G;let(dUo,U,k5,m6):=t6.go X G;let(dUa,c',kUa,L0):=t7.go X G;let(dBi,d0,L1,L3):=t8.go X G;let(dMc,F3,k6,d1):=t'.go X G;let(dDe,d2,L5,L6):=o8.go X G;let(dPg,V,k7,d3):=o'.go X G;let(dPs,d4,L7,L8):=p0.go X G;let(dPm,d5,L',N1):=p2.go X G;let(dMa,d6,N2,N3):=p4.go X G;let(dBx,d7,N',O'):=p6.go X G;let(dTk,F,k,m):=BX.go X G;let(dNu,E,Y,m0):=q0.go X G;let(dNm,F4,k8,d8):=q2.go X G;let(dTm,F0,k9,m7):=q4.go X G;let(dPo,d',P1,P4):=q6.go X G;let(dSt,e2,kSt,Q'):=q'.go X G;let(dBo,F5,R1,e3):=r0.go X G;let(dAn,e4,R5,R7):=r2.go X G;let(dOp,I,k0,m1):=eW.go X G;let(dIn,e5,R',S1):=r5.go X G;let(dLo,e6,S2,S3):=r7.go X G;let(dTi,e7,S4,S5):=r9.go X G;let(dBu,e8,S6,S7):=s0.go X G;let(dCa,e9,S8,S9):=s2.go X G;let(dJo,e',S',T0):=s4.go X G;let(dWo,J,k2,m2):=s6.go X G;let(dNd,F6,k',g0):=s8.go X G;let(dBe,g1,T1,T2):=s'.go X G;let(dDp,g2,T9,T'):=u1.go X G;let(dPf,g4,W0,W1):=u3.go X G;let(dCu,L,k1,m3):=u8.go X G;let(dHe,F7,g5,g6):=u'.go X G;let(dWs,g7,W2,W3):=v2.go X G;let(dDa,g8,W4,W5):=v4.go X G;let(dFo,F1,g',h0):=v7.go X G;let(dEn,F9,h1,h2):=v8.go X G;let(dFi,h3,W6,W7):=v'.go X G;let(dOn,h4,W8,W9):=w1.go X G;let(dRu,h5,W',mRu):=w3.go X G;let(dWa,F2,kWa,h6):=w5.go X G;let(dWi,a0,kWi,h7):=w7.go X G;let(dPa,a1,h8,h'):=w9.go X G;let(dDi,a2,i0,i1):=x0.go X G;let(dLk,i2,kLk,mLk):=x2.go X G;let(dLd,i3,kLd,mLd):=x4.go X G;let(dTn,i4,kTn,mTn):=x7.go X G;let(dLa,i5,kLa,mLa):=x9.go X G;let(dCe,i',kCe,mCe):=y0.go X G;let(dCg,j0,kCg,mCg):=y2.go X G;let(dLb,j1,kLb,mLb):=y4.go X G;let(dLc,j2,kLc,mLc):=y'.go X G;let(dBk,j3,kBk,mBk):=z8.go X G;let(dAt,l0,kAt,mAt):=A'.go X G;let(dAl,a3,kAl,l1):=B1.go X G;let(dOc,l2,kOc,mOc):=B3.go X G;let(dIo,l3,kIo,mIo):=B5.go X G;let(dLe,l4,kLe,mLe):=B7.go X G;let(dmI,l5,kmI):=H5.go;let(dmB,a4,kmB):=H6.go;let(dmO,l6,kmO):=H7.go;let(dmC,l8,kmC):=H8.go;let(dmW,l9,kmW):=H9.go;let(dTI,l',kTI):=H'.go;let(dTT,n1,kTT):=I1.go;let(dTN,n2,kTN):=I2.go;let(dRI,n3,kRI):=I3.go;let(dRC,a',kRC):=I4.go;let(dRW,n4,kRW):=I5.go;let(dLI,n5,kLI):=I6.go;let(dLL,b0,kLL):=I7.go;let(dLD,n6,kLD):=I'.go;let(dLS,n7,kLS):=J0.go;let(ocZ,odZ,kVZ,dcZ,pmZ,anZ,cdZ,ctZ,slZ,lZ,cZ,kZ):=tZ.2;let FZ:=xZ (st:=AC) lZ cZ kZ;let b:=Uk X G z2;let x:=Uk X G z3;let a:=Uk X G R;let O:=Uk X G z0;let f:=Uk X G t;let N:=Uk X G S;let c:=Uk X G D;let Q:=Uk X G z4;let n0:=Uk X G z5;let p:=Uk X G z1;let d:=Uk X G r;let q:=Uk X G o;let n9:=Uk X G z6;let n':pw K y:=λH=>.inr #[111,B',22,b8,(.cons #[12] (.cons #[12] .nil))];erw[ua "law" "law" (bZ AC) (bG AC) (ae AC) .none kVZ dcZ pmZ anZ cdZ ctZ,λs v=>.of_eq Z,λbase _ _=>?_];generalize l.prog=P;let g:⇑1 p' _ _ aZ:=Dm F;let GBx:⇑1 p9 _ _ (uA K):=Hv d7 b x;let G0:⇑2 q1 _ _ iG:=v6 E #[g,F.b2,k,m];let G4:⇑2 q3 _ _ gQ:=yP F4 g F.b2 k m a;let G5:⇑6 q5 _ _ (dm 4):=FE (P:=P) (w:=w) (base:=base) F0 F0.b3 m7 #[g,F.b2,k,m] #[G0,E.b1,Y,m0] b 4;let GPo:⇑7 q7 _ _ lQ:=Dl d' #[g,F.b2,k,m] #[G5,F0.b3,k9,m7];let SS:=Nf (P:=P) (w:=w) (base:=base) e2 F5 #[g,F.b2,k,m] #[G5,F0.b3,k9,m7] #[GPo,d'.b2,P1,P4] e2.b5 Q' F5.b5 e3 b N a;let GBo:⇑21 r1 _ _ (ik 6):=(SS 6).2;let GAn:⇑22 r3 _ _ uu:=Hr e4 #[g,F.b2,k,m] #[G4,F4.b2,k8,d8] #[GBo,F5.b5,R1,e3] b a N x;let G1:⇑2 r4 _ _ oM:=MG I #[g,F.b2,k,m];let GIn:⇑3 r6 _ _ (dG 2):=yM e5 #[g,F.b2,k,m] #[G1,I.b3,k0,m1];let GLo:⇑3 r8 _ _ (dG 1):=vY e6 #[g,F.b2,k,m] #[G1,I.b3,k0,m1] x N;let GTi:⇑3 r' _ _ (dG 1):=pU e7 #[g,F.b2,k,m] #[G1,I.b3,k0,m1] x N;let GBu:⇑4 s1 _ _ ny:=C4 e8 #[g,F.b2,k,m] #[G1,I.b3,k0,m1] #[G4,F4.b2,k8,d8] #[GLo,e6.b4,S2,S3] #[GTi,e7.b4,S4,S5] #[GIn,e5.b4,R',S1];let GCa:⇑23 s3 _ _ nB:=C5 e9 #[g,F.b2,k,m] #[G0,E.b1,Y,m0] #[GBu,e8.b1,S6,S7] #[GAn,e4.b3,R5,R7] b N;let NS:=Fd (P:=P) (w:=w) (base:=base) u u.b1 M Q c;let G6:⇑7 f0 _ _ (dH 6):=NS 6;let GNc:⇑7 f0 _ _ (uH K):=HP (fN:=f0) (fdN:=K1) u #[NS 5,u.b1,T,M] Q c;let GOw:⇑1 o5 _ _ oN:=HR c8;let US:=Nw (P:=P) (w:=w) (base:=base) c' c9 U c'.b2 L0 c9.b2 K5 U.b2 m6 #[GOw,c8.b1,K3,K4] #[G6,u.b1,T,M] O Q c f;let GUo:⇑31 f1 _ _ (gV 7):=(US 7).2;let GUz:⇑10 f1 _ _ (gV 0):=(US 0).2;let GBi:⇑1 o6 _ _ oG:=Ht d0;let G9:⇑2 o7 _ _ io:=Dg F3 #[GBi,d0.b1,L1,L3] O;let GDe:⇑1 o9 _ _ lE:=C6 d2;let GPg:⇑8 f2 _ _ gU:=yQ V #[G6,u.b1,T,M];let GPc:⇑8 f2 _ _ (uJ K):=HU V #[GNc,u.b1,T,M];let GPs:⇑11 p1 _ _ lP:=Dk d4 #[GUz,U.b2,k5,m6];let GmB:⇑63 c6 _ _ (oO i 8):=Ph (P:=P) (w:=w) (base:=base) ck a4 l6 l8 l9 a4.b3 c5 l6.b3 E' l8.b3 H1 l9.b4 H3 #[G9,F3.b1,k6,d1] #[GUo,U.b2,k5,m6] #[GDe,d2.b1,L5,L6] #[GPg,V.b1,k7,d3] #[GPs,d4.b2,L7,L8] b N f 8 (RO _);let GmI:⇑3 c4 _ _ (uD i):=HI l5 ck #[G9,F3.b1,k6,d1];let GPm:⇑64 p3 _ _ (nL K y):=Di d5 ck mk GmI l5.b2 (WB X G C') (WB X G B9) n' GmB a4.b3 c5 #[GPc,V.b1,k7,d3] N f;let GMa:⇑65 p5 _ _ (nH K y):=De d6 #[GPm,d5.b3,L',N1] N;let GJo:⇑1 s5 _ _ lJ:=vX e' (WB X G v0);let G3:⇑7 s7 _ _ (cQ K 6):=BN (P:=P) (w:=w) (base:=base) J J.b2 m2 #[GJo,e'.b3,S',T0] 6;let G2:⇑1 u9 _ _ (ls y):=yJ L;let G':⇑2 v1 _ _ (lI y):=vW F7 #[G2,L.b2,k1,m3] p n0;let GWs:⇑8 v3 _ _ gW:=we g7 #[G3,J.b2,k2,m2] N;let GDa:⇑9 v5 _ _ (gL y):=vS g8 #[G',F7.b3,g5,g6] #[G2,L.b2,k1,m3] #[G3,J.b2,k2,m2] #[GWs,g7.b2,W2,W3];let GFo:⇑1 f3 _ _ fq:=yL F1;let o0:⇑8 v9 _ _ (oI y):=yK F9 #[G2,L.b2,k1,m3] #[G3,J.b2,k2,m2] N n';let GFi:⇑9 w0 _ _ (gM y):=pT h3 #[o0,F9.b3,h1,h2] p n0;let GOn:⇑9 w2 _ _ (Bi y):=wb h4 #[G2,L.b2,k1,m3] #[G',F7.b3,g5,g6] #[GFo,F1.b1,g',h0] #[o0,F9.b3,h1,h2];let hxL:clsIn K A≠ι:=by
  unfold clsIn;rw[D'];intro z;symm;cases z
 let hxD:clsIn K B≠ι:=by unfold clsIn;rw[E1];intro z;cases z
 let mxL:=WB X G D0;let mxD:=WB X G D1;let xmL:XM K mg "TooLong" A:=#[e0,k3,b7,t0,mxL];let xmD:XM K mg "TooDeep" B:=#[e1,k4,b9,t1,mxD];let o1:⇑1 s9 _ _ nJ:=vZ F6;let GPf:⇑2 u4 _ _ nJ:=wc g4 #[o1,F6.b2,k',g0];let GBe:⇑2 u0 _ _ iR:=yH g1 #[o1,F6.b2,k',g0] b;let GDp:ai P w K mg base (gr P w) 1 u2 _ _ (fj B):=vU g2 (WB X G vD) xmD;let GTI:⇑1 f5 _ _ (nM C):=Do l' rk;let GTT:ai P w K mg base (gr P w) 1 f6 _ _ (lR C A):=yR n1 rk xmL;let GTN:⇑1 f7 _ _ (gR C):=Dp n2 rk;let GRI:⇑2 f4 _ _ (nK C):=Dj n3 rk GTI l'.b3 (WB X G vT) tm;let GRC:=LW (P:=P) (w:=w) (base:=base) rk a' a'.b4 m4 n4 n4.b3 b' #[GFi,h3.b2,W6,W7] #[GDa,g8.b3,W4,W5] #[GOn,h4.b2,W8,W9] GTT n1.b1 m9 GTN n2.b2 m' (GDp) g2.b1 T9 T' #[GPf,g4.b2,W0,W1] N 16;let GRu:ai P w K mg base (gr P w) 45 w4 _ _ (uK A B y):=HV h5 rk E5 GRI n3.b4 (WB X G vR) #[GBe,g1.b3,T1,T2] GRC a'.b4 m4;let GCe:⇑3 y1 _ _ iS:=yI i' #[g,F.b2,k,m] #[G0,E.b1,Y,m0] a;let GCg:⇑3 y3 _ _ uC:=HE j0 #[g,F.b2,k,m] #[G0,E.b1,Y,m0] a;let hxB:clsIn K xB≠ι:=by unfold clsIn;rw[E2];intro z;cases z
 let mxB:=WB X G vB;let GWi:⇑34 w8 _ _ (lU 16):=Nz (P:=P) (w:=w) (base:=base) F2 F2.b2 h6 a0 a0.b2 h7 d 16;let GWa:⇑35 w6 _ _ (oR 17):=yV (n:=16) F2 #[GWi,a0.b2,kWi,h7];let o2:⇑36 w' _ _ (mz 17):=HS (n:=16) a1 #[GWa,F2.b2,kWa,h6];let o3:⇑1 x1 _ _ oH:=HG a2;let GFz:⇑1 f3 _ _ lH:=vV F1;let GLk:⇑1 x3 _ _ nG:=Db i2 b a;let GLd:⇑2 x5 _ _ nF:=C9 i3 #[o3,a2.b1,i0,i1] b a;let GTn:⇑3 x8 _ _ oQ:=HZ i4 #[GLk,i2.b3,kLk,mLk] #[GLd,i3.b3,kLd,mLd] #[o3,a2.b1,i0,i1];let GLI:⇑1 f9 _ _ (nC j):=Dc n5 lk;let GLD:⇑37 c2 _ _ (lG j):=C7 n6 lk #[o2,a1.b2,h8,h'] a;let GLL:⇑70 f' _ _ (my j 16):=Mu (P:=P) (w:=w) (base:=base) lk b0 b0.b5 m5 n7 n7.b5 c3 #[GTn,i4.b3,kTn,mTn] #[o2,a1.b2,h8,h'] GLD n6.b5 c1 #[GFz,F1.b1,g',h0] d b 16;let GLa:⇑71 x' _ _ nE:=C8 i5 lk E8 GLI n5.b1 (WB X G vL) GLL b0.b5 m5;let GLb:⇑46 y5 _ _ (nD y):=yO j1 (GRu) h5.b5 W' mRu #[mxB,hxB,t2,m8,E3,E4] p;let GLc:⇑4 z7 _ _ uB:=Hz j2 #[GCg,j0.b2,kCg,mCg] #[g,F.b2,k,m] p;let GBk:⇑66 z' _ _ (uy K):=Hu j3 #[GBx,d7.b2,N',O'] #[GCa,e9.b1,S8,S9] #[GMa,d6.b1,N2,N3] #[GCe,i'.b1,kCe,mCe] #[GLb,j1.b4,kLb,mLb] #[GLc,j2.b2,kLc,mLc];let GAt:⇑1 B0 _ _ uF:=HK l0;let GAl:⇑18 B2 _ _ (iF 17):=LV (P:=P) (w:=w) (base:=base) a3 a3.b2 l1 d 17;let GOc:⇑40 B4 _ _ uI:=HQ l2 #[GAl,a3.b2,kAl,l1] c;let GIo:⇑40 B6 _ _ uE:=HJ l3 tk c q N n9;let GLe:⇑40 B8 _ _ uG:=HM l4 #[GAt,l0.b2,kAt,mAt] a b;rwa[HL FZ #[GBk,j3.b1,kBk,mBk] #[GLa,i5.b2,kLa,mLa] #[GOc,l2.b3,kOc,mOc] #[GIo,l3.b1,kIo,mIo] #[GLe,l4.b2,kLe,mLe] b N]
def OT{l:ti}{Y:cv->df->Prop}{d:DefRec}{K:Params->γ}(e:l.most=δ 63)(H:d.params.defaults=[])
  (g:∀(w:cv) (h:df),Y w h->(K w.params).In h)
  (F:∀(w:cv) (mg:ρ->FC ζ) (b:η) (h:df),(K w.params).In h->h.Ns ab mg->mg d.name=↑b->
   ∃c:dN,(∀(s:θ) (u:ζ),BindsTo s c #[[u],[]] [("_law_script",u)])/\∀base:df,(K w.params).In base->base.Ns ab mg->ai l.prog w (K w.params) mg base ay 72 b c ["_law_script"] (oK$ K w.params)):
  PySem.W.WalkO q L m Y l.row.toRowW d [] (λf v=>PySem.call f v):=
 _L.En (n:=63) (k:=72) (x:="_law_script") (CX:=λ_=>ay) (sp:=λw=>oK (K w.params)) e Ra H #[Z,Ra,Ra] g F (λ_ _ a N i _ j=>#[a,N,Z,j,i,λ_=>Z]) λ_ _ _ _ _ z=>z
end _K
local macro_rules|`(command|#print $s:str)=>do{let mut l:=Array.mkEmpty 0;let mut n:=0;let mut k:=0;for c in s.getString.toList do{let a:=c.toNat;n:=n*62+(if a<58 then a-48 else if a<91 then a-55 else a-61);k:=k+1;if k%11==0 then{l:=l.push (Lean.mkIdent (.mkSimple s!"tw{n}"));n:=0}};let f:=Lean.mkIdent `PySem.W.Fast;`(command|structure $f:ident:Prop where ($l* :True))}
#print "0000000000284QnXbHkmQTBu5tUjMj7925842XgkuaTmBZwkEgWTmI23zEozutUdjA73rAat5CFtWFWCfzsie6ZD7UxkhyzLvqpB3vnZSN9RTP60yM8ZZxavgFygixu4YabLDYiBGjZDtgTGDfGf3VBo99Hg4zwnnJt7V7qHy2qzj9rELNkN8IFqmUUG2sLrPxxcblFA6cN39lrB69lt6F9echarCRFJibe1rO606GAzH9DtUTHR24B1gDiBI1FpO9ELzAY6FpD4XXjuols3QVxRtnAiOV3RPyncIgYHT5p1lHOZNEtQ8dHtjgmrAvDDynSwb2rVfZ0db4CFUQCyoFblqsgCU0DkLSrLQ8xDz5uAN1Gay06kZK7Tg5yWGzK4A8nIxo6LgSR63VQ8K2LtvX62du6iZWPLodFJaFwlFzVBJ0Kl7CLp8s3i93kaPtwUjK21cq3oGg45S2AV3ebTY76H6EAd9hgh6mJiBoy0VqwJfvy5bSZKD0iQMlDxD6rHTveUVBADcsT3LjMdAP9MrtwZgnj5yHhP1oVbEC0QnHqazDyJZJcDj2y1693JD8dvY4DX8BP18MTzbSRDbDCLz6lvG2kIMGlf5SzXWggoIZ7UZg4lTdB5fedUupkJRyHifjsGXdAhZAF6P82Nx4XBIIqNmgBRhlZ29oBF6cXDHxHCXUPqBM0IMGsx6kXXypvu3ynZvp2zAMXIsWcfxU1OQI5UAKewOjoZS6cosn8giL3LCouBhjrtFJA3uRnDh4vMnbBWlsAVDj1RJGGvpOWOrLbF78lS1CC1sH0Cssk0NENozHLS8GxaPmK5n45cYFoEEgUrIpj9aw1NjYPFzN4NK0v2Iz9buSNW70rMw35h1mt7mTYu3CbC81qPZMsGNUMpVXftGX2hmekU9L9N0GGtGaYzlFGlA2mKegMr2HgE5upKj071bpBU9Ng0GmmM54CsltpRdRMT7yyvsG4LErA2DCaboSuUrv38EDZ828A2aHRQlS9n6A0AL6agt07wt2QElfRui37qHM9LOIzr6rSZu9i5CGrUCBIc5TkOBPldU1Z8xlIvIoK2qrHWnVi09YKSB68K382SwOLKKzxCozaj0ltFUxcukfqlPF7H2WSxDRxvSFpiQRa2mruYCGIVIFl9Ucw9ZFq6mD4nOHCeowDVCJsQZLqiIquBI2uVDtftNGys2Zy8DqME3ZLi3d0fxHKCbpKVDD8hM1EwDvvhIXyKjirmVcd76HlcFMU1T91PLuEqxAfMIBIF5YxRNqpm85WsssqUKia8zSou8ahiYc40NUpXVhzLA91nb0DKUbEq4YQSYXAJTOJEqFNGHTP9F892Ohz9GhbWL2TLW9inuYVT35e0eN4WSb4EoRhtAM9yuEBSSYQVqzXwwL8exjxvbKufK3GktnFjHfv2HtdQvVxPj1LSX3QqtoHclBi4V3wrH4OF0yAZ8j4OA3m0U4cBfc4SIy8R7i7Q1FKNm9haxZS5eGUy75peucE6tU44exFsFdKzlPLp0yADFGu321476rMvqH5M0Wzwc24mBgcH9MRvU5cj44BwJioUq6IobHhx9ol47Zh5J1ylLgjptNNI7cPwimk3ut9vB8kmrLucy32dOQvvWZAY9IOwFB2L8JxCVpmn9JjkPg0XYZN87es4s2U5B65DgMSp9Ie9Ap5JUL5HGw9wnI2TqiJjVuS0qG2GhFQW1rU5nrHfKlW8GiUaT8DFo2OFqCIy8zC9mQN83txVzKnHtO3vhYknC2vgKpk5oJn2qAVorsmc7oJTESED9IrNtDC1Ok4hiMvs1tm8tEh11Sr8iUklyFTLjN1g62B36mGK7LgPHENdZxKl959lIO4NESE6r7u8mYBAli38K2LZVgwmYIvfdOGkqZinErUt7rzH05TLqHlARs0sgs7iLJuivvPqP1Ic6YR6ugRs2TH1eQr0oFUFwIRKkKDy708T3DhQyFq2AD6BHYqRmFasDeJKPIqbgzA424QiKt3vlWLssVNxmoppmE0q5RR3rcJ172T1GysnSVwIOSQTErflTY17lKtC0sWaY5OOaHwz5weVIitNEABAggkB1mH9H2gTUG42iTVKl1tPy5mZcT3KPVo9Ftb9aqB3TymL5IbFJLF9xn7mE3xHdGZnBJrOXfZXEb5q3BzY8Kpcp9I0eShctwd1ydFilwXEbVu4fL0Ri3CuGqzcDno9cNmKlCU3JebZ916L49CLLzHVsqzRn66c6wDoARTRJUn3dxn50el1kxzk7HLR720eQEjZactQp0zSBDyKJd06HTJHA6mpy9PKbbqDFVlbyPEPG860BYACE7Zwv5Fu5X93JaJh2pwCS4C4tLKV2lf3rf6ts8GjzN5FZ0jzlYL9Qp0EJ87xE29dOb909ORTzBRwOhFVnjQROXFaYFQcwwKEF8JO1p6Gej1prJXFvvtLFISoFS1M8YszRzASQA0nyyeIJ6aSGwSZRp5Yc4F7E6C6IF0p8h4cFGYPcF5z61HKG9CAOWe6Kd45mLp6Uvv8oFHSwUIxyW7KekZGws26bAYY2kaYcLWEErzH9oUWZRK1Z1e7jgkoOtJrIx6E2uX9qFA2U75UBKVeDCYkloJJ1ZJ5d337ZotNgV28fj2I2tbV22HKRQxBQ4LoEk3Eu2JFJlG0VnpB2jmp3F6AAGrlh7oojEm7zpDte5Ik8HGNuR6rZLY4FnNms7Bp1oFsQZKU8tobB9IB2hBJnkJb5uLtqJK8CaU5BczdZwqFBI1uUcKtoBl5171dPaCxlHkUEPsMocks1rCDDr8wKXmwzc5zRvShCEPR8EEAhYzfio944HOjud3OyCr5AK4feKa2ZeFfz3KjT07g0HKVHHL6TWjW9UjncVHmYdR2gNzEK9Mdf07zXC4jfnyGwFvliwAtaL9zIm1W8tREXaB5RcgfSexEM0BArSd5rFXKW5bYxdpl6Y1oG9bRXW42vok4UcSGkwJkzYHuf7YzRjbXD3VlMNUHhvbCA9kn1M3gYVs9KMRI9GTVpW9ypsy6UKrAq1QR3loSdGBaCTdR6QRWZbp6WonugAkKUSDitt5LN7Rmi6WfoL976n7QHYiHBkZXKJC1dHVNLHjGUl7I0DTuOT5VkHHLKHI2Y01XEBv25SSObBZE5CrxzF5za5FLId0wlD4OcDu59Sa8tNQY8pw2iYe2OIK5TVVoSCz20iIUxBPEyEdazF6RNag9zsFeIuLrm6VwMF99GXgzNOx4tMF0JqTQHD8ITDaqDVFSXjMBAioOxaRpQW82TU9fsgbyiSLRM8pmmHZ8XDu9GFD32WPPIzsbbW6hPZR196xXrWDgiKLjGupGeVwdy4Qb6NR4C0BkI4rB3gWbOgO8TxGEIUQDoE55OFo3PtSEjFjjn79ArEVWKHeUwDCjUYZHFwweRTtjwGBQuajLDRWr6Bg1OYmf36mh1AwfZmFkzZuBLa7903ErRhEEbzdjyOFY4JJh2kmEjG2S6gakhAVxTe81rMJJjJvko19NZXE8caGqG6EWRGCfnjy6LvYaDAKutDIIiSDcAF5Fa10TDk9Nw4xYV5My0pcm3bfwBWyM4i6BBOd4zyQzT6M5zHFnCuOqyJrIp8ElrKGftzXB6xX8KAC9dY2Go0TO7FUEgmFdwZFWNa3YvJdhQr0HPq3X0UGhAjj2Cji36quUAd1QEp8UeB7QpuaPpHKjEf7kZenq99ih8LZnDmEH4vTBedr2mq6OgrcE7HXJ83Aedwkny0CKCV1DXth5jx01nKxUhRGnBeDaH15FW0HCx1PU6KPG5IByIj7353vyaBF0PUq7bAaCDp43S7sZJvmpu9f7ORPznc5yAd1S9UcdGwrLjteBTSznmo2MqaKkmdyf9KaR7bv5BNHl7bpLCyJSAPNDQHRJUA6NFU8O7fSD24fqyC2CbWhjGg1UEtyHX0QxeN3CwD9KO03graKJfCYEcub03JzYGY2gzjzQHOu250ytxIy2yzBrx9V3dTCG7tZddkdsTDUKAW96nYgfHAm175GCCoU4ix7sUVco3R6CTAWVg7XT4HbfdTHqlHgFIoPOXjL5inVJZqqKpfpGN1JbbmaKXOXhK3qUTJb7gluK1rwbiHIXa5mLmIpTbnzcif0cpRX3mHvPiLHQFDQ2y2mL5Y1sMEShbumArccBHoVWgw1K6YoA7G21TJQoo6Hy9evc7hbcQUhW76qHsc5NdOS1Rk2Qdf8fX4rjX2xu8W5TdoZe2FmK1j85jUh3rlXmBB8NEjEbVCXMKgTOb9z9SgwXMXzgIMBsgTwq2jMFqWWzL6IL28EuRdotcO4sm6KgGqbYVzBGFqkg3NXsxrjAd0PsgxZpOTGG05GMutLmE6LnJRLVnLilGSSFL33VBB78gYhZGKavK0BnGBllDMC0x8PHAMfLEhYeH3nynCrt46PHFvEsvZtnmc8tnYAGhtWwi67XgbgtMkj4G7i9SRZ5RahA0ix0XQFgYbLV1gC73fKyEETSx6zMR6vyJqaljKpf8oyFAbI1AvByFZCNvKtkH3Kfb4POAsjpGATJB32QEclL2B0GQnFBKo44vFGFAu5tJejJPC5MoumN1dkLGC3ZfzNoWN8HYeADZMD8IMKU3RIeQmjD0Dlfr8tgiBKi1aR9O2f5UhQ3Dm7m6dRPtA5RJPgbAtSa9GzMnn3qzD8vCMAq4oVMrOMC0Oq7gkFSDkDrZInrBsSF71TZyIqHGo8q8jRENyXr7192uxmiXtTcjT9SRSxw1UB0MEbAJ3qis5UaJ1KirCpjXpbDmuYXxoNAow4uh0oToULYtIUWl4f2knidJBAzXsL2eFF8BdqCmfmkMbJYMcdBWSUpiGHgCueq1GqFLZNVh2YTrrGKp1f2BpPsftCgHVaSru938DvBQz9luODj8TkaQno57KeKH0IqhkhQp9Bkt35xsOpsKJu0NE827dMcDud6by4jjPi5RKyQLIZFf6ACxKCt8Tzpe3VN1D052SwM1e24HKZTvmn9oizq9bTyMG7T84fr3b5AA87ngOKkT3tC5S2DaKItltJGKCoTdXg1SIAMH2N16fsB06cr2BusyBF5AwrIVXzwIfL796uCswiLeq99P39o4doOEK1KNdcIzcDzGSF40hZXXtrE2ok0OP34WMDUyX0yBq2pF669CR87SAZ96PNtQJFTjziK5JILeWRJWf466Dgu3ic3aDXQPoROGe0J0Ffyr7fM8XuCUI0VBrVVDS8jW6k2oszFsKcgAHHk8EQU6HCba3haVgnGyOJqfh7AcPGhIQhnd8tLX9rAQYf1p64q3I2rOYFP0ZbCXJKXVEpIy0Glp8imoxQMWIcXSFYMYr6XCCaAiexwWDW33FitHSJa1I2CzbeGkys7BAGClmPostyy1Yl9q0Wfnlv6g6u4ErfFRq6lElhWKF7YS3pKa9mRxcnQ5iKcMF0rMRHGksFs6CnOKTLrCslBQX0hk3XNFMsJZq01FhtfoY8KS1vGXfHN4qL2EKE7v6Q5IcL73DXsmTzwJXyULreVlJCs8w6EdV26CLNnyuJ4u7R7nDzQG1x6pzUkT4WkF9hpJpg96y6HOytBGW41VMFWguxWyBysiF7A3XxQrmraCTmko3M3e7xA6r3qiMsg8OIz13UTBXHAxIZaZGjFWCULIdOpP9JQCaJIrDa4rOhiDcFeLs8gd1H302y6fkpQHjngDhQgiEttclWAkDB8WeLNgp9GdWOXOEQue6N1jF2yvZhD54S6Sr9Ysdf7Ej28FAVtvB3QC4pp5SjfC38siYbSPWZBAH1tWyNYztNC0789PjurMt25bvC3wXfLbGApHT5AFMFl6Nu6e2fHBg0Cw37iYjIvhuGu87TI7rkWJK7yNyJTFrxfB0SMvaFNcR6HBkycsSVZ0y5GhZg1Cx46q9NR2BngbccM8rSS0sc94YtB3h3Kz4x8aa2OeQrkzjFXMBZH2WWSIPlQ2jVu0MDwa58FACPq1Qdgiy3SfByQoV5wDCJUxS9wzRpa3VV3avOpirwJrse6HEUo4W8JFubA7fI8z45Gr2WQtWtfHlK1KiufQziHJ1k3TIg4wG5kPU3IgFd2G1SoFCGwp4TABYuLmcionf03rEaGM7dNZe5AoQaxh7O184f5ab6KQ8IAKlC684LvFraAAaqm37Mi7c6JdqfA8zDTlI5lkfVFlo9S2NpdE1SsnZRHgNssfBGrHdGlhLacE3dDNB2XzV6r4e9U6VkjIWgzSpXDiKim0PruscIw63g4fJXTmHZysQgmGXKPGw7kgB96yGo1AglLmNc7HfFHLYhQIWPP35ZlpT8j4yiX4Smf2ULEm7RB7VS1rF3QcB8xKNH7U3AVJ4ifGHm3ziuWFHGWNo6OMlz82m6qM1XmjUGo0nfrKQuiQJced0cvJW0TGYqtrAtTUn7BVEmTz8OrYm4QIlHY7fqB6ENOigTGy8XrHqv7jsoaAs80OTpPJ5pht3CZSUSVATpW8CakewAibwjPCxGd6rAucoaCHKtK0MbIt08Zqvp98eLwBDO57wMDpWLaCV6Jd8IX3wd4wwslxlr6uY2DwdgCEKwYrJNZyLNW6ZZJ7pCPv5fuWga127iJZpUMhzDgJaiJF3UG64F0JirZGAzw2crTb1GArQMIVHxwOH5G1u3YmqnwAbKL48vY1vZJ2Z86Du1PhSLj3E145ZXIjaSDVO7soDjg1qSpcDf02mdojx6I4UhsZ7DPIEW9EEn1I7qIj7"
open PySem PySem.W PyProof.Rows PySem.W.X
def _K.Ny {q : Δ} {loose : FA PySem.Str} {XP : (PySem.Str → FC ζ) → df → Prop} {K : Params → γ} {as : FA η} {n t : Nat} {r : RowW} {d : DefRec} {kwd : FA (PySem.Str × PySem.Expr)} {run : ζ → FA ζ → Sem ζ}
    (e : ∀ P, as = (K P).map (·.1)) (h : WalkO q loose XP (InK K) r d kwd run) : WalkX q loose XP (obsZ as) (valZ K n t) r d kwd run :=
  fun w s₀ s₁ mg mb G Y a o pm cd doc dV kV h1 h2 h3 h4 h5 h6 args vals as' L => h w s₀ s₁ mg mb G (InK.keeps w _ _ (z_facts e Y).2.1 L.keeps) a o pm cd doc dV kV h1 h2 h3 h4 h5 h6 args vals as'
set_option maxRecDepth 100000 in
set_option maxHeartbeats 0 in
theorem PySem.Challenge.cw_againbook_k35_whole_likes_in_order_holds : PySem.Challenge.rw_againbook_k35_whole_likes_in_order.Holds := by
  w_on; o_law; z_head; (case hw => w_witness2)
  erw[_K.Ny (fun _ => by rfl)$ _K.OT (l := PySem.Challenge.rw_againbook_k35_whole_likes_in_order) rfl rfl (fun w h Y => Y) ?F]
  case F =>
    intro w mg fa h KX G hmg
    apply _K.FR KX G hmg
    iterate 61 (apply _K.OR;iterate 4 k_is)
    iterate 24 k_is
    iterate 2 k_exc
    iterate 2 (constructor<;>k_is)
    erw[⟨⟨?_,?_,?_,?_⟩,?_,?_,?_,?_,?_⟩];iterate 4 k_is
    iterate 5 (unfold _L.be;k_is)
    iterate 2 (constructor;iterate 4 k_is)
    iterate 4 (constructor;iterate 3 k_is)
    erw[⟨⟨?_,?_,?_,?_⟩,?_,?_,?_,?_⟩];iterate 4 k_is
    iterate 4 (unfold _L.be;k_is)
    constructor;iterate 4 k_is
    iterate 3 (constructor;iterate 3 k_is)
    erw[⟨⟨?_,?_,?_,?_⟩,?_,?_⟩];iterate 4 k_is
    iterate 2 (unfold _L.be;k_is)
    constructor;iterate 4 k_is
    iterate 4 (constructor;iterate 3 k_is)
    iterate 15 (apply _K.Pf;iterate 3 k_is)
    iterate 13 k_is
    constructor;iterate 2 kit_is
