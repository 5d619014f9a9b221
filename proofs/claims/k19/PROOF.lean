import PyProof.Rows.All
import Wide.All
import OpenK.AllK
import Wide.FinOn
import Lean
import PyProof.EqAt
import PyProof.EqKinds
import PyProof.TupleCall
import PySem.Challenge.RW_againbook_k19_whole_cuts_run_by_hand
set_option Elab.async false
set_option linter.all false
set_option maxRecDepth 100000
set_option genSizeOf false
theorem rN:0≤PySem.sizeLine:=by decide
theorem nL:1≤PySem.sizeLine:=by decide
theorem cj:2≤PySem.sizeLine:=by decide
theorem f8:3≤PySem.sizeLine:=by decide
theorem sD:4≤PySem.sizeLine:=by decide
set_option Elab.async false
set_option linter.all false
set_option maxRecDepth 100000
set_option maxHeartbeats 4000000
open PySem.W (keepIn Frag nsIn kitOne fnOf mg_of codeIn findIn mroIn isFn mg_none_of kia_one typeIn emptyDict clsIn instObj hasDictIn kitAny specialIn callWith_K excIn lookIn plainGet notCls tailIn)
theorem OA{p:Prop}(h:p:=by decide):p:=h
theorem OB{p:Prop}(h:p:=by omega):p:=h
theorem OD{p:Prop}(h:p:=by simp):p:=h
theorem OE{p:Prop}(h:p:=by decide +kernel):p:=h
theorem OF{p:Prop}(h:p:=by rfl):p:=h
theorem Z{α:Sort u}{a:α}:a=a:=rfl
open PySem renaming wpAny_bind->D9,wpAny_pure->Ea,wpAny_holding->Ez,wpAny_field->EG,builtinLookup_eq_fast->EQ,wpAny_Call_Name_kw->EU,wpAny_call_entry->EV,wpAny_callSpecial?_slot->EW,wpAny_newObj_type->EZ,wpAny_seqItems->Fb,codeAny_builtin->Ff,typeLookup_type->Fn,wpAny_setField->Fo,wpAny_mono->Fs,plainId_quiet->FD,wpAny_typeOf->FG,wpAny_specialOf->FM,mem_of_lookup->FQ,wpAny_rule->FV,isSubtype_type->FX,boot_len->F',codeAny_mono->Ga,wpAny_setState_of->Gf,wpAny_isInstance->Gm,wpAny_truthy_bool->Gv,wpAny_setField_rec->GH,wpAny_updateSeq->GN,wpAny_passesOwn->GQ,wpAny_standAt->GR,wpAny_attempt->GS,wpAny_askSetting->G7,merged_length_le->G8,wpAny_setEntries_of->Hf,wpAny_execs_nil->Hj,wpAny_pyIter_list->Ho,entryFor_of_tree->Hs,tupleKind_room_in1->HR,callType_codes->HS,wpAny_dictSetHashed_pairs->HZ,wpAny_of_eq->Ij,sizeLine_eq->Ik,fits_of_scanBound->Il,call_meets->IC,wpAny_notOrdered_dict->II,codeAny_handlers_test->IJ,wpAny_loadPart->IN,wpAny_fieldsOf->IP,isSubtype_stop->IR,entryFor_alias->IS,codeAny_extend_loopS->IU,wpAny_handleBy_cons->IZ,wpAny_sequenceKey->Ll,wpAny_pyIter_slot->Lm,wpAny_execs_cons->Lw,noFill_tuple_add->Lx,merged_take_succ->Ly,kt_code_dict_new->Lz,wpAny_letGo->LH,codeAny_of_tree->LX,wpAny_tryCatch->Mf,wpAny_runValue->Mg,wpAny_newTuple->Mh,wpAny_listPart->Mi,wpAny_call->Mj,wpAny_bindName->Ml,wpAny_onRaise->Mu,wpAny_comprehension_free->Mv,seq_tuple_add->Mw,wpAny_pyNext_list_item->MJ,seqIndex_neg->ML,concat_meets->MN,call_meetsIn->MO,wpAny_pyNext_list_end->MV,wpAny_isTrue_Compare1->MW,wpAny_updateSeq_pair->M4,wpAny_loadName_local->M5,seqIndex_of->M6,wpAny_loadName_cell->Ng,wpAny_Tuple_spliced->Nh,wpAny_pyIter_tuple->Nt,wpAny_load->Nu,wpAny_Name->Nv,sub_AttributeError->Nw,wpAny_storeSet_of->NA,wpAny_assign_Name->NB,wpAny_Assign_Name->NC,slot_list_setitem->ND,wpAny_pyIter_zip->NJ,wpAny_loadPart'->N5
open PySem.Heap renaming get?_push_of_some->Eb,lt_size->Ef,get?_push_size->Ei,get?_update_other->Et,get?_update_self->EL,size_push->Fe
open List renaming length_map->Ec,getElem?_eq_getElem->Ed,length_append->Eg,size_toArray->Eh,mem_cons_self->Es,mem_cons_of_mem->Ew,mem_of_getElem?->Ey,getElem?_map->EB,not_mem_nil->EC,length_cons->ED,map_append->EF,length_take->EJ,mem_append_right->EK,take_length->Fd,mem_cons->Fi,map_cons->Fj,mem_of_mem_take->Fp,lookup_cons->Fu,getElem?_eq_none->Fy,find?_cons->FH,length_reverse->FJ,getElem?_append_right->FR,length_nil->Gc,forIn_cons->Ge,take_of_length_le->Gg,length_drop->Gh,length_singleton->Gj,getElem?_reverse->Gk,getElem?_append_left->Go,take_sublist->Gp,map_map->Gr,getElem?_set_ne->Gs,take_succ->Gw,prefix_append->Gz,take_add_one->GK,mem_append_left->GV,forIn_nil->GX,mem_append->Hc,reverse_cons->Hl,getElem?_set_self->Hm,length_zip->Hr,append_assoc->HL,map_take->HN,append_cancel_right->HP,any_cons->HQ,getElem_mem->HW,of_mem_zip->Ip,nodup_cons->Iq,length_set->Ir,length_replicate->Ix,length_filter_le->Iy,nodup_nil->IA,reverse_append->IF,map_congr_left->IG,filterMap_cons->IH,mem_singleton->IM,length_range->IY,eraseIdx_eq_take_drop_succ->I9,map_reverse->Lb,length_eraseIdx_of_lt->Ls,getD_eq_getElem?_getD->Lu,mem_of_find?_eq_some->LD,getElem?_zip_eq_some->LF,zip_map'->LV,all_cons->LW,getElem?_replicate->LY,getElem?_cons_succ->LZ,append_cancel_left->L9,map_nil->Mc,getElem_cons_drop->Md,take_append_drop->Mp,mem_of_mem_drop->Ms,dropLast_concat->Mt,zip_cons_cons->MD,forIn_toArray->ME,filter_append->MF,ext_getElem?->MP,any_eq_false->MQ,zipIdx_cons->MX,append_inj'->MY,any_eq_true->MZ,all_eq_true->M0,zipIdx_nil->M',prefix_rfl->Na,mem_filter->Nb,append_nil->Nc,take_take->Nl,drop_zero->Nn,map_drop->Ny,le_trans->Nz,map_set->NG
open Nat renaming le_refl->Ee,ne_of_lt->Ej,zero_le->Ek,le_trans->En,lt_of_lt_of_le->Eo,ne_of_gt->EN,lt_succ_self->EX,le_succ->Fq,lt_irrefl->Fx,lt_of_le_of_lt->FL,succ_le_succ->FN,le_add_right->FP,le_of_lt->GF,lt_succ_of_lt->GL,not_lt_zero->Hd,min_eq_left->He,sub_self->Hw,lt_or_ge->Io,min_le_left->Iw,lt_of_lt_of_eq->IV,sub_zero->I0,le_of_eq->I8,add_sub_cancel'->My,add_le_add_left->Mz,le_of_not_lt->M7,le_max_right->M8,le_max_left->Ni,le_add_left->Nj,max_assoc->NE,zero_add->N0,mod_lt->Oy
open Bool renaming false_ne_true->El,false_eq_true->Em,and_eq_true->Fv,not_true->Gu,eq_iff_iff->Iu,or_false->IK,not_eq_true'->MU,false_and->Nq,and_false->Nr,true_or->NH
open Array renaming length_toList->EE,getElem?_eq_getElem->FT,getElem?_toList->FY,getElem?_eq_none->Ii,size_append->IW,toList_push->MH,ext'->N4
open PySem.F renaming plainAttrs_list->EH,type_list_append->ES,slot_list_append->ET,slot_zip_next->FI,slot_tuple_iterator_next->Gn,plain_extend_loop->GU,plain_list_iadd->GY,args_zip_next_1->GZ,plainAttrs_str->Hg,entry_zip_next->Hh,kt_typeCall_dict_1->Ht,type_list_extend->Hy,slot_list_extend->Hz,args_tuple_add_2->HF,args_dict_init_2->HG,entry_tuple_add->HJ,entry_dict_init->HK,slot_tuple_add->HU,kt_called_dict->HV,type_str_join->Ib,slot_str_join->Ic,slot_dict_get->Ie,args_tuple_iterator_next_1->ID,entry_tuple_iterator_next->IE,plain_proto_collect->J',entry_proto_collect->K',args_object_init_2->Le,plain_tuple_new->Lp,entry_list_iadd->Lq,args_dict_get_3->Lr,entry_dict_get->LC,type_list_pop->LO,slot_tuple_eq->LP,slot_set_iter->LQ,slot_list_pop->LS,plain_set_new->LU,args_list_extend_2->MT,entry_list_extend->M3,slot_list_extend->Nf
open PyProof.Rows renaming callWith_type1->EM,slot_tuple_getitem->Gi,boot_tuple->Gx,boot_reversed->Hu,boot_dict->La,boot_zip->Lg,boot_list->LA,boot_sorted->LJ,boot_int->Mm,subscriptTail_builtinR->MK,Subscript_->Nx,len_tuple->NK,boot_dict->NM,tupleItemsOf_->Om,iadd_int->On,entry_tuple_getitem->Oo,callWith_builtin1->Op,args_tuple_getitem->Oq,slicePart_none->Ou,boot_set->Ov
open PySem.Obj renaming data_mapFields->EO,isFreed_of_fields->Fz,cls_mapFields->Hn
open PySem.Around renaming under_plainId->ER
open Int renaming emod_lt_of_pos->EY,emod_nonneg->Ft,toNat_natCast->FE,eq_ofNat_of_zero_le->Me,toNat_of_nonneg->MG,ediv_nonneg->No,mul_one->Ot
open PySem.Calls renaming spliced_cons->Fg,spliced_nil->FK,callWith_builtin->Ih,Name_function_global->Ln,evalArgs_plain->Mq
open Option.some renaming inj->Fh
open PySem.PassesOwn renaming never->Fk
open PySem.Heap.SameBut renaming update->F8,refl->LG
open PyProof.Rows.F renaming plain_set_update_loop->GG,entry_set_update_loop->HM
open PySem.W renaming mg_none_of->GJ,methodCall_KW->Ia,plainGet_of->Iz,looks_mroIn->IQ,callWith_K->Ld,cellsFrom_some->LB,mg_of->LI,callWith_K0->Mb,looks_typeIn->MM
open PySem.Value renaming isStrOf_shape->Hq
open Option renaming isNone_none->Hv,map_some->Ig,getD_none->IX,isNone_some->Mr,isSome_map->Mx
open Sum.inr renaming inj->Hx
open PySem.Heap.DictOf renaming new->HI
open PySem.W.KFB renaming if_not->Im,if_so->Ox
open PySem.SeqAt.EqAt renaming same->Lc,str_int->LK,int_str->LM,int_int->LN
open PySem.Heap.IsSliceOf renaming new->Li
open PySem.AutoSeq1 renaming wpAny_loadPart'->Lj,sub_tuple_tuple->Lk
open PySem.ItemsOf renaming nil->Ma
open PySem.IsL renaming isList->Mn
open PySem.Moved renaming trans->Mo
open PyProof.Rows.IsTup renaming new->MS
open PySem.W.Looks renaming ld->M9,of_pure->Nk,here->NO
open PySem.Meets renaming of_wp->NF
open PySem.Walks renaming list->NN
open PySem.EqMixed renaming ne_str_int->NP,ne_str_bool->NQ,ne_int_str->NR,ne_bool_str->NT,eq_str_int->NV,eq_str_bool->NW,eq_int_str->NY,eq_bool_str->NZ
open PySem.Within renaming cons->N6
open PySem.EqNone renaming ne_str_none->N7,ne_none_str->N8,ne_none_none->N9,ne_none_int->Oa,ne_none_bool->Ob,ne_int_none->Oc,ne_bool_none->Od,eq_str_none->Oe,eq_none_str->Of,eq_none_none->Og,eq_none_int->Oh,eq_none_bool->Oi,eq_int_none->Oj,eq_bool_none->Ol
def Ep:=@decide_eq_false
def Er:=@if_pos
def Eu:=@if_neg
def EA:=@Ne.symm
def EI:=@decide_eq_true
def Fm:=@of_decide_eq_true
def FF:=@if_false
def Gb:=@congrArg
def Gy:=@bne_self_eq_false
def Hi:=@or_false
def Hk:=@if_true
def Iv:=@of_decide_eq_false
def IB:=@decide_eq_true_eq
def IL:=@beq_self_eq_true
def Lh:=@not_or
def Lo:=@beq_eq_false_iff_ne
def Lv:=@Iff.rfl
def Np:=@PySem.Heap.IsTupleIter.at
def Oz:=@PySem.Heap.IsList.at
local macro_rules|`(#[$x,*])=>`(⟨$x,*⟩)
local macro_rules|`(tactic|omega)=>`(tactic|lia)
namespace _L
open PySem PySem.Spec PyProof.Rows
abbrev aY:=Sum Int Str
noncomputable def ik:aY->Value->Bool
 | .inl k,v=>Value.isInt k v
 | .inr x,v=>Value.isStrOf x v
noncomputable def C4(w:World):aY->Int
 | .inl k=>hashInt k
 | .inr x=>hashStr w x
theorem jU:∀{k:aY} {v:Value},ik k v=true->(∃i t,k=Sum.inl i/\v=Value.int i t)∨(∃x t,k=Sum.inr x/\v=Value.str x t)
 | .inl i,v,h=>by obtain⟨t,e⟩:=Value.isInt_shape (k:=i) (v:=v) h;exact .inl #[i,t,Z,e]
 | .inr x,v,h=>by obtain⟨t,e⟩:=Hq (x:=x) (v:=v) h;exact .inr #[x,t,Z,e]
theorem YY(i:Int)(t:Tok):ik (.inl i) (.int i t)=true:=by simp [ik,Value.isInt]
theorem YZ(x:Str)(t:Tok):ik (.inr x) (.str x t)=true:=by simp [ik,Value.isStrOf]
theorem xE(a b:Int):decide ((Sum.inl a:aY)=Sum.inl b)=(a==b):=by
 by_cases e:a=b
 ·subst e;simp
 ·have h:¬(Sum.inl a:aY)=Sum.inl b:=λq=>e (Sum.inl.inj q);rw[Ep h];exact(beq_eq_false_iff_ne.mpr e).symm
theorem xH(a b:Str):decide ((Sum.inr a:aY)=Sum.inr b)=decide (a=b):=by
 by_cases e:a=b
 ·subst e;simp
 ·have h:¬(Sum.inr a:aY)=Sum.inr b:=λq=>e (Hx q);rw[Ep h,Ep e]
theorem xF(a:Int)(b:Str):decide ((Sum.inl a:aY)=Sum.inr b)=false:=Ep (λq=>nomatch q)
theorem xG(a:Str)(b:Int):decide ((Sum.inr a:aY)=Sum.inl b)=false:=Ep (λq=>nomatch q)
noncomputable def aH(p:Program)(w:World):PySem.KeyKind p w aY where
 is:=ik
 hash:=C4 w
 inj:=λv a b d c=>by
  rcases jU d with ⟨i,t,rfl,rfl⟩ | ⟨x,t,rfl,rfl⟩
  ·rcases jU c with ⟨j,u,rfl,e⟩ | ⟨y,u,rfl,e⟩
   ·injection e with E _;rw[E]
   ·exact nomatch e
  ·rcases jU c with ⟨j,u,rfl,e⟩ | ⟨y,u,rfl,e⟩
   ·exact nomatch e
   ·injection e with E _;rw[E]
 byValue:=λk v h=>by rcases jU h with ⟨i,t,rfl,rfl⟩ | ⟨x,t,rfl,rfl⟩<;>rfl
 pyHash:=λH h=>by
  rcases jU H with ⟨i,t,rfl,rfl⟩ | ⟨x,t,rfl,rfl⟩
  ·exact wpAny_pyHash_int h
  ·exact wpAny_pyHash_str h
 eqBool:=λf H h=>by
  rcases jU f with ⟨i,t,rfl,rfl⟩ | ⟨x,t,rfl,rfl⟩
  ·rcases jU H with ⟨j,u,rfl,rfl⟩ | ⟨y,u,rfl,rfl⟩
   ·rw[xE]at h;exact wpAny_eqBool_int h
   ·rw[xF]at h;exact LM i t y u _ _ _ _ h
  ·rcases jU H with ⟨j,u,rfl,rfl⟩ | ⟨y,u,rfl,rfl⟩
   ·rw[xG]at h;exact LK x t j u _ _ _ _ h
   ·rw[xH]at h;exact wpAny_eqBool_str h
 «strs»:=λk x t v h=>by
  rcases jU h with ⟨i,u,rfl,e⟩ | ⟨y,u,rfl,e⟩
  ·exact nomatch e
  ·injection e with E _;subst E;cases v<;>rfl
theorem Xu(p:Program)(w:World)(i:Int)(t:Tok):(aH p w).is (.inl i) (.int i t)=true:=YY i t
theorem Xv(p:Program)(w:World)(x:Str)(t:Tok):(aH p w).is (.inr x) (.str x t)=true:=YZ x t
end _L
namespace _L
open PySem PySem.Spec PyProof.Rows
inductive V where
 |non |bl (b:Bool) |int (i:Int) |str (x:Str) |byt (b:Array UInt8) |flt (b:UInt64) |ref (a:Addr) |ty (n:String)
 deriving DecidableEq
set_option genInjectivity false
def ay:V->Value->Prop
 | .non,u=>u=Value.none
 | .bl b,u=>u=Value.bool b
 | .int i,u=>∃t,u=Value.int i t
 | .str x,u=>∃t,u=Value.str x t
 | .byt b,u=>∃t,u=Value.bytes b t
 | .flt b,u=>∃t,u=Value.float b t
 | .ref a,u=>u=Value.ref a
 | .ty n,u=>u=Value.type n
abbrev ar:List V->List Value->Prop:=Paired ay
theorem ar.length(r:ar x u):x.length=u.length:=Paired.length r
theorem ar.get:∀{X:List V} {U:List Value} {i:Nat} {x:V},ar X U->X[i]?=some x->∃u,U[i]?=some u/\ay x u
 |_,_,_,_,.nil,e=>by simp at e
 |_,_,0,_,.cons r _,e=>by simp at e;subst e;exact#[_,Z,r]
 |_,_,i+1,x,.cons _ t,e=>by obtain⟨u,h,H⟩:=ar.get (i:=i) (x:=x) t (by simpa using e);exact#[u,by simpa using h,H]
theorem ar.set(r:ay x u):∀{X:List V} {U:List Value} (i:Nat),ar X U->ar (X.set i x) (U.set i u)
 |_,_,_,.nil=>.nil
 |_,_,0,.cons _ t=>.cons r t
 |_,_,i+1,.cons q t=>.cons q (ar.set r i t)
theorem ar.append:∀{x y:List V} {u w:List Value},ar x u->ar y w->ar (x++y) (u++w)
 |_,_,_,_,.nil,s=>s
 |_,_,_,_,.cons r t,s=>.cons r (ar.append t s)
theorem ar.take:∀{x:List V} {u:List Value} (n:Nat),ar x u->ar (x.take n) (u.take n)
 |_,_,0,_=>.nil
 |_,_,_+1,.nil=>.nil
 |_,_,n+1,.cons r t=>.cons r (ar.take n t)
theorem ar.drop:∀{x:List V} {u:List Value} (n:Nat),ar x u->ar (x.drop n) (u.drop n)
 |_,_,0,r=>r
 |_,_,_+1,.nil=>.nil
 |_,_,n+1,.cons _ t=>ar.drop n t
def dD:Option V->Option Value->Prop
 |some v,some u=>ay v u
 |none,none=>True
 |_,_=>False
def KV{a:Type}:List (a×V)->List (a×Value)->Prop:=Paired λ(p:a×V) (q:a×Value)=>p.1=q.1/\ay p.2 q.2
noncomputable def kV:aY->V
 | .inl i=>.int i
 | .inr x=>.str x
inductive HO where
 |lst (xs:List V)
 |tup (xs:List V)
 |dK (kvs:List (aY×V)) |dT (kvs:List (List aY×V))
 |set (S:Int->Bool) (n:Nat)
 |ins (C dx:Addr) (fs:List (Str×V))
 |own (x:Addr)
 |xd (fs:List (Str×V))
 |met (f x:Addr)
 |rng (lo hi:Int)
 |frz (o:Obj) (u:HO)
 |tbl (ps:Array Value)
 |ext (φ:Heap->Prop)
abbrev Hp:=Addr->Option HO
noncomputable def af(H:Hp)(a:Addr)(o:HO):Hp:=λb=>if b=a then some o else H b
theorem jc:af H a o a=some o:=by unfold af;rw[Er Z]
theorem jh(h:b≠a):af H a o b=H b:=by unfold af;rw[Eu h]
theorem jB{H:Hp}(h:H a=some o)(c:H b=some u)(d:o≠u):a≠b:=by intro e;subst e;rw[h]at c;exact d (Fh c)
theorem jk{H:Hp}(h:H a=some o)(c:H b=none):a≠b:=by intro e;subst e;rw[h]at c;cases c
section
variable (P:Program)(w:World)
def aM(H:Hp)(h:Heap)(a:Addr):HO->Prop
 | .lst X=>X.length<=sizeLine/\∃(i:List Value) (n:Nat),ar X i/\h.get? a=some { cls:=.type "list",data:=.seq i.toArray n }
 | .tup X=>X.length<=sizeLine/\∃i:List Value,ar X i/\IsTup h a i.toArray
 | .dK k=>k.length<=sizeLine/\(a==sysModules)=false/\∃c,KV k c/\h.DictOf (aH P w) a c
 | .dT k=>k.length<=sizeLine/\(a==sysModules)=false/\∃X:List (List aY×Addr×Value),
   Paired (λ(p:List aY×V) (q:List aY×Addr×Value)=>p.1=q.1/\H q.2.1=some (.tup$ p.1.map kV)/\ay p.2 q.2.2) k X/\
   ∃o e E,h.get? a=some o/\o.ExactDict/\o.data= .dict e E/\e.toList=X.map (entryOfKey$ tupleKind$ aH P w)/\(X.map (·.1)).Nodup
 | .set S n=>h.SetOf (intKind P w) a S n
 | .ins C d F=>H d=some (.own a)/\F.length<=1000/\d≠a/\h.get? a=some (instObj C d)/\
   ∃m,h.Ns1 d m/\(∀f,dD (F.lookup f)$ m f)/\PySem.Within m (F.map (·.1))
 | .own _=>∃o,h.get? a=some o
 | .xd F=>∃m,h.Ns1 a m/\∀f,dD (F.lookup f) (m f)
 | .rng lo l=>∃t u v,h.get? a=some { cls:=.type "range",data:=.fields (List.toArray [.int lo t,.int l u,.int 1 v]) }
 | .frz o u=>h.get? a=some o/\aM H h a u
 | .tbl r=>h.get? a=some { cls:=.none,data:=.fields r }
 | .met f x=>h.get? a=some (PySem.W.methodObj (.ref f) (.ref x))
 | .ext b=>b h/\(∃o,h.get? a=some o)/\∀g j:Heap,b g->(∀o,g.get? a=some o->j.get? a=some o)->b j
def dR(H:Hp)(h:Heap):Prop:=∀a o,H a=some o->aM P w H h a o
end
section
variable {P:Program}{w:World}{H H':Hp}{h h':Heap}{a:Addr}{o:HO}
theorem aM.lt(x:aM P w H h a o):a < h.objs.size:=by
 cases o with
 |lst X=>obtain⟨_,_,_,_,e⟩:=x;exact Ef e
 |tup X=>obtain⟨_,_,_,p⟩:=x;exact p.lt
 |dK k=>obtain⟨_,_,_,_,o,_,_,e,_⟩:=x;exact Ef e
 |dT k=>obtain⟨_,_,_,_,o,_,_,e,_⟩:=x;exact Ef e
 |set S n=>obtain⟨o,_,_,_,e,_⟩:=x;exact Ef e
 |ins C d F=>obtain⟨_,_,_,e,_⟩:=x;exact Ef e
 |own y=>obtain⟨_,e⟩:=x;exact Ef e
 |xd F=>obtain⟨_,⟨_,_,_,e,_⟩,_⟩:=x;exact Ef e
 |rng lo b=>obtain⟨_,_,_,e⟩:=x;exact Ef e
 |frz O u=>obtain⟨e,_⟩:=x;exact Ef e
 |tbl c=>exact Ef (show h.get? a=some _ from x)
 |met f y=>exact Ef (show h.get? a=some _ from x)
 |ext g=>obtain⟨_,⟨_,e⟩,_⟩:=x;exact Ef e
theorem Paired.mapP{c d:Type}{F G:c->d->Prop}:∀{l:List c} {L:List d},Paired F l L->(∀a b,F a b->G a b)->Paired G l L
 |_,_,.nil,_=>.nil
 |_,_,.cons r t,f=>.cons (f _ _ r) (Paired.mapP t f)
theorem aM.stay(x:aM P w H h a o)(k:∀b u,(b=a∨H b=some (.own a))->h.get? b=some u->h'.get? b=some u)
  (s:∀b,H b=some (.own a)->H' b=some (.own a)) (A:∀b X,H b=some (.tup X)->H' b=some (.tup X)):aM P w H' h' a o:=by
 induction o with
 |lst X=>obtain⟨z,i,n,r,e⟩:=x;exact#[z,i,n,r,k _ _ (.inl Z) e]
 |tup X=>obtain⟨z,i,r,O,e,c⟩:=x;exact#[z,i,r,O,k _ _ (.inl Z) e,c]
 |dK K=>obtain⟨z,y,V,r,O,E,g,e,c⟩:=x;exact#[z,y,V,r,O,E,g,k _ _ (.inl Z) e,c]
 |dT K=>obtain⟨z,y,X,r,O,E,g,e,c⟩:=x;exact#[z,y,X,Paired.mapP r λp q z=>#[z.1,A _ _ z.2.1,z.2.2],O,E,g,k _ _ (.inl Z) e,c]
 |set S n=>obtain⟨O,E,g,t,e,c⟩:=x;exact#[O,E,g,t,k _ _ (.inl Z) e,c]
 |ins C D F=>obtain⟨d,z,N,e,m,⟨j,E,g,B,c⟩,r⟩:=x;exact#[s _ d,z,N,k _ _ (.inl Z) e,m,#[j,E,g,k _ _ (.inr d) B,c],r]
 |own y=>obtain⟨O,e⟩:=x;exact#[O,k _ _ (.inl Z) e]
 |xd F=>obtain⟨m,⟨j,E,g,e,c⟩,r⟩:=x;exact#[m,#[j,E,g,k _ _ (.inl Z) e,c],r]
 |rng lo G=>obtain⟨t,u,v,e⟩:=x;exact#[t,u,v,k _ _ (.inl Z) e]
 |frz O u I=>obtain⟨e,q⟩:=x;exact#[k _ _ (.inl Z) e,I q]
 |tbl l=>have e:h.get? a=some { cls:=.none,data:=.fields l }:=x;show h'.get? a=some { cls:=.none,data:=.fields l };exact k a _ (.inl Z) e
 |met f y=>have e:h.get? a=some (PySem.W.methodObj (.ref f)$ .ref y):=x;show h'.get? a=some (PySem.W.methodObj (.ref f)$ .ref y);exact k a _ (.inl Z) e
 |ext J=>obtain⟨p,⟨o,e⟩,st⟩:=x;exact#[st _ _ p λo q=>k _ _ (.inl Z) q,#[o,k _ _ (.inl Z) e],st]
theorem dR.lt(x:dR P w H h)(e:H a=some o):a < h.objs.size:=(x a o e).lt
theorem dR.fresh(x:dR P w H h)(e:h.objs.size<=a):H a=none:=by
 cases q:H a with
 |none=>rfl
 |some u=>exact absurd (Eo (x.lt q) e) (Fx _)
theorem dR.kept(x:dR P w H h)(k:∀b u,h.get? b=some u->h'.get? b=some u):dR P w H h':=λa o e=>
 (x a o e).stay (λb u _ q=>k b u q) (λ_ q=>q) λ_ _ q=>q
theorem dR.laid(x:dR P w H h)(k:∀b u,h.get? b=some u->h'.get? b=some u)(g:h.objs.size<=a)(n:aM P w (af H a o) h' a o):dR P w (af H a o) h':=λb u e=>by
 have d:=x.fresh g;by_cases f:b=a
 ·subst f;rw[jc]at e;cases e;exact n
 ·rw[jh f]at e;exact(x b u e).stay (λc v _ q=>k c v q) (λc q=>by rw[jh$ jk q d];exact q) λc X q=>by rw[jh$ jk q d];exact q
end
def Rd(H:Hp)(a:Addr)(u:HO):Prop:=H a=some u∨∃o,H a=some (.frz o u)
theorem Rd.ok{P:Program}(r:Rd H a u)(x:dR P w H h):aM P w H h a u:=by
 rcases r with r | ⟨o,r⟩
 ·exact x a u r
 ·obtain⟨_,q⟩:=x a _ r;exact q
def Ao:Option HO->Prop
 |some (.lst _)=>True
 |some (.dK _)=>True
 |some (.dT _)=>True
 |some (.set _ _)=>True
 |some (.ins _ _ _)=>True
 |some (.ext _)=>True
 |_=>False
section
variable {P:Program}{w:World}{H:Hp}{h h':Heap}{x e:Addr}{o':HO}
theorem dR.write(o:dR P w H h)(m:Ao (H x))(i:e=x∨H e=some (.own x))(k:∀b u,b≠e->h.get? b=some u->h'.get? b=some u)(f:∃u,h'.get? e=some u)
  (g:aM P w (af H x o') h' x o'):dR P w (af H x o') h':=λb u q=>by
 have n:∀c y,H c=some (.own y)->c≠x:=λc y r z=>by subst z;rw[r]at m;exact m
 have N:∀c X,H c=some (.tup X)->c≠x:=λc X r z=>by subst z;rw[r]at m;exact m
 by_cases d:b=x
 ·subst d;rw[jc]at q;cases q;exact g
 ·rw[jh d]at q;by_cases a:b=e
  ·have Q:H b=some (.own x):=by
    rcases i with z |z
    ·exact absurd (a.trans z) d
    ·rw[a];exact z
   rw[q]at Q;cases Q;obtain⟨v,j⟩:=f;exact#[v,by rw[a];exact j]
  ·refine(o b u q).stay (λc v hc r=>k c v ?_ r) (λc r=>by rw[jh$ n c b r];exact r) λc X r=>by rw[jh$ N c X r];exact r
   rcases hc with rfl |hc
   ·exact a
   ·rintro rfl;rcases i with z |z
    ·exact n c b hc z
    ·rw[hc]at z;cases z;exact d Z
end
structure Un(fs ex:List Addr)(H H':Hp)(h h':Heap):Prop where
 keep:∀b o,h.get? b=some o->H b=none->b∉fs->b∉ex->h'.get? b=some o
 slot:∀b o,h.get? b=some o->H b=none->b∈fs->b∉ex->∃sl,h'.get? b=some { o with slots:=sl }
 free:∀b o,h.get? b=some o->H b=none->b∉ex->H' b=none
 there:∀b o,h.get? b=some o->b∉ex->∃o',h'.get? b=some o'
 tups:∀b xs,H b=some (.tup xs)->H' b=some (.tup xs)
 frzs:∀b o u,H b=some (.frz o u)->H' b=some (.frz o u)
 tbls:∀b ps,H b=some (.tbl ps)->∃more,H' b=some (.tbl$ ps++more)
section
variable {fs fs' ex ex':List Addr}{H H1 H2:Hp}{h h1 h2 h':Heap}{a x e:Addr}{o:HO}
theorem Un.any(u:Un fs ex H H1 h h1)(q:h.get? b=some O)(n:H b=none)(c:b∉ex):∃s,h1.get? b=some { O with slots:=s }:=by
 by_cases d:b∈fs
 ·exact u.slot b O q n d c
 ·exact#[O.slots,u.keep b O q n d c]
theorem Un.kept(k:∀b u,h.get? b=some u->h'.get? b=some u):Un fs ex H H h h':=
 #[λb O q _ _ _=>k b O q,λb O q _ _ _=>#[O.slots,k b O q],λ_ _ _ n _=>n,λb O q _=>#[O,k b O q],λ_ _ q=>q,λ_ _ _ q=>q,λ_ p q=>#[(List.toArray []),by rw[q];simp]]
theorem Un.refl:Un fs ex H H h h:=Un.kept λ_ _ q=>q
theorem Un.laid(k:∀b u,h.get? b=some u->h'.get? b=some u)(d:h.objs.size<=a)(c:H a=none):Un fs ex H (af H a o) h h' where
 keep:=λb u q _ _ _=>k b u q
 slot:=λb u q _ _ _=>#[u.slots,k b u q]
 free:=λb u q n _=>by rw[jh$ Ej$ Eo (Ef q) d];exact n
 there:=λb u q _=>#[u,k b u q]
 tups:=λb X q=>by rw[jh$ jk q c];exact q
 frzs:=λb u X q=>by rw[jh$ jk q c];exact q
 tbls:=λb p q=>#[(List.toArray []),by rw[jh$ jk q c,q];simp]
theorem Un.write(m:Ao (H x))(j:e=x∨H e=some (.own x))(k:∀b u,b≠e->h.get? b=some u->h'.get? b=some u)(d:∃u,h'.get? e=some u):Un fs ex H (af H x o) h h':=by
 have g:∀b,H b=none->b≠x:=λb n z=>by subst z;rw[n]at m;exact m
 have i:∀b,H b=none->b≠e:=λb n z=>by
  subst z;rcases j with r |r
  ·exact g b n r
  ·rw[n]at r;cases r
 have f:∀b u,H b=some u->¬Ao (some u)->b≠x:=λb u q N z=>by subst z;rw[q]at m;exact N m
 refine#[λb u q n _ _=>k b u (i b n) q,λb u q n _ _=>#[u.slots,k b u (i b n) q],λb u q n _=>by rw[jh$ g b n];exact n,λb u q _=>?_,
  λb X q=>by rw[jh$ f b _ q λz=>z];exact q,λb u X q=>by rw[jh$ f b _ q λz=>z];exact q,λb p q=>#[(List.toArray []),by rw[jh$ f b _ q λz=>z,q];simp]]
 by_cases c:b=e
 ·subst c;exact d
 ·exact#[u,k b u c q]
end
noncomputable def CF(h:Heap)(H:Hp):List Addr:=(List.range h.objs.size).filter λa=>(H a).isSome
noncomputable def iw(h:Heap)(H:Hp):Heap:=PySem.W.hideAll h (CF h H)
theorem Y0(h:Heap)(H:Hp):(iw h H).objs.size=h.objs.size:=PySem.W.hideAll_size _ _
theorem oy{h:Heap}{H:Hp}(e:h.get? b=some o)(n:H b=none):(iw h H).get? b=some o:=
 PySem.W.hideAll_get _ e λa=>by have q:(H b).isSome=true:=(List.mem_filter.mp a).2;rw[n]at q;simp at q
theorem tQ(e:(iw h H).get? b=some o):h.get? b=some o/\H b=none:=by
 have E:h.get? b=some o:=PySem.W.of_hideAll (CF h H) e;refine#[E,?_];cases q:H b with
 |none=>rfl
 |some x=>have a:b∈CF h H:=List.mem_filter.mpr #[List.mem_range.mpr$ Ef E,by simp [q]];have z:(iw h H).get? b=none:=PySem.W.hideAll_none (CF h H) a;rw[z]at e;cases e
end _L
namespace _L
open PySem PySem.Spec PyProof.Rows
structure Mod(K:Frag)(mg:Str->Option Value)(base:Heap):Prop where
 kin:K.In base
 glob:base.Ns mainGlobals mg
 blt:∃mb,base.Ns builtinsNs mb/\∀x:Str,x≠"__name__"->mb x=bootBuiltins x
 nolimit:base.NoLimit
structure Cx where
 prog:Program
 w:World
 K:Frag
 mg:Str->Option Value
 base:Heap
 A:Around
 N:List Str
 s₀:Shared
 H₀:Hp
 env:Env
 outer:List Env
 stack:List Env
 ex:List Addr
 fn:Str->Bool
 calm:Bool
 pn:List (Addr×Obj)
 xe:Value->Shared->Prop
noncomputable def ij(l:List Env):List Addr:=l.filterMap (·.frame)
noncomputable abbrev Cx.fs(X:Cx):List Addr:=ij X.outer
def Cw(s:Scope)(x:Str):Prop:=s.names.lookup x=some .local∨s.names.lookup x=some .cell∨s.names.lookup x=some .free
def nU(s:Scope)(x:Str):Prop:=s.names.lookup x=some .local∨s.names.lookup x=some .cell
def CO(e:Env)(h:Heap)(m:Str->Option Value)(x:Str)(u:Value):Prop:=
 (e.kindOf x=some .local/\m x=some u)∨((e.kindOf x=some .cell∨e.kindOf x=some .free)/\∃c,e.cells.lookup x=some c/\h.IsCell c (some u))
structure Cx.Ok(X:Cx):Prop where
 mod:Mod X.K X.mg X.base
 kind:X.env.scope.kind= .function
 glob:X.env.globals=mainGlobals
 blt:X.env.builtins=builtinsNs
 above:X.s₀.heap.objs.size<=X.env.locals
 inj:∀x y c,X.env.cells.lookup x=some c->X.env.cells.lookup y=some c->x=y
 has:∀x,(X.env.kindOf x=some .cell∨X.env.kindOf x=some .free)->∃c,X.env.cells.lookup x=some c
 cab:∀x c,X.fn x=true->X.env.cells.lookup x=some c->X.s₀.heap.objs.size<=c
 hd:X.calm=true->X.A.handled=none
 frames:X.A.frames=some X.stack
 stk:X.stack=X.outer∨(X.stack=X.env::X.outer/\X.env.frame=some X.env.locals)
 exf:∀b∈X.ex,b≠X.env.locals/\∀x c,X.env.cells.lookup x=some c->c≠b
 bs:∀b o,X.base.get? b=some o->X.s₀.heap.get? b=some o/\X.H₀ b=none
 bsz:X.base.objs.size<=X.s₀.heap.objs.size
 noex:∀b o,X.base.get? b=some o->b∉X.ex
 exfs:∀b∈X.ex,b∉X.fs
 funs:X.s₀.heap.FunFrames X.base X.outer
 frf:∀b∈X.fs,X.H₀ b=none
structure am(X:Cx)(pins:List (Addr×Obj))(σ:List (Option V))(H:Hp)(s:Shared):Prop where
 ok:X.Ok
 os:s.os=X.s₀.os
 bare:AllBare s.gens
 base:Un X.fs X.ex X.H₀ H X.s₀.heap s.heap
 loc:∃m,s.heap.Ns X.env.locals m/\∀(i:Nat) (x:Str) (v:V),X.N[i]?=some x->σ[i]?=some (some v)->Cw X.env.scope x->∃u,ay v u/\CO X.env s.heap m x u
 cell:∀x c,X.env.cells.lookup x=some c->∃v,s.heap.IsCell c v
 free:H X.env.locals=none
 freeC:∀x c,X.env.cells.lookup x=some c->H c=none
 pin:∀p∈X.pn++pins,s.heap.get? p.1=some p.2/\H p.1=none/\p.1≠X.env.locals/\p.1∉X.fs/\∀v,p.2.data≠ .cell v
 hok:dR X.prog X.w H s.heap
 len:σ.length=X.N.length
section
variable {X:Cx}{pins:List (Addr×Obj)}{σ:List (Option V)}{H H':Hp}{s:Shared}{h':Heap}
theorem Cx.Ok.nofr(O:X.Ok)(e:X.base.get? b=some o):b∉X.fs:=λh=>by have:=(O.funs.mem h).1;rw[e]at this;cases this
theorem am.bs(I:am X pins σ H s):∀b o,X.base.get? b=some o->s.heap.get? b=some o/\H b=none:=λb o e=>
 #[I.base.keep b o (I.ok.bs b o e).1 (I.ok.bs b o e).2 (I.ok.nofr e)$ I.ok.noex b o e,I.base.free b o (I.ok.bs b o e).1 (I.ok.bs b o e).2$ I.ok.noex b o e]
theorem am.bk(I:am X pins σ H s):∀b o,X.base.get? b=some o->s.heap.get? b=some o:=λb o e=>(I.bs b o e).1
theorem am.mod(I:am X pins σ H s):Mod X.K X.mg X.base:=I.ok.mod
theorem am.kIn(I:am X pins σ H s):X.K.In s.heap:=I.ok.mod.kin.keeps I.bk
theorem am.lt(I:am X pins σ H s):X.env.locals < s.heap.objs.size:=let #[_,h,_]:=I.loc;h.lt
theorem am.sz(I:am X pins σ H s):X.s₀.heap.objs.size<=s.heap.objs.size:=En I.ok.above (GF I.lt)
theorem am.nofs(I:am X pins σ H s)(h:s.heap.objs.size<=a):a∉X.fs:=λb=>by obtain⟨_,o,c,_⟩:=I.ok.funs.mem b;exact absurd (Eo (Ef c)$ En I.sz h)$ Fx _
theorem am.cne(I:am X pins σ H s):∀x c,X.env.cells.lookup x=some c->c≠X.env.locals:=λx c e z=>by obtain⟨v,o,b,d⟩:=I.cell x c e;obtain⟨m,⟨O,E,f,h,a,_⟩,_⟩:=I.loc;rw[z,h]at b;cases b;rw[a]at d;cases d
theorem am.funs(I:am X pins σ H s):s.heap.FunFrames X.base X.outer:=by
 have all:∀(l:List Env),(∀b∈ij l,b∈X.fs)->X.s₀.heap.FunFrames X.base l->s.heap.FunFrames X.base l:=by
  intro l;induction l with
  |nil=>intro _ _;trivial
  |cons E r i=>intro d f;obtain⟨g,⟨L,o,h,j,k,m⟩,n⟩:=f;have a:L∈X.fs:=d L (by unfold ij;rw[List.filterMap_cons,h];exact List.mem_cons_self);obtain⟨S,e⟩:=I.base.slot L o k (I.ok.frf L a) a λz=>I.ok.exfs L z a;exact#[g,#[L,_,h,j,e,m],i (λb c=>d b (by unfold ij;rw[List.filterMap_cons,h];exact List.mem_cons_of_mem _ c)) n]
 exact all X.outer (λ_ c=>c) I.ok.funs
theorem am.stack(I:am X pins σ H s):s.heap.FunFrames X.base X.stack:=by
 rcases I.ok.stk with e | ⟨e,h⟩
 ·rw[e];exact I.funs
 ·rw[e];obtain⟨m,a,_⟩:=I.loc;refine .cons (by rw[I.ok.kind];decide) h a ?_ I.funs;exact Heap.get?_none_of_le$ En I.ok.bsz I.ok.above
theorem am.stkSub(I:am X pins σ H s):∀b∈ij X.stack,b∈X.env.locals::X.fs:=λb h=>by
 rcases I.ok.stk with e | ⟨e,a⟩
 ·rw[e]at h;exact Ew _ h
 ·rw[e]at h;unfold ij at h;rw[IH,a]at h;exact h
theorem am.stkFree(I:am X pins σ H s):∀b∈ij X.stack,H b=none:=λb hb=>by
 rcases List.mem_cons.mp (I.stkSub b hb) with e |hb
 ·rw[e];exact I.free
 ·obtain⟨_,o,h,_⟩:=I.ok.funs.mem hb;exact I.base.free b o h (I.ok.frf b hb) λz=>I.ok.exfs b z hb
theorem am.step{g':Array GenState}{d':Drawn}{ch:List Addr}(I:am X pins σ H s)
  (a:∀b∈ch,(b∈X.ex∨X.s₀.heap.objs.size<=b)/\b≠X.env.locals/\(∀x c,X.env.cells.lookup x=some c->c≠b)/\∀p∈X.pn++pins,p.1≠b)
  (K:∀b o,b≠X.env.locals->b∉X.fs->b∉ch->s.heap.get? b=some o->H b=none->h'.get? b=some o)
  (S:∀b o,b≠X.env.locals->b∈X.fs->b∉ch->s.heap.get? b=some o->H b=none->∃J,h'.get? b=some { o with slots:=J }) (f:∀b o,b∉ch->s.heap.get? b=some o->H b=none->H' b=none)
  (t:∀b o,b∉ch->s.heap.get? b=some o->∃O,h'.get? b=some O)
  (T:∀b j,H b=some (.tup j)->H' b=some (.tup j)) (F:∀b o u,H b=some (.frz o u)->H' b=some (.frz o u)) (B:∀b P,H b=some (.tbl P)->∃M,H' b=some (.tbl$ P++M))
  (ns:∀m,s.heap.Ns X.env.locals m->h'.Ns X.env.locals m) (L:dR X.prog X.w H' h') (hg:AllBare g'):
  am X pins σ H' { s with heap:=h',gens:=g',drawn:=d',toks:=t' }:=by
 have D:∀b o,X.s₀.heap.get? b=some o->b≠X.env.locals:=λb o e=>Ej (Eo (Ef e) I.ok.above);have g:∀b o,X.s₀.heap.get? b=some o->b∉X.ex->b∉ch:=λb o e h y=>by
  rcases(a b y).1 with z |z
  ·exact h z
  ·exact absurd (Eo (Ef e) z)$ Fx _
 have C:∀x c,X.env.cells.lookup x=some c->∀v,s.heap.IsCell c v->h'.IsCell c v:=λx c e v #[o,A,Q]=>by
  have N:c∉ch:=λz=>(a c z).2.2.1 x c e Z;by_cases U:c∈X.fs
  ·obtain⟨J,q⟩:=S c o (I.cne x c e) U N A (I.freeC x c e);exact#[_,q,Q]
  ·exact#[o,K c o (I.cne x c e) U N A$ I.freeC x c e,Q]
 refine#[I.ok,I.os,hg,#[λb o e n y h=>?_,λb o e n y h=>?_,λb o e n h=>?_,λb o e h=>?_,λb j e=>T b j (I.base.tups b j e),λb o j e=>F b o j (I.base.frzs b o j e),λb P e=>?_],?_,λx c e=>?_,?_,λx c e=>?_,λp W=>?_,L,I.len]
 ·exact K b o (D b o e) y (g b o e h) (I.base.keep b o e n y h)$ I.base.free b o e n h
 ·obtain⟨J,E⟩:=I.base.slot b o e n y h;obtain⟨R,G⟩:=S b _ (D b o e) y (g b o e h) E (I.base.free b o e n h);exact#[R,G]
 ·obtain⟨O,E⟩:=I.base.there b o e h;exact f b O (g b o e h) E$ I.base.free b o e n h
 ·obtain⟨O,E⟩:=I.base.there b o e h;exact t b O (g b o e h) E
 ·obtain⟨m1,E⟩:=I.base.tbls b P e;obtain⟨m2,G⟩:=B b _ E;exact#[m1++m2,by rw[G,Array.append_assoc]]
 ·obtain⟨m,hn,hl⟩:=I.loc;refine#[m,ns m hn,λi x v E G e3=>?_];obtain⟨u,r,l⟩:=hl i x v E G e3;refine#[u,r,?_];rcases l with l | ⟨k,c,e,z⟩
  ·exact .inl l
  ·exact .inr #[k,c,e,C x c e _ z]
 ·obtain⟨v,z⟩:=I.cell x c e;exact#[v,C x c e v z]
 ·obtain⟨m,⟨o,_,_,A,_⟩,_⟩:=I.loc;exact f _ o (λz=>(a _ z).2.1 Z) A I.free
 ·obtain⟨v,o,A,Q⟩:=I.cell x c e;exact f c o (λz=>(a c z).2.2.1 x c e Z) A$ I.freeC x c e
 ·obtain⟨e,n,Y,nf,d⟩:=I.pin p W;have N:p.1∉ch:=λz=>(a p.1 z).2.2.2 p W Z;exact#[K p.1 p.2 Y nf N e n,f p.1 p.2 N e n,Y,nf,d]
theorem am.un{t':Nat}(I:am X pins σ H s)(u:Un X.fs [] H H' s.heap h')(a:dR X.prog X.w H' h'):am X pins σ H' { s with heap:=h',toks:=t' }:=by
 obtain⟨m,⟨o,j,k,f,r⟩,_⟩:=id I.loc;obtain⟨S,g⟩:=u.any f I.free OD;exact I.step (g':=s.gens) (d':=s.drawn) (ch:=[]) (λ_ z=>nomatch z) (λb o _ c _ e n=>u.keep b o e n c OD) (λb o _ c _ e n=>u.slot b o e n c OD) (λb o _ e n=>u.free b o e n OD) (λb o _ e=>u.there b o e OD) u.tups u.frzs u.tbls (λM i=>by
  obtain⟨O,E,d,h,R⟩:=i;rw[f]at h;cases h;exact#[_,E,d,g,R]) a I.bare
theorem am.call{g':Array GenState}{t':Nat}{d':Drawn}{ch:List Addr}(I:am X pins σ H s)(u:Un (ij X.stack) ch H H' s.heap h')(f:dR X.prog X.w H' h')(k:AllBare g')
  (a:∀b∈ch,(b∈X.ex∨X.s₀.heap.objs.size<=b)/\b≠X.env.locals/\(∀x c,X.env.cells.lookup x=some c->c≠b)/\∀p∈X.pn++pins,p.1≠b):
  am X pins σ H' { s with heap:=h',gens:=g',drawn:=d',toks:=t' }:=by
 obtain⟨m,⟨o,t,v,j,r⟩,_⟩:=id I.loc;obtain⟨S,g⟩:=u.any j I.free λz=>(a _ z).2.1 Z;exact I.step (ch:=ch) a (λb o g l h e n=>u.keep b o e n (λz=>(List.mem_cons.mp$ I.stkSub b z).elim g l) h) (λb o _ _ h e n=>u.any e n h) (λb o h e n=>u.free b o e n h) (λb o h e=>u.there b o e h) u.tups u.frzs u.tbls (λM q=>by
  obtain⟨O,E,i,d,R⟩:=q;rw[j]at d;cases d;exact#[_,E,i,g,R]) f k
theorem am.turned{t':Nat}{it:Addr}(I:am X pins σ H s)(k:∀b o,b≠it->s.heap.get? b=some o->h'.get? b=some o)(d:H it=none)(a:it≠X.env.locals)
  (f:it∈X.ex∨X.s₀.heap.objs.size<=it) (g:∀x c,X.env.cells.lookup x=some c->c≠it) (i:∀p∈X.pn++pins,p.1≠it):am X pins σ H { s with heap:=h',toks:=t' }:=by
 have N:∀b u,H b=some u->b≠it:=λb u e z=>by rw[z,d]at e;cases e
 refine I.step (g':=s.gens) (d':=s.drawn) (ch:=[it]) (λb j=>?_) (λb o _ _ h e _=>k b o (λz=>h (by simp [z])) e) (λb o _ _ h e _=>#[o.slots,k b o (λz=>h (by simp [z])) e]) (λ_ _ _ _ n=>n)
  (λb o h e=>#[o,k b o (λz=>h (by simp [z])) e]) (λ_ _ e=>e) (λ_ _ _ e=>e) (λb P e=>#[(List.toArray []),by rw[e];simp]) (λm l=>?_) (λb u e=>?_) I.bare
 ·have e:b=it:=by simpa using j
  subst e;exact#[f,a,g,i]
 ·obtain⟨o,E,t,w,r⟩:=l;exact#[o,E,t,k _ o (EA a) w,r]
 ·refine(I.hok b u e).stay (λc v h q=>k c v ?_ q) (λ_ q=>q) λ_ _ q=>q;rcases h with z |z
  ·rw[z];exact N b u e
  ·exact N c _ z
theorem am.tok(I:am X pins σ H s)(t:Nat):am X pins σ H { s with toks:=t }:=I.un (h':=s.heap) (t':=t) Un.refl I.hok
theorem am.kept{t':Nat}(I:am X pins σ H s)(k:∀b u,s.heap.get? b=some u->h'.get? b=some u):am X pins σ H { s with heap:=h',toks:=t' }:=I.un (Un.kept k) (I.hok.kept k)
theorem am.laid{a:Addr}{o:HO}{t':Nat}(I:am X pins σ H s)(k:∀b u,s.heap.get? b=some u->h'.get? b=some u)(h:s.heap.objs.size<=a)(n:aM X.prog X.w (af H a o) h' a o):
  am X pins σ (af H a o) { s with heap:=h',toks:=t' }:=I.un (Un.laid k h$ I.hok.fresh h) (I.hok.laid k h n)
theorem am.write{x e:Addr}{o:HO}{t':Nat}(I:am X pins σ H s)(m:Ao (H x))(a:e=x∨H e=some (.own x))(k:∀b u,b≠e->s.heap.get? b=some u->h'.get? b=some u)(h:∃u,h'.get? e=some u)
  (n:aM X.prog X.w (af H x o) h' x o):am X pins σ (af H x o) { s with heap:=h',toks:=t' }:=I.un (Un.write m a k h) (I.hok.write m a k h n)
theorem am.pins_of{pins':List (Addr×Obj)}(I:am X pins σ H s)(h:∀p∈pins',s.heap.get? p.1=some p.2/\H p.1=none/\p.1≠X.env.locals/\p.1∉X.fs/\∀v,p.2.data≠ .cell v):am X pins' σ H s:=
 #[I.ok,I.os,I.bare,I.base,I.loc,I.cell,I.free,I.freeC,λp a=>(List.mem_append.mp a).elim (λz=>I.pin p (GV _ z)) (h p),I.hok,I.len]
theorem Q7{N:List Str}(h:N.Nodup){i j:Nat}{x:Str}(a:N[i]?=some x)(b:N[j]?=some x):i=j:=by obtain⟨c,e⟩:=List.getElem?_eq_some_iff.mp a;obtain⟨d,E⟩:=List.getElem?_eq_some_iff.mp b;exact(List.getElem_inj h).mp (e.trans E.symm)
theorem Qc{v:V}{Q:Unit->Shared->Prop}(I:am X pins σ H s)(hN:X.N.Nodup)(L:X.N[i]?=some x)(l:nU X.env.scope x)(r:ay v u)
  (h:∀s',am X pins (σ.set i$ some v) H s'->(∃a,Heap.SameBut a s.heap s'.heap/\(a=X.env.locals∨X.env.cells.lookup x=some a))->Q () s') (hf:X.fn x=true∨X.env.scope.names.lookup x=some .local:=by first |exact .inl Z |exact .inr Z |assumption):wpAny M A (storeName X.env x u) Q E s:=by
 obtain⟨m,hn,hl⟩:=id I.loc;have O:(X.env.scope.kind== .class||(X.env.scope.kind== .module&&X.env.locals != X.env.globals))=false:=by rw[I.ok.kind];rfl
 have D:i < σ.length:=by rw[I.len];exact(List.getElem?_eq_some_iff.mp L).1
 have F:=I.cne;have t:∀{a:Addr} {h':Heap},(∃o,s.heap.get? a=some o/\H a=none)->Heap.SameBut a s.heap h'->dR X.prog X.w H h':=λ{a h'} ha f b ob e=>by
  obtain⟨_,_,B⟩:=ha;refine(I.hok b ob e).stay (λc W hc q=>(f.2 c ?_).trans q) (λ_ q=>q) λ_ _ q=>q;rintro rfl;rcases hc with rfl |hc
  ·rw[B]at e;cases e
  ·rw[B]at hc;cases hc
 rcases l with hk |hk
 ·refine wpAny_storeName_local hk hn (λh' h0 f=>?_) O;obtain⟨oL,_,_,h1,_⟩:=id hn;refine h _ #[I.ok,I.os,I.bare,#[λb o e n G l=>?_,λb o e n G l=>?_,I.base.free,λb o e l=>?_,I.base.tups,I.base.frzs,I.base.tbls],#[_,h0,λj y v' g C e3=>?_],λy c e=>?_,I.free,I.freeC,λp hp=>?_,t #[oL,h1,I.free] f,by simpa using I.len] #[_,f,.inl Z]
  ·exact(f.2 b$ Ej$ Eo (Ef e) I.ok.above).trans (I.base.keep b o e n G l)
  ·obtain⟨sl,g⟩:=I.base.slot b o e n G l;exact#[sl,(f.2 b$ Ej$ Eo (Ef e) I.ok.above).trans g]
  ·obtain⟨o',g⟩:=I.base.there b o e l;exact#[o',(f.2 b$ Ej$ Eo (Ef e) I.ok.above).trans g]
  ·by_cases J:j=i
   ·subst J;rw[L]at g;cases g;rw[Hm D]at C;cases C;exact#[u,r,.inl #[hk,OD]]
   ·rw[Gs$ EA J]at C;obtain⟨u',r',q⟩:=hl j y v' g C e3;refine#[u',r',?_];rcases q with ⟨k,e⟩ | ⟨k,c,e,z⟩
    ·refine .inl #[k,?_];have:y≠x:=λe=>J (Q7 hN g$ e▸L);simp [this,e]
    ·exact .inr #[k,c,e,z.sameBut f$ F y c e]
  ·obtain⟨W,z⟩:=I.cell y c e;exact#[W,z.sameBut f$ F y c e]
  ·obtain⟨e,n,U,nf,d⟩:=I.pin p hp;exact#[(f.2 p.1 U).trans e,n,U,nf,d]
 ·have K:X.fn x=true:=by
   rcases hf with z |z
   ·exact z
   ·rw[z]at hk;cases hk
  obtain⟨c,hc⟩:=I.ok.has x (.inl hk);obtain⟨W,z⟩:=I.cell x c hc;refine wpAny_storeName_cell I.ok.kind hk hc z (λh' P f=>?_);obtain⟨oc,R,S⟩:=id z;refine h { s with heap:=h' } #[I.ok,I.os,I.bare,#[λb o e n G l=>?_,λb o e n G l=>?_,I.base.free,λb o e l=>?_,I.base.tups,I.base.frzs,I.base.tbls],#[m,hn.sameBut f$ EA$ F x c hc,λj y v' g C e3=>?_],λy Y e=>?_,I.free,I.freeC,λp hp=>?_,t #[oc,R,I.freeC x c hc] f,by simpa using I.len] #[c,f,.inr hc]
  ·exact(f.2 b$ Ej$ Eo (Ef e)$ I.ok.cab x c K hc).trans (I.base.keep b o e n G l)
  ·obtain⟨sl,g⟩:=I.base.slot b o e n G l;exact#[sl,(f.2 b$ Ej$ Eo (Ef e)$ I.ok.cab x c K hc).trans g]
  ·obtain⟨o',g⟩:=I.base.there b o e l;exact#[o',(f.2 b$ Ej$ Eo (Ef e)$ I.ok.cab x c K hc).trans g]
  ·by_cases J:j=i
   ·subst J;rw[L]at g;cases g;rw[Hm D]at C;cases C;exact#[u,r,.inr #[.inl hk,c,hc,P]]
   ·rw[Gs$ EA J]at C;obtain⟨u',r',q⟩:=hl j y v' g C e3;refine#[u',r',?_];rcases q with q | ⟨k,Y,e,z'⟩
    ·exact .inl q
    ·refine .inr #[k,Y,e,z'.sameBut f ?_];rintro rfl;exact J$ Q7 hN g$ I.ok.inj _ _ _ e hc▸L
  ·by_cases T:Y=c
   ·subst T;exact#[_,P]
   ·obtain⟨w2,z2⟩:=I.cell y Y e;exact#[w2,z2.sameBut f T]
  ·obtain⟨e,n,U,nf,d⟩:=I.pin p hp;refine#[(f.2 p.1 ?_).trans e,n,U,nf,d];intro q;rw[q,R]at e;have q':oc=p.2:=Fh e;exact d W (by rw[<- q'];exact S)
theorem zw{Q:Unit->Shared->Prop}(I:am X pins σ H s)(a:X.N.Nodup)(b:X.N[i]?=some x)(c:nU X.env.scope x)(r:ay v u)
  (h:∀S,am X pins (σ.set i$ some v) H S->Q () S) (d:X.fn x=true∨X.env.scope.names.lookup x=some .local:=by first |exact .inl Z |exact .inr Z |assumption):wpAny M A (storeName X.env x u) Q E s:=
 Qc I a b c r (λS e _=>h S e) d
theorem am.call'{S:Shared}{ch:List Addr}(I:am X pins σ H s)(d:S.os=s.os)(u:Un (ij X.stack) ch H H' s.heap S.heap)(h:dR X.prog X.w H' S.heap)(f:AllBare S.gens)
  (a:∀b∈ch,(b∈X.ex∨X.s₀.heap.objs.size<=b)/\b≠X.env.locals/\(∀x c,X.env.cells.lookup x=some c->c≠b)/\∀p∈X.pn++pins,p.1≠b):am X pins σ H' S:=by
 obtain⟨h',g',d',t',o⟩:=S;have e:o=s.os:=d;subst e;exact I.call (g':=g') (t':=t') (d':=d') u h f a
end
abbrev XK:=Value->Option Addr->Hp->Prop
abbrev St:=List (Option V)
abbrev VK:=V->Hp->Prop
abbrev TE:=St->Hp->VK->Prop
abbrev TT:=St->Hp->(Bool->Hp->Prop)->Prop
abbrev TA:=St->Hp->(List V->Hp->Prop)->Prop
structure aJ where
 nx:St->Hp->Prop
 rt:VK
 bk:St->Hp->Prop:=λ_ _=>False
 ct:St->Hp->Prop:=λ_ _=>False
abbrev TS:=aJ->St->Hp->Prop
inductive EP(X:Cx)(a:List (Addr×Obj))(d:St)(Q:VK)(u:Value)(c:Shared):Prop
 |mk(v b:_)(_:am X a d b c)(_:ay v u)(_:Q v b)
inductive TP(X:Cx)(a:List (Addr×Obj))(e:St)(Q:Bool->Hp->Prop)(b:Bool)(d:Shared):Prop
 |mk(c:_)(_:am X a e c d)(_:Q b c)
inductive AP(X:Cx)(a:List (Addr×Obj))(f:St)(Q:List V->Hp->Prop)(d:List Value)(c:Shared):Prop
 |mk(e b:_)(_:am X a f b c)(_:ar e d)(_:Q e b)
def SP(X:Cx)(p:List (Addr×Obj))(D:aJ)(f:Flow)(s:Shared):Prop:=
 match f with
 | .next=>∃a H,am X p a H s/\D.nx a H
 | .brk=>∃a H,am X p a H s/\D.bk a H
 | .cont=>∃a H,am X p a H s/\D.ct a H
 | .ret u=>∃v a H,am X p a H s/\ay v u/\D.rt v H
def PE(X:Cx)(e:Expr)(t:TE):Prop:=
 ∀(p:List (Addr×Obj)) (s:Shared) (a:St) (H:Hp) (Q:VK),am X p a H s->t a H Q->wpAny (model X.prog X.w) X.A (eval e X.env) (EP X p a Q) X.xe s
def PT(X:Cx)(e:Expr)(t:TT):Prop:=
 ∀(p:List (Addr×Obj)) (s:Shared) (a:St) (H:Hp) (Q:Bool->Hp->Prop),am X p a H s->t a H Q->wpAny (model X.prog X.w) X.A (isTrue e X.env$ eval e X.env) (TP X p a Q) X.xe s
def PW(X:Cx)(e:Expr)(t:TT):Prop:=
 ∀(W:Sem Value) (p:List (Addr×Obj)) (s:Shared) (a:St) (H:Hp) (Q:Bool->Hp->Prop),am X p a H s->t a H Q->wpAny (model X.prog X.w) X.A (isTrue e X.env W) (TP X p a Q) X.xe s
theorem PW.pt{X:Cx}{e:Expr}{t:TT}(h:PW X e t):PT X e t:=h _
def PA(X:Cx)(e:List Expr)(t:TA):Prop:=
 ∀(P:Pos) (p:List (Addr×Obj)) (s:Shared) (a:St) (H:Hp) (Q:List V->Hp->Prop),am X p a H s->t a H Q->wpAny (model X.prog X.w) X.A (spliced$ backTo P$ starEach e X.env) (AP X p a Q) X.xe s
def PS(X:Cx)(st:Stmt)(t:TS):Prop:=
 ∀(p:List (Addr×Obj)) (s:Shared) (a:St) (H:Hp) (D:aJ),am X p a H s->t D a H->wpAny (model X.prog X.w) X.A (exec st X.env) (SP X p D) X.xe s
def iY(X:Cx)(st:List Stmt)(t:TS):Prop:=
 ∀(p:List (Addr×Obj)) (s:Shared) (a:St) (H:Hp) (D:aJ),am X p a H s->t D a H->wpAny (model X.prog X.w) X.A (execs st X.env) (SP X p D) X.xe s
theorem aL{b:Type}{t:Sem b}{Q q:b->Shared->Prop}{M:Model}{A:Around}{E:Value->Shared->Prop}{s:Shared}(h:wpAny M A t Q E s)(H:∀a s,Q a s->q a s):wpAny M A t q E s:=Fs h H λ_ _ x=>x
section
variable {X:Cx}
inductive bh(i:Nat)(a:St)(H:Hp)(Q:VK):Prop
 |mk(v:_)(_:a[i]?=some (some v))(_:Q v H)
def tC(v:V):TE:=λ_ H Q=>Q v H
theorem yp(j:X.N[i]?=some x)(k:Cw X.env.scope x)(b:(x==("__debug__":Str))=false:=by decide)(d:(x==("__classdict__":Str))=false:=by decide):PE X (.Name x n) (bh i):=by
 intro p s o H Q I h;obtain⟨v,e,h⟩:=h;obtain⟨m,q,t⟩:=I.loc;obtain⟨u,r,l⟩:=t i x v j e k;have f:EP X p o Q u s:=#[v,H,I,r,h];rcases l with ⟨hk,w⟩ | ⟨hk,c,g,a⟩
 ·exact Nv (M5 I.ok.kind hk q w f) b
 ·rcases hk with hk |hk
  ·exact Nv (Ng I.ok.kind hk g a f) b
  ·exact Nv (wpAny_loadName_free I.ok.kind hk g a f d) b
theorem je{i j p}:PE X (.Constant (.int i) j p) (tC$ .int i):=λ_ _ _ H _ I h=>wpAny_Constant_int #[.int i,H,I.tok _,#[_,Z],h]
theorem v0{b j p}:PE X (.Constant (.bool b) j p) (tC$ .bl b):=λ_ _ _ H _ I h=>Constant_bool #[.bl b,H,I,Z,h]
theorem qB{j p}:PE X (.Constant .none j p) (tC .non):=λ_ _ _ H _ I h=>Constant_none #[.non,H,I,Z,h]
theorem jj{x j p}:PE X (.Constant (.str x) j p) (tC$ .str x):=λ_ _ _ H _ I h=>Calls.Constant_str #[.str x,H,I.tok _,#[_,Z],h]
def Gl(X:Cx)(x:Str):Prop:=X.env.kindOf x=some .globalImplicit
theorem zh{Q:Value->Shared->Prop}(I:am X p e H s)(a:Gl X x)(b:X.mg x=some u)(h:Q u s)
  (c:(x==("__debug__":Str))=false:=by decide):wpAny (model X.prog X.w) X.A (eval (.Name x d) X.env) Q E s:=
 Ln I.ok.kind a (Calls.loadGlobal_global (by rw[I.ok.glob];exact I.mod.glob.keeps I.bk) b h) c
theorem kN{Q:Value->Shared->Prop}(I:am X p j H s)(a:Gl X x)(b:X.mg x=none)(c:bootBuiltins x=some u)(h:Q u s)
  (d:x≠"__name__":=by decide) (e:(x==("__debug__":Str))=false:=by decide):wpAny (model X.prog X.w) X.A (eval (.Name x f) X.env) Q E s:=by
 obtain⟨m,g,i⟩:=I.mod.blt;exact Ln I.ok.kind a (Calls.loadGlobal_builtin (by rw[I.ok.glob];exact I.mod.glob.keeps I.bk) b (by rw[I.ok.blt];exact g.keeps I.bk) ((i x d).trans c) h) e
theorem qQ{v:V}(a:Gl X x)(b:X.mg x=some u)(r:ay v u)(c:(x==("__debug__":Str))=false:=by decide):PE X (.Name x p) (tC v):=
 λ_ _ _ H _ I h=>zh I a b #[v,H,I,r,h] c
variable {a b:Expr}{ta tb:TE}{pos:Pos}
def PC(X:Cx)(o:CmpOp)(a b:Expr)(t:TE):Prop:=
 ∀(p:List (Addr×Obj)) (s:Shared) (d:St) (H:Hp) (Q:VK),am X p d H s->t d H Q->
  wpAny (model X.prog X.w) X.A (eval a X.env) (λv S=>wpAny (model X.prog X.w) X.A (eval b X.env) (λu c=>wpAny (model X.prog X.w) X.A (compareOp o v u) (EP X p d Q) X.xe c) X.xe S) X.xe s
inductive DP(Q:Bool->Hp->Prop)(x:V)(a:Hp):Prop
 |mk(c:_)(_:x= .bl c)(_:Q c a)
def tB(t:TE):TT:=λc H Q=>t c H (DP Q)
theorem yt(h:PC X o a b t)(e:behindInMarks o b=false:=by first |exact n _ OA OA |rfl):PT X (.Compare a [o] [b] pos) (tB t):=by intro p s f H Q I g;refine MW (aL (h p s f H _ I g) λv S e=>aL e λu m i=>aL i λc w z=>?_) e;obtain⟨x,j,k,r,l⟩:=z;obtain⟨d,rfl,q⟩:=l;cases r;exact Gv #[j,k,q]
theorem ZV(h:PE X e t)(c:∀w,isTrue e X.env w=(do let v <- w;standAt e.pos;holding [v] (truthy v)):=by intro _;rfl):PT X e (tB t):=by intro p s f H Q I g;refine isTrue_plain (aL (h p s f H _ I g) λv S z=>?_)$ c _;obtain⟨x,i,j,r,k⟩:=z;obtain⟨d,rfl,q⟩:=k;cases r;exact Gv #[i,j,q]
variable {tA tB':TT}{rest:List Expr}
def Dj(t u:TT):TT:=λd H Q=>t d H λc h=>if c=true then u d h Q else Q false h
def D2(t u:TT):TT:=λd H Q=>t d H λc h=>if c=true then Q true h else u d h Q
def Dp(t:TT):TT:=λd H Q=>t d H λc h=>Q (!c) h
theorem qR(d:PT X a tA):PW X (.BoolOp .And [a] pos) tA:=by
 intro w p s f H Q I h;refine isTrue_and$ aL (d p s f H Q I h) λc S e=>?_;cases c with
 |true=>exact isTrue_and_nil e
 |false=>exact e
theorem J9(d:PT X a tA):PW X (.BoolOp .Or [a] pos) tA:=by
 intro w p s f H Q I h;refine isTrue_or$ aL (d p s f H Q I h) λc S e=>?_;cases c with
 |false=>exact isTrue_or_nil e
 |true=>exact e
theorem Ka(f:PT X a tA)(g:PW X (.BoolOp .And (b::rest) pos) tB'):PW X (.BoolOp .And (a::b::rest) pos) (Dj tA tB'):=by
 intro w p s d H Q I h;refine isTrue_and$ aL (f p s d H _ I h) λc S z=>?_;obtain⟨e,i,q⟩:=z;cases c with
 |true=>exact g w p S d e Q i q
 |false=>exact#[e,i,q]
theorem Q2(f:PT X a tA)(g:PW X (.BoolOp .Or (b::rest) pos) tB'):PW X (.BoolOp .Or (a::b::rest) pos) (D2 tA tB'):=by
 intro w p s d H Q I h;refine isTrue_or$ aL (f p s d H _ I h) λc S z=>?_;obtain⟨e,i,q⟩:=z;cases c with
 |true=>exact#[e,i,q]
 |false=>exact g w p S d e Q i q
theorem ZW(e:PT X a tA):PT X (.UnaryOp .Not a pos) (Dp tA):=by intro p s f H Q I h;exact isTrue_not$ aL (e p s f H (λc d=>Q (!c) d) I h) λc S #[d,i,q]=>#[d,i,q]
inductive rO(b:TE)(d:St)(Q:VK)(x:V)(a:Hp):Prop
 |mk(c:_)(_:x= .bl c)(_:if c=true then b d a Q else Q (.bl false) a)
def BP(ta tb:TE):TE:=λc H Q=>ta c H (rO tb c Q)
inductive ww(b:TE)(d:St)(Q:VK)(x:V)(a:Hp):Prop
 |mk(c:_)(_:x= .bl c)(_:if c=true then Q (.bl true) a else b d a Q)
def Dq(ta tb:TE):TE:=λc H Q=>ta c H (ww tb c Q)
theorem XO(h:PE X a t):PE X (.BoolOp o [a] pos) t:=λp s c H Q I d=>BoolOp_one (h p s c H Q I d)
theorem ZX(f:PE X a ta)(g:PE X (.BoolOp .And (b::rest) pos) tb):PE X (.BoolOp .And (a::b::rest) pos) (BP ta tb):=by
 intro p s d H Q I h;refine BoolOp_and$ aL (f p s d H _ I h) λv S z=>?_;obtain⟨x,e,i,r,q⟩:=z;obtain⟨c,rfl,q⟩:=q;cases r;refine Gv ?_;cases c with
 |true=>exact g p S d e Q i q
 |false=>exact#[.bl false,e,i,Z,q]
theorem Bi(f:PE X a ta)(g:PE X (.BoolOp .Or (b::rest) pos) tb):PE X (.BoolOp .Or (a::b::rest) pos) (Dq ta tb):=by
 intro p s d H Q I h;refine BoolOp_or$ aL (f p s d H _ I h) λv S z=>?_;obtain⟨x,e,i,r,q⟩:=z;obtain⟨c,rfl,q⟩:=q;cases r;refine Gv ?_;cases c with
 |false=>exact g p S d e Q i q
 |true=>exact#[.bl true,e,i,Z,q]
def D1(t:TT)(ta tb:TE):TE:=λd H Q=>t d H λc h=>if c=true then ta d h Q else tb d h Q
theorem qj(g:PT X c tA)(j:PE X a ta)(k:PE X b tb):PE X (.IfExp c a b pos) (D1 tA ta tb):=by
 intro p s e H Q I h;refine wpAny_IfExp$ aL (g p s e H _ I h) λd S z=>?_;obtain⟨f,i,q⟩:=z;cases d with
 |true=>exact j p S e f Q i q
 |false=>exact k p S e f Q i q
end
def aF(K:Frag)(H:Hp)(a:Addr)(x:List V):Prop:=
 Rd H a (.lst x)∨
  ∃(o:Obj) (i:Array Value) (n:Nat),K.lookup a=some o/\o.cls= .type "list"/\o.dict=none/\o.data= .seq i n/\i.size<=sizeLine/\ar x i.toList
def aD(K:Frag)(H:Hp)(a:Addr)(x:List V):Prop:=
 Rd H a (.tup x)∨
  ∃(o:Obj) (i:Array Value) (n:Nat),K.lookup a=some o/\o.cls= .type "tuple"/\o.data= .seq i n/\i.size<=sizeLine/\ar x i.toList
noncomputable def CT:Value->Option V
 | .none=>some .non
 | .bool b=>some (.bl b)
 | .int i _=>some (.int i)
 | .str x _=>some (.str x)
 | .bytes b _=>some (.byt b)
 | .float b _=>some (.flt b)
 | .ref a=>some (.ref a)
 | .type n=>some (.ty n)
 |_=>none
theorem ay.abs(r:ay x u):CT u=some x:=by
 cases x with
 |non=>cases r;rfl
 |bl _=>cases r;rfl
 |int _=>obtain⟨t,rfl⟩:=r;rfl
 |str _=>obtain⟨t,rfl⟩:=r;rfl
 |byt _=>obtain⟨t,rfl⟩:=r;rfl
 |flt _=>obtain⟨t,rfl⟩:=r;rfl
 |ref _=>cases r;rfl
 |ty _=>cases r;rfl
theorem ay.inj{x:V}(r:ay x u)(q:ay y u):x=y:=Fh (r.abs.symm.trans q.abs)
theorem ar.inj:∀{x y:List V} {u:List Value},ar x u->ar y u->x=y
 |_,_,_,.nil,.nil=>rfl
 |_,_,_,.cons r t,.cons R T=>by rw[r.inj R,ar.inj t T]
section
variable {X:Cx}{pins:List (Addr×Obj)}{σ:St}{H:Hp}{s:Shared}{a:Addr}{xs ys:List V}
theorem aF.of{K:Frag}(h:H a=some (.lst xs)):aF K H a xs:=.inl (.inl h)
theorem aD.of{K:Frag}(h:H a=some (.tup xs)):aD K H a xs:=.inl (.inl h)
theorem am.list(I:am X pins σ H s)(h:aF X.K H a xs):∃i:List Value,ar xs i/\PlainL s.heap a i.toArray/\xs.length<=sizeLine:=by
 rcases h with h | ⟨o,i,n,b,c,d,f,g,r⟩
 ·obtain⟨z,i,n,r,e⟩:=h.ok I.hok;exact#[i,r,#[_,n,e,Z,Z,Z],z]
 ·refine#[i.toList,r,#[o,n,I.kIn a o b,c,d,by simpa using f],?_];have e:=r.length;simp only[EE]at e;omega
theorem am.tuple(I:am X pins σ H s)(h:aD X.K H a xs):∃i:List Value,ar xs i/\IsTup s.heap a i.toArray/\xs.length<=sizeLine:=by
 rcases h with h | ⟨o,i,n,b,c,d,f,r⟩
 ·obtain⟨z,i,r,p⟩:=h.ok I.hok;exact#[i,r,p,z]
 ·refine#[i.toList,r,#[o,I.kIn a o b,c,n,by simpa using d],?_];have e:=r.length;simp only[EE]at e;omega
theorem am.list_inj(I:am X pins σ H s)(h:aF X.K H a xs)(c:aF X.K H a ys):xs=ys:=by
 obtain⟨b,r,⟨o,n,e,_,_,d⟩,_⟩:=I.list h;obtain⟨i,R,⟨O,N,E,_,_,D⟩,_⟩:=I.list c;rw[e]at E;cases E;rw[d]at D;injection D with f _;have:b=i:=by simpa using Gb Array.toList f
 subst this;exact r.inj R
theorem am.tuple_inj(I:am X pins σ H s)(h:aD X.K H a xs)(c:aD X.K H a ys):xs=ys:=by
 obtain⟨b,r,⟨o,e,_,n,d⟩,_⟩:=I.tuple h;obtain⟨i,R,⟨O,E,_,N,D⟩,_⟩:=I.tuple c;rw[e]at E;cases E;rw[d]at D;injection D with f _;have:b=i:=by simpa using Gb Array.toList f
 subst this;exact r.inj R
end
noncomputable abbrev Cx.wish(X:Cx)(E:Value->Shared->Prop):Cx:={ X with xe:=E }
noncomputable abbrev Cx.nox(X:Cx):Cx:=X.wish λ_ _=>False
theorem Cx.Ok.wish{X:Cx}(o:X.Ok)(E:Value->Shared->Prop):(X.wish E).Ok:=
 #[o.mod,o.kind,o.glob,o.blt,o.above,o.inj,o.has,o.cab,o.hd,o.frames,o.stk,o.exf,o.bs,o.bsz,o.noex,o.exfs,o.funs,o.frf]
theorem Cx.Ok.unwish{X:Cx}(o:(X.wish E).Ok):X.Ok:=
 #[o.mod,o.kind,o.glob,o.blt,o.above,o.inj,o.has,o.cab,o.hd,o.frames,o.stk,o.exf,o.bs,o.bsz,o.noex,o.exfs,o.funs,o.frf]
section
variable {X:Cx}{pins:List (Addr×Obj)}{σ:St}{H:Hp}{s:Shared}{E:Value->Shared->Prop}
theorem am.wish(I:am X pins σ H s)(E:Value->Shared->Prop):am (X.wish E) pins σ H s:=#[I.ok.wish E,I.os,I.bare,I.base,I.loc,I.cell,I.free,I.freeC,I.pin,I.hok,I.len]
theorem am.unwish(I:am (X.wish E) pins σ H s):am X pins σ H s:=#[I.ok.unwish,I.os,I.bare,I.base,I.loc,I.cell,I.free,I.freeC,I.pin,I.hok,I.len]
theorem SP.unwish(h:SP (X.wish E) pins D f c):SP X pins D f c:=by
 cases f with
 |next=>obtain⟨a,b,I,q⟩:=h;exact#[a,b,I.unwish,q]
 |brk=>obtain⟨a,b,I,q⟩:=h;exact#[a,b,I.unwish,q]
 |cont=>obtain⟨a,b,I,q⟩:=h;exact#[a,b,I.unwish,q]
 |ret u=>obtain⟨v,a,b,I,r,q⟩:=h;exact#[v,a,b,I.unwish,r,q]
theorem iY.nox{st:List Stmt}(h:iY X.nox st t):iY X st t:=λpins s σ H D I a=>
 Fs (h pins s σ H D (I.wish _) a) (λ_ _ q=>q.unwish) λ_ _ z=>False.elim z
end
section
variable {X:Cx}{st:Stmt}{rest:List Stmt}{t u:TS}{e:Expr}{te:TE}{pos:Pos}
def BX:TS:=λD a H=>D.nx a H
def dU(t u:TS):TS:=λD a H=>t { D with nx:=u D } a H
theorem jm:iY X [] BX:=λ_ _ a H _ I h=>Hj #[a,H,I,h]
theorem jd(b:PS X st t)(c:iY X rest u):iY X (st::rest) (dU t u):=by
 intro p s d H D I h;refine Lw$ aL (b p s d H { D with nx:=u D } I h) λf S q=>?_;cases f with
 |next=>obtain⟨a,g,i,q⟩:=q;exact c p S a g D i q
 |ret v=>exact q
 |brk=>exact q
 |cont=>exact q
theorem jg(a:PS X st t):iY X [st] t:=by
 intro p s b H D I h;refine Lw$ aL (a p s b H D I h) λf S q=>?_;cases f with
 |next=>exact Hj q
 |ret v=>exact q
 |brk=>exact q
 |cont=>exact q
theorem am.quiet(I:am X p a H s):interactive X.env=false:=by simp [interactive,I.ok.kind]
def ni(te:TE):TS:=λD a H=>te a H λ_ h=>D.nx a h
theorem jS(b:PE X e te)(c:swapsWith e none pos.line X.env=pure false:=by rfl):PS X (.Expr e pos) (ni te):=by intro p s a H D I h;exact wpAny_Expr_any (aL (b p s a H _ I h) λv S #[x,d,i,r,q]=>#[a,d,i,q]) I.quiet c
def gj(te:TE):TS:=λD a H=>te a H D.rt
theorem jl(b:PE X e te):PS X (.Return (some e) pos) (gj te):=by intro p s a H D I h;exact wpAny_Return_some$ aL (b p s a H _ I h) λv S #[x,c,i,r,q]=>#[x,a,c,i,r,q]
def BY:TS:=λD _ H=>D.rt .non H
theorem uE:PS X (.Return none pos) BY:=λ_ _ a H _ I h=>wpAny_Return_none #[.non,a,H,I,Z,h]
def rS(c:TT)(t u:TS):TS:=λD a H=>c a H λb h=>if b=true then t D a h else u D a h
theorem ju{c:Expr}{a b:List Stmt}{T:TT}(j:PT X c T)(k:iY X a t)(l:iY X b u):PS X (.If c a b pos) (rS T t u):=by
 intro p s f H D I h;refine wpAny_If$ aL (j p s f H _ I h) λd S z=>?_;obtain⟨g,i,q⟩:=z;cases d with
 |true=>exact k p S f g D i q
 |false=>exact l p S f g D i q
end
abbrev TG:=V->St->Hp->(St->Hp->Prop)->Prop
abbrev sN:=List V->St->Hp->(St->Hp->Prop)->Prop
def PG(X:Cx)(T:Expr)(t:TG):Prop:=
 ∀(p:List (Addr×Obj)) (s:Shared) (b:St) (H:Hp) (v:V) (u:Value) (Q:St->Hp->Prop),am X p b H s->ay v u->t v b H Q->
  wpAny (model X.prog X.w) X.A (assign T X.env u) (λ_ S=>∃a h,am X p a h S/\Q a h) X.xe s
def Af(X:Cx)(T:List Expr)(t:sN):Prop:=
 ∀(p:List (Addr×Obj)) (s:Shared) (b:St) (H:Hp) (v:List V) (u:List Value) (Q:St->Hp->Prop),am X p b H s->ar v u->t v b H Q->
  wpAny (model X.prog X.w) X.A (assignInOrder ((assignEach T X.env).map (·.2)) u) (λ_ S=>∃a h,am X p a h S/\Q a h) X.xe s
abbrev wH:=V->V->V->Hp->(Hp->Prop)->Prop
def Ar(X:Cx)(t:wH):Prop:=
 ∀(p:List (Addr×Obj)) (s:Shared) (a:St) (H:Hp) (o i v:V) (O I u:Value) (Q:Hp->Prop),am X p a H s->ay o O->ay i I->ay v u->t o i v H Q->
  wpAny (model X.prog X.w) X.A (setItem O I u) (λ_ S=>∃h,am X p a h S/\Q h) X.xe s
abbrev CP:=V->V->Hp->VK->Prop
def Dy(X:Cx)(o:Operator)(t:CP):Prop:=
 ∀(p:List (Addr×Obj)) (s:Shared) (a:St) (H:Hp) (x y:V) (v u:Value) (Q:VK),am X p a H s->ay x v->ay y u->t x y H Q->
  wpAny (model X.prog X.w) X.A (inplaceOp o v u) (EP X p a Q) X.xe s
section
variable {X:Cx}{pos:Pos}
def bf(i:Nat):TG:=λv a H Q=>Q (a.set i$ some v) H
theorem jr{i:Nat}{x:Str}(a:X.N.Nodup)(b:X.N[i]?=some x)(c:nU X.env.scope x)(d:X.fn x=true∨X.env.scope.names.lookup x=some .local:=by first |exact .inl Z |exact .inr Z |assumption):PG X (.Name x pos) (bf i):=by intro p s f H v u Q I r h;exact NB$ zw I a b c r (λS e=>#[_,H,e,h]) d
def sZ:sN:=λv a H Q=>v=[]/\Q a H
inductive dA(t:TG)(u:sN)(a:List V)(b:St)(H:Hp)(Q:St->Hp->Prop):Prop
 |mk(v r:_)(_:a=v::r)(_:t v b H λσ' H'=>u r σ' H' Q)
theorem kK:Af X [] sZ:=by intro p s a H v u Q I r h;obtain⟨e,h⟩:=h;subst e;cases r;exact assignInOrder_nil #[a,H,I,h]
theorem jz(b:PG X e t)(c:Af X E u)
  (d:(assignEach (e::E) X.env).map (·.2)=assign e X.env::(assignEach E X.env).map (·.2):=by rfl):Af X (e::E) (dA t u):=by
 intro p s f H V U Q I r h;obtain⟨v,k,g,h⟩:=h;subst g;cases r with
 |cons r R=>rw[d];refine assignInOrder_cons$ aL (b p s f H _ _ _ I r h) λ_ S z=>?_;obtain⟨a,i,j,q⟩:=z;exact c p S a i _ _ Q j R q
inductive ot(K:Frag)(n:Nat)(t:sN)(v:V)(c:St)(H:Hp)(Q:St->Hp->Prop):Prop
 |mk(a b:_)(_:v= .ref a)(_:aD K H a b)(_:b.length=n)(_:t b c H Q)
theorem zT{n:Nat}(g:X.calm=true)(h:Af X E t)
  (i:(assignEach E X.env).length=n:=by rfl) (c:(assignEach E X.env).findIdx? (·.1)=none:=by rfl):PG X (.Tuple E k pos) (ot X.K n t):=by
 intro p s f H v u Q I r d;obtain⟨a,x,j,l,m,d⟩:=d;subst j;cases r;obtain⟨q,R,w,B⟩:=I.tuple l;refine assign_Tuple_tuple (I.ok.hd g) w (by simp [i,<- m,R.length]) c λy z=>?_;have A:am X p f H { s with heap:=y }:=I.kept (t':=s.toks) λb o e=>z b o (Ej$ Ef e) e;exact h p _ f H x _ Q A (by simpa using R) d
def xt(T b:TE)(t:wH):TG:=λv a H Q=>T a H λo h=>b a h λi c=>t o i v c λd=>Q a d
theorem qC{o i:Expr}{T c:TE}{t:wH}(d:PE X o T)(e:PE X i c)(f:Ar X t)
  (g:∀v,assign (.Subscript o i pos) X.env v=(do
   let O <- holding [v] (eval o X.env)
   let a <- holding [v,O] (eval i X.env)
   standAt pos
   holding [v,O,a] (setItem O a v)
   release [v,O,a] []):=by intro _;rfl):PG X (.Subscript o i pos) (xt T c t):=by
 intro p s b H v u Q I r h;rw[g];refine D9$ Ez$ aL (d p s b H _ I h) λO S z=>?_;obtain⟨x,j,k,R,q⟩:=z;refine D9$ Ez$ aL (e p S b j _ k q) λa l z=>?_;obtain⟨y,m,n,w,A⟩:=z;refine D9$ GR$ D9$ Ez$ aL (f p l b m x y v O a u _ n R w r A) λ_ E z=>?_;obtain⟨B,C,D⟩:=z;exact wpAny_release #[b,B,C,D]
def dn(t:TE)(g:TG):TS:=λD a H=>t a H λx h=>g x a h D.nx
theorem kH{t e:Expr}{T:TE}{g:TG}(b:PE X e T)(c:PG X t g)(d:swapsWithSole [t] e pos.line X.env=pure false:=by rfl)(f:swappedStores [t] e X.env=pure none:=by rfl)
  (i:(assignEach [t] X.env).map (·.2)=[assign t X.env]:=by rfl):PS X (.Assign [t] e pos) (dn T g):=by
 intro p s a H D I h;refine wpAny_Assign_stores (aL (b p s a H _ I h) λv S z=>?_) d f;obtain⟨x,j,k,r,Q⟩:=z;rw[i];exact aL (c p S a j x v _ k r Q) λ_ l q=>q
theorem j3{i:Nat}{x:Str}{e:Expr}{t:TE}{p:Pos}(a:X.N.Nodup)(b:X.N[i]?=some x)(c:nU X.env.scope x)(d:PE X e t)(f:swapsWith e (some$ .Name x p) pos.line X.env=pure false:=by rfl)(g:X.fn x=true∨X.env.scope.names.lookup x=some .local:=by first |exact .inl Z |exact .inr Z |assumption):
  PS X (.Assign [.Name x p] e pos) (dn t$ bf i):=by
 intro P s j H D I h;refine NC (aL (d P s j H _ I h) λv S z=>?_) f;obtain⟨y,k,l,r,q⟩:=z;exact zw l a b c r (λn m=>#[_,k,m,q]) g
inductive BQ(i:Nat)(a:TE)(b:CP)(D:aJ)(c:St)(H:Hp):Prop
 |mk(x:_)(_:c[i]?=some (some x))(_:a c H λy H1=>b x y H1 λz H2=>D.nx (c.set i (some z)) H2)
theorem yq{i:Nat}(q:X.N.Nodup)(g:X.N[i]?=some x)(f:nU X.env.scope x)(t:PE X e T)(B:Dy X o C)(E:X.fn x=true∨X.env.scope.names.lookup x=some .local:=by first |exact .inl Z |exact .inr Z |assumption):
  PS X (.AugAssign (.Name x j) o e pos) (BQ i T C):=by
 intro p s n H D I h;obtain⟨v,F,h⟩:=h;obtain⟨m,J,K⟩:=I.loc;have V:Cw X.env.scope x:=by rcases f with k |k;exact .inl k;exact .inr$ .inl k
 obtain⟨u,r,l⟩:=K i x v g F V;refine wpAny_AugAssign_Name ?_;have G:wpAny (model X.prog X.w) X.A (eval e X.env) (λw S=>wpAny (model X.prog X.w) X.A (inplaceOp o u w) (λr d=>wpAny (model X.prog X.w) X.A (storeName X.env x r) (λ_=>SP X p D .next) X.xe d) X.xe S) X.xe s:=by refine aL (t p s n H _ I h) λw L a=>?_;obtain⟨y,M,O,R,Q⟩:=a;refine aL (B p L n M v y u w _ O r R Q) λz s2 a=>?_;obtain⟨zv,P,U,W,Y⟩:=a;exact zw U q g f W (λs3 I3=>#[_,P,I3,Y]) E
 rcases l with ⟨hk,hm⟩ | ⟨hk,c,hc,b⟩
 ·exact M5 I.ok.kind hk J hm G
 ·rcases hk with hk |hk
  ·exact Ng I.ok.kind hk hc b G
  ·rcases f with k |k
   ·have:X.env.scope.names.lookup x=some .free:=hk;rw[k]at this;cases this
   ·have:X.env.scope.names.lookup x=some .free:=hk;rw[k]at this;cases this
inductive DH(f:Int->Int->Int)(x y:V)(H:Hp)(Q:VK):Prop
 |mk(i j:_)(_:x= .int i)(_:y= .int j)(_:Q (.int (f i j)) H)
theorem xA:Dy X .Add (DH λi j=>i+j):=by intro p s a H x y v u Q I r R h;obtain⟨i,j,e,E,q⟩:=h;subst e;subst E;obtain⟨t,rfl⟩:=r;obtain⟨T,rfl⟩:=R;exact iadd_int #[.int _,H,I.tok _,#[_,Z],q]
end
section
variable {X:Cx}{pos:Pos}
def rZ(c:TT)(t:TS):TS:=λD a H=>∃W:Nat->St->Hp->Prop,(∃m,W m a H)/\∀m a H,W m a H->
 c a H λb h=>if b=true then ∃N:St->Hp->Prop,(∀d e,N d e->∃M,M < m/\W M d e)/\t { D with nx:=N,ct:=N,bk:=D.nx } a h else D.nx a h
theorem Kk(o:PassesOwn (model X.prog X.w) X.A X.env X.xe)(E:PT X c T)(F:iY X B G):PS X (.While c B [] pos) (rZ T G):=by
 intro p s J H D I h;obtain⟨W,⟨M,K⟩,t⟩:=h;refine wpAny_While$ codeAny_whileLoop (λn S=>∃e r,am X p e r S/\W n e r) ?_ M #[J,H,I,K];rintro n L ⟨d,u,O,P⟩;refine GQ o$ aL (E p L d u _ O$ t n d u P) λb R z=>?_;obtain⟨x,y,q⟩:=z;cases b with
 |true=>
  obtain⟨N,C,q⟩:=q;rw[Er Z];refine GQ o$ aL (F p R d x _ y q) λf U Q=>?_;cases f with
  |next=>obtain⟨a,g,i,j⟩:=Q;obtain⟨m,k,l⟩:=C a g j;exact#[m,k,a,g,i,l]
  |cont=>obtain⟨a,g,i,j⟩:=Q;obtain⟨m,k,l⟩:=C a g j;exact#[m,k,a,g,i,l]
  |brk=>exact Q
  |ret v=>exact Q
 |false=>rw[Eu El];exact Hj #[d,x,y,q]
end
structure It where
 go:Nat->Hp->Prop
 yld:Nat->Hp->V->Hp->Prop
 stop:Nat->Hp->Prop
def gc(X:Cx)(P:List (Addr×Obj))(H:Hp)(b:Addr):Prop:=
 H b=none/\b≠X.env.locals/\b∉X.fs/\(b∈X.ex∨X.s₀.heap.objs.size<=b)/\(∀x c,X.env.cells.lookup x=some c->c≠b)/\∀p∈X.pn++P,p.1≠b
theorem am.fpOk{X:Cx}{d:Hp}(I:am X a i H s)(h:s.heap.objs.size<=b)(f:d b=none):gc X a d b:=by
 refine#[f,EN$ Eo I.lt h,I.nofs h,.inr$ En I.sz h,λx c e z=>?_,λp g z=>?_]
 ·obtain⟨v,q⟩:=I.cell x c e;exact absurd (Eo q.lt (by rw[z];exact h))$ Fx _
 ·exact absurd (Eo (Ef (I.pin p g).1) (by rw[z];exact h))$ Fx _
structure ny(P:Program)(w:World)(K:Frag)(tg:Expr)(J:It)(fp:List Addr)(it:Addr)(tn:Nat->Heap->Prop):Prop where
 mem:it∈fp
 obj:∀i h,tn i h->∀b∈fp,∃o,h.get? b=some o/\∀v,o.data≠ .cell v
 keep:∀i h h',tn i h->(∀b∈fp,∀o,h.get? b=some o->h'.get? b=some o)->tn i h'
 item:∀(X:Cx),X.prog=P->X.w=w->X.K=K->X.calm=true->∀(i:Nat) (pins:List (Addr×Obj)) (s:Shared) (σ:St) (H:Hp) (E:Value->Shared->Prop),am X pins σ H s->(∀b∈fp,gc X pins H b)->tn i s.heap->J.go i H->
  wpAny (model P w) X.A (pyNext$ .ref it) (λr s1=>∃u,r=some u/\
   wpAny (model P w) X.A (letOwnedTupleGo tg (.ref it) u) (λ_ s2=>∃x H',am X pins σ H' s2/\ay x u/\J.yld i H x H'/\tn (i+1) s2.heap/\∀b∈fp,H' b=none) E s1) E s
 done:∀(X:Cx),X.prog=P->X.w=w->X.K=K->X.calm=true->∀(i:Nat) (pins:List (Addr×Obj)) (s:Shared) (σ:St) (H:Hp) (E:Value->Shared->Prop),am X pins σ H s->(∀b∈fp,gc X pins H b)->tn i s.heap->J.stop i H->
  wpAny (model P w) X.A (pyNext$ .ref it) (λr s1=>r=none/\am X pins σ H s1) E s
 self:∀(A:Around) (i:Nat) (s:Shared) (Q:Value->Shared->Prop) (E:Value->Shared->Prop),tn i s.heap->Q (.ref it) s->wpAny (model P w) A (pyIter$ .ref it) Q E s
abbrev TI:=St->Hp->(It->Hp->Prop)->Prop
def Dx(X:Cx)(p:List (Addr×Obj))(a:St)(T:Expr)(R:It->Hp->Prop)(i:Value)(s:Shared):Prop:=
 ∃(I:Addr) (f:List Addr) (t:Nat->Heap->Prop) (J:It) (H:Hp),i= .ref I/\am X p a H s/\ny X.prog X.w X.K T J f I t/\t 0 s.heap/\(∀b∈f,gc X p H b)/\R J H
def PI(X:Cx)(t iter:Expr)(W:TI):Prop:=
 ∀(p:List (Addr×Obj)) (s:Shared) (a:St) (H:Hp) (R:It->Hp->Prop),am X p a H s->W a H R->
  wpAny (model X.prog X.w) X.A (eval iter X.env) (λv S=>wpAny (model X.prog X.w) X.A (pyIter v) (Dx X p a t R) X.xe S) X.xe s
theorem Ys{s : Shared}{n : String}{Q : Unit -> Shared -> Prop}(a : s.heap.get? i = some o)(b : o.cls = .type n)(c : o.data = .fields v)
    (d : ["enumerate", "zip", "dict_itemiterator", "dict_reverseitemiterator", "odict_iterator", "itertools.zip_longest", "itertools.pairwise"].contains n = false) (H : Q () s) : wpAny M A (letOwnedTupleGo t (.ref i) u) Q E s := by
  unfold letOwnedTupleGo;cases t <;> first
    | exact Ea H
    | (cases u <;> first
        | exact Ea H
        | (refine D9 (Nu a ?_)
           rw [b, c];show wpAny M A (if (["enumerate", "zip", "dict_itemiterator", "dict_reverseitemiterator", "odict_iterator", "itertools.zip_longest", "itertools.pairwise"].contains n && v[0]? == some (rawInt _)) = true then _ else _) Q E s;rw [Eu (by intro h; rw [d, Nq] at h; cases h)];exact Ea H))
noncomputable def vA(K:Frag)(a:Addr):It:=
 #[λi H=>∃X x,aF K H a X/\X[i]?=some x,λi H x h=>h=H/\∀X,aF K H a X->X[i]?=some x,λi H=>∃X,aF K H a X/\X.length<=i]
noncomputable def su(K:Frag)(a:Addr):It:=
 #[λi H=>∃X x,aD K H a X/\X[i]?=some x,λi H x h=>h=H/\∀X,aD K H a X->X[i]?=some x,λi H=>∃X,aD K H a X/\X.length<=i]
noncomputable def sr(lo:Int)(n:Nat):It:=#[λi _=>i < n,λi H x h=>h=H/\x= .int (lo+i),λi _=>n<=i]
theorem Y1{P:Program}{K:Frag}(a g:Addr):ny P w K tg (vA K a) [g] g (λi h=>h.IsListIter g a i) where
 mem:=by simp
 obj:=λi h st b j=>by
  have e:b=g:=by simpa using j
  subst e;obtain⟨o,e,c,d⟩:=st;exact#[o,e,λv z=>by rw[d]at z;cases z]
 keep:=λi h l st k=>st.at λo e=>k g OD o e
 item:=by intro X q r t L i f s M H E I m st y;subst q r t;obtain⟨N,x,n,A⟩:=y;obtain⟨B,R,p,O⟩:=I.list n;obtain⟨u,Q,T⟩:=R.get A;obtain⟨F,C,U,D,G,J⟩:=m g OD;refine MJ st p.isList (x:=u) (by simpa using Q) λl S V=>?_;have W:am X f M H { s with heap:=l }:=I.turned (t':=s.toks) (λb o j e=>(V.2 b j).trans e) F C D G J;obtain⟨o,e,c,d⟩:=id S;exact#[u,Z,Ys (s:={ s with heap:=l }) e c d OA #[x,H,W,T,#[Z,λys Y=>by rw[I.list_inj Y n];exact A],S,λb j=>(m b j).1]]
 done:=by intro X q r t L i f s M H E I m st y;subst q r t;obtain⟨N,n,A⟩:=y;obtain⟨B,R,p,O⟩:=I.list n;obtain⟨F,C,U,D,G,J⟩:=m g OD;have hl:=R.length;exact MV (I.ok.hd L) st p.isList (by simp;omega) λl eb=>#[Z,I.turned (t':=s.toks) (λb o j e=>eb b o j e) F C D G J]
 self:=λ_ _ _ _ _ st h=>wpAny_pyIter_listiter st h
theorem XU{P:Program}{K:Frag}(a g:Addr):ny P w K tg (su K a) [g] g (λi h=>h.IsTupleIter g a i) where
 mem:=by simp
 obj:=λi h st b j=>by
  have e:b=g:=by simpa using j
  subst e;obtain⟨o,e,c,d⟩:=st;exact#[o,e,λv z=>by rw[d]at z;cases z]
 keep:=λi h m st k=>st.at λo e=>k g OD o e
 item:=by intro X r t y L i f s M H E I n st A;subst r t y;obtain⟨N,x,q,B⟩:=A;obtain⟨l,R,p,O⟩:=I.tuple q;obtain⟨u,Q,T⟩:=R.get B;obtain⟨F,C,U,D,G,J⟩:=n g OD;refine wpAny_pyNext_tuple_item st (show s.heap.IsTuple a l.toArray from p) (x:=u) (by simpa using Q) λm S V=>?_;have W:am X f M H { s with heap:=m }:=I.turned (t':=s.toks) (λb o j e=>(V.2 b j).trans e) F C D G J;obtain⟨o,e,c,d⟩:=id S;exact#[u,Z,Ys (s:={ s with heap:=m }) e c d OA #[x,H,W,T,#[Z,λys Y=>by rw[I.tuple_inj Y q];exact B],S,λb j=>(n b j).1]]
 done:=by intro X r t y L i f s M H E I n st A;subst r t y;obtain⟨N,q,B⟩:=A;obtain⟨l,R,p,O⟩:=I.tuple q;obtain⟨F,C,U,D,G,J⟩:=n g OD;have hl:=R.length;exact wpAny_pyNext_tuple_end (I.ok.hd L) st (show s.heap.IsTuple a l.toArray from p) (by simp;omega) λm eb=>#[Z,I.turned (t':=s.toks) (λb o j e=>eb b o j e) F C D G J]
 self:=λ_ _ _ _ _ st h=>wpAny_pyIter_tupleiter st h
theorem XV{P:Program}{K:Frag}(a:Addr)(lo:Int)(n:Nat):ny P w K M (sr lo n) [a] a (λi h=>IsRangeIter h a (lo+(i:Nat)*1) ((n:Int) - (i:Nat)) 1) where
 mem:=by simp
 obj:=λi h st b c=>by
  have e:b=a:=by simpa using c
  subst e;exact#[_,st,λv z=>by
   have B:Data.fields _=Data.cell v:=z;cases B]
 keep:=λi h d st k=>k a OD _ st
 item:=by intro X g j l m i p s A H E I f st q;subst g j l;obtain⟨F,r,C,u,x,y⟩:=f a OD;have W:=Walks.range (prog:=X.prog) (w:=X.w) (I.ok.hd m) a lo 1 n;refine W.item i s _ _ q st λv d T D S G=>?_;obtain⟨t,rfl⟩:=D;have J:am X p A H { s with heap:=d,toks:=T }:=I.turned (λb o c e=>G b o (by simpa using c) e) F r u x y;refine#[_,Z,Ys (s:={ s with heap:=d,toks:=T }) (n:="range_iterator") S Z Z OA #[.int$ lo+i,H,J,#[t,?_],#[Z,Z],S,λb c=>(f b c).1]];rw[Ot]
 done:=by intro X g j l m i p s A H E I f st q;subst g j l;obtain⟨F,r,C,u,x,y⟩:=f a OD;exact wpAny_pyNext_range_end (I.ok.hd m) st (by have:n<=i:=q;omega) λd L=>#[Z,I.turned (t':=s.toks) (λb o c e=>L b o c e) F r u x y]
 self:=λ_ _ _ _ _ st h=>wpAny_pyIter_rangeiter st h
section
variable {X:Cx}{tg:Expr}
inductive oA(K:Frag)(R:It->Hp->Prop)(x:V)(b:Hp):Prop
 |mk(a:_)(_:x= .ref a)(_:∃xs,aF K b a xs)(_:R (vA K a) b)
def vS(K:Frag)(t:TE):TI:=λa H R=>t a H (oA K R)
inductive vV(K:Frag)(R:It->Hp->Prop)(x:V)(b:Hp):Prop
 |mk(a:_)(_:x= .ref a)(_:∃xs,aD K b a xs)(_:R (su K a) b)
def C3(K:Frag)(t:TE):TI:=λa H R=>t a H (vV K R)
theorem JP(c:PE X l t):PI X tg l (vS X.K t):=by
 intro P s d H R I h;refine aL (c P s d H _ I h) λv S z=>?_;obtain⟨x,f,i,r,Q⟩:=z;obtain⟨a,e,⟨m,g⟩,q⟩:=Q;subst e;cases r;obtain⟨j,n,p,u⟩:=i.list g;refine Ho p.isList ?_;refine#[S.heap.objs.size,[S.heap.objs.size],_,_,f,Z,i.kept (t':=S.toks) λb o e=>Eb _ e,Y1 a _,#[_,Ei _ Z,Z,Z],λb k=>?_,q];have e:b=S.heap.objs.size:=by simpa using k
 subst e;exact i.fpOk (Ee _)$ i.hok.fresh$ Ee _
theorem zq(d:PE X l t):PI X tg l (C3 X.K t):=by
 intro P s f H R I h;refine aL (d P s f H _ I h) λv S z=>?_;obtain⟨x,g,i,r,Q⟩:=z;obtain⟨a,e,⟨m,j⟩,q⟩:=Q;subst e;cases r;obtain⟨c,n,p,u⟩:=i.tuple j;refine Nt (show S.heap.IsTuple a c.toArray from p) ?_;refine#[S.heap.objs.size,[S.heap.objs.size],_,_,g,Z,i.kept (t':=S.toks) λb o e=>Eb _ e,XU a _,#[_,Ei _ Z,Z,Z],λb k=>?_,q];have e:b=S.heap.objs.size:=by simpa using k
 subst e;exact i.fpOk (Ee _)$ i.hok.fresh$ Ee _
theorem Q8{R:It->Hp->Prop}{lo:Int}(I:am X p a H s)(c: -(2 ^ 62)<=lo)(d:lo < 2 ^ 62)(f: -(2 ^ 62)<=h)(g:h < 2 ^ 62)
  (q:R (sr lo (h - lo).toNat) H):wpAny (model X.prog X.w) X.A (pyIter$ .ref s.heap.objs.size) (Dx X p a tg R) E { s with heap:=s.heap.push { cls:=.type "range",data:=.fields (List.toArray [.int lo t,.int h u,.int 1 v]) },toks:=T }:=by
 refine wpAny_pyIter_range (IsRange.new ..) (small_one c d f g) ?_;have i:am X p a H { s with heap:=s.heap.push { cls:=.type "range",data:=.fields (List.toArray [.int lo t,.int h u,.int 1 v]) },toks:=T }:=I.kept λb o e=>Eb _ e;refine#[(s.heap.push { cls:=.type "range",data:=.fields (List.toArray [.int lo t,.int h u,.int 1 v]) }).objs.size,[(s.heap.push { cls:=.type "range",data:=.fields (List.toArray [.int lo t,.int h u,.int 1 v]) }).objs.size],_,_,H,Z,
  i.kept (t':=T) λb o e=>Eb _ e,XV _ lo (h - lo).toNat,?_,λb j=>?_,q]
 ·have k:lo+((0:Nat):Int)*1=lo:=by simp
  have l:(((h - lo).toNat:Nat):Int) - ((0:Nat):Int)=Builtin.Range.rangeSize lo h 1:=by rw[rangeSize_one];split<;>omega
  show IsRangeIter _ _ (lo+((0:Nat):Int)*1) ((((h - lo).toNat:Nat):Int) - ((0:Nat):Int)) 1;rw[k,l];exact Ei _ Z
 ·have e:b=(s.heap.push { cls:=.type "range",data:=.fields (List.toArray [.int lo t,.int h u,.int 1 v]) }).objs.size:=by simpa using j
  subst e;exact i.fpOk (Ee _)$ i.hok.fresh$ Ee _
inductive oB(R:It->Hp->Prop)(b:List V)(a:Hp):Prop
 |mk(j:Int)(_:b=[.int j])(_:-(2 ^ 62)<=j)(_:j < 2 ^ 62)(_:R (sr 0 j.toNat) a)
def AW(t:TA):TI:=λa H R=>t a H (oB R)
inductive oC(R:It->Hp->Prop)(b:List V)(a:Hp):Prop
 |mk(i j:Int)(_:b=[.int i,.int j])(_:-(2 ^ 62)<=i/\i < 2 ^ 62/\ -(2 ^ 62)<=j/\j < 2 ^ 62)(_:R (sr i (j - i).toNat) a)
def AX(t:TA):TI:=λa H R=>t a H (oC R)
theorem kS{a:Expr}{T:TA}{p P:Pos}(c:Gl X "range")(d:X.mg "range"=none)(f:PA X [a] T)(g:starEach [a] X.env=[(false,eval a X.env)]:=by rfl):PI X tg (.Call (.Name "range" p) [a] [] P) (AW T):=by
 intro b s i H R I h;refine Call_$ kN I c d boot_range$ EM (aL (f P b s i H _ I h) λu S z=>?_) g Z;obtain⟨v,o,k,l,Q⟩:=z;obtain⟨j,e,Q,m,q⟩:=Q;subst e;cases l with
 |cons r n=>cases n;obtain⟨t,rfl⟩:=r;exact call_range_1$ Q8 k OB OB Q m (by simpa using q)
theorem Y2(g:Gl X "range")(k:X.mg "range"=none)(l:PA X [a,b] T)(m:starEach [a,b] X.env=[(false,eval a X.env),(false,eval b X.env)]:=by rfl)(c:starEach [b] X.env=[(false,eval b X.env)]:=by rfl):
  PI X tg (.Call (.Name "range" p) [a,b] [] d) (AX T):=by
 intro P s n H R I h;refine Call_$ kN I g k boot_range$ EM (aL (l d P s n H _ I h) λU S #[V,z,o,u,Q]=>?_) (by rw[m,c]) (by rw[c];rfl);obtain⟨i,j,e,⟨Q,v,w,x⟩,q⟩:=Q;subst e;cases u with
 |cons r f=>
  cases f with
  |cons y f=>cases f;obtain⟨t,rfl⟩:=r;obtain⟨A,rfl⟩:=y;exact call_range_2$ Q8 o Q v w x q
def yW(w:TI)(g:TG)(t:TS):TS:=λD a H=>w a H λJ d=>∃W:Nat->Nat->St->Hp->Prop,(∃m,W 0 m a d)/\∀i m a H,W i m a H->
 (J.stop i H/\D.nx a H)∨(J.go i H/\∃N:St->Hp->Prop,(∀b h,N b h->∃M,M < m/\W (i+1) M b h)/\∀x h,J.yld i H x h->g x a h λc e=>t { D with nx:=N,ct:=N,bk:=D.nx } c e)
noncomputable def iz(f:List Addr)(h:Heap):List (Addr×Obj):=f.filterMap λb=>(h.get? b).map λo=>(b,o)
theorem kU{h:Heap}(H:b∈f)(e:h.get? b=some o):(b,o)∈iz f h:=List.mem_filterMap.mpr #[b,H,by rw[e];rfl]
theorem Y3(H:p∈iz f h):p.1∈f/\h.get? p.1=some p.2:=by
 obtain⟨b,a,e⟩:=List.mem_filterMap.mp H;cases q:h.get? b with
 |none=>rw[q]at e;cases e
 |some o=>rw[q]at e;have E:(b,o)=p:=Fh e;subst E;exact#[a,q]
theorem am.pinned(I:am X a c H s)(g:∀b∈f,gc X a H b)(i:∀b∈f,∃o,s.heap.get? b=some o/\∀v,o.data≠ .cell v):am X (a++iz f s.heap) c H s:=
 I.pins_of λp j=>(List.mem_append.mp j).elim (λz=>I.pin p (EK _ z)) λz=>by obtain⟨h,e⟩:=Y3 z;obtain⟨F,k,l,_⟩:=g p.1 h;obtain⟨o,E,d⟩:=i p.1 h;rw[e]at E;cases E;exact#[e,F,k,l,d]
theorem am.unpinned(I:am X (a++c) b H s):am X a b H s:=I.pins_of λp h=>I.pin p (EK _$ GV _ h)
theorem ze{iter:Expr}{B:List Stmt}{wi:TI}{g:TG}{tb:TS}{P:Pos}(C:PassesOwn (model X.prog X.w) X.A X.env X.xe)(hc:X.calm=true)(hi:PI X tg iter wi)(hg:PG X tg g)(c:iY X B tb)
  (hs:∀x,foldedSetIterable iter X.env x=pure x:=by intro _;rfl):PS X (.For tg iter B [] P) (yW wi g tb):=by
 intro p s σ H D I h;refine wpAny_For (aL (hi p s σ H _ I h) λv s1 h1=>aL h1 λi0 s2 h2=>?_) hs;obtain⟨it,F,tn,J,H2,e,I2,T,O,f2,W,⟨m0,w0⟩,E⟩:=h2;subst e;have S:∀{t:Hp},(∀b∈F,t b=none)->∀b∈F,gc X p t b:=λhn b c=>#[hn b c,(f2 b c).2];refine codeAny_forLoop_any (λn s'=>∃i j t,am X p j t s'/\tn i s'.heap/\(∀b∈F,t b=none)/\W i n j t) ?_ m0 #[0,σ,H2,I2,O,λb c=>(f2 b c).1,w0];rintro n s3 ⟨i,k,M,I3,G,K,w3⟩;rcases E i n k M w3 with ⟨stop,qn⟩ | ⟨go,N,hN,step⟩
 ·refine GQ C$ aL (T.done X Z Z Z hc i p s3 k M X.xe I3 (S K) G stop) λr s4 z=>?_;obtain⟨R,I4⟩:=z;subst R;exact Hj #[k,M,I4,qn]
 ·refine GQ C$ aL (T.item X Z Z Z hc i p s3 k M X.xe I3 (S K) G go) λr s4 z=>?_;obtain⟨u,R,h4⟩:=z;subst R;refine GQ C$ aL h4 λ_ s5 z=>?_;obtain⟨x,H5,I5,r5,y5,y,U⟩:=z;have V:=I5.pinned (S U) (T.obj _ _ y);refine GQ C$ aL (hg _ s5 k H5 x u _ V r5$ step x H5 y5) λ_ s6 z=>?_;obtain⟨Y,H6,I6,q6⟩:=z;refine GQ C$ aL (c _ s6 Y H6 _ I6 q6) λf s7 Q=>?_;have again:∀{a:St} {l:Hp},am X (p++iz F s5.heap) a l s7->N a l->∃m,m < n/\∃i j t,am X p j t s7/\tn i s7.heap/\(∀b∈F,t b=none)/\W i m j t:=λ{a l} q L=>by obtain⟨m',hm,w7⟩:=hN a l L;refine#[m',hm,i+1,a,l,q.unpinned,T.keep _ _ _ y λb c o e=>(q.pin (b,o)$ EK _$ EK _$ kU c e).1,λb c=>?_,w7];obtain⟨o,e,d⟩:=T.obj _ _ y b c;exact(q.pin (b,o)$ EK _$ EK _$ kU c e).2.1
  cases f with
  |next=>obtain⟨a,l,q,L⟩:=Q;exact again q L
  |cont=>obtain⟨a,l,q,L⟩:=Q;exact again q L
  |brk=>obtain⟨a,l,q,Q⟩:=Q;exact#[a,l,q.unpinned,Q]
  |ret v=>obtain⟨x7,a,l,q,r7,Q⟩:=Q;exact#[x7,a,l,q.unpinned,r7,Q]
end
theorem oq{K:Frag}{a:Addr}{X:List V}{g:TG}{t:TS}{D:aJ}{b:St}{H:Hp}(Pv:Nat->St->Hp->Prop)(k:Pv 0 b H)(l:∀i b H,i<=X.length->Pv i b H->aF K H a X)
  (n:∀i x b H,X[i]?=some x->Pv i b H->g x b H λc j=>t { D with nx:=Pv (i+1),ct:=Pv (i+1),bk:=D.nx } c j) (o:∀b H,Pv X.length b H->D.nx b H):
  ∃W:Nat->Nat->St->Hp->Prop,(∃m,W 0 m b H)/\∀i m b H,W i m b H->
   ((vA K a).stop i H/\D.nx b H)∨((vA K a).go i H/\∃N:St->Hp->Prop,(∀d h,N d h->∃M,M < m/\W (i+1) M d h)/\∀x h,(vA K a).yld i H x h->g x b h λc j=>t { D with nx:=N,ct:=N,bk:=D.nx } c j):=by
 refine#[λi m b H=>m=X.length - i/\i<=X.length/\Pv i b H,#[X.length,OD,Ek _,k],?_];rintro i m b H ⟨rfl,r,p⟩;have q:=l i b H r p;by_cases f:i < X.length
 ·refine .inr #[#[X,X[i],q,by simp [f]],Pv$ i+1,λd h P=>#[X.length - (i+1),OB,Z,f,P],λx h y=>?_];obtain⟨e,y⟩:=y;subst e;exact n i x b _ (y X q) p
 ·have e:i=X.length:=by omega
  subst e;exact .inl #[#[X,q,Ee _],o b H p]
theorem sX{K:Frag}{a:Addr}{X:List V}{g:TG}{t:TS}{D:aJ}{b:St}{H:Hp}(Pv:Nat->St->Hp->Prop)(k:Pv 0 b H)(l:∀i b H,i<=X.length->Pv i b H->aD K H a X)
  (n:∀i x b H,X[i]?=some x->Pv i b H->g x b H λc j=>t { D with nx:=Pv (i+1),ct:=Pv (i+1),bk:=D.nx } c j) (o:∀b H,Pv X.length b H->D.nx b H):
  ∃W:Nat->Nat->St->Hp->Prop,(∃m,W 0 m b H)/\∀i m b H,W i m b H->
   ((su K a).stop i H/\D.nx b H)∨((su K a).go i H/\∃N:St->Hp->Prop,(∀d h,N d h->∃M,M < m/\W (i+1) M d h)/\∀x h,(su K a).yld i H x h->g x b h λc j=>t { D with nx:=N,ct:=N,bk:=D.nx } c j):=by
 refine#[λi m b H=>m=X.length - i/\i<=X.length/\Pv i b H,#[X.length,OD,Ek _,k],?_];rintro i m b H ⟨rfl,r,p⟩;have q:=l i b H r p;by_cases f:i < X.length
 ·refine .inr #[#[X,X[i],q,by simp [f]],Pv$ i+1,λd h P=>#[X.length - (i+1),OB,Z,f,P],λx h y=>?_];obtain⟨e,y⟩:=y;subst e;exact n i x b _ (y X q) p
 ·have e:i=X.length:=by omega
  subst e;exact .inl #[#[X,q,Ee _],o b H p]
theorem Qe{lo:Int}{n:Nat}{g:TG}{t:TS}{D:aJ}{a:St}{H:Hp}(Pv:Nat->St->Hp->Prop)(j:Pv 0 a H)
  (k:∀i a H,i < n->Pv i a H->g (.int$ lo+i) a H λb f=>t { D with nx:=Pv (i+1),ct:=Pv (i+1),bk:=D.nx } b f) (l:∀a H,Pv n a H->D.nx a H):
  ∃W:Nat->Nat->St->Hp->Prop,(∃m,W 0 m a H)/\∀i m a H,W i m a H->
   ((sr lo n).stop i H/\D.nx a H)∨((sr lo n).go i H/\∃N:St->Hp->Prop,(∀c h,N c h->∃M,M < m/\W (i+1) M c h)/\∀x h,(sr lo n).yld i H x h->g x a h λb f=>t { D with nx:=N,ct:=N,bk:=D.nx } b f):=by
 refine#[λi m a H=>m=n - i/\i<=n/\Pv i a H,#[n,OD,Ek _,j],?_];rintro i m a H ⟨rfl,o,p⟩;by_cases d:i < n
 ·refine .inr #[d,Pv$ i+1,λc h P=>#[n - (i+1),OB,Z,d,P],λx h y=>?_];obtain⟨e,y⟩:=y;subst e y;exact k i a _ d p
 ·have e:i=n:=by omega
  subst e;exact .inl #[Ee _,l a H p]
abbrev R2:=V->V->Hp->VK->Prop
def gf(X:Cx)(f:Value->Value->Sem Value)(r:R2):Prop:=
 ∀(p:List (Addr×Obj)) (s:Shared) (a:St) (H:Hp) (x y:V) (v u:Value) (Q:VK),am X p a H s->ay x v->ay y u->r x y H Q->
  wpAny (model X.prog X.w) X.A (f v u) (EP X p a Q) X.xe s
def dw(X:Cx)(f:Value)(r:List V->Hp->VK->Prop):Prop:=
 ∀(p:List (Addr×Obj)) (s:Shared) (a:St) (H:Hp) (x:List V) (u:List Value) (Q:VK),am X p a H s->ar x u->r x H Q->
  wpAny (model X.prog X.w) X.A (call f u) (EP X p a Q) X.xe s
def CS(X:Cx)(r:V->Hp->(Bool->Hp->Prop)->Prop):Prop:=
 ∀(p:List (Addr×Obj)) (s:Shared) (a:St) (H:Hp) (x:V) (v:Value) (Q:Bool->Hp->Prop),am X p a H s->ay x v->r x H Q->
  wpAny (model X.prog X.w) X.A (truthy v) (TP X p a Q) X.xe s
def eY(r:R2)(t T:TE):TE:=λa H Q=>t a H λx h=>T a h λy b=>r x y b Q
inductive rI(C:Int->Int->Prop)(g:Int->Int->V)(x y:V)(H:Hp)(Q:VK):Prop
 |mk(i j:_)(_:x= .int i)(_:y= .int j)(_:C i j)(_:Q (g i j) H)
inductive sC(g:Int->Int->V)(x y:V)(H:Hp)(Q:VK):Prop
 |mk(i j:_)(_:x= .int i)(_:y= .int j)(_:Q (g i j) H)
section
variable {X:Cx}{a b c:Expr}{ta tb tc:TE}{pos:Pos}
theorem wM(k:PE X a ta)(l:PE X b tb){R:V->V->Hp->Prop}(I:am X p e H s)
  (h:ta e H λx j=>tb e j λy d=>R x y d)  {f:Value->Value->Sem Value}
  (m:∀v u i x y d,am X p e d i->ay x v->ay y u->R x y d->wpAny (model X.prog X.w) X.A (f v u) Q X.xe i):
  wpAny (model X.prog X.w) X.A (eval a X.env) (λv S=>wpAny (model X.prog X.w) X.A (eval b X.env) (λu g=>wpAny (model X.prog X.w) X.A (f v u) Q X.xe g) X.xe S) X.xe s:=by
 refine aL (k p s e H _ I h) λv n z=>?_;obtain⟨x,j,o,r,q⟩:=z;refine aL (l p n e j _ o q) λu i z=>?_;obtain⟨y,d,t,B,C⟩:=z;exact m v u i x y d t r B C
theorem jq{o:Operator}{r:R2}(d:gf X (binaryOp o) r)(e:PE X a ta)(f:PE X b tb):PE X (.BinOp a o b pos) (eY r ta tb):=by intro p s g H Q I h;exact wpAny_BinOp$ wM e f I h λv u S x y i j R k q=>d p S g i x y v u Q j R k q
theorem CA{f:Value->Value->Sem Value}{C:Int->Int->Prop}{g:Int->Int->Int}
  (rule:∀(i j:Int) (t u:Tok) (s:Shared) (Q:Value->Shared->Prop) (E:Value->Shared->Prop),C i j->Q (.int (g i j) s.toks) { s with toks:=s.toks+1 }->wpAny (model X.prog X.w) X.A (f (.int i t)$ .int j u) Q E s):
  gf X f (rI C λi j=>.int (g i j)):=by
 intro p s e H x y v u Q I r R h;obtain⟨i,j,rfl,rfl,d,q⟩:=h;obtain⟨t,rfl⟩:=r;obtain⟨T,rfl⟩:=R;exact rule i j t T s _ _ d #[.int$ g i j,H,I.tok _,#[_,Z],q]
theorem Bf{f:Value->Value->Sem Value}{g:Int->Int->Int}
  (rule:∀(i j:Int) (t u:Tok) (s:Shared) (Q:Value->Shared->Prop) (E:Value->Shared->Prop),Q (.int (g i j) s.toks) { s with toks:=s.toks+1 }->wpAny (model X.prog X.w) X.A (f (.int i t)$ .int j u) Q E s):
  gf X f (sC λi j=>.int (g i j)):=by
 intro p s d H x y v u Q I r R h;obtain⟨i,j,rfl,rfl,q⟩:=h;obtain⟨t,rfl⟩:=r;obtain⟨T,rfl⟩:=R;exact rule i j t T s _ _ #[.int$ g i j,H,I.tok _,#[_,Z],q]
theorem yh{f:Value->Value->Sem Value}{g:Int->Int->Bool}
  (rule:∀(i j:Int) (t u:Tok) (s:Shared) (Q:Value->Shared->Prop) (E:Value->Shared->Prop),Q (.bool$ g i j) s->wpAny (model X.prog X.w) X.A (f (.int i t)$ .int j u) Q E s):
  gf X f (sC λi j=>.bl (g i j)):=by
 intro p s d H x y v u Q I r R h;obtain⟨i,j,rfl,rfl,q⟩:=h;obtain⟨t,rfl⟩:=r;obtain⟨T,rfl⟩:=R;exact rule i j t T s _ _ #[.bl$ g i j,H,I,Z,q]
def CI(i j:Int):Prop:=0<=j/\j<=1000000/\i.natAbs < 2 ^ 64
def sG(i j:Int):Prop:=(-(2 ^ 64) < i/\i < 2 ^ 64)∨(-(2 ^ 64) < j/\j < 2 ^ 64)
theorem sG.ok(h:sG i j):IntMulOk i j:=by
 rcases h with ⟨H,d⟩ | ⟨H,d⟩
 ·exact .of_left$ intBits_le_64 H d
 ·exact .of_right$ intBits_le_64 H d
theorem jO:gf X (binaryOp .Add) (sC λi j=>.int (i+j)):=Bf λ_ _ _ _ _ _ _ q=>add_int q
theorem kI:gf X (binaryOp .Sub) (sC λi j=>.int (i - j)):=Bf λ_ _ _ _ _ _ _ q=>sub_int q
theorem kO:gf X (binaryOp .Mult) (rI sG λi j=>.int (i*j)):=CA λ_ _ _ _ _ _ _ h q=>mul_int q h.ok
theorem kJ:gf X (binaryOp .Mod) (rI (λ_ j=>0 < j) λi j=>.int (i % j)):=CA λi j _ _ _ _ _ h q=>by have H:(0:Int) < j:=h;exact mod_int' OB (by rw[Int.fmod_eq_emod_of_nonneg i OB];exact q)
theorem Jl:gf X (binaryOp .Pow) (rI CI λi j=>.int (i ^ j.toNat)):=CA λ_ _ _ _ _ _ _ h q=>pow_int_small h.1 h.2.1 h.2.2 q
end
noncomputable def Bx:V->V->Bool
 | .non,.non=>true | .non,.int _=>true | .int _,.non=>true | .non,.bl _=>true | .bl _,.non=>true | .non,.str _=>true | .str _,.non=>true
 | .int _,.int _=>true | .bl _,.bl _=>true | .str _,.str _=>true | .byt _,.byt _=>true
 | .int _,.str _=>true | .str _,.int _=>true | .bl _,.str _=>true | .str _,.bl _=>true
 |_,_=>false
def Bp:R2:=λx y H Q=>Bx x y=true/\Q (.bl$ decide$ x=y) H
def DY:R2:=λx y H Q=>Bx x y=true/\Q (.bl (!decide (x=y))) H
theorem Yz:decide (V.int i=V.int j)=(i==j):=by rw[Iu];simp
theorem ZY:decide (V.bl i=V.bl j)=(i==j):=by rw[Iu];simp
theorem YA:decide (V.str i=V.str j)=(i==j):=by rw[Iu];simp
theorem YB:decide (V.byt i=V.byt j)=(i.toList==j.toList):=by rw[Iu];cases i;cases j;simp
section
variable {X:Cx}{a b c:Expr}{ta tb tc:TE}{pos:Pos}
theorem jG{Q:VK}(I:am X p d H s)(q:Q (.bl k) H)(e:k=f):EP X p d Q (.bool f) s:=by subst e;exact#[.bl k,H,I,Z,q]
theorem zD:gf X (compareOp .Eq) Bp:=by
 intro p s e H x y v u Q I R r h;obtain⟨d,q⟩:=h;cases x with
 |non=>
  cases R;cases y with
  |non=>cases r;exact Og (jG I q OD)
  |bl j=>cases r;exact Oi (jG I q OD)
  |int j=>obtain⟨T,rfl⟩:=r;exact Oh (jG I q OD)
  |str j=>obtain⟨T,rfl⟩:=r;exact Of (jG I q OD)
  |_=>exact absurd (show false=true from d) El
 |bl i=>
  cases R;cases y with
  |non=>cases r;exact Ol (jG I q OD)
  |bl j=>cases r;exact eq_bool (jG I q ZY)
  |str j=>obtain⟨T,rfl⟩:=r;exact NZ (jG I q OD)
  |_=>exact absurd (show false=true from d) El
 |int i=>
  obtain⟨t,rfl⟩:=R;cases y with
  |non=>cases r;exact Oj (jG I q OD)
  |int j=>obtain⟨T,rfl⟩:=r;exact eq_int (jG I q Yz)
  |str j=>obtain⟨T,rfl⟩:=r;exact NY (jG I q OD)
  |_=>exact absurd (show false=true from d) El
 |str i=>
  obtain⟨t,rfl⟩:=R;cases y with
  |non=>cases r;exact Oe (jG I q OD)
  |bl j=>cases r;exact NW (jG I q OD)
  |int j=>obtain⟨T,rfl⟩:=r;exact NV (jG I q OD)
  |str j=>obtain⟨T,rfl⟩:=r;exact eq_str (jG I q YA)
  |_=>exact absurd (show false=true from d) El
 |byt i=>
  obtain⟨t,rfl⟩:=R;cases y with
  |byt j=>obtain⟨T,rfl⟩:=r;exact PySem.W.eq_bytes (jG I q YB)
  |_=>exact absurd (show false=true from d) El
 |_=>cases y<;>exact absurd (show false=true from d) El
theorem Q3:gf X (compareOp .NotEq) DY:=by
 intro p s e H x y v u Q I R r h;obtain⟨d,q⟩:=h;cases x with
 |non=>
  cases R;cases y with
  |non=>cases r;exact N9 (jG I q OD)
  |bl j=>cases r;exact Ob (jG I q OD)
  |int j=>obtain⟨T,rfl⟩:=r;exact Oa (jG I q OD)
  |str j=>obtain⟨T,rfl⟩:=r;exact N8 (jG I q OD)
  |_=>exact absurd (show false=true from d) El
 |bl i=>
  cases R;cases y with
  |non=>cases r;exact Od (jG I q OD)
  |bl j=>cases r;exact ne_bool (jG I q (Gb not ZY))
  |str j=>obtain⟨T,rfl⟩:=r;exact NT (jG I q OD)
  |_=>exact absurd (show false=true from d) El
 |int i=>
  obtain⟨t,rfl⟩:=R;cases y with
  |non=>cases r;exact Oc (jG I q OD)
  |int j=>obtain⟨T,rfl⟩:=r;exact ne_int (jG I q (Gb not Yz))
  |str j=>obtain⟨T,rfl⟩:=r;exact NR (jG I q OD)
  |_=>exact absurd (show false=true from d) El
 |str i=>
  obtain⟨t,rfl⟩:=R;cases y with
  |non=>cases r;exact N7 (jG I q OD)
  |bl j=>cases r;exact NQ (jG I q OD)
  |int j=>obtain⟨T,rfl⟩:=r;exact NP (jG I q OD)
  |str j=>obtain⟨T,rfl⟩:=r;exact ne_str (jG I q (Gb not YA))
  |_=>exact absurd (show false=true from d) El
 |byt i=>
  obtain⟨t,rfl⟩:=R;cases y with
  |byt j=>obtain⟨T,rfl⟩:=r;exact PySem.W.ne_bytes (jG I q (Gb not YB))
  |_=>exact absurd (show false=true from d) El
 |_=>cases y<;>exact absurd (show false=true from d) El
theorem JY:gf X (compareOp .Lt) (sC λi j=>.bl (decide$ i < j)):=yh λ_ _ _ _ _ _ _ q=>lt_int q
theorem qN:gf X (compareOp .Gt) (sC λi j=>.bl (decide$ j < i)):=yh λ_ _ _ _ _ _ _ q=>gt_int q
theorem ZN:gf X (compareOp .GtE) (sC λi j=>.bl (decide$ j<=i)):=yh λ_ _ _ _ _ _ _ q=>ge_int q
theorem yj:gf X (compareOp .Is) (λx y H Q=>y= .non/\Q (.bl$ decide$ x= .non) H):=by
 intro p s d H x y v u Q I r R h;obtain⟨rfl,q⟩:=h;cases R;refine is_none_gen$ jG I q ?_;cases x<;>first
  | (cases r;rfl)
  | (obtain⟨t,rfl⟩:=r;rfl)
theorem aA(b:Expr)(h:o≠ .In:=by decide)(H:o≠ .NotIn:=by decide):behindInMarks o b=false:=by
 have e:(o==CmpOp.In)=false:=by cases o<;>first |rfl |exact absurd Z h
 have E:(o==CmpOp.NotIn)=false:=by cases o<;>first |rfl |exact absurd Z H
 cases b<;>simp [behindInMarks,e,E]
theorem kW(d:gf X (compareOp o) r)(e:PE X a ta)(f:PE X b tb)(g:behindInMarks o b=false):PE X (.Compare a [o] [b] pos) (eY r ta tb):=by intro p s i H Q I h;exact wpAny_Compare1 (wM e f I h λv u S x y j k R l q=>d p S i j x y v u Q k R l q) g
inductive rY(Q:Bool->Hp->Prop)(x:V)(a:Hp):Prop
 |mk(k:_)(_:x= .bl k)(_:Q k a)
def nj(t:TE):TT:=λd H Q=>t d H (rY Q)
theorem jA{o:CmpOp}{r:R2}(f:gf X (compareOp o) r)(g:PE X a ta)(i:PE X b tb)(j:behindInMarks o b=false):PT X (.Compare a [o] [b] pos) (nj$ eY r ta tb):=by
 intro p s d H Q I h;refine MW (aL (g p s d H _ I h) λv S #[x,l,m,R,q]=>aL (i p S d l _ m q) λu n #[y,t,w,A,B]=>
  aL (f p n d t x y v u _ w R A B) λc G #[z,C,D,E,k,e,F]=>?_) j
 subst e;cases E;exact Gv #[C,D,F]
def As(K:Frag)(x:V)(H:Hp)(k:Bool):Prop:=
 match x with
 | .non=>k=false
 | .bl b=>k=b
 | .int i=>k=(i != 0)
 | .str y=>y.length<=sizeLine/\k=((y.length:Int) != 0)
 | .byt y=>y.size<=sizeLine/\k=((y.size:Int) != 0)
 | .ref p=>(∃d,aF K H p d/\k=!d.isEmpty)∨(∃d,aD K H p d/\k=!d.isEmpty)∨∃e,H p=some (.dK e)/\k=!e.isEmpty
 |_=>False
theorem XX{d:Type}{k:List (d×V)}{v:List (d×Value)}(r:KV k v):(!v.isEmpty)=!k.isEmpty:=by cases r<;>rfl
theorem Kr(r:ar x i):(!i.toArray.isEmpty)=!x.isEmpty:=by cases r<;>simp
theorem cy:(sizeLine:Nat) < 2 ^ 63:=by rw[Ik];decide
theorem y4:CS X (λx H Q=>∃k,As X.K x H k/\Q k H):=by
 intro o s B H x v Q I R h;obtain⟨k,e,q⟩:=h;have C:=cy;have D:sizeLine=16777216:=Ik;cases x with
 |non=>cases R;have E:k=false:=e;subst E;exact truthy_none #[H,I,q]
 |bl b=>cases R;have E:k=b:=e;subst E;exact Gv #[H,I,q]
 |int i=>obtain⟨t,rfl⟩:=R;have E:k=(i != 0):=e;subst E;exact PySem.P.truthy_int #[H,I,q]
 |str y=>obtain⟨t,rfl⟩:=R;obtain⟨z,E⟩:y.length<=sizeLine/\k=((y.length:Int) != 0):=e;subst E;exact PySem.P.truthy_str OB #[H,I.tok _,q]
 |byt y=>obtain⟨t,rfl⟩:=R;obtain⟨z,E⟩:y.size<=sizeLine/\k=((y.size:Int) != 0):=e;subst E;exact PySem.W.truthy_bytes OB #[H,I.tok _,q]
 |ref p=>
  cases R;have E:(∃g,aF X.K H p g/\k=!g.isEmpty)∨(∃g,aD X.K H p g/\k=!g.isEmpty)∨∃d,H p=some (.dK d)/\k=!d.isEmpty:=e;rcases E with ⟨g,j,E⟩ | ⟨g,j,E⟩ | ⟨d,j,E⟩
  ·subst E;obtain⟨l,r,n,u⟩:=I.list j;have f:=r.length;exact wpAny_truthy_list n.isList (by simp only[Eh];omega) #[H,I.tok _,by rw[Kr r];exact q]
  ·subst E;obtain⟨l,r,n,u⟩:=I.tuple j;have f:=r.length;exact truthy_tuple n (by simp only[Eh];omega) #[H,I.tok _,by rw[Kr r];exact q]
  ·subst E;obtain⟨u,A,V,r,m⟩:d.length<=sizeLine/\(p==sysModules)=false/\∃V,KV d V/\s.heap.DictOf (aH X.prog X.w) p V:=I.hok p _ j;have f:d.length=V.length:=Paired.length r;exact wpAny_truthy_dict A m OB #[H,I.tok _,by rw[XX r];exact q]
 |_=>exact(show False from e).elim
theorem Q9(f:PE X a ta)(g:∀w,isTrue a X.env w=(do let v <- w;standAt a.pos;holding [v] (truthy v))):
  PT X a (λd H Q=>ta d H λx e=>∃k,As X.K x e k/\Q k e):=by
 intro p s d H Q I h;exact isTrue_plain (aL (f p s d H _ I h) λv S #[x,i,j,r,q]=>y4 p S d i x v Q j r q)$ g _
theorem zB:gf X (binaryOp .Add) (λx y H Q=>∃i j,x= .str i/\y= .str j/\i.length+j.length<=sizeLine/\Q (.str$ i++j) H):=by intro p s e H x y v u Q I r R h;obtain⟨i,j,rfl,rfl,d,q⟩:=h;obtain⟨t,rfl⟩:=r;obtain⟨T,rfl⟩:=R;exact add_str (λT f=>#[.str$ i++j,H,I.tok _,#[_,Z],q]) d
theorem dC(r:ar [x] U):∃u,U=[u]/\ay x u:=by
 cases r with
 |cons R d=>cases d;exact#[_,Z,R]
theorem B0(r:ar [x,y] U):∃u w,U=[u,w]/\ay x u/\ay y w:=by
 cases r with
 |cons R d=>
  cases d with
  |cons e f=>cases f;exact#[_,_,Z,R,e]
theorem Y4(e:X.calm=true):dw X (.builtin "max") (λx H Q=>∃i j,x=[.int i,.int j]/\Q (.int (if j > i then j else i)) H):=by
 intro p s f H x U Q I r h;obtain⟨i,j,rfl,q⟩:=h;obtain⟨u,w,rfl,⟨t,rfl⟩,⟨T,rfl⟩⟩:=B0 r;refine max_two_ints (I.ok.hd e) λg l k=>#[_,H,I.kept k,?_,q];by_cases d:j > i
 ·rw[Er d,Er d];exact#[_,Z]
 ·rw[Eu d,Eu d];exact#[_,Z]
theorem zP:dw X (.type "int") (λx H Q=>(∃i,x=[.int i]/\Q (.int i) H)∨∃k,x=[.bl k]/\Q (.int (if k then 1 else 0)) H):=by
 intro p s d H x U Q I r h;rcases h with ⟨i,rfl,q⟩ | ⟨k,rfl,q⟩
 ·obtain⟨u,rfl,t,rfl⟩:=dC r;exact call_int_int #[.int i,H,I,#[_,Z],q]
 ·obtain⟨u,rfl,R⟩:=dC r;cases R;exact call_int_bool #[.int (if k then 1 else 0),H,I.tok _,#[_,Z],q]
end
structure lP(h:Heap)(x dx C:Addr)(mA:Str->Option Value):Prop where
 obj:h.get? x=some (instObj C dx)
 ns:h.Ns1 dx mA
 ne:dx≠x
theorem Y5{h:Heap}(n:h.Ns1 d m):∃O,h.get? d=some O/\∀name,lookIn name O=some (m name):=by
 obtain⟨o,E,j,b,c,f,_,g⟩:=n;refine#[o,b,λname=>?_];have e:=g name;unfold nsFind findBy at e;rw[<- Array.find?_toList]at e;unfold lookIn;rw[c];dsimp only;split
 ·rename_i y q
  rw[q]at e;exact Gb some e
 ·rename_i q
  rw[q]at e;have a:E.toList.any (·.refKey)=false:=by rw[MQ];intro y i;obtain⟨z,t,H⟩:=f y (Array.mem_toList_iff.mp i);simp [DictEntry.refKey,H]
  have A:¬E.toList.any (·.refKey)=true:=by rw[a];exact El
  rw[Eu A];exact Gb some e
theorem lP.look(I:lP h x d C m):∃o,PySem.W.InstAt h x (instObj C d) C (some o)/\∀name,lookIn name o=some (m name):=
 let #[o,H,a]:=Y5 I.ns
 #[o,#[I.obj,Z,Z,H],a]
section
variable {prog:Program}{w:World}{A:Around}{E:Value->Shared->Prop}{s:Shared}{K:Frag}{x dx C f:Addr}{mA:Str->Option Value}{name:Str}{v:Value}
theorem tj{Q:Value->Shared->Prop}(X:K.In s.heap)(I:lP s.heap x dx C mA)(a:plainGet K C name=true)(b:hasDictIn K C=true)
  (c:findIn K (.ref C) name=some none) (d:mA name=some v) (H:PySem.W.handedIn v=true) (h:Q v { s with toks:=s.toks+1 }):
  wpAny (model prog w) A (getAttr (.ref x) name e) Q E s:=by
 obtain⟨o,J,g⟩:=I.look;exact PySem.W.get_value X J (Iz a).1 (PySem.W.findObj_own b c Z (by rw[g,d])) H h
theorem ou{Q:Value×List Value->Shared->Prop}(X:K.In s.heap)(I:lP s.heap x dx C mA)(H:plainGet K C name=true)
  (a:findIn K (.ref C) name=some (some$ .ref f)) (b:isFn K (.ref f)=true) (c:mA name=none) (h:Q (.ref f,[.ref x]) s):
  wpAny (model prog w) A (getMethod (.ref x) name p) Q E s:=by
 obtain⟨o,J,d⟩:=I.look;exact PySem.W.method_fn X J (Iz H).1 (Iz H).2 a (beq_iff_eq.mp b) (by show(lookIn name o).map (·.isSome)=some false;rw[d,c];rfl) h
theorem uY{Q:Unit->Shared->Prop}(X:K.In s.heap)(I:lP s.heap x dx C mA)
  (k:findIn K (.ref C) "__setattr__"=some (some$ .builtin "object.__setattr__")) (l:PySem.W.plainOver K C=true) (m:PySem.W.takerIn K C name=some none) (n:hasDictIn K C=true)
  (o:PySem.Within mA N) (p:N.length<=sizeLine)
  (h:∀d,lP d x dx C (λy=>if y=name then some v else mA y)->Heap.SameBut dx s.heap d->Q () { s with heap:=d,toks:=s.toks+2 }):
  wpAny (model prog w) A (setAttr (.ref x) name v) Q E s:=by
 obtain⟨O,J,B⟩:=I.look;refine PySem.W.set_plain X J k$ PySem.W.osa_open (s:={ s with toks:=s.toks+1 }) (r:=none) X J l m λb=>?_;obtain⟨D,q,e⟩:=PySem.W.any_some n;have t:s.heap.get? x=some #[.ref C,some dx,.plain,(List.toArray [])]:=I.obj;refine D9$ Ea$ D9$ D9$ IN t$ D9$ NO (s:={ s with toks:=s.toks+1 }) (PySem.W.looks_clsIn X q) ?_;rw[e];refine Ea (a:=some dx)$ D9$ Ea$ D9 ?_;refine wpAny_nsSet1 (s:={ s with toks:=s.toks+1 }) I.ns λd H c=>?_;obtain⟨F,u,z,g,i,j⟩:=H.count (N6 name v o);refine D9$ wpAny_lookBehind g (by rw[i];exact pastItsLine_dict$ En j (by rw[ED];omega)) ?_;exact Ea$ h _ #[(c.2 _$ EA I.ne).trans I.obj,H,I.ne] c
theorem oK{R:Result->Shared->Prop}(X:K.In s.heap)(H:PySem.W.makesIn K C=true)
  (b:findIn K (.ref C) "__init__"=some (some$ .ref f)) (c:typeIn K (.ref f)=some (.type "function"))
  (h:codeAny (model prog w) (A.under$ .builtin "type.__call__" #[.ref C::a,k]) (.call (.ref f) #[.ref (s.heap.objs.size+1)::a,k]) (PySem.W.InitBack (s.heap.objs.size+1) R)
   { s with heap:=(s.heap.push emptyDict).push (instObj C s.heap.objs.size) }):
  codeAny (model prog w) A (.call (.ref C) #[a,k]) R s:=by
 obtain⟨e,g,d,t,os⟩:=s;exact PySem.W.make_core (PySem.W.makes_of X H) (PySem.W.looks_findIn X b) (λS=>PySem.W.bind_fn X S c) (.inl Z) h
end
noncomputable def dI(f:Str)(v:V):List (Str×V)->List (Str×V)
 | []=>[(f,v)]
 | (g,x)::r=>if g=f then (g,v)::r else (g,x)::dI f v r
theorem JC(f g:Str)(v:V):∀F:List (Str×V),(dI f v F).lookup g=if g=f then some v else F.lookup g
 | []=>by
  show List.lookup g [(f,v)]=_;by_cases h:g=f
  ·have H:(g==f)=true:=beq_iff_eq.mpr h;simp only[List.lookup,H,Er h]
  ·have H:(g==f)=false:=beq_eq_false_iff_ne.mpr h;simp only[List.lookup,H,Eu h]
 | (k,x)::r=>by
  have i:=JC f g v r;rw[show dI f v ((k,x)::r)=(if k=f then (k,v)::r else (k,x)::dI f v r) from Z];by_cases a:k=f
  ·rw[Er a];by_cases h:g=k
   ·have H:(g==k)=true:=beq_iff_eq.mpr h;simp only[List.lookup,H,Er$ h.trans a]
   ·have H:(g==k)=false:=beq_eq_false_iff_ne.mpr h;simp only[List.lookup,H,Eu (λe:g=f=>h (e.trans a.symm))]
  ·rw[Eu a];by_cases h:g=k
   ·have H:(g==k)=true:=beq_iff_eq.mpr h;simp only[List.lookup,H,Eu (λe:g=f=>a (h.symm.trans e))]
   ·have H:(g==k)=false:=beq_eq_false_iff_ne.mpr h;simp only[List.lookup,H];exact i
theorem Ju(f:Str)(v:V):∀F:List (Str×V),f∈(dI f v F).map (·.1)/\∀g,g∈F.map (·.1)->g∈(dI f v F).map (·.1)
 | []=>#[by simp [dI],λg h=>by simp at h]
 | (k,x)::r=>by
  obtain⟨i,I⟩:=Ju f v r;rw[show dI f v ((k,x)::r)=(if k=f then (k,v)::r else (k,x)::dI f v r) from Z];by_cases H:k=f
  ·rw[Er H];subst H;exact#[OD,λg h=>by simpa using h]
  ·rw[Eu H];refine#[?_,λg h=>?_]
   ·rw[Fj];exact Ew _ i
   ·rw[Fj]at h ⊢;rcases List.mem_cons.mp h with e |e
    ·exact List.mem_cons.mpr$ .inl e
    ·exact Ew _$ I g e
theorem JD(f:Str)(v:V):∀F:List (Str×V),(dI f v F).length<=F.length+1
 | []=>by simp [dI]
 | (k,x)::r=>by
  have i:=JD f v r;rw[show dI f v ((k,x)::r)=(if k=f then (k,v)::r else (k,x)::dI f v r) from Z];by_cases h:k=f
  ·rw[Er h,ED,ED];omega
  ·rw[Eu h,ED,ED];omega
theorem dD.some_of{v:V}{o:Option Value}(r:dD (some v) o):∃u,o=some u/\ay v u:=by
 cases o with
 |none=>exact(show False from r).elim
 |some u=>exact#[u,Z,r]
theorem dD.none_of(r:dD none o):o=none:=by
 cases o with
 |none=>rfl
 |some u=>exact(show False from r).elim
theorem Y6(r:ay v u):PySem.W.handedIn u=true:=by
 cases v with
 |non=>cases (show u=Value.none from r);rfl
 |bl b=>cases (show u=Value.bool b from r);rfl
 |int i=>obtain⟨t,e⟩:=(show ∃t,u=Value.int i t from r);cases e;rfl
 |str x=>obtain⟨t,e⟩:=(show ∃t,u=Value.str x t from r);cases e;rfl
 |byt b=>obtain⟨t,e⟩:=(show ∃t,u=Value.bytes b t from r);cases e;rfl
 |flt b=>obtain⟨t,e⟩:=(show ∃t,u=Value.float b t from r);cases e;rfl
 |ref a=>cases (show u=Value.ref a from r);rfl
 |ty n=>cases (show u=Value.type n from r);rfl
section
variable {P:Program}{w:World}{H H':Hp}{h h':Heap}{a C dx:Addr}{fs fs':List (Str×V)}
theorem QJ(b:dR P w H h)(e:H a=some (.ins C dx fs)):∃m,lP h a dx C m/\(∀f,dD (fs.lookup f)$ m f)/\PySem.Within m (fs.map (·.1))/\fs.length<=1000/\H dx=some (.own a):=by obtain⟨d,z,N,o,m,n,r,q⟩:=(show aM P w H h a (.ins C dx fs) from b a _ e);exact#[m,#[o,n,N],r,q,z,d]
end
structure nM(K:Frag)(C:Addr):Prop where
 pg:plainGet K C Str.empty=true
 hd:hasDictIn K C=true
 po:PySem.W.plainOver K C=true
 sa:findIn K (.ref C) "__setattr__"=some (some$ .builtin "object.__setattr__")
theorem nM.get{K:Frag}(c:nM K C)(f:Str):plainGet K C f=true:=c.pg
def bE(K:Frag)(C:Addr)(f:Str):Prop:=findIn K (.ref C) f=some none
theorem bE.taker{K:Frag}(n:bE K C f):PySem.W.takerIn K C f=some none:=by unfold PySem.W.takerIn;rw[show findIn K (.ref C) f=some none from n];rfl
structure bG(K:Frag)(C:Addr)(m:Str)(f:Addr):Prop where
 at_:findIn K (.ref C) m=some (some$ .ref f)
 fn:isFn K (.ref f)=true
 kp:keepIn K (.ref f)=true
section
variable {X:Cx}{pins:List (Addr×Obj)}{σ:St}{H:Hp}{s:Shared}{a C dx:Addr}{fs:List (Str×V)}{f:Str}{v:V}{A:Around}{E:Value->Shared->Prop}
theorem Ks{Q:Value->Shared->Prop}(I:am X pins σ H s)(e:H a=some (.ins C dx fs))(c:nM X.K C)(n:bE X.K C f)(l:fs.lookup f=some v)
  (h:∀u S,am X pins σ H S->ay v u->Q u S):wpAny (model X.prog X.w) A (getAttr (.ref a) f b) Q E s:=by
 obtain⟨m,O,r,_,_,_⟩:=QJ I.hok e;obtain⟨u,d,R⟩:=dD.some_of (v:=v) (o:=m f) (by rw[<- l];exact r f);exact tj I.kIn O (c.get f) c.hd n d (Y6 R)$ h u _ (I.tok _) R
theorem Kt{Q:Value×List Value->Shared->Prop}(I:am X pins σ H s)(e:H a=some (.ins C dx fs))(c:nM X.K C)(k:bG X.K C m g)(l:fs.lookup m=none)
  (h:Q (.ref g,[.ref a]) s):wpAny (model X.prog X.w) A (getMethod (.ref a) m p) Q E s:=by
 obtain⟨M,O,r,_,_,_⟩:=QJ I.hok e;have b:M m=none:=dD.none_of (by rw[<- l];exact r m);exact ou I.kIn O (c.get m) k.at_ k.fn b h
theorem Ku{Q:Unit->Shared->Prop}(I:am X pins σ H s)(e:H a=some (.ins C dx fs))(c:nM X.K C)(n:bE X.K C f)(F:fs.length < 1000)(R:ay y u)
  (h:∀S,am X pins σ (af H a$ .ins C dx$ dI f y fs) S->Q () S):wpAny (model X.prog X.w) A (setAttr (.ref a) f u) Q E s:=by
 obtain⟨m,O,r,W,_,i⟩:=QJ I.hok e;have j:(fs.map (·.1)).length<=sizeLine:=by rw[Ec,Ik];omega
 refine uY I.kIn O c.sa c.po n.taker c.hd W j λk d l=>h _ ?_;have p:∃o,k.get? dx=some o:=let #[o,_,_,t,_]:=d.ns;#[o,t]
 refine I.write (x:=a) (e:=dx) (by rw[e];exact True.intro) (.inr i) (λb q B z=>(l.2 b B).trans z) p ?_;refine#[by rw[jh O.ne];exact i,?_,O.ne,d.obj,_,d.ns,λg=>?_,λg D=>?_]
 ·have:=JD f y fs;omega
 ·show dD ((dI f y fs).lookup g) (if g=f then some u else m g);rw[JC];by_cases q:g=f
  ·rw[Er q,Er q];exact R
  ·rw[Eu q,Eu q];exact r g
 ·by_cases q:g=f
  ·rw[q];exact(Ju f y fs).1
  ·refine(Ju f y fs).2 g (W g λz=>D ?_);show(if g=f then some u else m g)=none;rw[Eu q];exact z
theorem am.made(I:am X pins σ H s):am X pins σ (af (af H s.heap.objs.size$ .own$ s.heap.objs.size+1) (s.heap.objs.size+1)$ .ins C s.heap.objs.size [])
  { s with heap:=(s.heap.push emptyDict).push (instObj C s.heap.objs.size) }:=by
 have c:(s.heap.push emptyDict).get? s.heap.objs.size=some emptyDict:=Ei s.heap Z;have d:((s.heap.push emptyDict).push$ instObj C s.heap.objs.size).get? (s.heap.objs.size+1)=some (instObj C s.heap.objs.size):=by have:=Ei (s.heap.push emptyDict) (o:=instObj C s.heap.objs.size) Z;rwa [Fe]at this
 have g:(s.heap.push emptyDict).Ns s.heap.objs.size (λ_=>none):=#[emptyDict,(List.toArray []),_,c,Z,(λe h=>absurd h OD),λ_=>Z];have i:=I.laid (a:=s.heap.objs.size) (o:=.own (s.heap.objs.size+1)) (h':=s.heap.push emptyDict) (t':=s.toks) (λb u q=>Eb _ q) (Ee _) #[_,c];refine i.laid (a:=s.heap.objs.size+1) (o:=.ins C s.heap.objs.size []) (t':=s.toks) (λb u q=>Eb _ q) (I8$ Fe _ _) ?_;have n:s.heap.objs.size≠s.heap.objs.size+1:=Ej (EX _);refine#[by rw[jh n,jc],Ek _,n,d,λ_=>none,(Heap.Ns1.of_empty g).at λo q=>Eb _ q,λ_=>True.intro,λy j=>absurd Z j]
theorem sO{f:Str}{s:Shared}(c:attributeBase e f b (eval e b)=eval e b)
  (h:wpAny (model p w) A (eval e b) (λo S=>wpAny (model p w) A (getAttr o f true) Q E S) E s):wpAny (model p w) A (eval (.Attribute e f d) b) Q E s:=
 Attribute_any_ h (by rw[arm_eval_Attribute,c])
end
inductive wu(K:Frag)(f:Str)(Q:VK)(x:V)(b:Hp):Prop
 |mk(a C c d v:_)(_:x= .ref a)(_:b a=some (.ins C c d))(_:nM K C)(_:bE K C f)(_:d.lookup f=some v)(_:Q v b)
def Do(K:Frag)(t:TE)(f:Str):TE:=λa H Q=>t a H (wu K f Q)
inductive wg(K:Frag)(f:Str)(D:aJ)(e:St)(y x:V)(b:Hp):Prop
 |mk(a C c d:_)(_:x= .ref a)(_:b a=some (.ins C c d))(_:nM K C)(_:bE K C f)(_:d.length < 1000)(_:D.nx e (af b a (.ins C c (dI f y d))))
def C9(K:Frag)(t T:TE)(f:Str):TS:=λD a H=>T a H λy h=>t a h (wg K f D a y)
def An(X:Cx)(o:Operator)(r:V->V->Hp->VK->Prop):Prop:=
 ∀(p:List (Addr×Obj)) (s:Shared) (a:St) (H:Hp) (x y:V) (u v:Value) (Q:VK),am X p a H s->ay x u->ay y v->r x y H Q->wpAny (model X.prog X.w) X.A (inplaceOp o u v) (EP X p a Q) X.xe s
inductive i'(K:Frag)(g:TE)(e:V->V->Hp->VK->Prop)(f:Str)(D:aJ)(h:St)(x:V)(b:Hp):Prop
 |mk(a C c d v:_)(_:x= .ref a)(_:b a=some (.ins C c d))(_:nM K C)(_:bE K C f)(_:d.lookup f=some v)(_:g h b λy H2=>e v y H2 λz H3=>∃dx' fs',H3 a=some (.ins C dx' fs')/\fs'.length < 1000/\D.nx h (af H3 a (.ins C dx' (dI f z fs'))))
def uN(K:Frag)(t T:TE)(r:V->V->Hp->VK->Prop)(f:Str):TS:=λD a H=>t a H (i' K T r f D a)
section
variable {X:Cx}{o e value:Expr}{f:Str}{pos pos' tpos:Pos}{ta tv:TE}
theorem kQ(b:PE X e ta)(d:attributeBase e f X.env (eval e X.env)=eval e X.env):PE X (.Attribute e f pos) (Do X.K ta f):=by intro p s g H Q I h;refine sO d$ aL (b p s g H _ I h) λu S z=>?_;obtain⟨x,i,j,r,a,C,D,F,v,E,k,c,n,l,q⟩:=z;subst E;obtain rfl:u=Value.ref a:=r;exact Ks j k c n l λU t m R=>#[v,i,m,R,q]
theorem qD(d:PE X o ta)(g:PE X value tv)(i:swapsWith value (some$ .Attribute o f pos') pos.line X.env=pure false):PS X (.Assign [.Attribute o f pos'] value pos) (C9 X.K ta tv f):=by intro p s b H D I h;refine plainObj_wpAny_Assign_Attribute (aL (g p s b H _ I h) λu S #[y,j,k,r,q]=>aL (d p S b j _ k q) λO w z=>?_) i;obtain⟨x,A,m,R,a,C,B,F,E,t,c,n,l,Q⟩:=z;subst E;obtain rfl:O=Value.ref a:=R;exact Ku m t c n l r λG v=>#[b,_,v,Q]
theorem Y7{O:Operator}{r:V->V->Hp->VK->Prop}(i:PE X o ta)(j:PE X value tv)(g:An X O r):PS X (.AugAssign (.Attribute o f tpos) O value pos) (uN X.K ta tv r f):=by intro p s d H D I h;refine wpAny_AugAssign_AttributeAny$ aL (i p s d H _ I h) λk s1 b=>?_;obtain⟨x,m,t,R,a,C,dx,fs,v,w,A,c,n,l,q⟩:=b;subst w;obtain rfl:k=Value.ref a:=R;refine Ks t A c n l λu S B F=>aL (j p S d m _ B q) λW G #[y,J,L,M,Q]=>aL (g p G d J v y u W _ L F M Q) λw4 s4 b=>?_;obtain⟨z,H3,N,P,T,U,E,Y,q4⟩:=b;exact Ku N E c n Y P λs5 I5=>#[d,_,I5,q4]
inductive Bo(x y:V)(H:Hp)(Q:VK):Prop
 |mk(i j:_)(_:x= .int i)(_:y= .int j)(_:Q (.int (i+j)) H)
theorem xz:An X .Add Bo:=by rintro p s a H x y u v Q I r R ⟨i,j,rfl,rfl,q⟩;obtain⟨t,rfl⟩:=(show ∃t,u=Value.int i t from r);obtain⟨T,rfl⟩:=(show ∃T,v=Value.int j T from R);exact On #[.int$ i+j,H,I.tok _,#[_,Z],q]
end
structure bH(k:Nat)(A:Around):Prop where
 hd:A.handled=none
 dp:A.depth+3*k+5 < recursionLimit
 un:A.units+16*k+200 < cLine
theorem bH.mono(r:bH k A)(h:j<=k):bH j A:=#[r.hd,by have:=r.dp;omega,by have:=r.un;omega]
theorem bH.deeper(r:bH (k+1) A)(e:Env):bH k (A.deeper e):=
 #[r.hd,by have:=r.dp;show A.depth+1+3*k+5 < _;omega,by have:=r.un;show A.units+3+16*k+200 < _;omega]
theorem XY{A:Around}:(A.under$ .builtin "type.__call__" #[.ref C::u,k]).depth=A.depth+1:=by
 first |rfl |simp [Around.under,Code.weight,Code.isCreation,Code.isGuard,Code.isCaller,Code.frames,Code.isFrame,guardIds]
theorem XZ{A:Around}:(A.under$ .builtin "type.__call__" #[.ref C::u,k]).units=A.units+1:=by
 first |rfl |simp [Around.under,Code.cUnits,Code.frames,Code.isFrame]
theorem bH.make(r:bH (k+1) A)(C:Addr)(u:List Value)(K:List (Str×Value)):bH k (A.under$ .builtin "type.__call__" #[.ref C::u,K]):=
 #[r.hd,by have:=r.dp;rw[XY];omega,by have:=r.un;rw[XZ];omega]
theorem bH.depth(r:bH k A):A.depth < recursionLimit:=by have:=r.dp;omega
theorem bH.units(r:bH k A):A.units+64 < cLine:=by have:=r.un;omega
def aP:TA:=λ_ H Q=>Q [] H
def ak(t:TE)(T:TA):TA:=λa H Q=>t a H λx h=>T a h λX b=>Q (x::X) b
section
variable {X:Cx}{e:Expr}{es:List Expr}{te:TE}{t:TA}{pos:Pos}
theorem jb:PA X [] aP:=λ_ _ _ _ H Q I h=>FK #[[],H,I,.nil,h]
theorem ja(b:PE X e te)(c:PA X es t)(d:starEach (e::es) X.env=(false,eval e X.env)::starEach es X.env:=by rfl):PA X (e::es) (ak te t):=by intro pos p s a H Q I h;rw[d];show wpAny _ _ (spliced ((false,eval e X.env)::backTo pos (starEach es X.env))) _ _ s;refine Fg$ aL (b p s a H _ I h) λu S z=>?_;obtain⟨x,f,i,r,q⟩:=z;exact aL (c pos p S a f _ i q) λU m #[g,j,k,R,l]=>#[x::g,j,k,.cons r R,l]
def bV(t:TA):TE:=λa H Q=>t a H λx h=>x.length<=sizeLine/\∀p,h p=none->Q (.ref p) (af h p$ .tup x)
def lG(t:TA):TE:=λa H Q=>t a H λx h=>x.length<=sizeLine/\∀p,h p=none->Q (.ref p) (af h p$ .lst x)
theorem ji{x}(h:PA X es t):PE X (.Tuple es x pos) (bV t):=by intro p s c H Q I d;refine Nh$ aL (h pos p s c H _ I d) λU S #[f,a,i,r,z,q]=>#[by rw[<- r.length];exact z,?_];have g:a S.heap.objs.size=none:=i.hok.fresh (Ee _);refine#[.ref S.heap.objs.size,af a S.heap.objs.size$ .tup f,i.laid (t':=S.toks) (λb u e=>Eb _ e) (Ee _) ?_,Z,q _ g];exact#[z,U,r,#[_,Ei _ Z,Z,_,Z]]
theorem jD(h:PA X es t):PE X (.List es pos) (lG t):=by intro p s c H Q I d;refine wpAny_List_spliced$ aL (h pos p s c H _ I d) λU S #[x,a,i,r,z,q]=>#[by rw[<- r.length];exact z,?_];have f:a S.heap.objs.size=none:=i.hok.fresh (Ee _);refine#[.ref S.heap.objs.size,af a S.heap.objs.size$ .lst x,i.laid (t':=S.toks) (λb u e=>Eb _ e) (Ee _) ?_,Z,q _ f];exact#[z,U,0,r,Ei _ Z]
end
abbrev Sp:=List V->Hp->VK->XK->Prop
abbrev mf:=List Env->Hp->Shared->XK->Value->Shared->Prop
structure lN(P:Program)(w:World)(K:Frag)(mg:Str->Option Value)(base:Heap)(A:Around)(outer:List Env)(s:Shared)(H:Hp):Prop where
 frames:A.frames=some outer
 mod:Mod K mg base
 bs:∀b o,base.get? b=some o->s.heap.get? b=some o/\H b=none
 bsz:base.objs.size<=s.heap.objs.size
 funs:s.heap.FunFrames base outer
 frf:∀b∈ij outer,H b=none
 hok:dR P w H s.heap
 bare:AllBare s.gens
def CE(o:List Env)(P:Program)(w:World)(H:Hp)(s:Shared)(Q:VK)(u:Value)(S:Shared):Prop:=
 ∃v h,S.os=s.os/\AllBare S.gens/\Un (ij o) [] H h s.heap S.heap/\dR P w h S.heap/\ay v u/\Q v h
def CR(C:mf)(o:List Env)(P:Program)(w:World)(H:Hp)(s:Shared)(Q:VK)(E:XK)(r:Result)(S:Shared):Prop:=
 match r with
 | .ok (.ret u)=>CE o P w H s Q u S
 | .ok _=>False
 | .error e=>C o H s E e S
structure aj(P:Program)(w:World)(K:Frag)(mg:Str->Option Value)(base:Heap)(CX:mf)(k:Nat)(f:Addr)(fd:FuncData)(ps:List Str)(sp:Sp):Prop where
 len:∀vs H Q E,sp vs H Q E->vs.length=ps.length
 run:∀(A:Around) (outer:List Env) (s:Shared) (H:Hp) (args:Args) (us:List Value) (vs:List V) (Q:VK) (E:XK),bH k A->lN P w K mg base A outer s H->BindsTo s fd args (ps.zip us)->ar vs us->sp vs H Q E->
  codeAny (model P w) A (.call (.ref f) args) (CR CX outer P w H s Q E) s
theorem aj.imp{P:Program}{K:Frag}{S:Sp}(F:aj P w K m b C k f c p d)
  (h:∀v H Q E,S v H Q E->d v H Q E):aj P w K m b C k f c p S:=
 #[λv H Q E q=>F.len v H Q E (h _ _ _ _ q),λA o s H a u v Q E e g i j l=>F.run A o s H a u v Q E e g i j (h _ _ _ _ l)]
theorem lN.make{P:Program}{K:Frag}(e:lN P w K m b A o s H)(C:Addr)(u:List Value)(k:List (Str×Value)):
  lN P w K m b (A.under$ .builtin "type.__call__" #[.ref C::u,k]) o s H:=#[by first |exact e.frames | (simpa [Around.under,Code.envs,Code.isFrame,pushEnvs] using e.frames),e.mod,e.bs,e.bsz,e.funs,e.frf,e.hok,e.bare]
section
variable {X:Cx}{pins:List (Addr×Obj)}{σ:St}{H:Hp}{s s':Shared}
theorem am.env0(I:am X pins σ H s):lN X.prog X.w X.K X.mg X.base X.A X.stack s H:=
 #[I.ok.frames,I.ok.mod,I.bs,En I.ok.bsz I.sz,I.stack,I.stkFree,I.hok,I.bare]
theorem am.after(I:am X pins σ H s)(h:CE X.stack X.prog X.w H s Q u s'):EP X pins σ Q u s':=by obtain⟨v,c,os,B,U,a,r,q⟩:=h;obtain⟨e,g,d,t,o⟩:=s';obtain rfl:o=s.os:=os;exact#[v,c,I.call (h':=e) (g':=g) (d':=d) (t':=t) (ch:=[]) U a B (λb z=>absurd z OD),r,q]
end
def dB(s:Sp)(d:List V)(E:XK)(t:TA):TE:=λa H Q=>t a H λv h=>s (v++d) h Q E
inductive rW(C:Addr)(m:Str)(f:Sp)(b:List V)(E:XK)(t:TA)(g:St)(Q:VK)(x:V)(c:Hp):Prop
 |mk(a d e:_)(_:x= .ref a)(_:c a=some (.ins C d e))(_:e.lookup m=none)(_:t g c λvs H2=>f (x::(vs++b)) H2 Q E)
def rV(C:Addr)(m:Str)(s:Sp)(d:List V)(E:XK)(T:TE)(t:TA):TE:=λa H Q=>T a H (rW C m s d E t a Q)
def BV(C:Addr)(s:Sp)(D:List V)(E:XK)(t:TA):TE:=λa H Q=>t a H λb h=>∀x d,h x=none->h d=none->d≠x->
 s (.ref x::(b++D)) (af (af h d$ .own x) x$ .ins C d []) (λv c=>v= .non/\Q (.ref x) c) E
def ax(K:Frag)(f:FuncData)(p:List Str)(d:List Value):Prop:=
 ∀(s:Shared) (u:List Value),K.In s.heap->(u++d).length=p.length->BindsTo s f #[u,[]] (p.zip$ u++d)
theorem ax.all{K:Frag}{p:List Str}(h:∀u:List Value,u.length=p.length->bindArgs f #[u,[]]=pure (p.zip u)):ax K f p []:=λs u _ H=>by rw[Nc]at H ⊢;exact .of_eq$ h u H
def df(C:mf)(X:Cx)(E:XK):Prop:=∀(p:List (Addr×Obj)) (a:St) (H:Hp) (s:Shared) (e:Value) (S:Shared),am X p a H s->C X.stack H s E e S->X.xe e S
section
variable {X:Cx}{CX:mf}{k:Nat}{f C:Addr}{fd:FuncData}{ps:List Str}{sp:Sp}{dvs:List V}{ds:List Value}{E:XK}{x m:Str}{p pos apos:Pos}{e o:Expr}{es:List Expr}{ta:TE}{t:TA}
theorem QE{us:List Value}{vs:List V}(F:aj X.prog X.w X.K X.mg X.base CX k f fd ps sp)(d:bH k X.A)(g:ax X.K fd ps ds)(i:ar dvs ds)(j:df CX X E)
  (I:am X a c H s) (r:ar vs us) (h:sp (vs++dvs) H Q E):wpAny (model X.prog X.w) X.A (call (.ref f) us) (EP X a c Q) X.xe s:=by
 have R:ar (vs++dvs) (us++ds):=r.append i;have l:(us++ds).length=ps.length:=by rw[<- R.length];exact F.len _ _ _ _ h
 refine Mj$ Ga (F.run X.A X.stack s H #[us,[]] (us++ds) (vs++dvs) Q E d I.env0 (g s us I.kIn l) R h) λr S b=>?_;cases r with
 |error e=>exact j a c H s e S I b
 |ok n=>
  cases n with
  |ret u=>exact I.after b
  |next=>exact False.elim b
  |brk=>exact False.elim b
  |cont=>exact False.elim b
theorem kj(F:aj X.prog X.w X.K X.mg X.base CX k f fd ps sp)(c:bH k X.A)(d:Gl X x)(g:X.mg x=some (.ref f))(j:keepIn X.K (.ref f)=true)(l:ax X.K fd ps ds)(n:ar dvs ds)(u:df CX X E)
  (v:PA X (e::es) t) (a:(x==("__debug__":Str))=false:=by decide) (y:starEach (e::es) X.env=(false,eval e X.env)::starEach es X.env:=by rfl) (b:(backTo pos$ starEach es X.env).any (·.1)=false:=by rfl):
  PE X (.Call (.Name x p) (e::es) [] pos) (dB sp dvs E t):=by
 intro P s z H Q I h;refine EU$ zh I d g ?_ a;refine Ld (h₀:=X.base) I.ok.mod.kin j (aL (v pos P s z H _ I h) λU S #[B,D,i,r,q]=>#[i.kIn,?_]) y b;exact QE F c l n u i r q
theorem kl(v:PE X o ta)(c:nM X.K C)(g:bG X.K C m f)(F:aj X.prog X.w X.K X.mg X.base CX k f fd ps sp)(y:bH k X.A)(B:ax X.K fd ps ds)(D:ar dvs ds)(G:df CX X E)(J:PA X (e::es) t)
  (b:starEach (e::es) X.env=(false,eval e X.env)::starEach es X.env:=by rfl) (d:(backTo pos$ starEach es X.env).any (·.1)=false:=by rfl)
  (L:eval (.Call (.Attribute o m apos) (e::es) [] pos) X.env=(do
   let O <- eval o X.env
   standAt apos.atName
   let (f,first) <- holding [O] (getMethod O m pl)
   callWith pos f first (backTo pos$ starEach (e::es) X.env) (backToKw pos$ keywordEach [] X.env)):=by rfl):
  PE X (.Call (.Attribute o m apos) (e::es) [] pos) (rV C m sp dvs E ta t):=by
 intro P s i H Q I h;refine Ia (pl:=pl) (aL (v P s i H _ I h) λu S z=>?_) L;obtain⟨x,M,j,R,a,W,Y,N,T,l,q⟩:=z;subst N;obtain rfl:u=Value.ref a:=R;refine Kt j T c g l ?_;refine Ld (first:=[.ref a]) (h₀:=X.base) I.ok.mod.kin g.kp (aL (J pos P S i M _ j q) λus s2 #[vs,H2,n,r,U]=>#[n.kIn,?_]) b d;exact QE (us:=.ref a::us) (vs:=.ref a::vs) F y B D G n (.cons Z r) U
theorem px(d:PE X o ta)(c:nM X.K C)(b:bG X.K C m f)(F:aj X.prog X.w X.K X.mg X.base CX k f fd ps sp)(g:bH k X.A)(j:ax X.K fd ps ds)(n:ar dvs ds)(r:df CX X E)
  (v:eval (.Call (.Attribute o m apos) [] [] pos) X.env=(do
   let O <- eval o X.env
   standAt apos.atName
   let (f,first) <- holding [O] (getMethod O m pl)
   callWith pos f first (backTo pos$ starEach [] X.env) (backToKw pos$ keywordEach [] X.env)):=by rfl):
  PE X (.Call (.Attribute o m apos) [] [] pos) (rV C m sp dvs E ta aP):=by
 intro P s y H Q I h;refine Ia (pl:=pl) (aL (d P s y H _ I h) λu S z=>?_) v;obtain⟨x,G,i,R,a,J,L,B,D,l,q⟩:=z;subst B;obtain rfl:u=Value.ref a:=R;refine Kt i D c b l ?_;exact Mb (first:=[.ref a]) i.kIn b.kp$ QE (us:=[.ref a]) (vs:=[.ref a]) F g j n r i (.cons Z .nil) q
structure Mk(K:Frag)(C f:Addr):Prop where
 makes:PySem.W.makesIn K C=true
 init:findIn K (.ref C) "__init__"=some (some$ .ref f)
 fn:isFn K (.ref f)=true
 kp:keepIn K (.ref C)=true
theorem pJ(M:Mk X.K C f)(F:aj X.prog X.w X.K X.mg X.base CX k f fd ps sp)(l:bH (k+1) X.A)(n:ax X.K fd ps ds)(q:ar dvs ds)
  (y:df CX X E) (I:am X b c H s) (r:ar g U)
  (h:∀x d,H x=none->H d=none->d≠x->sp (.ref x::(g++dvs)) (af (af H d$ .own x) x$ .ins C d []) (λv z=>v= .non/\Q (.ref x) z) E):
  wpAny (model X.prog X.w) X.A (call (.ref C) U) (EP X b c Q) X.xe s:=by
 have j:=h (s.heap.objs.size+1) s.heap.objs.size (I.hok.fresh$ Fq _) (I.hok.fresh$ Ee _) (Ej$ EX _);have i:=am.made (C:=C) I;have R:ar (V.ref (s.heap.objs.size+1)::(g++dvs)) (Value.ref (s.heap.objs.size+1)::(U++ds)):=.cons Z (r.append q);have B:(Value.ref (s.heap.objs.size+1)::U++ds).length=ps.length:=by have e:=R.length;rw[F.len _ _ _ _ j]at e;exact e.symm
 refine Mj (oK (f:=f) I.kIn M.makes M.init (beq_iff_eq.mp M.fn) (Ga (F.run _ X.stack _ _ #[Value.ref (s.heap.objs.size+1)::U,[]] (Value.ref (s.heap.objs.size+1)::(U++ds)) _ _ E (l.make C U [])
  (i.env0.make C U []) (n _ (Value.ref (s.heap.objs.size+1)::U) i.kIn B) R j) λr S a=>?_))
 cases r with
 |error e=>exact y b c _ _ e S i a
 |ok D=>
  cases D with
  |ret u=>obtain⟨v,G,J,L,N,O⟩:=i.after a;subst N;exact#[L,#[V.ref$ s.heap.objs.size+1,G,J,Z,O]]
  |next=>exact False.elim a
  |brk=>exact False.elim a
  |cont=>exact False.elim a
theorem YC(M:Mk X.K C f)(F:aj X.prog X.w X.K X.mg X.base CX k f fd ps sp)(c:bH (k+1) X.A)(d:Gl X x)(g:X.mg x=some (.ref C))(j:ax X.K fd ps ds)(l:ar dvs ds)(n:df CX X E)
  (u:PA X (e::es) t) (a:(x==("__debug__":Str))=false:=by decide) (v:starEach (e::es) X.env=(false,eval e X.env)::starEach es X.env:=by rfl) (b:(backTo pos$ starEach es X.env).any (·.1)=false:=by rfl):
  PE X (.Call (.Name x p) (e::es) [] pos) (BV C sp dvs E t):=by
 intro P s y H Q I h;refine EU$ zh I d g ?_ a;refine Ld (h₀:=X.base) I.ok.mod.kin M.kp (aL (u pos P s y H _ I h) λU S #[z,B,i,r,q]=>#[i.kIn,?_]) v b;exact pJ M F c j l n i r q
end
structure al(N P:List Str)(sc:Scope):Prop where
 kind:sc.kind= .function
 co:sc.isCoroutine=false
 gen:sc.isGenerator=false
 nd:N.Nodup
 pre:N.take P.length=P
 par:∀x∈P,sc.names.lookup x=some .local∨sc.names.lookup x=some .cell
 nofree:∀y∈sc.names,y.2≠ .free
theorem Qg{kindOf:Str->Option NameKind}:∀{b:List (Str×Value)} {m:Str->Option Value},(∀v,(x,v)∉b)->bindL kindOf b m x=m x
 | [],_,_=>rfl
 | (n,v)::r,m,h=>by
  unfold bindL;rw[Qg λw H=>h w (Ew _ H)];split
  ·have:x≠n:=by rintro rfl;exact h v Es
   simp [this]
  ·rfl
theorem Qh{kindOf:Str->Option NameKind}:∀{b:List (Str×Value)} {m:Str->Option Value},(∀v,(x,v)∉b)->bindC kindOf b m x=m x
 | [],_,_=>rfl
 | (n,v)::r,m,h=>by
  unfold bindC;rw[Qh λw H=>h w (Ew _ H)];split
  ·rfl
  ·have:x≠n:=by rintro rfl;exact h v Es
   simp [this]
theorem Qi{kindOf:Str->Option NameKind}:∀{P:List Str} {V:List Value} {i:Nat} {m:Str->Option Value},P.Nodup->P[i]?=some x->V[i]?=some v->kindOf x=some .local->
  bindL kindOf (P.zip V) m x=some v
 | [],_,_,_,_,h,_,_=>by simp at h
 |_::_,[],_,_,_,_,h,_=>by simp at h
 |p::P,w::V,0,m,n,H,a,b=>by simp at H a;subst H;subst a;show bindL kindOf ((p,w)::P.zip V) m p=_;unfold bindL;rw[Qg λv c=>(List.nodup_cons.mp n).1 (Ip c).1,Er b];simp
 |p::P,w::V,i+1,m,n,H,a,b=>by show bindL kindOf ((p,w)::P.zip V) m x=_;unfold bindL;exact Qi (i:=i) (List.nodup_cons.mp n).2 (by simpa using H) (by simpa using a) b
theorem Qj{kindOf:Str->Option NameKind}:∀{P:List Str} {V:List Value} {i:Nat} {m:Str->Option Value},P.Nodup->P[i]?=some x->V[i]?=some v->kindOf x≠some .local->
  bindC kindOf (P.zip V) m x=some v
 | [],_,_,_,_,h,_,_=>by simp at h
 |_::_,[],_,_,_,_,h,_=>by simp at h
 |p::P,w::V,0,m,n,H,a,b=>by simp at H a;subst H;subst a;show bindC kindOf ((p,w)::P.zip V) m p=_;unfold bindC;rw[Qh λv c=>(List.nodup_cons.mp n).1 (Ip c).1,Eu b];simp
 |p::P,w::V,i+1,m,n,H,a,b=>by show bindC kindOf ((p,w)::P.zip V) m x=_;unfold bindC;exact Qj (i:=i) (List.nodup_cons.mp n).2 (by simpa using H) (by simpa using a) b
noncomputable def eX(N:List Str)(v:List V):St:=v.map some++List.replicate (N.length - v.length) none
noncomputable def eJ(C:mf)(P:Program)(w:World)(K:Frag)(mg:Str->Option Value)(base:Heap)(N:List Str)(q:Str)(S:Scope)(f:Addr)(c:Value)(A:Around)(outer:List Env)(s:Shared)(H:Hp)(E:XK):Cx where
 prog:=P
 w:=w
 K:=K
 mg:=mg
 base:=base
 A:=A.deeper (envOfC q S s.heap.objs.size f c)
 N:=N
 s₀:=s
 H₀:=H
 env:=envOfC q S s.heap.objs.size f c
 outer:=outer
 stack:=envOfC q S s.heap.objs.size f c::outer
 ex:=[]
 calm:=true
 fn:=λ_=>true
 pn:=[]
 xe:=λe b=>wpAny (model P w) (A.deeper$ envOfC q S s.heap.objs.size f c) (leaving (envOfC q S s.heap.objs.size f c) e) (λ_ a=>C outer H s E e a) (λd a=>C outer H s E d a) b
theorem Xa{s:Scope}{n:Nat}(h:s.names.lookup x=some .cell):∃c,(cellsFrom n s.names []).lookup x=some c:=by have q:=LB s.names n [] (.inl h);exact Option.isSome_iff_exists.mp q
theorem Y8{P:Program}{K:Frag}{A:Around}{l:List V}
  (S:al N t d) (O:A.handled=none) (j:lN P w K M B A o s H) (hl:l.length=t.length) (r:ar l U)
  (x:InCallC s s.heap.objs.size (bindL (envOfC Q d s.heap.objs.size f I).kindOf (t.zip U) λ_=>none) (cellsFrom (s.heap.objs.size+1) d.names []) (bindC (envOfC Q d s.heap.objs.size f I).kindOf (t.zip U) λ_=>none) T):
  am (eJ Y P w K M B N Q d f I A o s H E) [] (eX N l) H T:=by
 have R:t.length<=N.length:=by have:=Gb List.length S.pre;rw[EJ]at this;omega
 obtain⟨F,tk,rfl,J⟩:=x.done;have m:∀b:Addr,b∉(eJ Y P w K M B N Q d f I A o s H E).ex:=λb z=>absurd (show b∈([]:List Addr) from z) OD;refine#[#[j.mod,S.kind,Z,Z,Ee _,λy z c F g=>?_,λy hy=>?_,λy c _ h=>?_,λ_=>O,Around.frames_deeper j.frames,.inr #[Z,Z],λb z=>absurd z (m b),j.bs,j.bsz,λb _ _=>m b,λb z=>absurd z (m b),j.funs,j.frf],
  rfl,j.bare,Un.kept J,#[_,x.toInCall.ns,λi y v F g h3=>?_],λy c h=>#[_,x.cell y c h],j.hok.fresh$ Ee _,λy c h=>?_,λp C=>absurd (show p∈([]:List (Addr×Obj)) from C) OD,j.hok.kept J,?_]
 ·exact name_of_addr x.apart (FQ F)$ FQ g
 ·have hy:d.names.lookup y=some .cell∨d.names.lookup y=some .free:=hy;rcases hy with hy |hy
  ·exact Xa hy
  ·exact absurd Z$ S.nofree _$ FQ hy
 ·exact GF$ x.above y c$ FQ h
 ·have G:i < l.length:=by
   unfold eX at g;by_cases G:i < l.length
   ·exact G
   ·rw[FR (by simpa using G)]at g;rw[LY]at g;split at g<;>cases g
  have W:l[i]?=some v:=by
   unfold eX at g;rw[Go (by simpa using G),EB]at g;cases e:l[i]? with
   |none=>rw[e]at g;cases g
   |some a=>rw[e]at g;cases g;rfl
  obtain⟨u,L,X⟩:=r.get W;have C:t[i]?=some y:=by rw[<- S.pre,List.getElem?_take_of_lt OB];exact F
  have D:t.Nodup:=by rw[<- S.pre];exact S.nd.sublist$ Gp _ _
  refine#[u,X,?_];rcases S.par y (Ey C) with k |k
  ·exact .inl #[k,Qi D C L k]
  ·obtain⟨c,e⟩:=Xa (n:=s.heap.objs.size+1) k;refine .inr #[.inl k,c,e,?_];have q:=x.cell y c e;rw[Qj D C L (by show d.names.lookup y≠_;rw[k];decide)]at q;exact q
 ·exact j.hok.fresh$ GF$ x.above y c$ FQ h
 ·unfold eX;show _=N.length;rw[Eg,Ec,Ix];omega
theorem vQ{P:Program}{K:Frag}{kV:Value}
    {G:Sp} (lk:K.lookup f=some #[oc,od,.func$ fnOf name c p h a dV kV L pm an C ct,o1]) (M:codeIn K C c=true) (S:al N T a)
  (len:∀d H Q E,G d H Q E->d.length=T.length)
  (j:∀(A:Around) (O:List Env) (s:Shared) (H:Hp) (d:List V) (Q:VK) (E:XK),bH k (A.deeper$ envOfC c a s.heap.objs.size f C)->G d H Q E->
   ∃t,iY (eJ U P w K Y B N c a f C A O s H E) h t/\t { nx:=λ_ i=>Q .non i,rt:=Q } (eX N d) H):
  aj P w K Y B U (k+1) f (fnOf name c p h a dV kV L pm an C ct) T G:=by
 refine#[len,λA O s H a0 us d Q E R z hb r D=>?_];have hl:=len _ _ _ _ D;have KX:K.In s.heap:=z.mod.kin.keeps λb o e=>(z.bs b o e).1;have X:s.heap.NoLimit:=z.mod.nolimit.keeps λb o e=>(z.bs b o e).1;have l:∀y∈T.zip us,a.names.lookup y.1=some .local∨(a.names.lookup y.1=some .cell/\((cellsFrom (s.heap.objs.size+1) a.names []).lookup y.1).isSome=true):=λ#[n,v] hy=>by
  rcases S.par n (Ip hy).1 with q |q
  ·exact .inl q
  ·exact .inr #[q,LB _ _ _$ .inl q]
 refine codeAny_call_function R.depth (KX _ _ lk) Z S.co S.gen Z (PySem.W.codeRec_of KX M)$ hb _ _ _ _ ?_;refine wpAny_newFunctionEnv_cells S.kind l λe1 he s1 x=>?_;subst he;refine#[X.keeps x.toInCall.keep,codeAny_func ?_];obtain⟨t,ht,hq⟩:=j A O s H d Q E (R.deeper _) D;have I:am (eJ U P w K Y B N c a f C A O s H E) [] (eX N d) H s1:=Y8 S R.hd z hl r x;refine Fs (ht [] s1 (eX N d) H _ I hq) (λfl s' m=>?_) λe s' m=>m;have F:∀{g:St} {i:Hp} {v:V} {u:Value},am (eJ U P w K Y B N c a f C A O s H E) [] g i s'->ay v u->Q v i->CE O P w H s Q u s':=
  λ{g i v u} J rv q=>#[v,i,J.os,J.bare,J.base,J.hok,rv,q]
 cases fl with
 |ret u=>obtain⟨v,g,i,J,rv,q⟩:=m;exact F J rv q
 |next=>obtain⟨g,i,J,q⟩:=m;exact F (v:=V.non) (u:=Value.none) J Z q
 |brk=>obtain⟨_,_,_,q⟩:=m;exact False.elim q
 |cont=>obtain⟨_,_,_,q⟩:=m;exact False.elim q
section
variable {X:Cx}{x:Str}{p pos:Pos}{e:Expr}{es:List Expr}{t:TA}{id T:String}{r:List V->Hp->VK->Prop}
def CC(r:List V->Hp->VK->Prop)(t:TA):TE:=λa H Q=>t a H λv h=>r v h Q
theorem jP(d:dw X (.builtin id) r)(f:Gl X x)(g:X.mg x=none)(i:bootBuiltins x=some (.builtin id))(j:PA X (e::es) t)(k:x≠"__name__":=by decide)(a:(x==("__debug__":Str))=false:=by decide)
  (l:starEach (e::es) X.env=(false,eval e X.env)::starEach es X.env:=by rfl) (b:(backTo pos$ starEach es X.env).any (·.1)=false:=by rfl):PE X (.Call (.Name x p) (e::es) [] pos) (CC r t):=by
 intro P s c H Q I h;refine EU$ kN I f g i ?_ k a;exact Op (aL (j pos P s c H _ I h) λu S #[v,m,n,R,q]=>d P S c m v u Q n R q) l b
theorem jC(d:dw X (.type T) r)(f:Gl X x)(g:X.mg x=none)(i:bootBuiltins x=some (.type T))(j:PA X (e::es) t)(k:x≠"__name__":=by decide)(a:(x==("__debug__":Str))=false:=by decide)
  (l:starEach (e::es) X.env=(false,eval e X.env)::starEach es X.env:=by rfl) (b:(backTo pos$ starEach es X.env).any (·.1)=false:=by rfl):PE X (.Call (.Name x p) (e::es) [] pos) (CC r t):=by
 intro P s c H Q I h;refine EU$ kN I f g i ?_ k a;exact EM (aL (j pos P s c H _ I h) λu S #[v,m,n,R,q]=>d P S c m v u Q n R q) l b
end
end _L
namespace HT
open PySem PyProof.Rows
theorem eqAt_int(A:Around)(s:Shared)(a:Int)(t:Tok)(c:Int)(u:Tok):∃e,SeqAt.EqAt A s (.int a t) (.int c u) e/\(e=true↔a=c):=
 #[(a==c),LN a t c u,OD]
section
variable {prog:Program}{w:World}{A:Around}{E:Value->Shared->Prop}{s:Shared}
theorem cat_tup{v W:List Value}{Q:Value->Shared->Prop}(m:IsTup s.heap t v.toArray)(o:IsTup s.heap b W.toArray)(i:v≠[])
  (p:W=[]->Q (.ref t) s) (q:W≠[]->Q (.ref s.heap.objs.size) { s with heap:=s.heap.push { cls:=.type "tuple",data:=.seq (v++W).toArray } })
  (g:v.length+W.length<=sizeLine):wpAny (model prog w) A (binaryOp .Add (.ref t)$ .ref b) Q E s:=by
 obtain⟨⟨cls,D,data,j⟩,c,k,n,l⟩:=id m;obtain⟨⟨C,d,data2,S⟩,h,H,N,a⟩:=id o;simp only at k l H a;subst k l H a;have e:v.toArray++W.toArray=(v++W).toArray:=by simp
 by_cases f:W=[]
 ·exact MN #[_,c,Z] #[_,h,Z] Lx Mw HU HJ (HF _ _)
   (tuple_addW1 t b v.toArray W.toArray n N D d j S (by simpa using i) (by simp [f])) #[c,h,p f]
 ·refine MN #[_,c,Z] #[_,h,Z] Lx Mw HU HJ (HF _ _)
   (tuple_addW2 t b v.toArray W.toArray n N D d j S (by simpa using i) (by simpa using f) (by rw[Eh,Eh];exact g)) #[c,h,?_]
  rw[e];exact q f
noncomputable def sIx(n d:Nat):Option Int->Nat
 |none=>d
 |some v=>if v < 0 then (v+(n:Int)).toNat else min v.toNat n
theorem sIx_none(n d:Nat):sIx n d none=d:=rfl
theorem sIx_nat(n d k:Nat):sIx n d (some (k:Int))=min k n:=by show(if (k:Int) < 0 then ((k:Int)+(n:Int)).toNat else min (k:Int).toNat n)=min k n;rw[Eu OB,FE]
theorem yz(n d:Nat)(H:d<=n)(o:Option Int):sIx n d o<=n:=by
 cases o with
 |none=>exact H
 |some v=>
  show(if v < 0 then (v+(n:Int)).toNat else min v.toNat n)<=n;by_cases h:v < 0
  ·rw[Er h];omega
  ·rw[Eu h];exact Nat.min_le_right _ _
theorem YD(v:Int)(n d:Nat):(if v < 0 then max (v+(n:Int)) 0 else min v (n:Int))=((sIx n d (some v):Nat):Int):=by
 show(if v < 0 then max (v+(n:Int)) 0 else min v (n:Int))=(((if v < 0 then (v+(n:Int)).toNat else min v.toNat n):Nat):Int);by_cases h:v < 0
 ·simp only[Er h];omega
 ·simp only[Eu h];omega
theorem X0(lo h:Option Int)(n:Nat):Builtin.Slice.sliceAdjust lo h 1 (n:Int)=(((sIx n 0 lo:Nat):Int),((sIx n n h:Nat):Int)):=by
 have H:¬((1:Int) < 0):=by omega
 unfold Builtin.Slice.sliceAdjust;simp only[H,FF];refine Prod.ext ?_ ?_
 ·cases lo with
  |none=>rfl
  |some v=>exact YD v n 0
 ·cases h with
  |none=>rfl
  |some v=>exact YD v n n
theorem X1(i j:Nat):Builtin.Slice.slicePlaces (i:Int) (j:Int) 1=j - i:=by
 unfold Builtin.Slice.slicePlaces;have h:(1:Int) > 0:=by omega
 simp only[h,Hk,Int.ediv_one];split<;>omega
theorem Kv{Q:Option Int->Shared->Prop}(p:IsPart v o)(h:Q o s):wpAny (model prog w) A (Builtin.Slice.slicePartIndex v) Q E s:=by
 cases p with
 |none=>exact Ou h
 |int i t=>exact slicePart_int h
theorem sliceApplied_gen{lo:Option Int}{Q:Int×Int×Nat->Shared->Prop}(d:s.heap.IsSliceOf e v c .none)(p:IsPart v lo)(P:IsPart c b)
  (h:Q (((sIx n 0 lo:Nat):Int),1,sIx n n b - sIx n 0 lo) s):wpAny (model prog w) A (Builtin.Slice.sliceApplied (.ref e)$ pure (n:Int)) Q E s:=by
 obtain⟨os,H,f,a⟩:=id d;unfold Builtin.Slice.sliceApplied Builtin.Slice.sliceFields;refine D9$ D9$ EG H a (x:=v) Z$ D9$ EG H a (x:=c) Z$ D9$ EG H a (x:=.none) Z$ Ea ?_;refine D9$ Ou ?_;show wpAny _ _ (if ((1:Int)==0)=true then _ else _) _ _ s;rw[Eu OA];refine D9$ Kv p$ D9$ Kv P$ D9$ Ea ?_;show wpAny _ _ (match Builtin.Slice.sliceAdjust lo b 1 (n:Int) with | (lo,b)=>pure (lo,(1:Int),Builtin.Slice.slicePlaces lo b 1)) _ _ s;rw[X0 lo b n];show wpAny _ _ (pure (((sIx n 0 lo:Nat):Int),(1:Int),Builtin.Slice.slicePlaces ((sIx n 0 lo:Nat):Int) ((sIx n n b:Nat):Int) 1)) _ _ s;rw[X1];exact Ea h
theorem pG(X:Array Value)(i k:Nat):((List.range k).filterMap λ(m:Nat)=>X[((i:Int)+(m:Int)*1).toNat]?).toArray=((X.toList.drop i).take k).toArray:=by
 have e:(λ(m:Nat)=>X[((i:Int)+(m:Int)*1).toNat]?)=λm=>X[i+m]?:=by
  funext m;have:((i:Int)+(m:Int)*1).toNat=i+m:=by omega
  rw[this]
 rw[e];have:=pick_run X i k;rw[List.filterMap_map]at this;have a:((λx=>X[x]?) ∘ λx=>i+x)=λm=>X[i+m]?:=rfl;rw[a]at this;rw[this]
theorem getItem_tuple_cut{lo:Option Int}{Q:Value->Shared->Prop}(ht:IsTup s.heap t items)(hs:s.heap.IsSliceOf sl vl vu .none)(pl:IsPart vl lo)(pu:IsPart vu hi)
  (hw:¬(sIx items.size 0 lo=0/\sIx items.size items.size hi=items.size))
  (h:Q (.ref s.heap.objs.size) { s with heap:=s.heap.push { cls:=.type "tuple",data:=.seq ((items.toList.drop$ sIx items.size 0 lo).take$ sIx items.size items.size hi - sIx items.size 0 lo).toArray } })
  (hsz:items.size<=sizeLine):wpAny (model prog w) A (getItem (.ref t)$ .ref sl) Q E s:=by
 have htake:sizeOk (.seq ((items.toList.drop$ sIx items.size 0 lo).take$ sIx items.size items.size hi - sIx items.size 0 lo).toArray):=by show((items.toList.drop$ sIx items.size 0 lo).take$ sIx items.size items.size hi - sIx items.size 0 lo).toArray.size<=sizeLine;rw[Eh,EJ,Gh,EE];omega
 have hj:sIx items.size items.size hi<=items.size:=yz _ _ (Ee _) hi;obtain⟨os,hos,hcs,hds⟩:=id hs;have hTs:s.TypeIs (.ref sl) "slice":=#[os,hos,hcs];unfold getItem;try with_reducible refine Ez ?_
 first |refine D9 (Ea ?_) |skip
 refine D9$ Ll ht.typeIs OA ?_;refine D9 (EW (name:=Str.ofString "__getitem__") ht.typeIs Gi
  (EV Gi ht.typeIs entry_tuple_getitem ?_$ args_tuple_getitem _ _))
 show wpAny _ _ (Builtin.Tuple.tupleItemsOf (.ref t) >>= _) _ _ s;refine D9$ tupleItemsOf_ ht ?_;refine D9$ FG hTs ?_;rw[Er OA];refine D9$ sliceApplied_gen hs pl pu ?_;have hno:¬((((sIx items.size 0 lo:Nat):Int)==0&&(1:Int)==1&&(sIx items.size items.size hi - sIx items.size 0 lo)==items.size)=true):=by intro q;rw[Fv,Fv]at q;have q1:((sIx items.size 0 lo:Nat):Int)=0:=eq_of_beq q.1.1;have q2:sIx items.size items.size hi - sIx items.size 0 lo=items.size:=eq_of_beq q.2;exact hw #[OB,OB]
 show wpAny _ _ (if (((sIx items.size 0 lo:Nat):Int)==0&&(1:Int)==1&&(sIx items.size items.size hi - sIx items.size 0 lo)==items.size)=true then _ else _) _ _ s;rw[Eu hno,pG];first
  |exact D9 (m:=Builtin.Tuple.tupleExact _) (EZ (Ea #[_,Z,Ea h]) htake)
  |exact D9 (m:=Builtin.Tuple.tupleExact _) (EZ (D9 (Ea (Ea #[_,Z,Ea h]))) htake)
  |exact D9 (D9 (m:=Builtin.Tuple.tupleExact _) (EZ (Ea (Ea #[_,Z,Ea h])) htake))
  |exact D9 (D9 (m:=Builtin.Tuple.tupleExact _) (EZ (Ea #[_,Z,Ea h]) htake))
end
end HT
namespace _L
open PySem PySem.Spec PyProof.Rows
abbrev TO:=St->Hp->(Option Int->Hp->Prop)->Prop
def PO(X:Cx)(e:Option Expr)(t:TO):Prop:=
 ∀(p:List (Addr×Obj)) (s:Shared) (a:St) (H:Hp) (Q:Option Int->Hp->Prop),am X p a H s->t a H Q->
  wpAny (model X.prog X.w) X.A (evalPart e X.env) (λu S=>∃o h,am X p a h S/\IsPart u o/\Q o h) X.xe s
def iV:TO:=λ_ H Q=>Q none H
inductive rX(Q:Option Int->Hp->Prop)(x:V)(a:Hp):Prop
 |mk(i:_)(_:x= .int i)(_:Q (some i) a)
def lH(t:TE):TO:=λa H Q=>t a H (rX Q)
section
variable {X:Cx}{e:Expr}{te:TE}{lo hi:Option Expr}{tl th:TO}{pos p2:Pos}
theorem kX:PO X none iV:=by intro p s a H Q I h;rw[evalPart_none];exact Ea #[none,H,I,.none,h]
theorem jH(h:PE X e te):PO X (some e) (lH te):=by intro p s a H Q I b;rw[evalPart_some];refine aL (h p s a H _ I b) λu S z=>?_;obtain⟨x,c,d,r,f⟩:=z;obtain⟨i,rfl,q⟩:=f;obtain⟨t,rfl⟩:=r;exact#[some i,c,d,.int i t,q]
def Cq(X:Cx)(r:V->Option Int->Option Int->Hp->VK->Prop):Prop:=
 ∀(p:List (Addr×Obj)) (s:Shared) (a:St) (H:Hp) (x:V) (v b c:Value) (lo hi:Option Int) (S:Addr) (Q:VK),am X p a H s->ay x v->s.heap.IsSliceOf S b c .none->IsPart b lo->IsPart c hi->r x lo hi H Q->
  ∃T id,typeLookup (.type T) "__getitem__"=pure (some$ .builtin id)/\s.TypeIs v T/\wpAny (model X.prog X.w) X.A (getItem v$ .ref S) (EP X p a Q) X.xe s
def CD(r:V->Option Int->Option Int->Hp->VK->Prop)(te:TE)(tl th:TO):TE:=λa H Q=>te a H λx h=>tl a h λl b=>th a b λu c=>r x l u c Q
theorem jK{r:V->Option Int->Option Int->Hp->VK->Prop}(g:Cq X r)(i:PE X e te)(j:PO X lo tl)(k:PO X hi th):PE X (.Subscript e (.Slice lo hi none p2) pos) (CD r te tl th):=by intro p s a H Q I h;refine Nx$ aL (i p s a H _ I h) λv m z=>?_;obtain⟨x,n,o,R,t⟩:=z;refine wpAny_Slice$ aL (j p m a n _ o t) λc y #[l,B,C,P,D]=>aL (k p y a B _ C D) λd S z=>?_;obtain⟨u,f,E,F,G⟩:=z;rw[evalPart_none];refine Ea ?_;have J:am X p a f { S with heap:=S.heap.push { cls:=.type "slice",data:=.fields (List.toArray [c,d,.none]) } }:=E.kept (t':=S.toks) λb O q=>Eb _ q;obtain⟨T,id,K,L,M⟩:=g p { S with heap:=S.heap.push { cls:=.type "slice",data:=.fields (List.toArray [c,d,.none]) } } a f x v c d l u S.heap.objs.size Q J R (Li ..) P F G;show wpAny (model X.prog X.w) X.A (subscriptTail e (.Slice lo hi none p2) v$ .ref S.heap.objs.size) (EP X p a Q) X.xe { S with heap:=S.heap.push { cls:=.type "slice",data:=.fields (List.toArray [c,d,.none]) } };exact tail_any (ops:=[.ref S.heap.objs.size,v]) L K M (by with_unfolding_all rfl)
noncomputable def aV(x:List V)(lo hi:Option Int):List V:=(x.drop$ HT.sIx x.length 0 lo).take (HT.sIx x.length x.length hi - HT.sIx x.length 0 lo)
theorem zd(x:List V)(lo hi:Option Int):(aV x lo hi).length<=x.length:=by unfold aV;rw[EJ,Gh];omega
inductive Bs(K:Frag)(x:V)(c b:Option Int)(H:Hp)(Q:VK):Prop
 |mk(a d:_)(_:x= .ref a)(_:aD K H a d)(_:¬(HT.sIx d.length 0 c=0/\HT.sIx d.length d.length b=d.length))(_:∀p,H p=none->Q (.ref p) (af H p (.tup (aV d c b))))
theorem yM:Cq X (Bs X.K):=by
 intro p s n H x v V t lo hi S Q I R j P k h;obtain⟨a,d,rfl,l,m,q⟩:=h;cases R;obtain⟨i,r,f,g⟩:=I.tuple l;have c:i.toArray.size=d.length:=by rw[Eh];exact r.length.symm
 refine#["tuple",_,PyProof.Rows.slot_tuple_getitem.lookup,f.typeIs,?_];refine HT.getItem_tuple_cut f j P k (by rw[c];exact m) ?_ (by rw[c];exact g);rw[c];refine#[.ref s.heap.objs.size,_,I.laid (t':=s.toks) (o:=.tup (aV d lo hi)) (λb O q=>Eb _ q) (Ee _) ?_,Z,q _$ I.hok.fresh$ Ee _];exact#[En (zd d lo hi) g,_,(r.drop$ HT.sIx d.length 0 lo).take$ HT.sIx d.length d.length hi - HT.sIx d.length 0 lo,MS _ _]
inductive we(K:Frag)(x y:V)(H:Hp)(Q:VK):Prop
 |mk(a b c d:_)(_:x= .ref a)(_:y= .ref b)(_:aD K H a c)(_:aD K H b d)(_:c≠[])(_:c.length+d.length<=sizeLine)(_:d=[]->Q (.ref a) H)(_:d≠[]->∀p,H p=none->Q (.ref p) (af H p (.tup (c++d))))
theorem ar.nil_iff(r:ar x u):u=[]↔x=[]:=by
 cases r with
 |nil=>simp
 |cons _ _=>simp
theorem uq:gf X (binaryOp .Add) (we X.K):=by intro p s A H x y v u Q I d f h;obtain⟨a,b,g,Y,rfl,rfl,j,k,l,c,m,n⟩:=h;cases d;cases f;obtain⟨t,R,P,_⟩:=I.tuple j;obtain⟨i,r,p2,_⟩:=I.tuple k;refine HT.cat_tup P p2 (λz=>l (R.nil_iff.mp z)) (λz=>#[.ref a,H,I,Z,m$ r.nil_iff.mp z]) (λz=>?_) (by rw[<- R.length,<- r.length];exact c);refine#[.ref s.heap.objs.size,_,I.laid (t':=s.toks) (o:=.tup (g++Y)) (λb O q=>Eb _ q) (Ee _) ?_,Z,n (λw=>z (r.nil_iff.mpr w)) _$ I.hok.fresh$ Ee _];exact#[by rw[Eg];exact c,_,R.append r,MS _ _]
end
noncomputable def ms(n:Nat)(i:Int):Option Nat:=if 0<=i then (if i < n then some i.toNat else none) else if -(n:Int)<=i then some (i+n).toNat else none
noncomputable def dF{a:Type}(x:List a)(i:Int):Option a:=(ms x.length i).bind λj=>x[j]?
theorem YE(h:ms n i=some j):seqIndex? i n=some j/\j < n/\ -(n:Int)<=i/\i < n:=by
 unfold ms at h;by_cases a:0<=i
 ·rw[Er a]at h;by_cases H:i < n
  ·rw[Er H]at h;have e:i.toNat=j:=Fh h;exact#[by rw[M6 a H,e],OB,OB,H]
  ·rw[Eu H]at h;cases h
 ·rw[Eu a]at h;by_cases H: -(n:Int)<=i
  ·rw[Er H]at h;have e:(i+n).toNat=j:=Fh h;exact#[by rw[ML OB H,e],OB,H,OB]
  ·rw[Eu H]at h;cases h
theorem QK{a:Type}{x:List a}{v:a}(h:dF x i=some v):∃j,seqIndex? i x.length=some j/\x[j]?=some v/\j < x.length/\ -(x.length:Int)<=i/\i < x.length:=by
 unfold dF at h;cases e:ms x.length i with
 |none=>rw[e]at h;cases h
 |some j=>rw[e]at h;obtain⟨H,b,c,d⟩:=YE e;exact#[j,H,h,b,c,d]
theorem jW{a:Type}{x:List a}{j:Nat}{v:a}(h:x[j]?=some v):dF x (j:Int)=some v:=by
 have H:j < x.length:=(List.getElem?_eq_some_iff.mp h).1;have e:ms x.length (j:Int)=some j:=by unfold ms;rw[Er OB,Er OB];simp
 unfold dF;rw[e];exact h
def sL(b:Expr):Prop:=∀o i,subscripted b false o i=operate [o,i] (getItem o i)
def Ck(X:Cx)(r:R2):Prop:=
 ∀(a S:Expr) (p:List (Addr×Obj)) (s:Shared) (b:St) (H:Hp) (x y:V) (v u:Value) (Q:VK),am X p b H s->ay x v->ay y u->r x y H Q->
  subscripted S false v u=operate [v,u] (getItem v u)->wpAny (model X.prog X.w) X.A (subscriptTail a S v u) (EP X p b Q) X.xe s
def Cn(X:Cx)(id:String)(r:V->List V->Hp->VK->Prop):Prop:=
 ∀(p:List (Addr×Obj)) (s:Shared) (a:St) (H:Hp) (x:V) (b:List V) (v:Value) (u:List Value) (Q:VK),am X p a H s->ay x v->ar b u->r x b H Q->
  wpAny (model X.prog X.w) X.A (call (.builtin id) (v::u)) (EP X p a Q) X.xe s
section
variable {X:Cx}{a b:Expr}{ta tb:TE}{pos:Pos}
theorem jv{r:R2}(c:Ck X r)(d:PE X a ta)(e:PE X b tb)(f:sL b):PE X (.Subscript a b pos) (eY r ta tb):=by intro p s g H Q I h;exact Nx$ wM d e I h λv u S x y i j R k q=>c a b p S g i x y v u Q j R k q (f _ _)
inductive ie(K:Frag)(x y:V)(H:Hp)(Q:VK):Prop
 |mk(p a i v:_)(_:x= .ref p)(_:y= .int i)(_:aF K H p a)(_:dF a i=some v)(_:Q v H)
inductive i9(K:Frag)(x y:V)(H:Hp)(Q:VK):Prop
 |mk(p a i v:_)(_:x= .ref p)(_:y= .int i)(_:aD K H p a)(_:dF a i=some v)(_:Q v H)
inductive uJ(x y:V)(H:Hp)(Q:VK):Prop
 |mk(z i c:_)(_:x= .str z)(_:y= .int i)(_:z.length<=sizeLine)(_:dF z.cps.toList i=some c)(_:Q (.str #[(List.toArray [c])]) H)
theorem jo:Ck X (ie X.K):=by
 intro V S P s k H x y v u Q I n o h l;obtain⟨p,L,i,z,rfl,rfl,A,B,q⟩:=h;cases n;obtain⟨t,rfl⟩:=o;obtain⟨d,r,e,M⟩:=I.list A;obtain⟨j,c,C,N,D,F⟩:=QK B;obtain⟨w,E,R⟩:=r.get C;have G:=r.length;have O:=cy;have f:EP X P k Q w s:=#[z,H,I,R,q];by_cases m:0<=i
 ·have g:i.toNat=j:=by rw[M6 m F]at c;exact Fh c
  exact item_listR e.isList m OB (by rw[g];simpa using E) f l
 ·have g:(i+(d.toArray.size:Int)).toNat=j:=by rw[ML OB D]at c;rw[Eh,<- G];exact Fh c
  exact MK (x:=w) e.isList.typeIs slot_list_getitem.lookup
   (wpAny_getItem_list_neg (Q:=λr J=>r=w/\EP X P k Q r J) e.isList OB (by rw[Eh]<;>omega) OB (by rw[g];simpa using E) #[Z,f]) l
theorem zU:Ck X (i9 X.K):=by
 intro V S P s c H x y v u Q I e g h k;obtain⟨p,D,i,z,rfl,rfl,l,m,q⟩:=h;cases e;obtain⟨t,rfl⟩:=g;obtain⟨n,r,d,F⟩:=I.tuple l;obtain⟨j,o,A,G,J,L⟩:=QK m;obtain⟨w,E,R⟩:=r.get A;have B:=r.length;have M:=cy;have f:EP X P c Q w s:=#[z,H,I,R,q];exact MK (x:=w) d.typeIs slot_tuple_getitem.lookup
  (getItem_tuple (j:=j) (Q:=λr C=>r=w/\EP X P c Q r C) d OB OB (by rw[Eh,<- B];exact o) (by simpa using E) #[Z,f]) k
theorem Kb:Ck X uJ:=by
 intro V S p s o H x y v u Q I r R h e;obtain⟨z,i,c,rfl,rfl,w,f,q⟩:=h;obtain⟨t,rfl⟩:=r;obtain⟨T,rfl⟩:=R;obtain⟨j,d,g,A,k,l⟩:=QK f;have m:z.cps.toList.length=z.length:=by simp [Str.length]
 rw[m]at d k l;have B:=cy;exact tail_any (typeIs_str s z t) slot_str_getitem.lookup (getItem_str (c:=c) (by
  have E:decide (i < -(2 ^ 63:Int))=false:=Ep OB;have n:decide (i≥2 ^ 63)=false:=Ep OB;rw[E,n,IK]) (by rw[d];simpa using g) #[.str #[(List.toArray [c])],H,I.tok _,#[_,Z],q]) e
theorem X2(i:List Value)(n j:Nat)(u:Value):Obj.mapSeq (·.setIfInBounds j u) { cls:=.type "list",data:=.seq i.toArray n }={ cls:=.type "list",data:=.seq (i.set j u).toArray n }:=by simp [Obj.mapSeq]
theorem am.lst(I:am X c d H s)(h:H p=some (.lst x)):
  ∃(i:List Value) (n:Nat),ar x i/\s.heap.get? p=some { cls:=.type "list",data:=.seq i.toArray n }/\x.length<=sizeLine:=by
 obtain⟨z,i,n,r,e⟩:=I.hok p _ h;exact#[i,n,r,e,z]
theorem am.lstUpd{c i:List Value}{f:Obj->Obj}(I:am X d j H s)(h:H p=some (.lst o))
  (k:s.heap.get? p=some { cls:=.type "list",data:=.seq c.toArray n }) (g:f { cls:=.type "list",data:=.seq c.toArray n }={ cls:=.type "list",data:=.seq i.toArray N }) (r:ar y i) (l:y.length<=sizeLine) (t:Nat):
  am X d j (af H p$ .lst y) { s with heap:=s.heap.update p f,toks:=t }:=by
 have e:(s.heap.update p f).get? p=some { cls:=.type "list",data:=.seq i.toArray N }:=by rw[Heap.get?_update_self f k (by rw[g]<;>rfl),g]
 refine I.write (x:=p) (e:=p) (by rw[h];trivial) (.inl Z) (λb u m q=>(Heap.get?_update_other _ _$ Ne.symm m).trans q) #[_,e] ?_;exact#[l,i,N,r,e]
inductive my(o i v:V)(H:Hp)(Q:Hp->Prop):Prop
 |mk(p a k j:_)(_:o= .ref p)(_:i= .int k)(_:H p=some (.lst a))(_:ms a.length k=some j)(_:Q (af H p (.lst (a.set j v))))
theorem zz:Ar X my:=by
 intro P s z H o i v O F u Q I R A B h;obtain⟨p,C,k,j,rfl,rfl,l,D,q⟩:=h;cases R;obtain⟨t,rfl⟩:=A;obtain⟨c,n,r,e,E⟩:=I.lst l;obtain⟨d,G,m,w⟩:=YE D;have f:=r.length;have J:=cy;have x:am X P z (af H p$ .lst$ C.set j v) { s with heap:=s.heap.update p (Obj.mapSeq (·.setIfInBounds j u)) }:=
  I.lstUpd l e (X2 c n j u) (r.set B j) (by rw[Ir];exact E) s.toks
 by_cases y:0<=k
 ·have g:k.toNat=j:=by rw[M6 y w]at d;exact Fh d
  exact PySem.W.ki_setAt e y OB (by rw[Eh,<- f];exact w) (by rw[g];exact#[_,x,q])
 ·have g:(k+(c.toArray.size:Int)).toNat=j:=by rw[ML OB m]at d;rw[Eh,<- f];exact Fh d
  exact PySem.W.ki_setBack e OB (by rw[Eh,<- f];exact m) OB (by rw[g];exact#[_,x,q])
theorem QS(lo H:Option Int)(n:Nat):(sliceBounds lo H none n).1=((HT.sIx n 0 lo:Nat):Int)/\(sliceBounds lo H none n).2.1=((HT.sIx n n H:Nat):Int)/\(sliceBounds lo H none n).2.2=1:=by
 refine#[?_,?_,Z]
 ·cases lo with
  |none=>simp [sliceBounds,HT.sIx]
  |some i=>
   simp only[sliceBounds,HT.sIx,IX,show(1:Int) > 0 by decide,Hk];by_cases h:i < 0
   ·simp only[h,Hk]<;>omega
   ·simp only[h,FF]<;>omega
 ·cases H with
  |none=>simp [sliceBounds,HT.sIx]
  |some i=>
   simp only[sliceBounds,HT.sIx,IX,show(1:Int) > 0 by decide,Hk];by_cases h:i < 0
   ·simp only[h,Hk]<;>omega
   ·simp only[h,FF]<;>omega
theorem KO(i:List Value)(lo h:Option Int):slicePick i.toArray lo h none=((i.drop$ HT.sIx i.length 0 lo).take$ HT.sIx i.length i.length h - HT.sIx i.length 0 lo).toArray:=by obtain⟨H,c,d⟩:=QS lo h i.toArray.size;unfold slicePick;rw[H,c,d];simp only[sliceRange_one,pick_run,Eh]<;>rfl
inductive uK(K:Frag)(x:V)(c b:Option Int)(H:Hp)(Q:VK):Prop
 |mk(a d:_)(_:x= .ref a)(_:aF K H a d)(_:∀p,H p=none->Q (.ref p) (af H p (.lst (aV d c b))))
theorem km:Cq X (uK X.K):=by intro p s m H x v V n lo e S Q I R g P i h;obtain⟨a,c,rfl,j,q⟩:=h;cases R;obtain⟨k,r,f,l⟩:=I.list j;have d:=r.length;refine#["list",_,slot_list_getitem.lookup,f.isList.typeIs,?_];refine wpAny_getItem_list_slice f.isList g P i .none OD ?_ (by rw[Eh]<;>omega);rw[KO,<- d];refine#[.ref s.heap.objs.size,_,I.laid (t':=s.toks) (o:=.lst (aV c lo e)) (λb O q=>Eb _ q) (Ee _) ?_,Z,q _$ I.hok.fresh$ Ee _];exact#[En (zd c lo e) l,_,0,(r.drop$ HT.sIx c.length 0 lo).take$ HT.sIx c.length c.length e - HT.sIx c.length 0 lo,Ei _ Z]
noncomputable def dX:V->Bool
 | .non=>true
 | .bl _=>true
 | .int _=>true
 | .str _=>true
 |_=>false
noncomputable def nQ:V->V->Bool
 | .non,.non=>true
 | .bl a,.bl b=>a==b
 | .bl a,.int b=>(if a then 1 else 0)==b
 | .int a,.bl b=>a==(if b then 1 else 0)
 | .int a,.int b=>a==b
 | .str a,.str b=>a==b
 |_,_=>false
theorem wW(R:ay y u)(r:ay x v)(F:dX y=true)(f:dX x=true):SeqAt.EqAt A s u v (nQ y x):=by
 cases y with
 |non=>
  cases R;cases x with
  |non=>cases r;exact SeqAt.EqAt.same _
  |bl b=>cases r;exact SeqAt.EqAt.none_bool b
  |int b=>obtain⟨t,rfl⟩:=r;exact SeqAt.EqAt.none_int b t
  |str b=>obtain⟨t,rfl⟩:=r;exact SeqAt.EqAt.none_str b t
  |_=>exact absurd (show false=true from f) El
 |bl a=>
  cases R;cases x with
  |non=>cases r;exact SeqAt.EqAt.bool_none a
  |bl b=>cases r;exact SeqAt.EqAt.bool_bool a b
  |int b=>obtain⟨t,rfl⟩:=r;exact SeqAt.EqAt.bool_int a b t
  |str b=>obtain⟨t,rfl⟩:=r;exact SeqAt.EqAt.bool_str a b t
  |_=>exact absurd (show false=true from f) El
 |int a=>
  obtain⟨T,rfl⟩:=R;cases x with
  |non=>cases r;exact SeqAt.EqAt.int_none a T
  |bl b=>cases r;exact SeqAt.EqAt.int_bool a T b
  |int b=>obtain⟨t,rfl⟩:=r;exact LN a T b t
  |str b=>obtain⟨t,rfl⟩:=r;exact LM a T b t
  |_=>exact absurd (show false=true from f) El
 |str a=>
  obtain⟨T,rfl⟩:=R;cases x with
  |non=>cases r;exact SeqAt.EqAt.str_none a T
  |bl b=>cases r;exact SeqAt.EqAt.str_bool a T b
  |int b=>obtain⟨t,rfl⟩:=r;exact LK a T b t
  |str b=>obtain⟨t,rfl⟩:=r;exact SeqAt.EqAt.str_str a T b t
  |_=>exact absurd (show false=true from f) El
 |_=>exact absurd (show false=true from F) El
noncomputable def lQ(x:V)(u:Value):Bool:=match u with
 | .none=>nQ .non x
 | .bool b=>nQ (.bl b) x
 | .int i _=>nQ (.int i) x
 | .str z _=>nQ (.str z) x
 |_=>false
theorem ZZ(r:ay y u)(f:dX y=true):lQ x u=nQ y x:=by
 cases y with
 |non=>cases r;rfl
 |bl b=>cases r;rfl
 |int i=>obtain⟨t,rfl⟩:=r;rfl
 |str z=>obtain⟨t,rfl⟩:=r;rfl
 |_=>exact absurd (show false=true from f) El
theorem qS:∀{c:List V} {U:List Value},ar c U->c.all dX=true->U.any (lQ x)=c.any λy=>nQ y x
 |_,_,.nil,_=>rfl
 |y::c,u::U,.cons r t,f=>by rw[LW,Fv]at f;rw[HQ,HQ,ZZ r f.1,qS t f.2]
theorem qk(R:ay x v)(F:dX x=true):∀{c:List V} {U:List Value},ar c U->c.all dX=true->∀u∈U,SeqAt.EqAt A s u v (lQ x u)
 |_,_,.nil,_=>λu hu=>by cases hu
 |y::c,u::U,.cons r t,f=>λd hu=>by
  rw[LW,Fv]at f;rcases List.mem_cons.mp hu with rfl |hu
  ·rw[ZZ r f.1];exact wW r R f.1 F
  ·exact qk R F t f.2 d hu
noncomputable def sy(x:V)(c:List V):Bool:=c.any λy=>nQ y x
inductive C8(K:Frag)(a:Bool)(x y:V)(H:Hp)(Q:VK):Prop
 |mk(p b:_)(_:y= .ref p)(_:aF K H p b∨aD K H p b)(_:dX x=true)(_:b.all dX=true)(_:Q (.bl (if a then !sy x b else sy x b)) H)
theorem zQ:gf X (compareOp .In) (C8 X.K false):=by
 intro d s j H x y v u Q I R e h;obtain⟨p,k,rfl,hq,F,f,q⟩:=h;cases e;rcases hq with hq |hq
 ·obtain⟨i,r,P,g⟩:=I.list hq;refine SeqAt.in_listAt (lQ x) P.isList (λw c=>qk R F r f w (by simpa using c)) #[.bl _,H,I,Z,?_];rw[show i.toArray.any (lQ x)=i.any (lQ x) by simp,qS r f];exact q
 ·obtain⟨i,r,P,g⟩:=I.tuple hq;refine SeqAt.in_tupleAt (lQ x) P (λw c=>qk R F r f w (by simpa using c)) #[.bl _,H,I,Z,?_];rw[show i.toArray.any (lQ x)=i.any (lQ x) by simp,qS r f];exact q
theorem Jd:gf X (compareOp .NotIn) (C8 X.K true):=by
 intro d s j H x y v u Q I R e h;obtain⟨p,k,rfl,hq,F,f,q⟩:=h;cases e;rcases hq with hq |hq
 ·obtain⟨i,r,P,g⟩:=I.list hq;refine SeqAt.notIn_listAt (lQ x) P.isList (λw c=>qk R F r f w (by simpa using c)) #[.bl _,H,I,Z,?_];rw[show i.toArray.any (lQ x)=i.any (lQ x) by simp,qS r f];exact q
 ·obtain⟨i,r,P,g⟩:=I.tuple hq;refine SeqAt.notIn_tupleAt (lQ x) P (λw c=>qk R F r f w (by simpa using c)) #[.bl _,H,I,Z,?_];rw[show i.toArray.any (lQ x)=i.any (lQ x) by simp,qS r f];exact q
theorem jJ:dw X (.builtin "len") (λx H Q=>∃p y,x=[.ref p]/\(aF X.K H p y∨aD X.K H p y)/\Q (.int y.length) H):=by
 intro d s g H x U Q I r h;obtain⟨p,y,rfl,hq,q⟩:=h;obtain⟨u,rfl,e⟩:=dC r;cases e;have j:=cy;rcases hq with hq |hq
 ·obtain⟨i,R,P,f⟩:=I.list hq;have c:=R.length;exact Calls.call_len_list P.isList (by simp only[Eh]<;>omega) #[.int y.length,H,I.tok _,#[s.toks+1,by rw[Eh,c]],q]
 ·obtain⟨i,R,P,f⟩:=I.tuple hq;have c:=R.length;exact NK P (by simp only[Eh]<;>omega) #[.int y.length,H,I.tok _,#[s.toks+1,by rw[Eh,c]],q]
theorem Je:dw X (.type "list") (λx H Q=>∃p y,x=[.ref p]/\(aF X.K H p y∨aD X.K H p y)/\∀l,H l=none->Q (.ref l) (af H l$ .lst y)):=by
 intro P s z H x U Q I r h;obtain⟨p,y,rfl,hq,q⟩:=h;obtain⟨u,rfl,A⟩:=dC r;cases A;have f:∀(i:List Value),ar y i->y.length<=sizeLine->∀(c:Heap) (C:Nat),(∀b O,s.heap.get? b=some O->c.get? b=some O)->
   c.get? s.heap.objs.size=some { cls:=.type "list",dict:=none,data:=.seq i.toArray C,slots:=(List.toArray []) }->EP X P z Q (.ref s.heap.objs.size) { s with heap:=c }:=λi R d c C k e=>
  #[.ref s.heap.objs.size,_,I.laid (t':=s.toks) k (Ee _) (show aM X.prog X.w _ c _ (.lst y) from #[d,i,C,R,e]),Z,q _$ I.hok.fresh$ Ee _]
 rcases hq with hq |hq
 ·obtain⟨i,R,j,d⟩:=I.list hq;have g:=R.length;obtain⟨o,m,t,n,v⟩:=j.isList;exact call_list_seq p (.inl Z) m t v (λc C k e=>f i R d c C k e) (by simp only[Eh]<;>omega)
 ·obtain⟨i,R,j,d⟩:=I.tuple hq;have g:=R.length;obtain⟨o,m,t,n,v⟩:=j;exact call_list_seq p (.inr Z) m t v (λc C k e=>f i R d c C k e) (by simp only[Eh]<;>omega)
theorem jF:dw X (.type "tuple") (λx H Q=>∃p y,x=[.ref p]/\((aF X.K H p y/\∀l,H l=none->Q (.ref l) (af H l$ .tup y))∨(aD X.K H p y/\Q (.ref p) H))):=by
 intro P s g H x U Q I r h;obtain⟨p,y,rfl,h⟩:=h;obtain⟨u,rfl,n⟩:=dC r;cases n;rcases h with ⟨d,q⟩ | ⟨d,q⟩
 ·obtain⟨i,R,f,j⟩:=I.list d;have k:=R.length;refine call_tuple_list f.isList (λc t=>?_) (by simp only[Eh]<;>omega);have m:am X P g H { s with heap:=c }:=I.kept (t':=s.toks) t;have v:am X P g (af H c.objs.size$ .tup y) { s with heap:=c.push { cls:=.type "tuple",data:=.seq i.toArray } }:=
   m.laid (t':=s.toks) (λb o e=>Eb _ e) (Ee _) (show aM X.prog X.w _ _ _ (.tup y) from #[j,i,R,MS _ _])
  exact#[.ref c.objs.size,_,v,Z,q _$ m.hok.fresh$ Ee _]
 ·obtain⟨i,R,f,j⟩:=I.tuple d;exact call_tuple_same f #[.ref p,H,I,Z,q]
def Ds(K:Frag)(T:String)(x:V)(H:Hp):Prop:=match x with
 | .str _=>T="str"
 | .int _=>T="int"
 | .ref p=>(T="list"/\∃c,aF K H p c)∨(T="tuple"/\∃o,K.lookup p=some o/\o.cls= .type "tuple"/\o.dict=none)∨
   (T="dict"/\((∃k,H p=some (.dK k))∨∃k,H p=some (.dT k)))∨(T="set"/\∃S n,H p=some (.set S n))
 |_=>False
theorem Z0(I:am X j u H s)(r:ay x v)(d:Ds X.K T x H):
  s.TypeIs v T/\∀a,v= .ref a->∃O,s.heap.get? a=some O/\O.dict=none:=by
 cases x with
 |str z=>obtain⟨t,rfl⟩:=r;cases (show T="str" from d);exact#[typeIs_str s z t,λ_ e=>nomatch e]
 |int i=>obtain⟨t,rfl⟩:=r;cases (show T="int" from d);exact#[typeIs_int s i t,λ_ e=>nomatch e]
 |ref p=>
  cases r;rcases d with ⟨rfl,w,l⟩ | ⟨rfl,o,h,m,f⟩ | ⟨rfl,h⟩ | ⟨rfl,S,n,h⟩
  ·obtain⟨q,_,P,_⟩:=I.list l;refine#[P.isList.typeIs,λa e=>?_];cases e;obtain⟨o,n,e,c,f,_⟩:=P;exact#[o,e,f]
  ·refine#[#[o,I.kIn p o h,m],λa e=>?_];cases e;exact#[o,I.kIn _ o h,f]
  ·have z:∃o,s.heap.get? p=some o/\o.ExactDict:=by
    rcases h with ⟨k,h⟩ | ⟨k,h⟩
    ·obtain⟨_,_,_,_,o,_,_,e,E,_⟩:=I.hok p _ h;exact#[o,e,E]
    ·obtain⟨_,_,_,_,o,_,_,e,E,_⟩:=I.hok p _ h;exact#[o,e,E]
   obtain⟨o,e,E⟩:=z;refine#[#[o,e,E.1],λa g=>?_];cases g;exact#[o,e,E.2.1]
  ·obtain⟨o,_,_,_,e,E,_⟩:=I.hok p _ h;refine#[#[o,e,E.1],λa g=>?_];cases g;exact#[o,e,E.2.1]
 |_=>exact False.elim d
def Dl(K:Frag)(T:String)(r:V->List V->Hp->VK->Prop)(t:TE):TE:=λc H Q=>t c H λx h=>Ds K T x h/\r x [] h Q
def Dk(K:Frag)(T:String)(r:V->List V->Hp->VK->Prop)(d:TE)(t:TA):TE:=λc H Q=>d c H λx h=>Ds K T x h/\t c h λe f=>r x e f Q
variable {o e:Expr}{es:List Expr}{to:TE}{t:TA}{name:Str}{apos cpos:Pos}{T id:String}{r:V->List V->Hp->VK->Prop}
theorem Z1(P:PlainAttrs T)(S:Slot T name id)(f:typeOf (.builtin id)=pure (.type "method_descriptor"))(j:Cn X id r)(k:PE X o to)
  (c:attributeBase o name X.env (eval o X.env)=eval o X.env:=by rfl) (d:(apos.endLine==cpos.line)=true:=by rfl):PE X (.Call (.Attribute o name apos) [] [] cpos) (Dl X.K T r to):=by
 intro p s g H Q I h;refine wpAny_Call_method0_late c d$ aL (k p s g H _ I h) λv l z=>?_;obtain⟨x,m,i,R,n,q⟩:=z;obtain⟨u,w⟩:=Z0 i R n;exact#[T,id,P,S,f,u,w,Ih Z$ PySem.evalArgs_none$ j p l g m x [] v [] Q i R .nil q]
theorem kM(P:PlainAttrs T)(S:Slot T name id)(i:typeOf (.builtin id)=pure (.type "method_descriptor"))(m:Cn X id r)(n:PE X o to)(q:PA X (e::es) t)
  (d:attributeBase o name X.env (eval o X.env)=eval o X.env:=by rfl)
  (g:((backTo cpos$ starEach (e::es) X.env).all (λx=>!x.1)&&(backToKw cpos$ keywordEach [] X.env).all (λx=>x.1.isSome)
   &&decide ((e::es).length+([]:List Keyword).length+(if ([]:List Keyword).isEmpty then 0 else 1) < 30))=true:=by rfl)
  (f:(apos.endLine==cpos.line)=true:=by rfl) (u:starEach (e::es) X.env=(false,eval e X.env)::starEach es X.env:=by rfl) (c:(backTo cpos$ starEach es X.env).any (·.1)=false:=by rfl):
  PE X (.Call (.Attribute o name apos) (e::es) [] cpos) (Dk X.K T r to t):=by
 intro p s j H Q I h;refine wpAny_Call_method_late d g f Z$ aL (n p s j H _ I h) λv w z=>?_;obtain⟨x,y,k,R,A,B⟩:=z;obtain⟨C,D⟩:=Z0 k R A;refine#[T,id,P,S,i,C,D,?_];have l:=q cpos p w j y _ k B;rw[u]at l ⊢;refine Ih (by show(false||(backTo cpos$ starEach es X.env).any (·.1))=false;rw[c]<;>rfl)$ Mq ?_;exact aL l λU E #[F,G,J,L,M]=>m p E j G x F v U Q J R L M
end
def Cm(X:Cx)(id:String)(r:V->List V->Hp->VK->Prop):Prop:=
 ∀(p:List (Addr×Obj)) (s:Shared) (a:St) (H:Hp) (x:V) (b:List V) (v:Value) (u:List Value) (Q:VK),am X p a H s->ay x v->ar b u->r x b H Q->
  wpAny (model X.prog X.w) X.A (call (.builtin id) (v::u)) (EP X p a Q) X.xe s
theorem ar.one:∀{x:V} {U:List Value},ar [x] U->∃u,U=[u]/\ay x u
 |_,_,.cons r .nil=>#[_,Z,r]
theorem ar.zero:∀{u:List Value},ar [] u->u=[]
 |_,.nil=>rfl
theorem ar.dropLast(h:ar x u):ar x.dropLast u.dropLast:=by
 induction h with
 |nil=>exact .nil
 |cons r t i=>
  cases t with
  |nil=>exact .nil
  |cons q T=>exact .cons r i
theorem ar.reverse(h:ar x u):ar x.reverse u.reverse:=by
 induction h with
 |nil=>exact .nil
 |cons r t i=>rw[Hl,Hl];exact ar.append i (.cons r .nil)
theorem X3{c:Type}(l:List c):l.eraseIdx (l.length - 1)=l.dropLast:=by
 induction l with
 |nil=>rfl
 |cons a r i=>
  cases r with
  |nil=>rfl
  |cons b r=>
   have e:(a::b::r).length - 1=((b::r).length - 1)+1:=by have h:(a::b::r).length=r.length+2:=rfl;have H:(b::r).length=r.length+1:=rfl;omega
   rw[e,List.eraseIdx_cons_succ,i];all_goals rfl
section
variable {X:Cx}{pins:List (Addr×Obj)}{σ:St}{H:Hp}{s:Shared}{l b:Addr}{xs ys zs:List V}
theorem am.lset{i its':List Value}{f:Array Value->Array Value}{t':Nat}(I:am X pins σ H s)(h:H l=some (.lst xs))
  (e:s.heap.get? l=some { cls:=.type "list",data:=.seq i.toArray n }) (a:f i.toArray=its'.toArray) (c:ar ys its') (d:ys.length<=sizeLine):
  am X pins σ (af H l$ .lst ys) { s with heap:=s.heap.update l (Obj.mapSeq f),toks:=t' }:=by
 have q:=PySem.IsL.update e f;rw[a]at q;refine I.write (x:=l) (e:=l) (by rw[h];exact trivial) (.inl Z) (λB u g j=>(Et s.heap (Obj.mapSeq f)$ EA g).trans j) #[_,q] ?_;exact#[d,its',_,c,q]
theorem am.lnew{t':Nat}(I:am X pins σ H s)(h:ar ys i)(a:ys.length<=sizeLine):
  am X pins σ (af H s.heap.objs.size$ .lst ys) { s with heap:=s.heap.push { cls:=.type "list",data:=.seq i.toArray },toks:=t' }:=
 I.laid (λ_ _ q=>Eb _ q) (Ee _) #[a,i,0,h,Ei _ Z]
theorem am.fresh(I:am X pins σ H s):H s.heap.objs.size=none:=I.hok.fresh (Ee _)
theorem am.lstM(I:am X pins σ H s)(h:H l=some (.lst xs)):xs.length<=sizeLine/\∃(i:List Value) (n:Nat),ar xs i/\xs.length=i.length/\s.heap.get? l=some { cls:=.type "list",data:=.seq i.toArray n }:=by obtain⟨z,i,n,r,e⟩:=I.hok l _ h;exact#[z,i,n,r,r.length,e]
theorem eL(h:n<=sizeLine):Builtin.List.listTooLong n=false:=by unfold Builtin.List.listTooLong;exact Ep OB
end
section
variable {X:Cx}
inductive iA(x:V)(a:List V)(H:Hp)(Q:VK):Prop
 |mk(l b y:_)(_:x= .ref l)(_:a=[y])(_:H l=some (.lst b))(_:b.length < sizeLine)(_:Q .non (af H l (.lst (b++[y]))))
theorem jY:Cm X "list.append" iA:=by intro p s d H x V v U Q I R b h;obtain⟨l,f,y,rfl,rfl,a,g,q⟩:=h;cases R;obtain⟨u,rfl,c⟩:=b.one;obtain⟨z,i,n,r,j,e⟩:=I.lstM a;refine IC F.slot_list_append #[_,e,Z] F.entry_list_append (F.args_list_append_2 _ _) (PySem.list_append l i.toArray n u (by rw[Eh];omega)) #[e,?_];refine#[.non,_,I.lset (its':=i++[u]) a e OD (r.append$ .cons c .nil) ?_,Z,q];rw[Eg,Gj];omega
inductive mx(x:V)(a:List V)(H:Hp)(Q:VK):Prop
 |mk(l b c d:_)(_:x= .ref l)(_:a=[.ref b])(_:H l=some (.lst c))(_:H b=some (.lst d))(_:c.length+d.length<=sizeLine)(_:Q .non (af H l (.lst (c++d))))
theorem Qk:Cm X "list.extend" mx:=by
 intro p s t H x V v U Q I R g h;obtain⟨l,b,w,y,rfl,rfl,f,j,A,q⟩:=h;cases R;obtain⟨u,rfl,k⟩:=g.one;cases k;obtain⟨z,a,n,r,B,e⟩:=I.lstM f;obtain⟨C,i,N,m,o,E⟩:=I.lstM j;have d:a.toArray.size+i.toArray.size<=sizeLine:=by rw[Eh,Eh];omega
 have c:¬(!a.toArray.isEmpty&&Builtin.List.listTooLong (a.toArray.size+i.toArray.size))=true:=by rw[eL d,Nr];exact El
 refine IC Nf #[_,e,Z] M3 (MT _ _)
  (AutoSeq1.list_extend_list_list_0 l a.toArray n b i.toArray N c (by rw[Eh];omega) OB) #[e,E,?_]
 refine#[.non,_,I.lset (its':=a++i) f e OD (r.append m) ?_,Z,q];rw[Eg];omega
inductive Br(x:V)(a:List V)(H:Hp)(Q:VK):Prop
 |mk(l b y:_)(_:x= .ref l)(_:a=[])(_:H l=some (.lst b))(_:b[b.length - 1]?=some y)(_:Q y (af H l (.lst b.dropLast)))
theorem Z2:Cm X "list.pop" Br:=by
 intro p s m H x V v U Q I R d h;obtain⟨l,o,y,rfl,rfl,c,f,q⟩:=h;cases R;have a:=d.zero;subst a;obtain⟨z,i,n,r,g,e⟩:=I.lstM c;obtain⟨u,j,k⟩:=r.get f;have b:i.toArray[i.toArray.size - 1]?=some u:=by show i.toArray[i.length - 1]?=some u;rw[<- FY,<- g];exact j
 refine IC F.slot_list_pop #[_,e,Z] F.entry_list_pop (F.args_list_pop_1 _) (MeetsSeq.list_pop_last l i.toArray n u b (by rw[Eh];omega)) #[e,?_];refine#[y,_,I.lset (its':=i.dropLast) c e ?_ r.dropLast ?_,k,q]
 ·show i.toArray.eraseIdxIfInBounds (i.toArray.size - 1)=i.dropLast.toArray;rw[Eh,List.eraseIdxIfInBounds_toArray,X3]
 ·rw[List.length_dropLast];omega
inductive uI(x y:V)(H:Hp)(Q:VK):Prop
 |mk(l b a c:_)(_:x= .ref l)(_:y= .ref b)(_:H l=some (.lst a))(_:H b=some (.lst c))(_:a.length+c.length<=sizeLine)(_:∀p,H p=none->Q (.ref p) (af H p (.lst (a++c))))
theorem qg:gf X (binaryOp .Add) uI:=by
 intro p s m H x y v u Q I R c h;obtain⟨l,b,o,t,rfl,rfl,d,f,w,q⟩:=h;cases R;cases c;obtain⟨z,a,n,r,A,e⟩:=I.lstM d;obtain⟨B,i,N,g,j,E⟩:=I.lstM f;refine PySem.P.add_list e E ?_ (by rw[Eh,Eh];omega);have k:a.toArray++i.toArray=(a++i).toArray:=by simp
 rw[k];exact#[.ref _,_,I.lnew (t':=s.toks) (r.append g) (by rw[Eg];omega),Z,q _ I.fresh]
end
section
variable {prog:Program}{w:World}{A:Around}{E:Value->Shared->Prop}{s:Shared}
theorem Y9(i I : List Value)(a c : Nat) : i.toArray.extract 0 a ++ I.toArray ++ i.toArray.extract c i.toArray.size = (i.take a ++ I ++ i.drop c).toArray := by
  apply Array.toList_inj.mp;first
    | (simp
       exact Gg OD)
    | simp [Gg]
    | simp
theorem X4{a c n:Nat}(hac:a<=c)(hc:c<=n):sliceBounds (some (a:Int)) (some (c:Int)) none n=((a:Int),(c:Int),1):=by
 simp only[sliceBounds,IX];have h1:¬((a:Int) < 0):=by omega
 have h2:¬((c:Int) < 0):=by omega
 simp only[h1,h2,FF,show(1:Int) > 0 by decide,Hk];congr 1
 ·omega
 ·congr 1;omega
set_option maxRecDepth 100000 in
theorem KP{a c : Nat}{Q : Unit -> Shared -> Prop}
    (e : s.heap.get? l = some { cls := .type "list", data := .seq i n }) (y : s.heap.get? b = some { cls := .type "list", data := .seq N I }) (q : l ≠ b)
    (C : s.heap.IsSliceOf p z B .none) (P : IsPart z (some (a : Int))) (D : IsPart B (some (c : Int))) (r : a <= c) (F : c <= i.size)
    (f : i.size + N.size <= sizeLine) (h : Q () { s with heap := s.heap.update l (Obj.mapSeq λX => X.extract 0 a ++ N ++ X.extract c X.size) }) :
    wpAny (model prog w) A (setItem (.ref l) (.ref p)$ .ref b) Q E s := by
  have t : s.heap.IsList l i := Mn e;have G : s.heap.IsList b N := Mn y;obtain ⟨os, d, u, g⟩ := id C;have k : s.TypeIs (.ref p) "slice" := #[os, d, u];have j : ¬ ((rawPart none == rawInt 0) = true) := El;have H : Builtin.List.listSameRef (.ref l) (.ref b) = false := by unfold Builtin.List.listSameRef;exact beq_eq_false_iff_ne.mpr q
  have o : (max (a : Int) (c : Int)).toNat = c := by omega
  have v : ((λX : Array Value => X.extract 0 a ++ N ++ X.extract c X.size) i).size <= sizeLine + 1 := by simp only [IW, Array.size_extract];omega
  unfold setItem;try with_reducible refine Ez ?_
  first | refine D9 (Ea ?_) | skip
  refine D9$ Ll t.typeIs OA ?_;refine D9 (EW (name := Str.ofString "__setitem__") t.typeIs ND
    (EV ND t.typeIs entry_list_setitem ?_$ args_list_setitem _ _ _))
  show wpAny _ _ (Builtin.List.listSubscript? (.ref p) >>= _) _ _ s;refine D9 ?_;unfold Builtin.List.listSubscript?;refine D9$ FM k slice_no_index ?_;simp only [Hv, Hk];refine Ea ?_;show wpAny _ _ (typeOf (.ref p) >>= _) _ _ s;refine D9$ FG k ?_;first
    | rw [Eu OA]
    | refine Im OA ?_
  rw [listSliceParts_eq];refine D9$ D9$ EG d g (x := .none) Z$ D9$ Mi .none ?_;rw [Eu j];refine D9$ EG d g (x := z) Z$ D9$ Mi P ?_;refine D9$ EG d g (x := B) Z$ D9$ Mi D$ Ea ?_;first
    | simp only [H, Em, FF]
    | refine Im H ?_
    | (dsimp only
       rw [Eu (by rw [H]; exact El)])
  refine D9 (m := Builtin.List.listAllItems (.ref b) "must assign iterable to extended slice") ?_;unfold Builtin.List.listAllItems;refine D9$ FG G.typeIs ?_;first
    | refine Ox OA ?_
    | rw [Er OA]
    | simp only [IL, NH, Hk]
  unfold Builtin.List.listItems;refine D9$ Fb y Z$ Ea ?_;refine D9$ D9$ Fb e Z$ Ea ?_;refine D9$ Ij ((sliceIndices_raw (some (a : Int)) (some (c : Int)) none i.size OD).trans$ Gb (pure : Int × Int × Int -> Sem (Int × Int × Int))$ X4 r F) ?_;show wpAny _ _ (if ((1 : Int) == 1) = true then _ else _) _ _ s;rw [Er OA];refine D9$ FV ?_;first
    | simp only [eL f, Em, FF]
    | refine Im (eL f) ?_
  first | refine D9 (Ea ?_) | skip
  show wpAny _ _ (updateSeq l (λX => X.extract 0 ((a : Int)).toNat ++ N ++ X.extract (max (a : Int) (c : Int)).toNat X.size) >>= _) _ _ s;rw [o, FE];refine D9$ GN (hz := En (FP _ _) f) (_hz' := v) e Z ?_;refine D9$ LH ?_;first
    | exact D9 (Ea (Ea #[.none, Z, Ea h]))
    | exact Ea #[.none, Z, Ea h]
end
section
variable {X:Cx}
theorem Za{Q:Unit->Shared->Prop}(I:am X p o H s)
  (k:H l=some (.lst x)) (q:H b=some (.lst y)) (f:l≠b) (t:s.heap.IsSliceOf u v B .none) (R:ay (.int a) v) (D:ay (.int c) B) (m:0<=a) (g:a<=c) (J:c<=x.length)
  (K:x.length+y.length<=sizeLine) (h:∀S,am X p o (af H l$ .lst$ x.take a.toNat++y++x.drop c.toNat) S->Q () S):
  wpAny (model X.prog X.w) X.A (setItem (.ref l) (.ref u)$ .ref b) Q X.xe s:=by
 obtain⟨T,rfl⟩:=R;obtain⟨L,rfl⟩:=D;obtain⟨z,d,n,r,M,e⟩:=I.lstM k;obtain⟨N,i,O,E,F,G⟩:=I.lstM q;obtain⟨j,rfl⟩:=Me m;obtain⟨C,rfl⟩:=Me (Int.le_trans m g);simp only[FE]at h;refine KP (a:=j) (c:=C) e G f t (.int _ _) (.int _ _) OB (by rw[Eh];omega) (by rw[Eh,Eh];omega)$ h _ ?_;refine I.lset (its':=d.take j++i++d.drop C) (t':=s.toks) k e ?_ (ar.append (ar.append (r.take _) E)$ r.drop _) ?_
 ·exact Y9 d i j C
 ·rw[Eg,Eg,EJ,Gh];omega
end
end _L
namespace Att
open PySem PySem.W PySem.Calls PyProof.Rows
theorem JJ{P:Params}:∀(N:List Int) (v:List Value),WellAll P h v (N.map WData.int)->IntsAre v N:=by
 intro N;induction N with
 |nil=>intro v w;rw[Mc]at w;cases w;exact .nil
 |cons n N i=>
  intro v w;rw[Fj]at w;cases w with
  |cons a b=>cases a;exact .cons _ _$ i _ b
theorem Zb{l:OpenLaw}(k:l.most=some n){P:Params}
  (H:l.row.toRowW.claim.pre args=true) (g:WellAll P h v args):
  ∃a V N,v=[Value.ref a]/\args=[WData.list$ N.map WData.int]/\h.get? a=some { cls:=.type "list",data:=.seq V.toArray }/\IntsAre V N/\N.length<=n:=by
 have i:WShape.hasAll [] args [.list .int]=true:=(pre_splitW H).1;have j:l.pre.holds [] { args:=args }=true:=(pre_splitW H).2;obtain⟨d,r,rfl,m,o⟩:=hasAllW_cons i;obtain rfl:=hasAllW_nil o;obtain⟨x,rfl,p⟩:=hasW_list m;obtain⟨N,rfl⟩:=items_int p;have b:N.length<=n:=by
  unfold OpenLaw.pre at j;have e:(WTm.not$ .lt (.lit$ .int (n:Int))$ .len$ .arg 0).holds [] { args:=[.list$ N.map .int] }=true:=by have e:=(holds_andW j).1;rw[k]at e;exact e
  have f:=condW_of e (w_not$ w_lt w_lit$ w_len_list$ w_arg Z);rw[Ec]at f;refine M7 λq=>?_;have Q:(n:Int) < ((N.length:Nat):Int):=by omega
  first
   | (rw[EI Q]at f;exact absurd f OA)
   | (simp at f;omega)
 cases g with
 |cons w W=>
  cases W;cases w with
  |list s c=>exact#[_,_,N,Z,Z,s,JJ N _ c,b]
theorem Zc(l:OpenLaw)(args:List WData):l.row.toRowW.claim.post args (.bool true) args=true:=
 postW_of (r:=l.row.toRowW) (X:=(true==true))
  (show WShape.has [] (.bool true) .bool=true by first |rfl |decide |simp [WShape.has,WShape.arms,WShape.armsAll])
  (show(WTm.eq .res$ .lit$ .bool true).value [] { args:=args,res:=some (.bool true),after:=args }=some (.bool$ true==true) from w_eq_bool (w_res Z) w_lit) Z
theorem attach_call{l:OpenLaw}{y:World->Heap->Prop}{d:DefRec}
  (x:l.most=some n) (g:d.params.defaults=[])
  (call:∀(w:World) (S s:Shared) (m M:Str->Option Value) (F:Addr) (o:Obj) (p C D:Value) (a:Addr) (v:List Value) (N:List Int),
   Ground q L [] z w S m M s.heap->y w s.heap->
   s.heap.get? F=some o->o.data= .func (docDef d.name d.params d.body d.scope p C D)->s.heap.CodeRec C d.name->m d.name=some (.ref F)->
   s.heap.get? a=some { cls:=.type "list",data:=.seq v.toArray }->IntsAre v N->N.length<=n->s.gens=(List.toArray [])->
   codeAny (model l.prog w) callerA (.call (.ref F) #[[.ref a],[]]) (λr e=>r= .ok (.ret$ .bool true)/\OldK s.heap e.heap/\e.os=s.os/\AllBare e.gens) s):
  WalkO q L z y l.row.toRowW d [] (λf v=>PySem.call f v):=by
 intro w S s m M G Y F o p C D B kV E I i t j J A V W H u K k O;obtain rfl:B= .none:=Dflts.none t g;obtain rfl:kV= .none:=Dflts.noKw t;obtain⟨a,v,N,rfl,rfl,b,h,c⟩:=Zb x H k;refine enter_call$ Ga (call w S s m M F o p C D a v N G Y E (fd_plain I) i j b h c J) λr e P=>?_;obtain⟨rfl,Q,R,T⟩:=P;exact#[.inl #[.bool true,.bool true,[],Z,λ_=>Z,.bool true,Zc l _,λ_=>#[List.Pairwise.nil,λ_ U=>(nomatch U)]],Q,R,T]
end Att
namespace _L
open PySem PySem.Spec PyProof.Rows
theorem Ql:∀{v:List Value} {N:List Int},IntsAre v N->ar (N.map V.int) v
 |_,_,.nil=>.nil
 |_,_,.cons n t h=>.cons #[t,Z] (Ql h)
def wG(H:Hp):Prop:=∀b,H b=none∨∃o x,H b=some (.frz o$ .lst x)
theorem oH{P:Program}{K:Frag}{S:Shared}{i:List Value}
  (Y:K.In S.heap) (l:S.heap.Ns mainGlobals M) (c:S.heap.Ns builtinsNs mb) (Q:∀x:Str,x≠"__name__"->mb x=bootBuiltins x) (p:S.heap.NoLimit) (hg:S.gens=(List.toArray []))
  (J:S.heap.get? a=some { cls:=.type "list",data:=.seq i.toArray }) (hi:IntsAre i O) (hl:O.length<=sizeLine) (hr:bH k callerA)
  (F:∀f:Heap,K.In f->f.Ns mainGlobals M->aj P w K M f CX k fa fd [x] sp) (j:∀(s:Shared) (u:Value),BindsTo s fd #[[u],[]] [(x,u)])
  (R:∀H:Hp,wG H->aF K H a (O.map V.int)->sp [.ref a] H (λv _=>v= .bl true) λ_ _ _=>False)
  (T:∀H e g,CX [] H S (λ_ _ _=>False) e g->False):
  codeAny (model P w) callerA (.call (.ref fa) #[[.ref a],[]]) (λr g=>r= .ok (.ret$ .bool true)/\OldK S.heap g.heap/\g.os=S.os/\AllBare g.gens) S:=by
 have rv:=Ql hi;have L:=hi.length;have C:∀H:Hp,wG H->aF K H a (O.map V.int)->dR P w H S.heap->(∀b,H b≠none->b=a)->(H a≠none->K.lookup a=none)->
   codeAny (model P w) callerA (.call (.ref fa) #[[.ref a],[]]) (λr g=>r= .ok (.ret$ .bool true)/\OldK S.heap g.heap/\g.os=S.os/\AllBare g.gens) S:=by
  intro H hO hS t hA hK;have B:∀{b:Addr} {o:Obj},S.heap.get? b=some o->H b=none->(iw S.heap H).get? b=some o:=λe n=>oy e n;have U:∀{b:Addr} {o:Obj} {E:Array DictEntry} {y:Nat},S.heap.get? b=some o->o.data= .dict E y->H b=none:=λ{b o E y} e d=>by
   cases q:H b with
   |none=>rfl
   |some u=>have W:b=a:=hA b (by rw[q];simp);subst W;rw[J]at e;cases e;have d':Data.seq i.toArray _=Data.dict E y:=d;cases d'
  have N:∀{b:Addr} {m:Str->Option Value},S.heap.Ns b m->(iw S.heap H).Ns b m:=λ{b m} #[o,E,y,e,d,r]=>#[o,E,y,B e$ U e d,d,r];have A:K.In (iw S.heap H):=λb o e=>B (Y b o e) (by
   cases q:H b with
   |none=>rfl
   |some u=>
    have W:b=a:=hA b (by rw[q];simp);subst W;rw[hK (by rw[q];simp)]at e;cases e)
  have hM:Mod K M (iw S.heap H):=#[A,N l,#[mb,N c,Q],let #[mc,h1,h2]:=p;#[mc,N h1,h2]];have e0:lN P w K M (iw S.heap H) callerA [] S H:=#[Z,hM,λb o e=>tQ e,I8$ Y0 _ _,trivial,λb c=>absurd (show b∈([]:List Addr) from c) OD,t,.of_eq hg];refine Ga ((F _ A$ N l).run callerA [] S H #[[.ref a],[]] [.ref a] [.ref a] _ _ hr e0 (j S$ .ref a) (.cons Z .nil) (R H hO hS)) λr g h=>?_;cases r with
  |error e=>exact(T H e g h).elim
  |ok fl=>
   cases fl with
   |next=>exact False.elim h
   |brk=>exact False.elim h
   |cont=>exact False.elim h
   |ret u=>
    obtain⟨v,H',os,D,un,G,r',q⟩:=h;have q':v= .bl true:=q;subst q';obtain rfl:u=Value.bool true:=r';refine#[Z,OldK.of_keep λb o e=>?_,os,D];cases q:H b with
    |none=>exact un.keep b o e q (by intro z;exact absurd (show b∈([]:List Addr) from z) OD) OD
    |some u=>
     rcases hO b with z | ⟨ob,xs,z⟩
     ·rw[q]at z;cases z
     ·have z2:=un.frzs b ob _ z;obtain⟨e1,_⟩:=t b _ z;obtain⟨e2,_⟩:=G b _ z2;rw[e]at e1;cases e1;exact e2
 cases X:K.lookup a with
 |some o=>have e:=Y a o X;rw[J]at e;cases e;refine C (λ_=>none) (λ_=>.inl Z) (.inr #[_,i.toArray,_,X,Z,Z,Z,by rw[Eh,L];exact hl,by simpa using rv]) (λb u z=>by have I:(none:Option HO)=some u:=z;cases I) (λb z=>absurd Z z) λz=>absurd Z z
 |none=>
  refine C (λb=>if b=a then some (.frz { cls:=.type "list",data:=.seq i.toArray }$ .lst$ O.map V.int) else none) (λb=>?_) (.inl$ .inr #[{ cls:=.type "list",data:=.seq i.toArray },Er Z]) (λb u z=>?_) (λb z=>?_) λ_=>X
  ·by_cases c:b=a
   ·exact .inr #[_,_,Er c]
   ·exact .inl$ Eu c
  ·by_cases c:b=a
   ·have I:=(Er c).symm.trans z;cases I;subst c;exact#[J,by rw[Ec];exact hl,i,_,rv,J]
   ·have I:=(Eu c).symm.trans z;cases I
  ·by_cases c:b=a
   ·exact c
   ·exact absurd (Eu c) z
theorem vk{l:PySem.W.OpenLaw}{n k:Nat}{E:World->Heap->Prop}{d:DefRec}{K:Params->Frag}{CX:World->mf}{sp:World->Sp}{x:Str}
  (O:l.most=some n) (r:n<=sizeLine) (t:d.params.defaults=[]) (P:bH k callerA)
  (Q:∀(w:World) (h:Heap),E w h->(K w.params).In h)
  (F:∀(w:World) (m:Str->Option Value) (p:Addr) (h:Heap),(K w.params).In h->h.Ns mainGlobals m->m d.name=some (.ref p)->
   ∃y:FuncData,(∀(s:Shared) (u:Value),BindsTo s y #[[u],[]] [(x,u)])/\
    ∀B:Heap,(K w.params).In B->B.Ns mainGlobals m->aj l.prog w (K w.params) m B (CX w) k p y [x] (sp w))
  (z:∀(w:World) (H:Hp) (a:Addr) (N:List Int),N.length<=n->wG H->aF (K w.params) H a (N.map V.int)->sp w [.ref a] H (λv _=>v= .bl true) λ_ _ _=>False)
  (A:∀(w:World) (H:Hp) (s:Shared) (e:Value) (C:Shared),CX w [] H s (λ_ _ _=>False) e C->False):
  PySem.W.WalkO q L XP E l.row.toRowW d [] (λf I=>PySem.call f I):=by
 refine Att.attach_call O t λw J S m mb p o pm cd R a I N G Y ho hd U D j i c X=>?_;have M:=Q w _ Y;obtain⟨y,hb,hF⟩:=F w m p _ M G.T.g D;exact oH M G.T.g G.T.b G.T.builtins G.T.nolimit X j i (En c r) P hF hb (λH hO hS=>z w H a N c hO hS) λH e C=>A w H S e C
noncomputable def bK(s:Stmt)(j:Nat):Stmt:=match s with
 | .ClassDef _ _ _ b _ _ _ _ _ _ _=>b.getD j (.Pass #[0,0,0,0])
 |_=>.Pass #[0,0,0,0]
noncomputable def bq(s:Stmt):Arguments:=match s with
 | .FunctionDef _ a _ _ _ _ _ _ _ _=>a
 |_=>{ posonlyargs:=[],args:=[],vararg:=none,kwonlyargs:=[],kw_defaults:=[],kwarg:=none,defaults:=[] }
noncomputable def a9(s:Stmt):List Stmt:=match s with
 | .FunctionDef _ _ b _ _ _ _ _ _ _=>b
 |_=>[]
noncomputable def aa(s:Stmt):Scope:=match s with
 | .FunctionDef _ _ _ _ _ _ S _ _ _=>S
 |_=>{ kind:=.function,names:=[],isGenerator:=false,isCoroutine:=false }
abbrev aC:mf:=λ_ _ _ _ _ _=>False
abbrev E0:XK:=λ_ _ _=>False
theorem bu{X:Cx}:df aC X E0:=λ_ _ _ _ _ _ _ h=>h.elim
structure aU(K:Frag)(x qual:Str)(st:Stmt)(f:Addr)(fd:FuncData):Prop where
 ex:∃(oc:Value) (od:Option Addr) (kV doc pm:Value) (an:Option Addr) (cdv ct:Value) (osl:Array (Option Value)),
  fd=fnOf x qual (bq st) (a9 st) (aa st) .none kV doc pm an cdv ct/\K.lookup f=some #[oc,od,.func fd,osl]/\codeIn K cdv qual=true
 kp:keepIn K (.ref f)=true
section
variable {P:Program}{w:World}{K:Frag}{mg:Str->Option Value}{base:Heap}
theorem aU.ok{st:Stmt}{d:Sp}(F:aU K x a st f i)(S:al N p (aa st))(len:∀v H Q E,d v H Q E->v.length=p.length)
  (b:∀(c:Value) (A:Around) (o:List Env) (s:Shared) (H:Hp) (v:List V) (Q:VK) (E:XK),bH k (A.deeper$ envOfC a (aa st) s.heap.objs.size f c)->d v H Q E->
   ∃t,iY (eJ aC P w K mg base N a (aa st) f c A o s H E).nox (a9 st) t/\t { nx:=λ_ j=>Q .non j,rt:=Q } (eX N v) H):aj P w K mg base aC (k+1) f i p d:=by
 obtain⟨m,n,kV,D,r,u,c,C,O,rfl,lk,e⟩:=F.ex;refine vQ lk e S len λA o s H v Q E l g=>?_;obtain⟨t,h,q⟩:=b c A o s H v Q E l g;exact#[t,h.nox,q]
theorem aU.binds{st:Stmt}{p:List Str}(F:aU K x q st f b)
  (h:∀(kV d a:Value) (A:Option Addr) (c C:Value) (u:List Value),u.length=p.length->bindArgs (fnOf x q (bq st) (a9 st) (aa st) .none kV d a A c C) #[u,[]]=pure (p.zip u)):ax K b p []:=by
 obtain⟨O,e,kV,d,a,A,c,C,o,rfl,lk,H⟩:=F.ex;exact .all$ h kV d a A c C
theorem Z3{st:Stmt}{kV:Value}(l:K.lookup f=some #[O,e,.func$ fnOf x q (bq st) (a9 st) (aa st) .none kV d p a C b,o])
  (c:codeIn K C q=true) (k:keepIn K (.ref f)=true):aU K x q st f (fnOf x q (bq st) (a9 st) (aa st) .none kV d p a C b):=#[#[O,e,kV,d,p,a,C,b,o,Z,l,c],k]
end
theorem jN(h:bH k A):A.units+1 < cLine:=FL (Mz (by decide:1<=64) _) h.units
section
variable {X:Cx}
theorem pv(i:Nat){x:Str}{p:Pos}(H:X.N[i]?=some x:=by rfl)(a:Cw X.env.scope x:=by first |exact Or.inl Z |exact Or.inr (Or.inl Z) |exact Or.inr$ Or.inr Z)(b:(x==("__debug__":Str))=false:=by decide)
  (h:(x==("__classdict__":Str))=false:=by decide):PE X (.Name x p) (bh i):=yp H a b h
end
theorem tF{A B:Prop}(h:B):if false=true then A else B:=by rw[Eu El];exact h
theorem xC{A B:Prop}(h:A):if true=true then A else B:=by rw[Er Z];exact h
theorem bJ{c A B:Prop}[Decidable c](H:c->A)(a:¬c->B):if c then A else B:=by
 by_cases h:c
 ·rw[Er h];exact H h
 ·rw[Eu h];exact a h
def ae(H h:Hp):Prop:=∀b o,H b=some o->h b=some o
theorem ae.refl(H:Hp):ae H H:=λ_ _ h=>h
theorem ae.trans(a:ae H d)(b:ae d e):ae H e:=λc o h=>b c o (a c o h)
theorem ae.free(e:ae H a)(h:a l=Option.none):H l=Option.none:=by
 cases q:H l with
 |none=>rfl
 |some o=>rw[e l o q]at h;cases h
section
variable {prog:Program}{w:World}{A:Around}{R:Result->Shared->Prop}{s:Shared}
abbrev vB:Value->Shared->Prop:=λ_ _=>False
theorem Zd{iter:Expr}(I:Nat->Shared->Prop)
  (T:∀n s,I n s->wpAny (model prog w) A (pyNext B) (λr S=>match r with
   |none=>R (.ok .next) S
   |some v=>wpAny (model prog w) A (letOwnedTupleGo t B v) (λ_ b=>wpAny (model prog w) A (assign t e v) (λ_ d=>
     wpAny (model prog w) A (forIn l true λc r=>if r=true then do let o <- isTrue c e (eval c e);pure (ForInStep.yield o) else pure (ForInStep.yield r)) (λo a=>
      if o=true then wpAny (model prog w) A (eval E e) (λx g=>
       wpAny (model prog w) A (call (.builtin "list.append") [p,x]) (λ_ i=>∃m,m < n/\I m i) vB g) vB a
      else ∃m,m < n/\I m a) vB d) vB b) vB S) vB s)
  (n:Nat) (h:I n s):
  codeAny (model prog w) A (.compLoop (.ListComp E [#[t,iter,l,0]] k C) 0 B p e) R s:=by
 refine codeAny_loop Z I (λn s D=>?_) n h;show wpAny _ A ((compTurn (.ListComp E [#[t,iter,l,0]] k C) 0 B p e).onRaise (λx=>do noteFrame x e;theTreesLotGoes x)) _ _ s;refine wpAny_noted ?_;rw[compTurn_list];refine D9$ GR$ D9$ Fs (T n s D) (λr S H=>?_) λ_ _ f=>f.elim;cases r with
 |none=>exact Ea H
 |some v=>
  refine D9$ Fs H (λ_ b q=>?_) λ_ _ f=>f.elim;refine D9$ Fs q (λ_ d u=>D9 (Fs u (λo a j=>?_) λ_ _ f=>f.elim)) λ_ _ f=>f.elim;cases o with
  |false=>exact Ea #[Z,j]
  |true=>exact D9$ D9$ Fs j (λx g y=>D9 (Fs y (λ_ i z=>Ea (Ea #[Z,z])) λ_ _ f=>f.elim)) λ_ _ f=>f.elim
end
noncomputable def a5(X:Cx)(s:Scope)(M:List Str)(c:List (Str×Addr))(C:Addr)(f:List Addr)(S:Shared)(H:Hp):Cx where
 prog:=X.prog
 w:=X.w
 K:=X.K
 mg:=X.mg
 base:=X.base
 A:=X.A
 N:=M
 s₀:=S
 H₀:=H
 env:=compEnvC s c C X.env
 outer:=X.stack
 stack:=X.stack
 ex:=f
 fn:=λ_=>false
 calm:=X.calm
 pn:=[]
 xe:=λ_ _=>False
noncomputable def Ai(n:Nat)(I:List Nat)(a:St):St:=List.replicate n none++I.map λi=>(a[i]?).getD none
structure a7(N:List Str)(sc scope:Scope)(M:List Str)(nT:Nat)(ix:List Nat):Prop where
 cell:∀y∈scope.names,y.2≠ .cell
 kind:scope.kind= .function
 loc:∀y∈scope.names,y.2= .local->scope.names.lookup y.1=some .local
 fre:∀y∈scope.names,y.2= .free->sc.names.lookup y.1=some .cell
 nms:M.drop nT=ix.map λi=>N.getD i Str.empty
 len:M.length=nT+ix.length
 vis:∀i∈ix,scope.names.lookup (N.getD i Str.empty)=some .free
theorem Jf{E:Env}(c:E.scope.kind= .function):∀{N:List (Str×NameKind)} {y:Str},N.lookup y=some .free->E.kindOf y=some .cell->
  (N.map λ(n,k)=>if (k==NameKind.free&&E.scope.kind== .function&&E.kindOf n==some .cell) then (n,NameKind.cell) else (n,k)).lookup y=some .cell
 | [],_,h,_=>by simp at h
 | (n,k)::r,y,h,b=>by
  have i:=@Jf E c r y;show List.lookup y ((if (k==NameKind.free&&E.scope.kind== .function&&E.kindOf n==some .cell)=true then (n,NameKind.cell) else (n,k))::_)=_;cases H:y==n with
  |true=>
   simp only[Fu,H]at h;cases h;have e:y=n:=by simpa using H
   subst e;rw[Er (by rw[c,b];rfl)];simp [Fu]
  |false=>
   simp only[Fu,H]at h;by_cases a:(k==NameKind.free&&E.scope.kind== .function&&E.kindOf n==some .cell)=true
   ·rw[Er a];simp only[Fu,H];exact i h b
   ·rw[Eu a];simp only[Fu,H];exact i h b
theorem Kw{E:Env}:∀{N:List (Str×NameKind)} {y:Str} {K:NameKind},
  (N.map λ(n,k)=>if (k==NameKind.free&&E.scope.kind== .function&&E.kindOf n==some .cell) then (n,NameKind.cell) else (n,k)).lookup y=some K->
  ∃k,N.lookup y=some k/\(K=k∨k= .free)
 | [],_,_,h=>by simp at h
 | (n,k)::r,y,K,h=>by
  have i:=@Kw E r y K;have h:List.lookup y ((if (k==NameKind.free&&E.scope.kind== .function&&E.kindOf n==some .cell)=true then (n,NameKind.cell) else (n,k))::_)=some K:=h;cases a:y==n with
  |true=>
   refine#[k,by simp only[Fu,a],?_];by_cases H:(k==NameKind.free&&E.scope.kind== .function&&E.kindOf n==some .cell)=true
   ·right;simp only[Fv]at H;simpa using H.1.1
   ·rw[Eu H]at h;simp only[Fu,a]at h;left;exact(Fh h).symm
  |false=>
   have b:List.lookup y (r.map λ(n,k)=>if (k==NameKind.free&&E.scope.kind== .function&&E.kindOf n==some .cell) then (n,NameKind.cell) else (n,k))=some K:=by
    by_cases H:(k==NameKind.free&&E.scope.kind== .function&&E.kindOf n==some .cell)=true
    ·rw[Er H]at h;simp only[Fu,a]at h;exact h
    ·rw[Eu H]at h;simp only[Fu,a]at h;exact h
   obtain⟨c,e,q⟩:=i b;exact#[c,by simp only[Fu,a];exact e,q]
noncomputable def aS(e:Env):List (Str×NameKind)->List (Str×Addr)->List (Str×Addr)
 | [],a=>a
 | (n,k)::r,a=>if k== .free then aS e r ((n,(e.cells.lookup n).getD 0)::a) else aS e r a
theorem zX{E:Env}:∀{N:List (Str×NameKind)} {acc:List (Str×Addr)},(∀y∈N,y.2= .free->∃c,E.cells.lookup y.1=some c)->(∀x c,acc.lookup x=some c->E.cells.lookup x=some c)->
  ∀x c,(aS E N acc).lookup x=some c->E.cells.lookup x=some c
 | [],_,_,b,x,c,h=>b x c h
 | (n,k)::r,acc,f,b,x,c,h=>by
  unfold aS at h;by_cases g:(k==NameKind.free)=true
  ·rw[Er g]at h;refine zX (λy H=>f y (Ew _ H)) (λX j a=>?_) x c h;obtain⟨C,d⟩:=f (n,k) Es (by simpa using g);have d:E.cells.lookup n=some C:=d;simp only[Fu]at a;cases i:X==n with
   |true=>
    rw[i]at a;have e:X=n:=by simpa using i
    subst e;rw[d]at a;rw[d];exact a
   |false=>rw[i]at a;exact b _ _ a
  ·rw[Eu g]at h;exact zX (λy H=>f y (Ew _ H)) b x c h
theorem qp:∀{a:List (Str×Addr)},(∃c,(x,c)∈a)->∃c,a.lookup x=some c
 | [],h=>by obtain⟨_,h⟩:=h;cases h
 | (n,c)::r,h=>by
  simp only[Fu];cases H:x==n with
  |true=>exact#[c,Z]
  |false=>
   obtain⟨C,h⟩:=h;rcases List.mem_cons.mp h with e |h
   ·injection e with E _;subst E;simp at H
   ·exact qp #[C,h]
theorem qJ:∀{N:List (Str×NameKind)} {a:List (Str×Addr)},((∃c,(x,c)∈a)∨(x,NameKind.free)∈N)->∃c,(x,c)∈aS E N a
 | [],_,h=>by
  rcases h with h |h
  ·exact h
  ·cases h
 | (n,k)::r,a,h=>by
  unfold aS;by_cases H:(k==NameKind.free)=true
  ·rw[Er H];refine qJ ?_;rcases h with ⟨c,h⟩ |h
   ·exact .inl #[c,Ew _ h]
   ·rcases List.mem_cons.mp h with e |h
    ·injection e with b _;subst b;exact .inl #[_,Es]
    ·exact .inr h
  ·rw[Eu H];refine qJ ?_;rcases h with h |h
   ·exact .inl h
   ·rcases List.mem_cons.mp h with e |h
    ·injection e with _ d;subst d;exact absurd Z H
    ·exact .inr h
theorem qu{e:Env}:∀(N:List (Str×NameKind)) (A:List (Str×Addr)),(∀y∈N,y.2= .free->∃c,e.cells.lookup y.1=some c)->
  (forIn N A (λx r=>match x with | (name,K)=>if (K==NameKind.free)=true then (do let a <- cellOf e name;pure (ForInStep.yield ((name,a)::r))) else pure (ForInStep.yield r)):Sem (List$ Str×Addr))=pure (aS e N A)
 | [],A,_=>rfl
 | (n,k)::r,A,b=>by
  have i:=λA=>qu r A λy H=>b y (Ew _ H);rw[Ge];unfold aS;by_cases h:(k==NameKind.free)=true
  ·obtain⟨C,E⟩:=b (n,k) Es (by simpa using h);have E:e.cells.lookup n=some C:=E;have d:cellOf e n=pure C:=by unfold cellOf;rw[E]
   rw[Er h];simp only[h,Hk,d,E];exact i _
  ·rw[Eu h];simp only[h];exact i _
theorem qv{e:Env}{S:Scope}(H:∀y∈S.names,y.2= .free->∃c,e.cells.lookup y.1=some c):closureFor S e=pure (aS e S.names []):=by have h:=qu S.names [] H;exact Gb (λt:Sem (List$ Str×Addr)=>t >>= λs=>pure s) h
section
variable {X:Cx}{pins:List (Addr×Obj)}{σ:St}{H:Hp}{s:Shared}
theorem qZ(I:am X pins σ H s)(S:a7 X.N X.env.scope a M n i):∀y∈a.names,y.2= .free->∃c,X.env.cells.lookup y.1=some c:=
 λy h e=>I.ok.has y.1 (.inl$ S.fre y h e)
theorem n6{g:Heap}(I:am X pins σ H s)(F:∀b∈Y,gc X pins H b)(P:∀b∈Y,b < s.heap.objs.size)
  (S:a7 X.N X.env.scope a M n G) (Q:s.heap.objs.size<=C) (O:∀b o,s.heap.get? b=some o->g.get? b=some o) (R:g.Ns C m):
  am (a5 X a M (aS X.env a.names []) C Y s H) [] (Ai n G σ) H { s with heap:=g,toks:=tk }:=by
 have sub:∀x c,(aS X.env a.names []).lookup x=some c->X.env.cells.lookup x=some c:=zX (qZ I S) (λx c h=>by simp at h);have j:∀x,a.names.lookup x=some .free->∃c,(aS X.env a.names []).lookup x=some c:=λx e=>qp (qJ$ .inr$ FQ e);have hex:∀x K,(relabel a X.env).names.lookup x=some K->(K= .cell∨K= .free)->a.names.lookup x=some .free:=λx K e A=>by
  obtain⟨k,t,q⟩:=Kw e;rcases q with q |q
  ·rcases A with z |z
   ·exact absurd (q.symm.trans z)$ S.cell (x,k)$ FQ t
   ·rw[t,<- q,z]
  ·rw[t,q]
 refine#[#[I.ok.mod,S.kind,I.ok.glob,I.ok.blt,Q,λx y c h1 h2=>I.ok.inj x y c (sub x c h1) (sub y c h2),λx hx=>?_,λx c hx=>?_,I.ok.hd,I.ok.frames,.inl Z,λb w=>#[λz=>?_,λx c e=>?_],I.bs,En I.ok.bsz I.sz,λb o e w=>?_,λb w hz=>?_,I.stack,I.stkFree],
  rfl,I.bare,Un.kept O,#[m,R,λk y v t E _=>?_],λx c e=>?_,I.hok.fresh Q,λx c e=>I.freeC x c (sub x c e),λp hp=>absurd (show p∈([]:List (Addr×Obj)) from hp) OD,I.hok.kept O,?_]
 ·rcases hx with hx |hx
  ·exact j x$ hex x _ hx$ .inl Z
  ·exact j x$ hex x _ hx$ .inr Z
 ·exact absurd (show false=true from hx) OA
 ·have z':b=C:=z;have:=P b w;rw[z']at this;exact absurd this$ Nat.not_lt.mpr Q
 ·exact(F b w).2.2.2.2.1 x c (sub x c e)
 ·rcases(F b w).2.2.2.1 with z |z
  ·exact I.ok.noex b o e z
  ·exact absurd (Eo (Ef e)$ En I.ok.bsz z)$ Fx _
 ·rcases List.mem_cons.mp (I.stkSub b hz) with z |z
  ·exact(F b w).2.1 z
  ·exact(F b w).2.2.1 z
 ·have E:(Ai n G σ)[k]?=some (some v):=E;have t:M[k]?=some y:=t;unfold Ai at E;by_cases A:k < n
  ·rw[Go (by simpa using A),LY]at E;simp [A]at E
  ·have B:n<=k:=M7 A;rw[FR (by simpa using B),Ix,EB]at E;cases J:G[k - n]? with
   |none=>rw[J]at E;cases E
   |some i=>
    rw[J]at E;have L:(σ[i]?).getD none=some v:=Fh E;have V:σ[i]?=some (some v):=by
     cases W:σ[i]? with
     |none=>rw[W]at L;cases L
     |some o=>rw[W]at L;exact Gb some L
    have hi:i < X.N.length:=by rw[<- I.len];exact(List.getElem?_eq_some_iff.mp V).1
    have e7:y=X.N.getD i Str.empty:=by
     have q:(M.drop n)[k - n]?=some y:=by rw[List.getElem?_drop];rw[My B];exact t
     rw[S.nms,EB,J]at q;exact(Fh q).symm
    have e8:X.N[i]?=some y:=by rw[e7,Ed hi,Lu,Ed hi];rfl
    have d:a.names.lookup y=some .free:=by rw[e7];exact S.vis i$ Ey J
    have f:X.env.scope.names.lookup y=some .cell:=S.fre (y,.free) (FQ d) Z;obtain⟨m',_,hl⟩:=I.loc;obtain⟨u,r,l⟩:=hl i y v e8 V (.inr$ .inl f);refine#[u,r,?_];rcases l with ⟨l,_⟩ | ⟨_,c,ec,o,T,U⟩
    ·have l:X.env.scope.names.lookup y=some .local:=l;rw[f]at l;cases l
    ·obtain⟨c',D⟩:=j y d;have q:=sub y c' D;rw[ec]at q;cases q;exact .inr #[.inl$ Jf I.ok.kind d f,c,D,o,O _ _ T,U]
 ·obtain⟨v,o,T,U⟩:=I.cell x c (sub x c e);exact#[v,o,O _ _ T,U]
 ·show(Ai n G σ).length=M.length;rw[S.len];simp [Ai]
theorem am.track(I:am X pins σ H s)(f:gc X pins H D)(G:X.s₀.heap.objs.size<=D)(a:aM X.prog X.w (af H D o) s.heap D o):am X pins σ (af H D o) s:=by
 have n:=f.1;have N:∀b u,H b=some u->b≠D:=λb u e=>jk e n;refine#[I.ok,I.os,I.bare,#[I.base.keep,I.base.slot,λb O e q i=>?_,I.base.there,λb d e=>?_,λb O u e=>?_,λb P e=>?_],I.loc,I.cell,?_,λx c e=>?_,λp h=>?_,λb u e=>?_,I.len]
 ·rw[jh$ Ej$ Eo (Ef e) G];exact I.base.free b O e q i
 ·have q:=I.base.tups b d e;rw[jh$ N _ _ q];exact q
 ·have q:=I.base.frzs b O u e;rw[jh$ N _ _ q];exact q
 ·obtain⟨m,q⟩:=I.base.tbls b P e;exact#[m,by rw[jh$ N _ _ q];exact q]
 ·rw[jh$ EA f.2.1];exact I.free
 ·rw[jh$ f.2.2.2.2.1 x c e];exact I.freeC x c e
 ·obtain⟨e,q,r⟩:=I.pin p h;exact#[e,by rw[jh$ f.2.2.2.2.2 p h];exact q,r]
 ·by_cases g:b=D
  ·subst g;rw[jc]at e;cases e;exact a
  ·rw[jh g]at e;exact(I.hok b u e).stay (λ_ _ _ q=>q) (λc q=>by rw[jh$ N _ _ q];exact q) λc d q=>by rw[jh$ N _ _ q];exact q
noncomputable abbrev ic(u:List Value):Obj:={ cls:=.type "list",data:=.seq u.toArray u.length }
theorem Ze(u:List Value)(y:Value):({ cls:=.type "list",data:=.seq (u.toArray.push y) (u.length+1) }:Obj)=ic (u++[y]):=by show({ cls:=.type "list",data:=.seq (u.toArray.push y) (u.length+1) }:Obj)={ cls:=.type "list",data:=.seq (u++[y]).toArray (u++[y]).length };rw[Eg,Gj,List.push_toArray]
def PF(X:Cx)(i:List Expr)(t:TT):Prop:=
 ∀(pins:List (Addr×Obj)) (s:Shared) (σ:St) (H:Hp) (Q:Bool->Hp->Prop),am X pins σ H s->t σ H Q->
  wpAny (model X.prog X.w) X.A (forIn i true λc r=>if r=true then do let o <- isTrue c X.env (eval c X.env);pure (ForInStep.yield o) else pure (ForInStep.yield r)) (TP X pins σ Q) X.xe s
def lF:TT:=λ_ H Q=>Q true H
theorem zr:PF X [] lF:=λ_ _ _ H _ I h=>wpAny_tests_nil #[H,I,h]
theorem Z4{c:Expr}{t:TT}(h:PT X c t):PF X [c] t:=λpins s σ H Q I q=>wpAny_tests_one (h pins s σ H Q I q)
noncomputable def mJ(I:List Nat)(σ:St):St:=I.map λi=>(σ[i]?).getD none
def dW(J:It)(n:Nat)(t:St)(g:TG)(j:TT)(k:TE)(Q:List V->Hp->Prop)(H:Hp):Prop:=
 ∃W:Nat->Nat->List V->Hp->Prop,(∃m,W 0 m [] H)/\∀i m Y H,W i m Y H->
  (J.stop i H/\Q Y H)∨(J.go i H/\Y.length < sizeLine/\∃N:List V->Hp->Prop,(∀c h,N c h->∃M,M < m/\W (i+1) M c h)/\
   ∀x d (e:St),e.length=n->J.yld i H x d->g x (e++t) d λa h=>(∃T:St,T.length=n/\a=T++t)/\j a h λb f=>if b=true then k a f λy l=>N (Y++[y]) l else N Y f)
theorem Kx{iter:Expr}
  {RR:Value->Addr->Result->Shared->Prop} 
  (I:am X pins σ H s) (hc:X.calm=true) (T:ny X.prog X.w X.K tg J k it tn) (st:tn 0 s.heap) (hf:∀b∈k,gc X pins H b) (S:a7 X.N X.env.scope scope M nT ix)
  (hg:∀cl C k s H,PG (a5 X scope M cl C k s H) tg g) (hi:∀cl C k s H,PF (a5 X scope M cl C k s H) i0 tt) (he:∀cl C k s H,PE (a5 X scope M cl C k s H) e0 te)
  (h:dW J nT (mJ ix σ) g tt te Qf H)
  (h9:∀D C Y m t G,(∀b o u,H b=some (.frz o u)->t b=some (.frz o u))->t D=none->am X pins σ (af t D$ .lst Y) G->gc X pins (af t D$ .lst Y) C->G.heap.Ns C m->Qf Y t->RR (.ref D) C (.ok .next) G):
  wpAny (model X.prog X.w) X.A (newList []) (λacc B=>wpAny (model X.prog X.w) X.A (newFunctionEnv scope X.env.globals (aS X.env scope.names []) [] X.env.qual none .none$ some X.env) (λc0 s0=>
   codeAny (model X.prog X.w) X.A (.compStart (.ListComp e0 [#[tg,iter,i0,0]] scope p1) 0 (.ref it) acc { c0 with scope:=relabel scope X.env }) (RR acc c0.locals) s0) E B) E s:=by
 obtain⟨W,⟨m0,w0⟩,t1⟩:=h;have h3:∀b∈k,b < s.heap.objs.size:=λb a=>by obtain⟨o,e,_⟩:=T.obj 0 _ st b a;exact Ef e
 refine EZ$ wpAny_newFunctionEnv S.cell (by intro y hy;simp at hy) (λF l f=>?_) S.kind;dsimp only at l f ⊢;generalize h4:s.heap.push { cls:=.type "list",dict:=none,data:=.seq ([]:List Value).toArray }=H2 at l f ⊢;have hC:H2.objs.size=s.heap.objs.size+1:=by rw[<- h4,Fe]
 have P:s.heap.objs.size≠H2.objs.size:=by rw[hC];exact Ej$ EX _
 have h0:s.heap.objs.size<=H2.objs.size:=by rw[hC];exact Fq _
 have b0:∀b,b < s.heap.objs.size->b≠H2.objs.size/\b≠s.heap.objs.size:=λb a=>#[by rw[hC];exact Ej$ GL a,Ej a];have o1:∀b o,s.heap.get? b=some o->F.get? b=some o:=λb o e=>f.extBut b o (b0 b$ Ef e).1 (Eb _$ h4▸Eb _ e);have h5:F.get? s.heap.objs.size=some (ic []):=f.extBut _ _ P (Eb _$ h4▸Ei _ Z);have h':H s.heap.objs.size=none:=I.hok.fresh (Ee _);have h6:s.heap.objs.size∉ij X.stack:=λa=>(List.mem_cons.mp$ I.stkSub _ a).elim (λe=>absurd I.lt (by rw[<- e];exact Fx _)) (I.nofs$ Ee _);generalize hD:s.heap.objs.size=D at*;generalize b1:H2.objs.size=C at*;have J0:∀tk,am (a5 X scope M (aS X.env scope.names []) C k s H) [] (Ai nT ix σ) H { s with heap:=F,toks:=tk }:=λtk=>n6 I hf (by rw[hD];exact h3) S (by rw[hD];exact h0) o1 l;have c1:∀x c,(aS X.env scope.names []).lookup x=some c->c≠D:=λx c e z=>by have sub:=zX (qZ I S) (acc:=[]) (λx c h=>by simp at h) x c e;obtain⟨v,o,ho,_⟩:=I.cell x c sub;have:=Ef ho;rw[z,hD]at this;exact Fx _ this
 have p0:∀{σ0:St} {t:Hp} {G:Shared} {U:List Value},am (a5 X scope M (aS X.env scope.names []) C k s H) [] σ0 t G->G.heap.get? D=some (ic U)->t D=none->
   am (a5 X scope M (aS X.env scope.names []) C k s H) [(D,ic U)] σ0 t G:=λ{σ0 t G U} I' e n=>I'.pins_of λp hp=>by
  have ep:p=(D,ic U):=by simpa using hp
  subst ep;exact#[e,n,P,h6,λv z=>by cases z]
 have L:∀{t:Hp} {U:List Value},(∀b∈k,t b=none)->∀b∈k,gc (a5 X scope M (aS X.env scope.names []) C k s H) [(D,ic U)] t b:=λ{t U} hn b a=>
  #[hn b a,((J0 0).ok.exf b a).1,(J0 0).ok.exfs b a,.inl a,((J0 0).ok.exf b a).2,λp hp z=>by
   have ep:p=(D,ic U):=by simpa [a5] using hp
   rw[ep]at z;have:=h3 b a;rw[<- z]at this;exact Fx _ this]
 have l0:∀B:Shared,(∃tk,B={ s with heap:=F,toks:=tk })->
   codeAny (model X.prog X.w) X.A (.compLoop (.ListComp e0 [#[tg,iter,i0,0]] scope p1) 0 (.ref it) (.ref D)$ compEnvC scope (aS X.env scope.names []) C X.env) (RR (.ref D) C) B:=by
  rintro B ⟨tk,rfl⟩;refine Zd (λn G=>∃i Y U ts t,ts.length=nT/\am (a5 X scope M (aS X.env scope.names []) C k s H) [(D,ic U)] (ts++mJ ix σ) t G/\ar Y U/\Y.length<=sizeLine/\tn i G.heap/\(∀b∈k,t b=none)/\W i n Y t) ?_ m0
   #[0,[],[],List.replicate nT none,H,Ix,p0 (J0 tk) h5 h',.nil,Ek _,T.keep _ _ _ st λb a o e=>o1 b o e,λb a=>(hf b a).1,w0]
  rintro n s1 ⟨i,Y,U,ts,Q,a0,I1,rv,hz,s7,f0,w1⟩;rcases t1 i n Y Q w1 with ⟨stop,q⟩ | ⟨go,a1,N,hN,step⟩
  ·refine aL (T.done (a5 X scope M (aS X.env scope.names []) C k s H) Z Z Z hc i _ s1 _ Q vB I1 (L f0) s7 stop) λr s2 j=>?_;obtain⟨hr,I2⟩:=j;subst hr;have IO:am X pins σ Q s2:=I.call' (ch:=k) I2.os I2.base I2.hok I2.bare λb a=>#[(hf b a).2.2.2.1,(hf b a).2.1,(hf b a).2.2.2.2.1,(hf b a).2.2.2.2.2];have pD:=I2.pin (D,ic U) (by simp [a5]);have h8:Q D=none:=pD.2.1;have fD:gc X pins Q D:=by rw[<- hD];exact I.fpOk (Ee _) (by rw[hD];exact h8)
   have IT:am X pins σ (af Q D$ .lst Y) s2:=IO.track fD (by rw[<- hD];exact I.sz) #[hz,U,U.length,rv,pD.1];obtain⟨mC,a2,_⟩:=I2.loc;have a3:Q C=none:=I2.free;exact h9 D C Y mC Q s2 I2.base.frzs h8 IT (I.fpOk (by rw[hD];exact h0) (by rw[jh$ EA P];exact a3)) a2 q
  ·refine aL (T.item (a5 X scope M (aS X.env scope.names []) C k s H) Z Z Z hc i _ s1 _ Q vB I1 (L f0) s7 go) λr s2 j=>?_;obtain⟨u,hr,h2⟩:=j;subst hr;refine aL h2 λ_ s3 j=>?_;obtain⟨x,H3,I3,r3,y3,O,f1⟩:=j;have a4:=I3.pinned (L f1) (T.obj _ _ O);refine aL (hg _ _ _ _ _ _ s3 _ H3 x u _ a4 r3$ step x H3 ts a0 y3) λ_ s4 j=>?_;obtain⟨σ1,H4,I4,⟨t0,h1,e4⟩,q4⟩:=j;subst e4;refine aL (hi _ _ _ _ _ _ s4 _ H4 _ I4 q4) λb s5 j=>?_;obtain⟨H5,I5,q5⟩:=j;cases b with
   |false=>obtain⟨m',hm,w'⟩:∃m',m' < n/\W (i+1) m' Y H5:=hN _ _ q5;refine#[m',hm,i+1,Y,U,t0,H5,h1,I5.unpinned,rv,hz,T.keep _ _ _ O λb a o e=>(I5.pin (b,o)$ EK _$ EK _$ kU a e).1,λb a=>?_,w'];obtain⟨o,e,d⟩:=T.obj _ _ O b a;exact(I5.pin (b,o)$ EK _$ EK _$ kU a e).2.1
   |true=>
    refine aL (he _ _ _ _ _ _ s5 _ H5 _ I5 q5) λv s6 j=>?_;obtain⟨y,H6,I6,r6,q6⟩:=j;obtain⟨m',hm,w'⟩:=hN _ _ q6;have pD:=I6.pin (D,ic U) (EK _$ GV _ Es);have hl:=rv.length;have R:∀b∈k,∀o,s3.heap.get? b=some o->s6.heap.get? b=some o:=λb a o e=>(I6.pin (b,o)$ EK _$ EK _$ kU a e).1;have V:∀b∈k,H6 b=none:=λb a=>by obtain⟨o,e,d⟩:=T.obj _ _ O b a;exact(I6.pin (b,o)$ EK _$ EK _$ kU a e).2.1
    refine append_at (hsz:=by rw[Eh,<- hl];exact hz) pD.1 λh7 sb a'=>?_;have I7:am (a5 X scope M (aS X.env scope.names []) C k s H) [] (t0++mJ ix σ) H6 { s6 with heap:=h7 }:=
     (I6.pins_of (pins':=[]) λp hp=>absurd hp OD).turned (t':=s6.toks) (it:=D) (λb o a e=>(sb.2 b a).trans e) pD.2.1 P (.inr (by show s.heap.objs.size<=D;rw[hD];exact Ee _)) c1 λp hp=>absurd (show p∈([]:List (Addr×Obj)) from hp) OD
    refine#[m',hm,i+1,Y++[y],U++[v],t0,H6,h1,p0 I7 (a'.trans$ Gb some$ Ze U v) pD.2.1,rv.append$ .cons r6 .nil,by rw[Eg,Gj];exact a1,
     T.keep _ _ _ (T.keep _ _ _ O R) λb a o e=>(sb.2 b λz=>?_).trans e,V,w']
    have:=h3 b a;rw[z]at this;exact Fx _ this
 exact codeAny_compStart_list (l0 _ #[_,Z])$ T.self _ 0 _ _ _ (T.keep _ _ _ st λb a o e=>o1 b o e)$ l0 _ #[_,Z]
def rQ(w:TI)(n:Nat)(i:List Nat)(g:TG)(t:TT)(T:TE):TE:=λσ H Q=>w σ H λJ a=>dW J n (mJ i σ) g t T (λy h=>∀p,h p=none->Q (.ref p) (af h p$ .lst y)) a
theorem kn{t E iter:Expr}{i:List Expr}{a:Scope}{p:Pos}{M:List Str}{k:Nat}{l:List Nat}{W:TI}{g:TG}{r:TT}{u:TE}(v:X.calm=true)(y:PI X t iter W)(S:a7 X.N X.env.scope a M k l)
  (z:∀c C f s H,PG (a5 X a M c C f s H) t g) (B:∀c C f s H,PF (a5 X a M c C f s H) i r) (G:∀c C f s H,PE (a5 X a M c C f s H) E u)
  (K:∀x,foldedSetIterable iter X.env x=pure x:=by intro _;rfl):
  PE X (.ListComp E [#[t,iter,i,0]] a p) (rQ W k l g r u):=by
 intro pins s σ H Q I h;rw[eval_ListComp];refine Mv (use:=none) Z K (qv$ qZ I S) S.kind S.loc$ aL (y pins s σ H _ I h) λxv s1 L=>aL L λO s2 P=>?_;obtain⟨it,f,tn,J,H2,e,U,T,d,V,R⟩:=P;subst e;refine Kx (RR:=λj C=>compPost (model X.prog X.w) X.A X.xe none (EP X pins σ Q) j C) U v T d V S z B G R ?_;intro D C ys m H' Y _ n I' F ns q;exact#[m,ns,λh' sb=>#[.ref D,_,I'.turned (t':=Y.toks) (λb o hb e=>(sb.2 b hb).trans e) F.1 F.2.1 F.2.2.2.1 F.2.2.2.2.1 F.2.2.2.2.2,Z,q D n]]
theorem uF{t E iter:Expr}{d:List Expr}{c:Scope}{p P f:Pos}{y:Str}{i:Nat}{M:List Str}{U:Nat}{V:List Nat}{W:TI}{g:TG}{Y:TT}{te:TE}(hN:X.N.Nodup)(hy:X.N[i]?=some y)(hx:nU X.env.scope y)
  (hc:X.calm=true) (hI:PI X t iter W) (S:a7 X.N X.env.scope c M U V)
  (hg:∀l C j s H,PG (a5 X c M l C j s H) t g) (hi:∀l C j s H,PF (a5 X c M l C j s H) d Y) (he:∀l C j s H,PE (a5 X c M l C j s H) E te)
  (r:swapsWith (.ListComp E [#[t,iter,d,0]] c p) (some$ .Name y P) f.line X.env=pure true:=by rfl)
  (hf:X.fn y=true∨X.env.scope.names.lookup y=some .local:=by first |exact .inl Z |exact .inr Z |assumption)
  (hs:∀x,foldedSetIterable iter X.env x=pure x:=by intro _;rfl):
  PS X (.Assign [.Name y P] (.ListComp E [#[t,iter,d,0]] c p) f) (λD σ H=>rQ W U V g Y te σ H λv H1=>D.nx (σ.set i$ some v) H1):=by
 intro pins s σ H D I h;rw[exec_Assign_Name_used _ _ _ _ r];refine D9$ GR$ D9 ?_;show wpAny _ X.A (do let _ <- comprehension (.ListComp E [#[t,iter,d,0]] c p) c X.env _ (newList []) false (eval iter X.env) (some$ assign (.Name y P) X.env)) _ _ s;refine D9 (aL (Mv (use:=some (assign (.Name y P) X.env)) (Q:=λ_ k=>SP X pins D .next k) Z hs (qv$ qZ I S) S.kind S.loc
  (aL (hI pins s σ H _ I h) λxv s1 h1=>aL h1 λi0 s2 h2=>?_)) λ_ k hq=>Ea (Ea hq))
 obtain⟨it,j,tn,J,H2,e,I2,T,u,f2,R⟩:=h2;subst e;refine Kx (RR:=λB C=>compPost (model X.prog X.w) X.A X.xe (some$ assign (.Name y P) X.env) (λ_ k=>SP X pins D .next k) B C) I2 hc T u f2 S hg hi he R ?_;intro Dd C ys m H' k _ n I' F ns q;show wpAny _ X.A (assign (.Name y P) X.env$ .ref Dd) _ _ k;refine NB$ Qc I' hN hy hx (v:=.ref Dd) Z (λG K hh=>?_) hf;obtain⟨a,sb,ha⟩:=hh;have L:C≠a:=by
  rcases ha with z |z
  ·rw[z];exact F.2.1
  ·exact EA$ F.2.2.2.2.1 _ _ z
 exact#[m,ns.sameBut sb L,λh' O=>#[_,_,K.turned (t':=G.toks) (λb o hb e=>(O.2 b hb).trans e) F.1 F.2.1 F.2.2.2.1 F.2.2.2.2.1 F.2.2.2.2.2,q Dd n]]
end
section
variable {X:Cx}
def Aj(i j:Int):Prop:=0 < j/\j<=1000000000000000000
theorem q8:gf X (binaryOp .FloorDiv) (rI Aj λi j=>.int (i / j)):=CA λi j _ _ _ _ _ h q=>by
 have b:(0:Int) < j:=h.1;have c:j<=1000000000000000000:=h.2;refine floordiv_int OB (by rw[Int.fdiv_eq_ediv_of_nonneg i OB];exact q)$ .inl$ PyProof.noPylong_of_log2 ?_;have H:j.natAbs≠0:=by omega
 have a:j.natAbs < 2 ^ 60:=by omega
 have d:j.natAbs.log2 < 60:=(Nat.log2_lt H).mpr a;omega
theorem zY:∀{Y:List Str} {U:List Value},ar (Y.map V.str) U->StrsAre U Y
 | [],_,.nil=>.nil
 |y::r,_,.cons (b:=u) h t=>by obtain⟨T,e⟩:∃T,u=Value.str y T:=h;subst e;exact .cons y T$ zY t
theorem QL:Cn X "str.join" (λx a H Q=>∃(z:Str) (p:Addr) (y:List Str),x= .str z/\a=[.ref p]/\aF X.K H p (y.map V.str)/\z.length<=16/\(y.map (·.length)).sum+y.length<=1048576/\Q (.str$ Txt.join z y) H):=by intro P s l H x a v U Q I r R h;obtain⟨z,p,y,rfl,rfl,b,c,d,q⟩:=h;obtain⟨u,rfl,e⟩:=dC R;cases e;obtain⟨t,rfl⟩:=r;obtain⟨i,f,g,j⟩:=I.list b;exact join_listW g.isList (by simpa using zY f) c d λT k=>#[.str _,H,I.tok k,#[_,Z],q]
noncomputable def oh:Expr->Option V
 | .Constant (.str x) _ _=>some (.str x)
 | .Constant (.int i) _ _=>some (.int i)
 |_=>none
theorem yo(h:oh e=some v):PE X e (tC v):=by
 cases e with
 |Constant c j p=>
  cases c with
  |str x=>cases h;exact jj
  |int i=>cases h;exact je
  |_=>cases h
 |_=>cases h
theorem rK(h:oh e=some v):starEach (e::a) E=(false,eval e E)::starEach a E:=by
 cases e with
 |Constant c j p=>rfl
 |_=>cases h
noncomputable def oG(e:Expr):Bool:=(oh e).isSome
noncomputable def og(e:Expr):V:=(oh e).getD .non
theorem QM:∀{E:List Expr},E.all oG=true->PA X E (λ_ H Q=>Q (E.map og) H)
 | [],_=>jb
 |e::E,h=>by
  rw[LW,Fv]at h;obtain⟨v,a⟩:=Option.isSome_iff_exists.mp (show(oh e).isSome=true from h.1);have b:og e=v:=by unfold og;rw[a];rfl
  rw[Fj,b];exact ja (yo a) (QM h.2)$ rK a
theorem Zf{E:List Expr}(h:E.all oG=true):(E.map og).all dX=true:=by
 rw[M0]at h ⊢;intro v H;obtain⟨e,a,rfl⟩:=List.mem_map.mp H;have q:=h e a;unfold oG at q;unfold og;cases e with
 |Constant c j p=>
  cases c with
  |str x=>rfl
  |int i=>rfl
  |_=>exact absurd q El
 |_=>exact absurd q El
def BW(t:TS):TS:=λD b H=>∃R:St->Hp->Prop,t { D with nx:=R } b H/\∀a h,R a h->D.nx a h
theorem jX{st:Stmt}{t:TS}(h:PS X st t):PS X st (BW t):=by
 intro p s b H D I c;obtain⟨R,d,e⟩:=c;refine aL (h p s b H _ I d) λf S q=>?_;cases f with
 |next=>obtain⟨a,g,i,q⟩:=q;exact#[a,g,i,e _ _ q]
 |brk=>exact q
 |cont=>exact q
 |ret v=>exact q
theorem oI{t:St}(h:t.length=1):∃v,t=[v]:=by
 cases t with
 |nil=>cases h
 |cons v r=>
  cases r with
  |nil=>exact#[v,Z]
  |cons _ _=>cases h
theorem Xw{lo:Int}{t:TE}{Q:List V->Hp->Prop}(Pv:Nat->List V->Hp->Prop)(g:Pv 0 [] H)(j:n<=sizeLine)(b:∀i Y h,Pv i Y h->Y.length<=i)
  (k:∀i Y h,i < n->Pv i Y h->t (some (.int$ lo+i)::c) h λy d=>Pv (i+1) (Y++[y]) d) (l:∀Y h,Pv n Y h->Q Y h):
  dW (sr lo n) 1 c (bf 0) lF t Q H:=by
 refine#[λi m Y h=>m=n - i/\i<=n/\Pv i Y h,#[n,OD,Ek _,g],?_];rintro i m Y h ⟨rfl,q,p⟩;by_cases a:i < n
 ·refine .inr #[a,FL (b i Y h p)$ Eo a j,Pv$ i+1,λo d P=>#[n - (i+1),OB,Z,a,P],λx d T f y=>?_];obtain⟨e,y⟩:=y;subst e y;obtain⟨v,rfl⟩:=oI f;exact#[#[[some _],Z,Z],k i Y _ a p]
 ·have e:i=n:=by omega
  subst e;exact .inl #[Ee _,l Y h p]
end
section
variable {κ:Type}[DecidableEq κ]
noncomputable def bQ(K:List (κ×V))(k:κ):Option V:=(K.find? λa=>decide (a.1=k)).map (·.2)
noncomputable def aB(K:List (κ×V))(k:κ)(v:V):List (κ×V):=
 if (K.any λa=>decide (a.1=k))=true then K.map (λa=>if a.1=k then (a.1,v) else a) else K++[(k,v)]
theorem j6{p:κ×V}(e:p.1=k):bQ (p::r) k=some p.2:=by simp [bQ,FH,e]
theorem j7{p:κ×V}(e:¬p.1=k):bQ (p::r) k=bQ r k:=by simp [bQ,FH,e]
theorem q9(k:κ):∀K:List (κ×V),(K.any λa=>decide (a.1=k))=(bQ K k).isSome
 | []=>rfl
 |p::r=>by
  rw[HQ];by_cases e:p.1=k
  ·simp only[j6 e,EI e,NH,Option.isSome_some]
  ·rw[j7 e,Ep e,Bool.false_or];exact q9 k r
theorem Xb(k j:κ)(y:V):∀K:List (κ×V),bQ (K.map λa=>if a.1=k then (a.1,y) else a) j=(bQ K j).map λx=>if j=k then y else x
 | []=>rfl
 |p::r=>by
  have i:=Xb k j y r;rw[Fj];by_cases h:p.1=k
  ·rw[Er h];by_cases e:p.1=j
   ·rw[j6 (p:=(p.1,y)) e,j6 e,Ig,Er$ e.symm.trans h]
   ·rw[j7 (p:=(p.1,y)) e,j7 e,i]
  ·rw[Eu h];by_cases e:p.1=j
   ·rw[j6 (p:=p) e,j6 e,Ig,Eu (λz=>h (e.trans z))]
   ·rw[j7 (p:=p) e,j7 e,i]
theorem Qm(k j:κ)(y:V):∀K:List (κ×V),bQ K k=none->bQ (K++[(k,y)]) j=if j=k then some y else bQ K j
 | [],_=>by
  by_cases e:k=j
  ·rw[Er e.symm];exact j6 (p:=(k,y)) e
  ·rw[Eu (λz=>e z.symm)];exact j7 (p:=(k,y)) e
 |p::r,h=>by
  rw[List.cons_append];have H:¬p.1=k:=λz=>by rw[j6 z]at h;cases h
  rw[j7 H]at h;have i:=Qm k j y r h;by_cases e:p.1=j
  ·rw[j6 e,j6 e,Eu (λz=>H (e.trans z))]
  ·rw[j7 e,j7 e,i]
theorem Ja(K:List (κ×V))(k j:κ)(y:V):bQ (aB K k y) j=if j=k then some y else bQ K j:=by
 unfold aB;by_cases a:(K.any λb=>decide (b.1=k))=true
 ·rw[Er a,Xb];rw[q9]at a;by_cases e:j=k
  ·obtain⟨x,h⟩:=Option.isSome_iff_exists.mp a;rw[Er e,e,h,Ig,Er Z]
  ·rw[Eu e];cases bQ K j with
   |none=>rfl
   |some x=>rw[Ig,Eu e]
 ·rw[Eu a];refine Qm k j y K ?_;rw[q9]at a;cases q:bQ K k with
  |none=>rfl
  |some x=>rw[q]at a;exact(a Z).elim
theorem qo(K:List (κ×V))(k:κ)(v:V):(aB K k v).length<=K.length+1:=by
 unfold aB;split
 ·rw[Ec];omega
 ·rw[Eg,ED,Gc];omega
theorem dD.isSome_eq(r:dD o u):o.isSome=u.isSome:=by
 cases o with
 |none=>cases u with
  |none=>rfl
  |some _=>exact(show False from r).elim
 |some _=>cases u with
  |none=>exact(show False from r).elim
  |some _=>rfl
theorem dD.getD(r:dD o u)(R:ay d D):ay (o.getD d) (u.getD D):=by
 cases o with
 |none=>cases u with
  |none=>exact R
  |some _=>exact(show False from r).elim
 |some _=>cases u with
  |none=>exact(show False from r).elim
  |some _=>exact r
theorem KV.val(r:KV a v)(k:κ):dD (bQ a k) (valueAt v k):=by
 unfold KV at r;induction r with
 |nil=>exact True.intro
 | @cons p q P Q h t i=>
  obtain⟨H,c⟩:=h;by_cases e:p.1=k
  ·have E:q.1=k:=H.symm.trans e;have b:valueAt (q::Q) k=some q.2:=by simp [valueAt,FH,E]
   rw[j6 e,b];exact c
  ·have E:¬q.1=k:=λz=>e (H.trans z);have b:valueAt (q::Q) k=valueAt Q k:=by simp [valueAt,FH,E]
   rw[j7 e,b];exact i
theorem KV.any(r:KV a v)(k:κ):(a.any λK=>decide (K.1=k))=v.any λK=>decide (K.1=k):=by
 unfold KV at r;induction r with
 |nil=>rfl
 |cons h t i=>rw[HQ,HQ,i,h.1]
theorem KV.repl(r:KV a v)(k:κ)(R:ay y u):
  KV (a.map λK=>if K.1=k then (K.1,y) else K) (v.map λK=>if K.1=k then (K.1,u) else K):=by
 unfold KV at r ⊢;induction r with
 |nil=>exact .nil
 | @cons p q P Q h t i=>
  rw[Fj,Fj];refine .cons ?_ i;obtain⟨H,b⟩:=h;by_cases e:p.1=k
  ·rw[Er e,Er$ H.symm.trans e];exact#[H,R]
  ·rw[Eu e,Eu (λz=>e (H.trans z))];exact#[H,b]
theorem KV.put(r:KV a v)(k:κ)(R:ay y u):KV (aB a k y) (stored v k u):=by
 unfold aB stored;rw[r.any k];by_cases e:(v.any λK=>decide (K.1=k))=true
 ·rw[Er e,Er e];exact r.repl k R
 ·rw[Eu e,Eu e];exact Paired.snoc r #[Z,R]
theorem KV.length(r:KV k v):k.length=v.length:=Paired.length r
end
theorem Jy{P:Program}(r:ay (kV k) u):(aH P w).is k u=true:=by
 cases k with
 |inl i=>obtain⟨t,e⟩:=(show ∃t,u=Value.int i t from r);subst e;exact Xu P w i t
 |inr x=>obtain⟨t,e⟩:=(show ∃t,u=Value.str x t from r);subst e;exact Xv P w x t
theorem Qn{P:Program}:∀{K:List aY} {u:List Value},ar (K.map kV) u->ItemsAre (aH P w) K u
 | [],_,r=>by rw[Mc]at r;cases r;exact .nil
 |k::K,_,r=>by
  rw[Fj]at r;cases r with
  |cons h t=>exact .cons (Jy h) (Qn t)
abbrev KT(H:Hp):List (List aY×V)->List (List aY×Addr×Value)->Prop:=Paired λp q=>p.1=q.1/\H q.2.1=some (.tup$ p.1.map kV)/\ay p.2 q.2.2
theorem KT.val(r:KT H a x)(k:List aY):dD (bQ a k) ((atKey x k).map (·.2)):=by
 induction r with
 |nil=>exact True.intro
 | @cons p q P Q h t i=>
  obtain⟨c,_,d⟩:=h;by_cases e:p.1=k
  ·have E:q.1=k:=c.symm.trans e;have b:atKey (q::Q) k=some q.2:=by simp [atKey,FH,E]
   rw[j6 e,b];exact d
  ·have E:¬q.1=k:=λz=>e (c.trans z);have b:atKey (q::Q) k=atKey Q k:=by simp [atKey,FH,E]
   rw[j7 e,b];exact i
theorem KT.repl(r:KT H b x)(k:List aY)(R:ay y u):
  KT H (b.map λK=>if K.1=k then (K.1,y) else K) (x.map$ putAt k u):=by
 induction r with
 |nil=>exact .nil
 | @cons p q P Q h t i=>
  rw[Fj,Fj];refine .cons ?_ i;obtain⟨a,c,d⟩:=h;unfold putAt;by_cases e:p.1=k
  ·rw[Er e,Er$ a.symm.trans e];exact#[a,c,R]
  ·rw[Eu e,Eu (λz=>e (a.trans z))];exact#[a,c,d]
theorem KT.put(r:KT H a x)(k:List aY)(h:H b=some (.tup$ k.map kV))(R:ay y u):
  KT H (aB a k y) (storedH x k b u):=by
 have e:(a.any λK=>decide (K.1=k))=(atKey x k).isSome:=by rw[q9,(r.val k).isSome_eq,Mx]
 unfold aB storedH;rw[e];by_cases q:(atKey x k).isSome=true
 ·rw[Er q,Er q];exact r.repl k R
 ·rw[Eu q,Eu q];exact Paired.snoc r #[Z,h,R]
theorem KT.keeps{h:Hp}(r:KT H k x)(a:∀b y,H b=some (.tup y)->h b=some (.tup y)):KT h k x:=
 Paired.mapP r λ_ _ z=>#[z.1,a _ _ z.2.1,z.2.2]
section
variable {P:Program}{w:World}{H:Hp}{h:Heap}{a:Addr}
theorem wf(o:dR P w H h)(e:Rd H a u):aM P w H h a u:=e.ok o
theorem JZ(o:dR P w H h)(e:Rd H a (.dK k)):k.length<=sizeLine/\(a==sysModules)=false/\∃v,KV k v/\h.DictOf (aH P w) a v:=
 show aM P w H h a (.dK k) from wf o e
theorem Yt(o:dR P w H h)(e:H a=some (.dK k)):k.length<=sizeLine/\(a==sysModules)=false/\∃v,KV k v/\h.DictOf (aH P w) a v:=JZ o (.inl e)
theorem Kc{k:List aY}(O:dR P w H h)(e:H a=some (.tup$ k.map kV)):(tupleKind$ aH P w).is h k a:=by obtain⟨_,i,r,o,b,c,n,d⟩:=(show aM P w H h a (.tup$ k.map kV) from O a _ e);exact#[o,i.toArray,n,b,c,d,by simpa using Qn r]
theorem K9(O:dR P w H h)(e:Rd H a (.dT k)):k.length<=sizeLine/\(a==sysModules)=false/\
  ∃X,KT H k X/\h.DictOfH (tupleKind$ aH P w) a X:=by
 obtain⟨z,y,X,r,o,E,c,d,f,g,i,j⟩:=(show aM P w H h a (.dT k) from wf O e);refine#[z,y,X,r,o,E,c,d,f,g,i,λx hx=>?_,j];have all:∀{l:List (List aY×V)} {m:List (List aY×Addr×Value)},KT H l m->∀x∈m,(tupleKind$ aH P w).is h x.1 x.2.1:=by
  intro l m q;induction q with
  |nil=>intro x hx;exact nomatch hx
  | @cons p q n Q b t I=>
   intro x hx;rcases List.mem_cons.mp hx with e |hx
   ·subst e;exact Kc O (by rw[<- b.1];exact b.2.1)
   ·exact I x hx
 exact all r x hx
theorem AC(o:dR P w H h)(e:H a=some (.dT k)):k.length<=sizeLine/\(a==sysModules)=false/\
  ∃x,KT H k x/\h.DictOfH (tupleKind$ aH P w) a x:=K9 o (.inl e)
end
def bp(H:Hp)(a:Addr)(y:V)(r:Option V):Prop:=
 (∃K k,Rd H a (.dK K)/\y=kV k/\r=bQ K k)∨∃K k b,Rd H a (.dT K)/\y= .ref b/\H b=some (.tup$ k.map kV)/\r=bQ K k
def dZ(H:Hp)(a:Addr)(y v:V)(h:Hp):Prop:=
 (∃K k,H a=some (.dK K)/\y=kV k/\K.length < sizeLine/\h=af H a (.dK$ aB K k v))∨
 ∃K k b,H a=some (.dT K)/\y= .ref b/\H b=some (.tup$ k.map kV)/\K.length < sizeLine/\h=af H a (.dT$ aB K k v)
theorem bp.k{H:Hp}{k:aY}(e:H a=some (.dK b)):bp H a (kV k) (bQ b k):=.inl #[b,k,.inl e,Z,Z]
theorem dZ.k{H:Hp}{k:aY}(e:H a=some (.dK b))(h:b.length < sizeLine):dZ H a (kV k) v (af H a$ .dK$ aB b k v):=.inl #[b,k,e,Z,h,Z]
section
variable {X:Cx}{pins:List (Addr×Obj)}{σ:St}{H:Hp}{s:Shared}{a:Addr}{y v:V}{u r:Value}{o:Option V}{A:Around}{E:Value->Shared->Prop}
theorem am.big(I:am X pins σ H s):sysModules < s.heap.objs.size:=by have h:mainGlobals < s.heap.objs.size:=(I.mod.glob.keeps I.bk).lt;exact Nat.lt_trans OA h
theorem Zg{Q:Value->Shared->Prop}(m:A.units+1 < cLine)(I:am X pins σ H s)(g:bp H a y (some v))(j:ay y u)(h:∀W S,am X pins σ H S->ay v W->Q W S):
  wpAny (model X.prog X.w) A (getItem (.ref a) u) Q E s:=by
 rcases g with ⟨K,k,e,d,l⟩ | ⟨K,k,b,e,d,n,l⟩
 ·subst d;obtain⟨z,q,t,R,D⟩:=JZ I.hok e;obtain⟨W,f,c⟩:=dD.some_of (v:=v) (o:=valueAt t k) (by rw[l];exact R.val k);exact wpAny_getItem_of (Jy j) D.mapOf f$ h W _ (I.tok _) c
 ·subst d;cases (show u=Value.ref b from j);obtain⟨z,q,x,R,D⟩:=K9 I.hok e;obtain⟨W,f,c⟩:=dD.some_of (v:=v) (o:=(atKey x k).map (·.2)) (by rw[l];exact R.val k);obtain⟨p,B,i⟩:=Option.map_eq_some_iff.mp f;refine wpAny_getItem_heap (HR m) (Kc I.hok n) D B ?_;rw[i];exact h W _ (I.tok _) c
theorem CY{Q:Value->Shared->Prop}(i:A.units+1 < cLine)(I:am X pins σ H s)(g:bp H a y o)(f:ay y u)(h:∀S,am X pins σ H S->Q (.bool o.isSome) S):
  wpAny (model X.prog X.w) A (compareOp .In u$ .ref a) Q E s:=by
 rcases g with ⟨K,k,e,c,l⟩ | ⟨K,k,b,e,c,j,l⟩
 ·subst c;obtain⟨z,d,m,R,D⟩:=JZ I.hok e;refine wpAny_in_of (Jy f) d D.mapOf ?_;rw[<- (R.val k).isSome_eq,<- l];exact h _$ I.tok _
 ·subst c;cases (show u=Value.ref b from f);obtain⟨z,d,x,R,D⟩:=K9 I.hok e;refine wpAny_in_heap (HR i) (Kc I.hok j) d D ?_;have q:=(R.val k).isSome_eq;rw[Mx]at q;rw[<- q,<- l];exact h _$ I.tok _
theorem QN(I:am X pins σ H s)(m:Ao (H a))(c:Heap.SameBut a s.heap h)(d:∃q,h.get? a=some q)(n:aM X.prog X.w (af H a O) h a O):
  am X pins σ (af H a O) { s with heap:=h,toks:=t }:=
 I.write (x:=a) (e:=a) m (.inl Z) (λb q f z=>(c.2 b f).trans z) d n
theorem Jm{P:Program}{h:Heap}{k:List (aY×V)}(z:k.length<=sizeLine)(c:(a==sysModules)=false)(R:KV k b)(d:h.DictOf (aH P w) a b):
  aM P w e h a (.dK k):=#[z,c,b,R,d]
theorem Zh{Q:Unit->Shared->Prop}(J:A.units+1 < cLine)(I:am X pins σ H s)(g:dZ H a y v L)(x:ay y u)(B:ay v r)(h:∀S,am X pins σ L S->Q () S):
  wpAny (model X.prog X.w) A (setItem (.ref a) u r) Q E s:=by
 rcases g with ⟨K,k,e,i,l,j⟩ | ⟨K,k,b,e,i,C,l,j⟩
 ·subst i j;obtain⟨z,m,M,R,D⟩:=Yt I.hok e;have n:M.length<=sizeLine:=by rw[<- R.length];exact z
  have p:(aB K k v).length<=sizeLine:=by have:=qo K k v;omega
  refine wpAny_setItem_pairs (hsz:=n) (Jy x) D λF d t=>h _ ?_;have N:∃q,F.get? a=some q:=let #[q,_,_,f,_]:=d;#[q,f]
  exact QN I (by rw[e];exact True.intro) t N$ Jm p m (R.put k B) d
 ·subst i j;cases (show u=Value.ref b from x);obtain⟨z,m,O,R,D⟩:=AC I.hok e;have n:O.length<=sizeLine:=by rw[<- Paired.length R];exact z
  have p:(aB K k v).length<=sizeLine:=by have:=qo K k v;omega
  refine wpAny_setItem_heap (hsz:=n) (HR J) (Kc I.hok C) D λF d t=>h _ ?_;obtain⟨q,P,T,f,U,W,Y,_,h5⟩:=d;refine QN I (by rw[e];exact True.intro) t #[q,f] #[p,m,_,(R.put k C B).keeps λc ys G=>?_,q,P,T,f,U,W,Y,h5];rw[jh$ jB G e (λz=>nomatch z)];exact G
end
def Ap(i:Expr):Prop:=∀o I,subscripted i false o I=operate [o,I] (getItem o I)
theorem ve{id:String}
  (k:typeLookup (.type T) "__getitem__"=pure (some$ .builtin id)) (l:Ap a)
  (h:wpAny (model p w) A (eval v e) (λo b=>wpAny (model p w) A (eval a e) (λi S=>S.TypeIs o T/\wpAny (model p w) A (getItem o i) Q E S) E b) E s):
  wpAny (model p w) A (eval (.Subscript v a m) e) Q E s:=by
 refine Nx$ Fs h (λo b d=>Fs d (λi S H=>?_) λ_ _ x=>x) λ_ _ x=>x;obtain⟨j,H⟩:=H;unfold subscriptTail;refine D9 ?_;rw[getitemInPython_of_ne j.not_modules];refine D9$ FM j k ?_;have f:wpAny (model p w) A (subscripted a false o i) (λr c=>wpAny (model p w) A (letTemporaryGo v o r >>= λ_=>pure r) Q E c) E S:=by rw[l o i];exact wpAny_operating$ Fs H (λr c g=>D9 (wpAny_letTemporaryGo$ Ea g)) λ_ _ x=>x
 first
  |exact Ea (D9 f)
  |exact D9 (Ea (D9 f))
  |exact D9 f
theorem Xx{X:Cx}(I:am X p c H s)(g:bp H a y o):s.TypeIs (.ref a) "dict":=by
 rcases g with ⟨K,k,e,_,_⟩ | ⟨K,k,b,e,_,_,_⟩
 ·obtain⟨_,_,v,_,d⟩:=JZ I.hok e;exact d.typeIs
 ·obtain⟨_,_,x,_,d⟩:=K9 I.hok e;exact d.typeIs
inductive rR(Q:VK)(x y:V)(b:Hp):Prop
 |mk(a v:_)(_:x= .ref a)(_:bp b a y (some v))(_:Q v b)
def BR(t T:TE):TE:=λa H Q=>t a H λx h=>T a h (rR Q x)
inductive wq(Q:VK)(y x:V)(b:Hp):Prop
 |mk(a o:_)(_:x= .ref a)(_:bp b a y o)(_:Q (.bl o.isSome) b)
def Dm(t T:TE):TE:=λa H Q=>t a H λy h=>T a h (wq Q y)
inductive pM(D:aJ)(d:St)(v x y:V)(b:Hp):Prop
 |mk(a c:_)(_:x= .ref a)(_:dZ b a y v c)(_:D.nx d c)
def Bt(t T b:TE):TS:=λD a H=>b a H λv h=>t a h λx c=>T a c (pM D a v x)
section
variable {X:Cx}{o i e value:Expr}{pos pos' tpos:Pos}{td ty tv:TE}
theorem kL(d:X.A.units+1 < cLine)(f:PE X o td)(j:PE X i ty)(k:Ap i):PE X (.Subscript o i pos) (BR td ty):=by intro p s b H Q I h;refine ve PySem.F.slot_dict_getitem.lookup k$ aL (f p s b H _ I h) λu S #[x,l,m,R,q]=>aL (j p S b l _ m q) λC D z=>?_;obtain⟨y,n,c,t,a,v,E,g,w⟩:=z;subst E;obtain rfl:u=Value.ref a:=R;exact#[Xx c g,Zg d c g t λW G B r=>#[v,n,B,r,w]]
theorem yn(c:X.A.units+1 < cLine)(d:PE X i ty)(f:PE X o td):PC X .In i o (Dm ty td):=by intro p s b H Q I h;refine aL (d p s b H _ I h) λv S #[y,j,k,r,q]=>aL (f p S b j _ k q) λu w z=>?_;obtain⟨x,l,m,R,a,O,E,g,n⟩:=z;subst E;obtain rfl:u=Value.ref a:=R;exact CY c m g r λB t=>#[.bl O.isSome,l,t,Z,n]
theorem kx(c:X.A.units+1 < cLine)(d:PE X o td)(f:PE X i ty)(j:PE X value tv)(k:swapsWith value (some$ .Subscript o i pos') pos.line X.env=pure false):
  PS X (.Assign [.Subscript o i pos'] value pos) (Bt td ty tv):=by
 intro p s b H D I h;refine wpAny_Assign_Subscript (aL (j p s b H _ I h) λr S #[v,l,m,R,q]=>aL (d p S b l _ m q) λu n #[x,t,w,B,Q]=>aL (f p n b t _ w Q) λL M z=>?_) k;obtain⟨y,N,C,E,a,F,G,g,J⟩:=z;subst G;obtain rfl:u=Value.ref a:=B;exact Zh c C g E R λO K=>#[b,F,K,J]
end
theorem Xc{P:Program}(h:Heap)(a:sysModules < h.objs.size):aM P w H (h.push { cls:=.type "dict",data:=.dict (List.toArray []) }) h.objs.size (.dK []):=
 #[Ek _,beq_eq_false_iff_ne.mpr$ EA$ Ej a,[],.nil,HI h]
def yV:TE:=λ_ H Q=>∀p,H p=none->Q (.ref p) (af H p$ .dK [])
section
variable {X:Cx}{pos:Pos}
theorem Jb:PE X (.Dict [] [] pos) yV:=λp s b H Q I h=>
 wpAny_Dict_empty #[.ref s.heap.objs.size,_,I.laid (a:=s.heap.objs.size) (o:=.dK []) (t':=s.toks) (λ_ _ q=>Eb _ q) (Ee _)$ Xc s.heap I.big,Z,h _$ I.hok.fresh$ Ee _]
end
def md:List (TE×TE)->St->Hp->(List (V×V)->Hp->Prop)->Prop
 | [],_,H,Q=>Q [] H
 | (t,T)::r,a,H,Q=>t a H λx h=>T a h λy b=>md r a b λp c=>Q ((x,y)::p) c
abbrev VV:List (V×V)->List (Value×Value)->Prop:=Paired λp q=>ay p.1 q.1/\ay p.2 q.2
def Cp(X:Cx)(P:Pos)(k:List (Option Expr))(v:List Expr)(t:List (TE×TE)):Prop:=
 ∀(p:List (Addr×Obj)) (s:Shared) (a:St) (H:Hp) (Q:List (V×V)->Hp->Prop),am X p a H s->md t a H Q->
  wpAny (model X.prog X.w) X.A (evalPairs$ pairTrees k v X.env P) (λc S=>∃b h,am X p a h S/\VV b c/\Q b h) X.xe s
theorem uC{X:Cx}{p:Pos}:Cp X p [] [] []:=λP s a H Q I h=>pairTrees_nil_walk #[[],H,I,.nil,h]
theorem ql{X:Cx}{P:Pos}{k v:Expr}{K:List (Option Expr)}{V:List Expr}{T b:TE}{t:List (TE×TE)}(c:PE X k T)(d:PE X v b)(e:Cp X P K V t):
  Cp X P (some k::K) (v::V) ((T,b)::t):=λp s a H Q I h=>
 pairTrees_cons_walk (aL (c p s a H _ I h) λu S #[x,f,i,R,q]=>aL (d p S a f _ i q) λW g #[y,j,l,m,n]=>
  aL (e p g a j _ l n) λB C #[o,w,z,r,A]=>#[(x,y)::o,w,z,.cons #[R,m] r,A])
noncomputable def aT(k m:List (aY×V)):List (aY×V):=m.foldl (λa K=>aB a K.1 K.2) k
theorem KV.merge:∀{m:List (aY×V)} {R:List (aY×Value)} {k:List (aY×V)} {v:List (aY×Value)},KV m R->KV k v->KV (aT k m) (merged v R):=by
 intro m R k v r;unfold KV at r;induction r generalizing k v with
 |nil=>intro q;exact q
 | @cons p q P Q h t i=>
  intro a;have e:KV (aB k p.1 p.2) (stored v q.1 q.2):=by have:=a.put p.1 h.2;rw[<- h.1];exact this
  exact i e
theorem zI:∀(m k:List (aY×V)),(aT k m).length<=k.length+m.length
 | [],k=>by show k.length<=k.length+0;omega
 |p::r,k=>by have h:=zI r (aB k p.1 p.2);have H:=qo k p.1 p.2;show(aT (aB k p.1 p.2) r).length<=_;rw[ED];omega
theorem Ky{P:Program}{w:World}:∀{k:List (aY×V)} {W:List (Value×Value)},VV (k.map λK=>(kV K.1,K.2)) W->∃R,Carries (aH P w) W R/\KV k R
 | [],_,r=>by rw[Mc]at r;cases r;exact#[[],True.intro,.nil]
 |p::k,_,r=>by
  rw[Fj]at r;cases r with
  | @cons a b A d h t=>obtain⟨R,c,q⟩:=Ky (P:=P) (w:=w) t;obtain⟨e,B⟩:=b;exact#[(p.1,B)::R,#[Jy h.1,Z,c],.cons #[Z,h.2] q]
def BS(t:List (TE×TE)):TE:=λa H Q=>∀p,H p=none->md t a (af H p$ .dK []) λP h=>h p=some (.dK [])/\∃k:List (aY×V),P=k.map (λK=>(kV K.1,K.2))/\k.length<=15/\Q (.ref p) (af h p$ .dK$ aT [] k)
theorem uu{X:Cx}{p:Pos}{k:List (Option Expr)}{v:List Expr}{t:List (TE×TE)}(h:Cp X p k v t)(b:k.all (·.isSome)=true)(j:k.length=v.length)(l:k≠[])
  (f:k.length<=15):PE X (.Dict k v p) (BS t):=by
 intro d s m H Q I q;have n:=I.hok.fresh (Ee s.heap.objs.size);have u:=I.laid (a:=s.heap.objs.size) (o:=.dK []) (h':=s.heap.push { cls:=.type "dict",data:=.dict (List.toArray []) }) (t':=s.toks) (λ_ _ q=>Eb _ q) (Ee _) (Xc s.heap I.big);refine wpAny_Dict_walk (knd:=aH X.prog X.w) b j l f$ aL (h d _ m _ _ u$ q _ n) λW S g=>?_;obtain⟨N,O,i,r,e,K,E,lk,x⟩:=g;subst E;obtain⟨R,c,y⟩:=Ky (P:=X.prog) (w:=X.w) r;obtain⟨z,A,V,B,C⟩:=Yt i.hok e;cases B;refine#[R,c,C,λh' D F=>#[.ref s.heap.objs.size,_,?_,Z,x]];have G:(aT [] K).length<=sizeLine:=by have J:=zI K [];rw[Gc]at J;rw[Ik];omega
 have L:∃q,h'.get? s.heap.objs.size=some q:=let #[q,_,_,M,_]:=D;#[q,M]
 exact QN i (by rw[e];exact True.intro) F L$ Jm G A (y.merge .nil) D
structure M2(X:Cx)(o:Expr)(m:Str)(apos:Pos)(e f:Expr)(cpos:Pos):Prop where
 base:attributeBase o m X.env (eval o X.env)=eval o X.env
 few:((backTo cpos$ starEach [e,f] X.env).all (λx=>!x.1)&&(backToKw cpos$ keywordEach [] X.env).all (λx=>x.1.isSome)
  &&decide (([e,f]:List Expr).length+([]:List Keyword).length+(if ([]:List Keyword).isEmpty then 0 else 1) < 30))=true
 line:(apos.endLine==cpos.line)=true
 trees:backTo cpos (starEach [e,f] X.env)=[(false,eval e X.env),(false,eval f X.env)]
def Dv(H:Hp)(a:Addr):Prop:=(∃k,Rd H a$ .dK k)∨∃k,Rd H a (.dT k)
theorem xB{X:Cx}(I:am X p g H s)(d:Dv H a):
  s.TypeIs (.ref a) "dict"/\(∀b,Value.ref a= .ref b->∃o,s.heap.get? b=some o/\o.dict=none)/\(a==sysModules)=false:=by
 rcases d with ⟨k,e⟩ | ⟨k,e⟩
 ·obtain⟨_,h,v,_,D⟩:=JZ I.hok e;refine#[D.typeIs,λb q=>?_,h];cases q;obtain⟨o,_,_,c,f,_⟩:=D;exact#[o,c,f.2.1]
 ·obtain⟨_,h,x,_,D⟩:=K9 I.hok e;refine#[D.typeIs,λb q=>?_,h];cases q;obtain⟨o,_,_,c,f,_⟩:=D;exact#[o,c,f.2.1]
section
variable {X:Cx}{pins:List (Addr×Obj)}{σ:St}{H:Hp}{s:Shared}{a:Addr}{y d:V}{u r:Value}{o:Option V}{A:Around}{E:Value->Shared->Prop}
theorem wU{Q:Value->Shared->Prop}(m:A.units+1 < cLine)(I:am X pins σ H s)(g:bp H a y o)(i:ay y u)(j:ay d r)(h:∀W S,am X pins σ H S->ay (o.getD d) W->Q W S):
  wpAny (model X.prog X.w) A (call (.builtin "dict.get") [.ref a,u,r]) Q E s:=by
 rcases g with ⟨K,k,e,c,l⟩ | ⟨K,k,b,e,c,n,l⟩
 ·subst c;obtain⟨z,f,v,R,D⟩:=JZ I.hok e;refine MO Ie D.typeIs LC (Lr _ _ _) (meets_dict_get_default (aH X.prog X.w) a (Jy i) f r) #[_,D.mapOf,h _ _ (I.tok _) ?_];rw[l];exact(R.val k).getD j
 ·subst c;cases (show u=Value.ref b from i);obtain⟨z,f,x,R,D⟩:=K9 I.hok e;refine MO Ie D.typeIs LC (Lr _ _ _) (meetsH_dict_get_default (tupleKind$ aH X.prog X.w) a b f r) #[HR m,k,x,Kc I.hok n,D,h _ _ (I.tok _) ?_];rw[l];exact(R.val k).getD j
end
inductive mZ(d c:TE)(e:St)(Q:VK)(x:V)(b:Hp):Prop
 |mk(a:_)(_:x= .ref a)(_:Dv b a)(_:d e b λy H2=>c e H2 λz H3=>∃o,bp H3 a y o/\Q (o.getD z) H3)
def yU(t T b:TE):TE:=λa H Q=>t a H (mZ T b a Q)
section
variable {X:Cx}{o e f:Expr}{apos cpos:Pos}{td ty tx:TE}
theorem zL(j:X.A.units+1 < cLine)(k:PE X o td)(l:PE X e ty)(n:PE X f tx)(m:M2 X o "get" apos e f cpos):PE X (.Call (.Attribute o "get" apos) [e,f] [] cpos) (yU td ty tx):=by
 intro p s b H Q I h;refine wpAny_Call_method m.base m.few m.line PySem.F.plainAttrs_dict Ie PySem.F.type_dict_get$ aL (k p s b H _ I h) λu S c=>?_;obtain⟨x,q,i,R,a,E,d,t⟩:=c;subst E;obtain rfl:u=Value.ref a:=R;obtain⟨T,v,_⟩:=xB i d;refine#[T,v,?_];rw[m.trees];refine Ih Z (Mq (Fg (aL (l p S b q _ i t) λO w #[y,B,C,D,G]=>
  Fg (aL (n p w b B _ C G) λP U #[z,J,K,L,V,g,M]=>FK ?_))))
 exact wU j K g D L λW Y N r=>#[_,J,N,r,M]
end
section
variable {X:Cx}{pins:List (Addr×Obj)}{σ:St}{H:Hp}{s:Shared}{a:Addr}{kvs:List (aY×V)}{A:Around}{E:Value->Shared->Prop}
theorem oj{Q:Value->Shared->Prop}(I:am X pins σ H s)(e:Rd H a (.dK kvs))(h:∀p S,H p=none->am X pins σ (af H p$ .dK kvs) S->Q (.ref p) S):wpAny (model X.prog X.w) A (call (.type "dict") [.ref a]) Q E s:=by obtain⟨z,f,v,r,D⟩:=JZ I.hok e;refine kt_call_dict f D (by rw[<- r.length];exact z) λi d g=>?_;refine h _ _ (I.hok.fresh$ Ee _)$ I.laid (a:=s.heap.objs.size) (o:=.dK kvs) (t':=s.toks) (λb q c=>?_) (Ee _)$ Jm z (beq_eq_false_iff_ne.mpr$ EA$ Ej I.big) r d;exact(g.2 b$ Ej$ Ef c).trans (Eb _ c)
end
section
variable {X:Cx}{pins:List (Addr×Obj)}{σ:St}{H:Hp}{s:Shared}
theorem KV.get{a:Type}:∀{K:List (a×V)} {c:List (a×Value)} {i:Nat} {k:a} {x:V},KV K c->K[i]?=some (k,x)->∃v,c[i]?=some (k,v)/\ay x v
 |_,_,_,_,_,.nil,e=>by simp at e
 |_,_,0,k,x,.cons (b:=q) r _,e=>by simp at e;subst e;obtain⟨R,d⟩:=r;obtain⟨g,Q⟩:=q;cases R;exact#[Q,Z,d]
 |_,_,i+1,k,x,.cons _ t,e=>by obtain⟨v,h,f⟩:=KV.get (i:=i) t (by simpa using e);exact#[v,by simpa using h,f]
theorem Qo:dw X (.type "dict") (λx H Q=>∃a k,x=[.ref a]/\H a=some (.dK k)/\∀p,H p=none->Q (.ref p) (af H p$ .dK k)):=by intro pins s σ H x U Q I r h;obtain⟨a,k,rfl,b,q⟩:=h;obtain⟨u,rfl,R⟩:=dC r;cases R;exact oj I (.inl b) λp S n i=>#[.ref p,_,i,Z,q p n]
theorem JE{a:Type}[DecidableEq a]{k:a}{y:Value}:∀{K:List (a×Value)},(K.map (·.1)).Nodup->(k,y)∈K->valueAt K k=some y
 | [],_,h=>nomatch h
 | (j,z)::r,n,h=>by
  unfold valueAt;rw[Fj,Iq]at n;rcases List.mem_cons.mp h with e |h
  ·cases e;simp [FH]
  ·have b:¬j=k:=λe=>n.1 (by rw[e];exact List.mem_map.mpr #[_,h,Z]);rw[FH];simp only[b,decide_false];exact JE n.2 h
theorem Xd{a:Type}[DecidableEq a]{A:Around}{s:Shared}{K:List (a×Value)}:∀{l:List (a×Value)},(∀p∈l,∃y,valueAt K p.1=some y/\SeqAt.EqAt A s p.2 y true)->PySem.W.KeqHits A s K l true
 | [],_=>.nil
 | (k,v)::r,h=>by obtain⟨y,c,d⟩:=h (k,v) Es;exact .hit (e:=true) (b:=true) c d$ Xd λp f=>h p (Ew _ f)
theorem oM:Cn X "str.index" (λx a H Q=>∃(z y:Str) (i:Nat) (r:List Nat),x= .str z/\a=[.str y]/\Builtin.Str.occurrences z y 0 z.length 1=i::r/\Q (.int i) H):=by intro pins s σ H x a v U Q I R b h;obtain⟨z,y,i,r,rfl,rfl,c,q⟩:=h;obtain⟨u,rfl,T,rfl⟩:=dC b;obtain⟨t,rfl⟩:=R;exact SC.index c #[.int i,H,I.tok _,#[_,Z],q]
end
section
open PySem.W PySem.Calls Builtin Builtin.ObjectAttr
variable {prog:Program}{w:World}{A:Around}{E:Value->Shared->Prop}{s:Shared}{K:Frag}{x C:Addr}{ox:Obj}{od:Option Obj}{name:Str}
structure nX(K:Frag)(C:Addr):Prop where
 ga:findIn K (.ref C) "__getattribute__"=some (some$ .builtin "BaseException.__getattribute__")
 gh:findIn K (.ref C) "__getattr__"=some none
 sa:findIn K (.ref C) "__setattr__"=some (some$ .builtin "object.__setattr__")
 cl:findIn K (.ref C) "__class__"=some (some$ .builtin "object.__class__")
 gt:specialIn K (.builtin "object.__class__") "__get__"=some (some$ .builtin "getset_descriptor.__get__")
 tk:takesIn K (.builtin "object.__class__")=some true
 mb:mroIn K C (.type "BaseException")=some true
 mo:mroIn K C (.type "object")=some true
 hd:hasDictIn K C=true
abbrev nC:List Value:=[.type "ValueError",.type "Exception",.type "BaseException",.type "object"]
end
section
open PySem.W PySem.Calls
variable {prog:Program}{w:World}{A:Around}{E:Value->Shared->Prop}{R:Result->Shared->Prop}{K:Frag}{h:Heap}{g:Array GenState}{d:Drawn}{t:Nat}{os:OsState}{C B:Addr}
theorem Zi(q:excIn K C nC "ValueError.__new__"=true):(∃p q N r f a s sub u c D k i j m o,K.lookup C=some (excClassObj p q C N r f a s sub u c D k i j m o "ValueError.__new__")/\tailIn K nC f=true/\nsOkIn K N=true/\nsIn K N "__init__"=some none):=by
 unfold excIn at q;split at q
 ·rename_i D z S F
  split at q
  ·rename_i O f k i j m n o x y
   simp only[Fv,beq_iff_eq,MU]at q;obtain⟨⟨⟨⟨⟨rfl,rfl⟩,H⟩,G⟩,b⟩,e⟩:=q;obtain⟨p,r,M,I,Q,J,s,sub,u,c,L⟩:=z;dsimp only at x H b e;subst x H;have v:S=(List.toArray [k,i,j,m,some$ .builtin "ValueError.__new__",o]):=by obtain⟨l⟩:=S;simp only at y;rw[y]
   subst v;exact#[p,Q,I,r,f,J,s,sub,u,c,D,k,i,j,m,o,F,G,b,e]
  ·cases q
 ·cases q
end
theorem aM.obj{P:Program}{a:Addr}(x:aM P w H h a o):∃u,h.get? a=some u:=by
 cases o with
 |lst X=>obtain⟨_,_,_,_,e⟩:=x;exact#[_,e]
 |tup X=>obtain⟨_,_,_,o,e,_⟩:=x;exact#[_,e]
 |dK k=>obtain⟨_,_,_,_,o,_,_,e,_⟩:=x;exact#[_,e]
 |dT k=>obtain⟨_,_,_,_,o,_,_,e,_⟩:=x;exact#[_,e]
 |set S n=>obtain⟨o,_,_,_,e,_⟩:=x;exact#[_,e]
 |ins C d F=>obtain⟨_,_,_,e,_⟩:=x;exact#[_,e]
 |own y=>obtain⟨_,e⟩:=x;exact#[_,e]
 |xd F=>obtain⟨_,⟨_,_,_,e,_⟩,_⟩:=x;exact#[_,e]
 |rng lo b=>obtain⟨_,_,_,e⟩:=x;exact#[_,e]
 |frz O u=>obtain⟨e,_⟩:=x;exact#[_,e]
 |tbl p=>exact#[_,(show h.get? a=some _ from x)]
 |met f y=>exact#[_,(show h.get? a=some _ from x)]
 |ext c=>obtain⟨_,⟨_,e⟩,_⟩:=x;exact#[_,e]
theorem am.laidN{X:Cx}{h':Heap}{a:Addr}{o:HO}{t':Nat}(I:am X p g H s)(k:∀b u,s.heap.get? b=some u->h'.get? b=some u)(d:s.heap.get? a=none)(N:aM X.prog X.w (af H a o) h' a o):
  H a=none/\am X p g (af H a o) { s with heap:=h',toks:=t' }:=by
 have i:∀b u,s.heap.get? b=some u->b≠a:=λb u q z=>by rw[z,d]at q;cases q
 have h:H a=none:=by
  cases q:H a with
  |none=>rfl
  |some u=>obtain⟨U,e⟩:=(I.hok a u q).obj;rw[d]at e;cases e
 refine#[h,I.un ?_ ?_]
 ·exact { keep:=λb u q _ _ _=>k b u q,slot:=λb u q _ _ _=>#[u.slots,k b u q],free:=λb u q n _=>by rw[jh$ i b u q];exact n,there:=λb u q _=>#[u,k b u q],tups:=λb x q=>by rw[jh$ jk q h];exact q,frzs:=λb u x q=>by rw[jh$ jk q h];exact q,tbls:=λb P q=>#[(List.toArray []),by rw[jh$ jk q h,q];simp] }
 ·intro b u e;by_cases f:b=a
  ·subst f;rw[jc]at e;cases e;exact N
  ·rw[jh f]at e;exact(I.hok b u e).stay (λc v _ q=>k c v q) (λc q=>by rw[jh$ jk q h];exact q) λc x q=>by rw[jh$ jk q h];exact q
noncomputable def vv(C:Addr)(d:Option Addr)(x:Addr):HO:=.ext λh=>∃o,h.get? x=some o/\o.cls= .ref C/\notCls o=true/\o.dict=d/\∃v,o.data= .fields v/\v[1]?=some .none
theorem xg{P:Program}{h:Heap}(e:h.get? x=some o)(a:o.cls= .ref C)(b:notCls o=true)(c:o.dict=d)(f:∃v,o.data= .fields v/\v[1]?=some .none):aM P w H h x (vv C d x):=
 #[#[o,e,a,b,c,f],#[o,e],λg i #[O,E,q] k=>#[O,k O E,q]]
def vg(C:Addr):TE:=λa H Q=>∀x,H x=none->Q (.ref x) (af H x$ vv C none x)
section
variable {X:Cx}{CX:mf}{k:Nat}{f C:Addr}{fd:FuncData}{ps:List Str}{sp:Sp}{E:XK}{x m g:Str}{p pos pos':Pos}{e o value:Expr}{es:List Expr}{ta tv:TE}{t:TA}
theorem Qp(M:excIn X.K C nC "ValueError.__new__"=true)(l:keepIn X.K (.ref C)=true)(n:Gl X x)(r:X.mg x=some (.ref C))(c:(x==("__debug__":Str))=false:=by decide):
  PE X (.Call (.Name x p) [] [] pos) (vg C):=by
 intro P s D H Q I h;refine EU$ zh I n r ?_ c;refine Mb I.kIn l ?_;obtain⟨G,q,N,J,L,j,S,sub,O,u,R,U,V,Y,k3,k5,v,w,b,i⟩:=Zi M;have y:=I.kIn _ _ v;obtain⟨hp,g,d,T,os⟩:=s;refine wpAny_call_exc_subT PySem.F.excBase_ValueError (PySem.W.tail_of_in I.kIn w) y (.of_isNs$ PySem.W.isNs_of_in I.kIn b) (PySem.W.nsMap_none_of_in I.kIn b i) (λh' e m=>?_)$ Ek _;obtain⟨t,z,_,_⟩:=m.there;obtain⟨A,B⟩:=I.laidN (a:=e) (h':=h') (o:=vv C none e) (t':=T) m.keeps m.new (xg z Z Z Z #[_,Z,Z]);exact#[.ref e,_,B,Z,h e A]
end
section
variable {M:Model}{A:Around}{E:Value->Shared->Prop}{s:Shared}
structure cw(fl:Value)(ij:List Addr)(x:Addr)(ox:Obj)(h h':Heap):Prop where
 ex:∃T oT ts,h.objs.size<=T/\h'.get? x=some (Obj.mapFields (·.setIfInBounds 1 (.ref T)) ox)/\h'.get? T=some oT/\oT.data= .fields ts/\ts[3]?=some fl
 keep:∀b o,b∉ij->b≠x->h.get? b=some o->h'.get? b=some o
 slot:∀b o,b≠x->h.get? b=some o->∃sl,h'.get? b=some { o with slots:=sl }
theorem Qq{Q:Unit->Shared->Prop}
  (t:A.frames=some (d::O)) (F:s.heap.FunFrames G (d::O)) (N:d.frame=some L)
  (I:s.heap.get? x=some u) (v:u.data= .fields J) (w:1 < J.size)
  (h:∀K,cw (rawInt L) ((d::O).filterMap (·.frame)) x u s.heap K->Q () { s with heap:=K }):
  wpAny M A (do let a <- frameOf d;let p <- entryPlaceOf L q;let b <- EntryCells.newEntry f a .none (rawInt L) .none p;setField (.ref x) 1 b) Q E s:=by
 have y:x∉(d::O).filterMap (·.frame):=λP=>by obtain⟨_,o,r,z⟩:=F.mem P;rw[I]at r;injection r with r;subst r;exact z J v
 refine D9$ wpAny_frameOf_fun t F N λH c=>?_;refine D9$ wpAny_entryPlaceOf λp B=>?_;unfold EntryCells.newEntry newFields;refine D9$ EZ ?_$ B.sizeOk5 _ _ _ _ _;have g:H.get? x=some u:=(c.2.1 x y).trans I;have i:=Eb (h:=H) { cls:=.type "traceback",dict:=none,data:=.fields ([f,.ref L,.none,rawInt L,.none]++(if p.isEmpty then List.replicate 6 Value.none else p)).toArray } g;refine Fo i v w$ h _ ?_;have C:H.objs.size≠x:=EN (Ef g);have j:=EO v (·.setIfInBounds 1 (Value.ref H.objs.size));have l:=EL (Obj.mapFields (·.setIfInBounds 1 (Value.ref H.objs.size))) i (Fz j);have k:∀b o,b≠x->H.get? b=some o->((H.push { cls:=.type "traceback",dict:=none,data:=.fields ([f,.ref L,.none,rawInt L,.none]++(if p.isEmpty then List.replicate 6 Value.none else p)).toArray }).update x$ Obj.mapFields (·.setIfInBounds 1 (Value.ref H.objs.size))).get? b=some o:=λb o D e=>by rw[Et _ _$ EA D];exact Eb _ e
 have m:=(Et (H.push { cls:=.type "traceback",dict:=none,data:=.fields ([f,.ref L,.none,rawInt L,.none]++(if p.isEmpty then List.replicate 6 Value.none else p)).toArray })
  (Obj.mapFields (·.setIfInBounds 1 (Value.ref H.objs.size))) (EA C)).trans (Ei H Z)
 refine#[#[H.objs.size,_,_,I8 c.1.symm,l,m,Z,OD],λb o D n e=>k b o n ((c.2.1 b D).trans e),λb o n e=>?_];obtain⟨S,R⟩:=c.2.2 b o e;exact#[S,k b _ n R]
theorem X5{Q:Unit->Shared->Prop}
  (H:A.frames=some (e::o)) (i:s.heap.FunFrames b (e::o)) (a:e.frame=some L)
  (c:s.heap.get? x=some O) (d:O.data= .fields v) (f:v[1]?=some .none)
  (h:∀g,cw (rawInt L) ((e::o).filterMap (·.frame)) x O s.heap g->Q () { s with heap:=g }):
  wpAny M A (noteFrame (.ref x) e) Q E s:=by
 unfold noteFrame;simp only[a];refine D9$ EG c d f ?_;rw[Eu OA];exact Qq H i a c d (Array.getElem?_eq_some_iff.mp f).1 h
theorem xI{ij:List Addr}{Q:Unit->Shared->Prop}(N:cw C ij x O H s.heap)(j:H.get? x=some O)(v:O.data= .fields w)(k:1 < w.size)
  (h:∀p,cw .none ij x O H p->Q () { s with heap:=p }):wpAny M A (setFlight (.ref x) none) Q E s:=by
 obtain⟨T,D,F,c,r,t,g,y⟩:=N.ex;have l:=EO v (·.setIfInBounds 1 (Value.ref T));have m:T≠x:=λz=>absurd (Eo (Ef j) (by rw[<- z];exact c)) (Fx _);unfold setFlight;refine D9$ EG r l (x:=.ref T) (by simp [k]) ?_;rw[Er (show(Value.ref T != Value.none)=true from by simp)];have i:=(Array.getElem?_eq_some_iff.mp y).1;refine Fo t g i$ h _ ?_;have a:=EO g (·.setIfInBounds 3 ((none:Option Addr).elim Value.none λf=>rawInt f));have n:=EL (Obj.mapFields (·.setIfInBounds 3 ((none:Option Addr).elim Value.none λf=>rawInt f))) t (Fz a);have u:∀b o,H.get? b=some o->T≠b:=λb o e z=>absurd (Eo (Ef e) (by rw[<- z];exact c)) (Fx _);refine#[#[T,_,_,c,by rw[Et _ _ m];exact r,n,a,by simp [i]],λb o B d e=>?_,λb o d e=>?_]
 ·rw[Et _ _$ u b o e];exact N.keep b o B d e
 ·obtain⟨S,q⟩:=N.slot b o d e;exact#[S,by rw[Et _ _$ u b o e];exact q]
theorem Xy{base:Heap}{Q:Unit->Shared->Prop}
  (a:A.frames=some (e::o)) (f:s.heap.FunFrames base (e::o)) (g:e.frame=some L)
  (b:s.heap.get? x=some O) (c:O.data= .fields v) (d:v[1]?=some .none)
  (h:∀H,cw .none ((e::o).filterMap (·.frame)) x O s.heap H->Q () { s with heap:=H }):
  wpAny M A (leaving e$ .ref x) Q E s:=by
 unfold leaving;exact D9$ X5 a f g b c d λH N=>xI (s:={ s with heap:=H }) N b c (Array.getElem?_eq_some_iff.mp d).1 h
end
section
variable {M:Model}{A:Around}{E:Value->Shared->Prop}{s:Shared}
noncomputable abbrev dH(T:Addr)(h:Heap):Heap:=h.update T (Obj.mapFields (·.setIfInBounds 3 Value.none))
theorem Qr{base:Heap}{Q:Unit->Shared->Prop}
  (f:A.frames=some (e::O)) (w:s.heap.FunFrames base (e::O)) (j:e.frame=some L)
  (k:s.heap.get? x=some l) (m:l.data= .fields v) (p:v[1]?=some (.ref T)) (g:T≠x) (i:s.heap.get? T=some y) (c:y.data= .fields t) (r:t[3]?=some .none)
  (h:∀u,cw (rawInt L) ((e::O).filterMap (·.frame)) x l (dH T s.heap) u->Q () { s with heap:=u }):
  wpAny M A (noteFrame (.ref x) e) Q E s:=by
 unfold noteFrame;simp only[j];refine D9$ EG k m p ?_;rw[Er (show(Value.ref T != Value.none)=true from by simp)];refine D9$ EG i c r ?_;rw[Eu (show ¬((Value.none==rawInt L)=true) from by simp [rawInt])];refine D9$ Fo i c (Array.getElem?_eq_some_iff.mp r).1 ?_;have a:∀b,b≠T->(dH T s.heap).get? b=s.heap.get? b:=λb H=>Et _ _ (EA H);have n:∀b o,s.heap.get? b=some o->(∀v,o.data≠ .fields v)->b≠T:=λb o H d q=>by rw[q,i]at H;injection H with H;subst H;exact d t c
 exact Qq (s:={ s with heap:=dH T s.heap }) f (w.of_keeps λb o H d=>#[o,(a b$ n b o H d).trans H,Z]) j ((a x$ EA g).trans k) m (Array.getElem?_eq_some_iff.mp p).1 h
theorem X6{base:Heap}{Q:Unit->Shared->Prop}
  (b:A.frames=some (e::o)) (i:s.heap.FunFrames base (e::o)) (j:e.frame=some L)
  (d:s.heap.get? x=some O) (f:O.data= .fields v) (g:v[1]?=some (.ref T)) (H:T≠x) (k:s.heap.get? T=some l) (c:l.data= .fields t) (m:t[3]?=some .none)
  (h:∀a,cw .none ((e::o).filterMap (·.frame)) x O (dH T s.heap) a->Q () { s with heap:=a }):
  wpAny M A (leaving e$ .ref x) Q E s:=by
 unfold leaving;exact D9$ Qr b i j d f g H k c m λa N=>xI (s:={ s with heap:=a }) N ((Et _ _ H).trans d) f (Array.getElem?_eq_some_iff.mp g).1 h
end
noncomputable def fH(C:Addr)(d:Option Addr)(T x:Addr):HO:=.ext λh=>∃o v,h.get? x=some o/\o.cls= .ref C/\notCls o=true/\o.dict=d/\o.data= .fields v/\v[1]?=some (.ref T)
noncomputable def eI(T:Addr):HO:=.ext λh=>∃o t,h.get? T=some o/\o.data= .fields t/\t[3]?=some .none
theorem y6{P:Program}{h:Heap}(e:h.get? x=some o)(c:o.cls= .ref C)(f:notCls o=true)(g:o.dict=d)(i:o.data= .fields a)(b:a[1]?=some (.ref T)):aM P w H h x (fH C d T x):=
 #[#[o,a,e,c,f,g,i,b],#[o,e],λb j #[O,v,E,q] k=>#[O,v,k O E,q]]
theorem Z5{P:Program}{h:Heap}(e:h.get? T=some o)(b:o.data= .fields a)(c:a[3]?=some .none):aM P w H h T (eI T):=
 #[#[o,a,e,b,c],#[o,e],λd f #[O,t,E,q] k=>#[O,t,k O E,q]]
def dP(P:Program)(w:World):mf:=λo H s E e S=>∃x C d T h,e= .ref x/\S.os=s.os/\AllBare S.gens/\Un (ij o) [] H h s.heap S.heap/\dR P w h S.heap/\
 h x=some (fH C d T x)/\h T=some (eI T)/\T≠x/\E (.ref C) d h
section
variable {X:Cx}{pins:List (Addr×Obj)}{σ:St}{H:Hp}{s:Shared}{x C:Addr}{d:Option Addr}
theorem cw.hok{fl:Value}(I:am X pins σ H s)(g:H x=some (.ext M))(P:s.heap.get? x=some o)(B:o.cls= .ref C)(D:o.dict=d)(j:o.data= .fields E)(k:1 < E.size)(l:∀b∈G,H b=none)
  (N:cw .none G x o s.heap J):∃T,H T=none/\T≠x/\s.heap.objs.size<=T/\dR X.prog X.w (af (af H T$ eI T) x$ fH C d T x) J:=by
 obtain⟨T,Q,R,h,m,F,n,p⟩:=N.ex;have i:H T=none:=I.hok.fresh h;have r:T≠x:=EA (jk g i);have a:=EO j (·.setIfInBounds 1 (Value.ref T));refine#[T,i,r,h,λb u e=>?_];by_cases t:b=x
 ·subst t;rw[jc]at e;cases e;refine y6 m ((Hn _ _).trans B) ?_ ?_ a (by simp [k])
  ·unfold notCls;rw[a]
  ·obtain⟨S,U,O,K⟩:=o;simp only at j;subst j;exact D
 ·rw[jh t]at e;by_cases f:b=T
  ·subst f;rw[jc]at e;cases e;exact Z5 F n p
  ·rw[jh f]at e;refine(I.hok b u e).stay (λc v A q=>?_) (λc q=>?_) λc V q=>?_
   ·have y:c≠x:=by
     rcases A with z |z
     ·rw[z];exact t
     ·exact jB z g (by intro q;cases q)
    refine N.keep c v (λL=>?_) y q;have:=l c L;rcases A with z |z
    ·rw[z,e]at this;cases this
    ·rw[z]at this;cases this
   ·rw[jh$ jB q g (by intro z;cases z),jh$ jk q i];exact q
   ·rw[jh$ jB q g (by intro z;cases z),jh$ jk q i];exact q
theorem cw.un{h':Heap}(I:am X pins σ H s)(hex:X.ex=[])(j:H x=some (.ext k))(l:H T=none)(c:s.heap.objs.size<=T)(f:∀b∈p,b∈X.fs∨X.s₀.heap.objs.size<=b)
  (N:cw .none p x y s.heap h'):Un X.fs [] X.H₀ (af (af H T$ eI T) x$ fH C d T x) X.s₀.heap h':=by
 have g:∀b,H b=none->b≠x:=λb e z=>by rw[z,j]at e;cases e
 have r:∀b o,X.s₀.heap.get? b=some o->b≠T:=λb o e=>Ej (Eo (Ef e)$ En I.sz c);have a:∀b:Addr,b∉X.ex:=λb z=>by rw[hex]at z;cases z
 have t:∀b,H b=none->b≠T->af (af H T$ eI T) x (fH C d T x) b=none:=λb e z=>by rw[jh$ g b e,jh z];exact e
 have U:∀b u,H b=some u->(∀k,u≠ .ext k)->af (af H T$ eI T) x (fH C d T x) b=some u:=λb u e z=>by rw[jh (λq=>by rw[q,j]at e;cases e;exact z _ Z),jh$ jk e l];exact e
 refine#[λb o e n h _=>?_,λb o e n h _=>?_,λb o e n _=>?_,λb o e _=>?_,λb v e=>U b _ (I.base.tups b v e) (by intro _ q;cases q),λb o u e=>U b _ (I.base.frzs b o u e) (by intro _ q;cases q),λb P e=>?_]
 ·refine N.keep b o (λz=>?_) (g b$ I.base.free b o e n$ a b)$ I.base.keep b o e n h$ a b;rcases f b z with q |q
  ·exact h q
  ·exact absurd (Eo (Ef e) q)$ Fx _
 ·obtain⟨w,q⟩:=I.base.slot b o e n h (a b);obtain⟨S,Q⟩:=N.slot b _ (g b$ I.base.free b o e n$ a b) q;exact#[S,Q]
 ·exact t b (I.base.free b o e n$ a b)$ r b o e
 ·obtain⟨O,q⟩:=I.base.there b o e (a b);by_cases h:b=x
  ·obtain⟨A,_,_,_,i,_⟩:=N.ex;exact#[_,by rw[h];exact i]
  ·obtain⟨w,Q⟩:=N.slot b O h q;exact#[_,Q]
 ·obtain⟨m,q⟩:=I.base.tbls b P e;exact#[m,U b _ q (by intro _ q;cases q)]
end
section
variable {P:Program}{w:World}{K:Frag}{mg:Str->Option Value}{base:Heap}{N:List Str}{qual:Str}{scope:Scope}{f:Addr}{cd:Value}{A:Around}{outer:List Env}{s₀:Shared}{H₀:Hp}{E:XK}
variable {pins:List (Addr×Obj)}{σ:St}{H:Hp}{s:Shared}{x C:Addr}{d:Option Addr}
theorem sj(I:am (eJ (dP P w) P w K mg base N qual scope f cd A outer s₀ H₀ E) pins σ H s)(c:H x=some (vv C d x))
  (h:∀T,H T=none->E (.ref C) d (af (af H T$ eI T) x$ fH C d T x)):(eJ (dP P w) P w K mg base N qual scope f cd A outer s₀ H₀ E).xe (.ref x) s:=by
 obtain⟨⟨O,l,q,t,r,v,m,n⟩,_⟩:=I.hok x _ c;have g:=(Array.getElem?_eq_some_iff.mp n).1;refine Xy (base:=base) I.ok.frames I.stack Z l m n λy o=>?_;obtain⟨T,p,a,i,j⟩:=o.hok (C:=C) (d:=d) (fl:=.none) I c l q r m g λb k=>I.stkFree b k;have u:=o.un (C:=C) (d:=d) I Z c p i λb k=>by
  rcases List.mem_cons.mp (I.stkSub b k) with e |e
  ·exact .inr (by rw[e];exact I.ok.above)
  ·exact .inl e
 exact#[x,C,d,T,_,Z,I.os,I.bare,u,j,jc,by rw[jh a,jc],a,h T p]
theorem am.cleared{X:Cx}(I:am X pins σ H s)(c:H T=some (eI T))(i:s.heap.get? T=some O)(j:O.data= .fields t)(k:t[3]?=some .none):am X pins σ H { s with heap:=dH T s.heap }:=by
 have h:=EO j (·.setIfInBounds 3 Value.none);have g:=EL (Obj.mapFields (·.setIfInBounds 3 Value.none)) i (Fz h);have:=I.write (x:=T) (e:=T) (o:=eI T) (h':=dH T s.heap) (t':=s.toks) (by rw[c];exact True.intro) (.inl Z) (λb u a q=>(Et _ _$ EA a).trans q) #[_,g] (Z5 g h (by simp [(Array.getElem?_eq_some_iff.mp k).1]));have l:af H T (eI T)=H:=by
  funext b;by_cases a:b=T
  ·rw[a,jc,c]
  ·rw[jh a]
 rw[l]at this;exact this
theorem vm(I:am (eJ (dP P w) P w K mg base N qual scope f cd A outer s₀ H₀ E) pins σ H s)(g:H x=some (fH C d T x))(n:H T=some (eI T))(c:T≠x)
  (h:∀t,H t=none->E (.ref C) d (af (af H t$ eI t) x$ fH C d t x)):(eJ (dP P w) P w K mg base N qual scope f cd A outer s₀ H₀ E).xe (.ref x) s:=by
 obtain⟨⟨O,V,o,D,G,F,p,q⟩,_⟩:=I.hok x _ g;obtain⟨⟨J,L,r,u,v⟩,_⟩:=I.hok T _ n;have i:=(Array.getElem?_eq_some_iff.mp q).1;have y:=I.cleared n r u v;refine X6 (base:=base) I.ok.frames I.stack Z o p q c r u v λM z=>?_;have j:(dH T s.heap).get? x=some O:=(Et _ _ c).trans o;obtain⟨t,B,a,k,l⟩:=cw.hok (C:=C) (d:=d) (fl:=.none) y g j D F p i (λb m=>I.stkFree b m) z;have U:=cw.un (C:=C) (d:=d) y Z g B k (λb m=>by
  rcases List.mem_cons.mp (I.stkSub b m) with e |e
  ·exact .inr (by rw[e];exact I.ok.above)
  ·exact .inl e) z
 exact#[x,C,d,t,_,Z,I.os,I.bare,U,l,jc,by rw[jh a,jc],a,h t B]
theorem ur{j:XK}(m:∀x C d T t a,a x=some (fH C d T x)->a T=some (eI T)->a t=none->j (.ref C) d a->E (.ref C) d (af (af a t$ eI t) x$ fH C d t x)):
  df (dP P w) (eJ (dP P w) P w K mg base N qual scope f cd A outer s₀ H₀ E) j:=by
 intro pins σ H s e S I h;obtain⟨x,C,d,T,a,rfl,os,B,u,c,k,l,i,n⟩:=h;obtain⟨p,g,D,q,o⟩:=S;obtain rfl:o=s.os:=os;have r:=I.call (h':=p) (g':=g) (d':=D) (t':=q) (ch:=[]) u c B (λb z=>absurd z OD);exact vm r k l i λt v=>m x C d T t a k l v n
end
section
open PySem.W
variable {prog:Program}{w:World}{A:Around}{E:Value->Shared->Prop}{K:Frag}{x C:Addr}{ox:Obj}{vs:Array Value}{env:Env}
theorem X7{ev:Sem Value}(e:A.handled=none)
  (h:wpAny (model prog w) A ev (λv S=>∃x C ox vs,v= .ref x/\K.In S.heap/\nX K C/\typeIn K (.ref C)=some (.type "type")/\S.heap.get? x=some ox/\ox.cls= .ref C/\ox.data= .fields vs/\vs[1]?=some .none/\E (.ref x) S) E s):
  wpAny (model prog w) A (raiseStmt env (some ev) none) Q E s:=by
 unfold raiseStmt;refine D9$ Fs h (λv S a=>?_) λ_ _ z=>z;obtain⟨x,C,ox,vs,rfl,X,f,i,b,j,c,m,n⟩:=a;obtain⟨H,g,d,T,os⟩:=S;have L:Looks (model prog w) H (typeOf$ .ref x) (.ref C):=j▸(M9 b).andThen .now;have l:Looks (model prog w) H (isType$ .ref x) false:=by intro y B D F k q;unfold isType loadHead;refine D9$ IN (k _ _ b) ?_;rw[c];exact Ea q
 have _L:=IQ (M:=model prog w) X f.mb;have o:=MM (M:=model prog w) X i;have p:Looks (model prog w) H (isInstance (.ref x)$ .type "BaseException") true:=L.andThen _L;have r:Looks (model prog w) H (isExcClass$ .ref x) false:=by unfold isExcClass;exact l.andThen .now
 have t:Looks (model prog w) H (raisedInstance$ .ref x) (.ref x):=by unfold raisedInstance;exact L.andThen$ o.andThen (by rw[Er OA];exact .now)
 have u:Looks (model prog w) H (excFromValue (.ref x) "exceptions must derive from BaseException") (.ref x):=by unfold excFromValue;exact r.andThen (by rw[Eu OA];exact p.andThen (by rw[Er Z];exact .now))
 refine D9$ Ea ?_;refine D9$ Ez$ u.at ?_;dsimp only;refine D9$ l.at ?_;rw[Eu OA];refine D9$ t.at ?_;unfold setFlight;refine D9$ D9$ EG b c m ?_;rw[Eu OA];exact Ea$ wpAny_raiseNew_none e n
end
def vw(X:Cx)(W:Addr->Addr->Option Addr->Hp->Prop):Prop:=∀(p:List (Addr×Obj)) (a:St) (H:Hp) (s:Shared) (x C:Addr) (d:Option Addr),am X p a H s->H x=some (vv C d x)->W x C d H->X.xe (.ref x) s
theorem Qs{P:Program}{K:Frag}:
  vw (eJ (dP P w) P w K m b N q s f g A o a c E) (λx C d H=>∀T,H T=none->E (.ref C) d (af (af H T$ eI T) x$ fH C d T x)):=
 λ_ _ _ _ _ _ _ I e h=>sj I e h
inductive mI(K:Frag)(b:Addr->Addr->Option Addr->Hp->Prop)(v:V)(a:Hp):Prop
 |mk(x C d:_)(_:v= .ref x)(_:a x=some (vv C d x))(_:nX K C)(_:typeIn K (.ref C)=some (.type "type"))(_:b x C d a)
def yB(K:Frag)(t:TE)(W:Addr->Addr->Option Addr->Hp->Prop):TS:=λ_u0 a H=>t a H (mI K W)
theorem Xe{X:Cx}{e:Expr}{t:TE}{P:Pos}{W:Addr->Addr->Option Addr->Hp->Prop}(f:X.calm=true)(F:vw X W)(g:PE X e t):PS X (.Raise (some e) none P) (yB X.K t W):=by intro p s b H D I h;rw[arm_exec_Raise];refine D9$ GR ?_;refine X7 (K:=X.K) (ev:=do let v <- eval e X.env;standAt P;pure v) (I.ok.hd f)$ D9$ aL (g p s b H _ I h) λu S a=>D9 (GR$ Ea ?_);obtain⟨v,j,i,r,x,C,d,ev,c,k,l,q⟩:=a;subst ev;obtain rfl:u=Value.ref x:=r;obtain⟨⟨o,m,n,z,A,V,w,y⟩,_⟩:=i.hok x _ c;exact#[x,C,o,V,Z,i.kIn,k,l,m,n,w,y,F p b j S x C d i c q]
section
variable {X:Cx}{pins:List (Addr×Obj)}{σ:St}{H:Hp}{s:Shared}{x C:Addr}{d:Option Addr}
theorem am.noted{t':Nat}(I:am X pins σ H s)(a:H x=some (.ext l))(p:s.heap.get? x=some O)(r:O.cls= .ref C)(t:O.dict=d)(v:O.data= .fields w)(c:1 < w.size)
  (N:cw .none (ij X.stack) x O s.heap y):∃T,H T=none/\T≠x/\am X pins σ (af (af H T$ eI T) x$ fH C d T x) { s with heap:=y,toks:=t' }:=by
 obtain⟨T,m,f,g,i⟩:=cw.hok (C:=C) (d:=d) (fl:=.none) I a p r t v c (λb h=>I.stkFree b h) N;have j:∀b,H b=none->b≠x:=λb e z=>by rw[z,a]at e;cases e
 have U:∀b u,H b=some u->(∀l,u≠ .ext l)->af (af H T$ eI T) x (fH C d T x) b=some u:=λb u e z=>by rw[jh (λq=>by rw[q,a]at e;cases e;exact z _ Z),jh$ jk e m];exact e
 refine#[T,m,f,I.call (g':=s.gens) (d':=s.drawn) (ch:=[]) ?_ i I.bare (λb z=>absurd z OD)];refine#[λb o e n h _=>N.keep b o h (j b n) e,λb o e n _ _=>N.slot b o (j b n) e,λb o e n _=>?_,λb o e _=>?_,λb A e=>U b _ e (by intro _ q;cases q),λb o u e=>U b _ e (by intro _ q;cases q),λb P e=>#[(List.toArray []),by rw[U b _ e (by intro _ q;cases q)];simp]]
 ·rw[jh$ j b n,jh$ Ej$ Eo (Ef e) g];exact n
 ·by_cases h:b=x
  ·obtain⟨B,_,_,_,k,_⟩:=N.ex;exact#[_,by rw[h];exact k]
  ·obtain⟨S,q⟩:=N.slot b o h e;exact#[_,q]
end
noncomputable abbrev Cx.mark(X:Cx)(e:Value)(xe:Value->Shared->Prop):Cx:={ X with A:=X.A.mark (some e),calm:=false,xe:=xe }
theorem am.mark{X:Cx}(I:am X p a H s)(e:Value)(x:Value->Shared->Prop):am (X.mark e x) p a H s:=
 #[#[I.ok.mod,I.ok.kind,I.ok.glob,I.ok.blt,I.ok.above,I.ok.inj,I.ok.has,I.ok.cab,(λz=>nomatch (show false=true from z)),I.ok.frames,I.ok.stk,I.ok.exf,I.ok.bs,I.ok.bsz,I.ok.noex,I.ok.exfs,I.ok.funs,I.ok.frf],I.os,I.bare,I.base,I.loc,I.cell,I.free,I.freeC,I.pin,I.hok,I.len]
theorem am.unmark{X:Cx}(o:X.Ok)(I:am (X.mark e x) p a H s):am X p a H s:=
 #[o,I.os,I.bare,I.base,I.loc,I.cell,I.free,I.freeC,I.pin,I.hok,I.len]
section
open PySem.W
theorem qw{K:Frag}(X:K.In h)(a:h.get? x=some o)(b:o.cls= .ref C)(H:clsIn K B≠none)(tB:typeIn K (.ref B)=some (.type "type"))(m:mroIn K B (.type "BaseException")=some true)(c:mroIn K C (.ref B)=some true):
  Looks M h (excMatches (.ref x)$ .ref B) true:=by
 have L:Looks M h (typeOf$ .ref x) (.ref C):=b▸(M9 a).andThen .now;have l:=MM (M:=M) X tB;have _L:Looks M h (isInstance (.ref B)$ .type "tuple") false:=l.andThen (Nk tc_notTuple);have d:Looks M h (isType$ .ref B) true:=by
  unfold clsIn at H;split at H
  ·rename_i e
   intro A Q E s k q;unfold isType loadHead;exact D9$ IN (k _ _$ X _ _ e)$ Ea q
  ·exact absurd Z H
 have f:Looks M h (isExcClass$ .ref B) true:=by unfold isExcClass;exact d.andThen (by rw[Er Z];exact IQ X m)
 have g:=IQ (M:=M) X c;intro A Q E s k q;unfold excMatches;refine D9$ _L A _ E s k ?_;rw[Eu OA];refine D9$ Ea ?_;dsimp only;refine D9 ?_;rw[Ge];refine D9$ D9$ f A _ E s k ?_;simp only[Gu,Em,FF];refine Ea ?_;dsimp only;rw[GX];refine Ea ?_;refine D9$ L A _ E s k ?_;refine D9 ?_;rw[Ge];refine D9$ D9$ g A _ E s k ?_;simp only[Hk];refine Ea$ Ea ?_;exact Ea q
end
abbrev XR:=Addr->Addr->Option Addr->Addr->Hp->Prop
def XW(X:Cx)(p:List (Addr×Obj))(a:St)(R:XR)(e:Value)(s:Shared):Prop:=
 ∃x C d T H,e= .ref x/\am X p a H s/\H x=some (fH C d T x)/\H T=some (eI T)/\T≠x/\R x C d T H
abbrev Ag:=St->Hp->VK->XR->Prop
abbrev CQ:=aJ->XR->St->Hp->Prop
def Co(X:Cx)(e:Expr)(t:Ag):Prop:=
 ∀(p:List (Addr×Obj)) (s:Shared) (a:St) (H:Hp) (Q:VK) (R:XR),am X p a H s->t a H Q R->wpAny (model X.prog X.w) X.A (eval e X.env) (EP X p a Q) (XW X p a R) s
def DA(X:Cx)(st:Stmt)(t:CQ):Prop:=
 ∀(p:List (Addr×Obj)) (s:Shared) (a:St) (H:Hp) (D:aJ) (R:XR),am X p a H s->t D R a H->wpAny (model X.prog X.w) X.A (exec st X.env) (SP X p D) (XW X p a R) s
def DQ(R:XR):XK:=λc d H=>∀x C T,c= .ref C->H x=some (fH C d T x)->H T=some (eI T)->T≠x->R x C d T H
def yS(s:Sp)(d:List V)(t:TA):Ag:=λa H Q R=>t a H λv h=>s (v++d) h Q (DQ R)
section
variable {X:Cx}{k:Nat}{f:Addr}{fd:FuncData}{ps:List Str}{sp:Sp}{dvs:List V}{ds:List Value}{x:Str}{p pos:Pos}{e:Expr}{es:List Expr}{t:TA}{te:Ag}
theorem pC(F:aj X.prog X.w X.K X.mg X.base (dP X.prog X.w) k f fd ps sp)(y:bH k X.A)(D:Gl X x)(E:X.mg x=some (.ref f))(G:keepIn X.K (.ref f)=true)(J:ax X.K fd ps ds)(L:ar dvs ds)
  (M:PA X.nox (e::es) t) (g:(x==("__debug__":Str))=false:=by decide) (N:starEach (e::es) X.env=(false,eval e X.env)::starEach es X.env:=by rfl) (j:(backTo pos$ starEach es X.env).any (·.1)=false:=by rfl):
  Co X (.Call (.Name x p) (e::es) [] pos) (yS sp dvs t):=by
 intro P s O H Q R I h;refine EU$ zh I D E ?_ g;refine Ld (h₀:=X.base) I.ok.mod.kin G (Fs (M pos P s O H _ (I.wish _) h) (λU S #[v,W,i,r,q]=>#[i.kIn,?_]) λ_ _ z=>z.elim) N j;have i:=i.unwish;have m:ar (v++dvs) (U++ds):=r.append L;have Y:(U++ds).length=ps.length:=by rw[<- m.length];exact F.len _ _ _ _ q
 refine Mj$ Ga (F.run X.A X.stack S W #[U,[]] (U++ds) (v++dvs) Q (DQ R) y i.env0 (J S U i.kIn Y) m q) λr s' a=>?_;cases r with
 |error e=>obtain⟨x,C,d,T,H',rfl,os,B,un,l,n,o,c,hw⟩:=a;exact#[x,C,d,T,H',Z,i.call' os un l B (λb z=>absurd z OD),n,o,c,hw x C T Z n o c]
 |ok fl=>
  cases fl with
  |ret u=>exact i.after a
  |next=>exact False.elim a
  |brk=>exact False.elim a
  |cont=>exact False.elim a
theorem uH{i:Nat}{y:Str}{P:Pos}(d:X.N.Nodup)(g:X.N[i]?=some y)(j:nU X.env.scope y)(l:Co X e te)(m:swapsWith e (some$ .Name y P) pos.line X.env=pure false:=by rfl)(n:X.fn y=true∨X.env.scope.names.lookup y=some .local:=by first |exact .inl Z |exact .inr Z |assumption):
  DA X (.Assign [.Name y P] e pos) (λD R b H=>te b H (λv c=>D.nx (b.set i$ some v) c) R):=by
 intro a s b H D R I h;refine NC (aL (l a s b H _ R I h) λv S z=>?_) m;obtain⟨y,c,o,r,q⟩:=z;exact zw o d g j r (λw u=>#[_,c,u,q]) n
end
theorem aU.ok1{P:Program}{K:Frag}{st:Stmt}{a:Sp}(F:aU K x q st f g)(S:al N p (aa st))(len:∀v H Q E,a v H Q E->v.length=p.length)
  (h:∀(c:Value) (A:Around) (o:List Env) (s:Shared) (H:Hp) (v:List V) (Q:VK) (E:XK),bH k (A.deeper$ envOfC q (aa st) s.heap.objs.size f c)->a v H Q E->
   ∃t,iY (eJ (dP P w) P w K m b N q (aa st) f c A o s H E) (a9 st) t/\t { nx:=λ_ i=>Q .non i,rt:=Q } (eX N v) H):aj P w K m b (dP P w) (k+1) f g p a:=by
 obtain⟨l,n,kV,D,r,u,c,C,O,rfl,lk,d⟩:=F.ex;exact vQ lk d S len λA o s H v Q E j e=>h c A o s H v Q E j e
section
variable {prog:Program}{w:World}{A:Around}{E:Value->Shared->Prop}{s:Shared}
theorem X8{Q:Nat->Shared->Prop}(H:n≠0)(h:∀i d,i < n->Q i { s with drawn:=d }):wpAny (model prog w) A (choose a n) Q E s:=by intro Γ p _;show Sem.wp _ Γ (.choose a n .pure) _ _ p s;rw[Sem.wp_choose];exact#[H,h _ _$ Oy _$ Nat.pos_of_ne_zero H]
theorem Xz{α:Type}:∀(n:Nat) (xs:List α) (s:Shared) {Q:List α->Shared->Prop},xs.length=n->(∀ys d,ys.Perm xs->Q ys { s with drawn:=d })->
  wpAny (model prog w) A (drawOrder n xs) Q E s:=by
 intro n;induction n with
 |zero=>
  intro xs s Q hl h;cases xs with
  |nil=>unfold drawOrder;exact Ea$ h [] s.drawn .rfl
  |cons _ _=>cases hl
 |succ n ih=>
  intro xs s Q hl h;cases xs with
  |nil=>cases hl
  |cons x r=>unfold drawOrder;refine D9$ X8 OD λi d hi=>?_;have hg:(x::r)[i]?=some ((x::r)[i]'hi):=Ed hi;rw[hg];dsimp only;refine D9$ ih _ _ (by rw[Ls hi,hl];rfl) λys d' hp=>Ea (h _ d' ?_);refine(List.Perm.cons _ hp).trans ?_;rw[I9];refine List.perm_middle.symm.trans ?_;rw[Md,Mp]
end
noncomputable def iW:Value->Str
 | .str x _=>x
 |_=>#[(List.toArray [])]
theorem KQ(t:SetTable)(n:Nat):(t.orStandIn n).led=t.led:=by
 unfold SetTable.orStandIn;split
 ·rfl
 ·rfl
theorem X9(t:SetTable)(e:Array (Int×Value))(h:Int)(x:Value):(layNew t e h x).2.1.led=t.led:=by
 unfold layNew;split
 ·exact KQ _ _
 ·rfl
theorem QT(t:SetTable)(E:Array (Int×Value))(n:Nat):(relayAll t E n).2.1.led=t.led:=by
 unfold relayAll;split
 ·rename_i T o e
  unfold SetTable.relaid SetTable.laid at e;cases h:SetTable.layClean (SetTable.sizeAbove n - 1) (E.map (·.1)) with
  |none=>rw[h]at e;cases e
  |some O=>rw[h]at e;cases e;dsimp only;split<;>rfl
 ·rfl
theorem KC(t:SetTable)(E:Array (Int×Value))(n:Nat)(H:t.plain=false):(relayAll t E n).2.1.plain=false:=by
 unfold relayAll;split
 ·rename_i T o e
  unfold SetTable.relaid SetTable.laid at e;cases h:SetTable.layClean (SetTable.sizeAbove n - 1) (E.map (·.1)) with
  |none=>rw[h]at e;cases e
  |some O=>
   rw[h]at e;cases e;dsimp only;split
   ·exact H
   ·rfl
 ·rfl
def cg(p:Program)(w:World)(h:Heap)(a:Addr)(L:List Str):Prop:=
 ∃o E b t,h.get? a=some o/\o.ExactSet/\o.data= .set E b t/\ElemsOf (PySem.strKind p w) E.toList/\(E.toList.map λe=>iW e.2).Perm L/\L.Nodup
  /\E.size < scanBound/\t.fits E.size=true/\t.led=!(w.params.followText "set-order")/\(t.plain=false∨E.size=0)
theorem cg.at{H:Heap}{a:Addr}(x:cg p w h a L)(e:∀o,h.get? a=some o->H.get? a=some o):cg p w H a L:=
 let #[o,E,b,t,c,r]:=x;#[o,E,b,t,e o c,r]
section
variable {prog:Program}{w:World}{A:Around}{E:Value->Shared->Prop}{s:Shared}
theorem JF{a:Array (Int×Value)}(b:ElemsOf (PySem.strKind prog w) a.toList)(x:Str):
  (a.toList.findIdx? (λe=>(PySem.strKind prog w).is x e.2)=none↔¬x∈a.toList.map λe=>iW e.2):=by
 rw[List.findIdx?_eq_none_iff];constructor
 ·intro h m;obtain⟨e,H,f⟩:=List.mem_map.mp m;obtain⟨⟨k,g,_⟩,_⟩:=b e H;obtain⟨t,c⟩:=Hq g;have q:=h e H;rw[c]at f q;have d:k=x:=f;subst d;have Q:(PySem.strKind prog w).is k (.str k t)=true:=strKind_is prog w k t;rw[Q]at q;cases q
 ·intro h e H;cases q:(PySem.strKind prog w).is x e.2 with
  |false=>rfl
  |true=>obtain⟨t,c⟩:=Hq q;exact absurd (List.mem_map.mpr #[e,H,by rw[c];rfl]) h
theorem JG{b:Array (Int×Value)}{T:SetTable}(d:s.heap.get? a=some o)(f:o.ExactSet)(h:o.data= .set p c t)
  (g:ElemsOf (PySem.strKind prog w) b.toList) (i:(b.toList.map λe=>iW e.2).Perm L) (j:L.Nodup) (k:b.size < scanBound) (l:T.fits b.size=true)
  (m:T.led=!(w.params.followText "set-order")) (n:T.plain=false):
  (s.heap.update a$ Obj.putSet b T).get? a=some { o with data:=.set b (c+1) T }/\cg prog w (s.heap.update a$ Obj.putSet b T) a L:=by
 have H:(s.heap.update a$ Obj.putSet b T).get? a=some { o with data:=.set b (c+1) T }:=by have q:=EL (Obj.putSet b T) d (by rw[putSet_of b T h];rfl);rwa [putSet_of b T h]at q
 exact#[H,_,b,c+1,T,H,f,Z,g,i,j,k,l,m,.inl n]
theorem XA{Q : Bool -> Shared -> Prop}(hS : cg prog w s.heap a L)(room : L.length + 1 < scanBound)
    (h : ∀ b R l, Heap.SameBut a s.heap R -> cg prog w R a (if x ∈ L then L else L ++ [x]) -> s.toks <= l -> Q b { s with heap := R, toks := l }) :
    wpAny (model prog w) A (setAdd a$ .str x f) Q E s := by
  obtain ⟨o, g, ep, t, n, U, u, H, v, B, hb, V, X, Y⟩ := hS;have d : (PySem.strKind prog w).is x (.str x f) = true := strKind_is prog w x f;have C : g.size = L.length := by rw [<- v.length_eq, Ec, EE]
  unfold setAdd;refine Ez$ D9 ((PySem.strKind prog w).pyHash (k := x) d ?_);unfold setAddHashed setAddHashedIn;refine Ez$ D9$ Gf (s := { s with toks := s.toks + 1 }) n u V ?_;dsimp only;rw [byScan_of Z hb H];simp only [↓reduceIte];unfold setAddByScan;refine D9$ D9$ FV$ D9$ wpAny_setScan_of (knd := PySem.strKind prog w) d n u V H ?_;cases hr : List.findIdx? (λe => (PySem.strKind prog w).is x e.2) g.toList with
  | some j =>
    dsimp only;have D : x ∈ L := by refine Decidable.byContradiction λhn => ?_;have q := (JF (prog := prog) (w := w) H x).mpr λm => hn (v.mem_iff.mp m);rw [q] at hr; cases hr
    have q := h false s.heap (s.toks + 1) (LG a s.heap) (by rw [Er D]; exact #[o, g, ep, t, n, U, u, H, v, B, hb, V, X, Y]) (Fq _);exact Ea$ Ea q
  | none =>
    dsimp only;have D : ¬ x ∈ L :=λm => (JF (prog := prog) (w := w) H x).mp hr (v.mem_iff.mpr m);have W : ∀ (b : Bool) {S : Shared} {Q' : Unit -> Shared -> Prop}, Q' () S -> wpAny (model prog w) A (match b with | true => rule "set.scan.the-table-gave-way" | false => pure ()) Q' E S := by
      intro b S Q' hq;cases b
      · exact Ea hq
      · exact FV hq
    have p := layNew_perm t g ((PySem.strKind prog w).hash x) (.str x f);have M := layNew_fits t g ((PySem.strKind prog w).hash x) (.str x f);have O := X9 t g ((PySem.strKind prog w).hash x) (.str x f);generalize layNew t g ((PySem.strKind prog w).hash x) (.str x f) = N at p M O ⊢;obtain ⟨c, t1, w0, g4⟩ := N;dsimp only at p M O ⊢;rw [MH] at p;have F : ElemsOf (PySem.strKind prog w) c.toList := (H.push d Z).perm p;have P : (c.toList.map λe => iW e.2).Perm (L ++ [x]) := by refine (p.map _).trans ?_;rw [EF];exact v.append_right _
    have G : (L ++ [x]).Nodup := List.nodup_append.mpr #[B, by simp,λy hy z hz e => by rw [IM] at hz; subst hz; subst e; exact D hy];have nL : c.size = g.size + 1 := by rw [<- EE, p.length_eq, Eg, EE]; rfl
    have b1 : c.size < scanBound := by rw [nL, C]; exact room
    refine D9$ W _ ?_;have i : ∀ T : SetTable, T.fits c.size = true -> T.led = t.led -> T.plain = false ->
        wpAny (model prog w) A (do
          storeSet a c T
          if (!w0 && T.tooFull) = true then do
              (match (relayAll T c$ SetTable.grown c.size).2.2 with | true => rule "set.scan.the-table-gave-way" | false => pure ())
              storeSet a (relayAll T c$ SetTable.grown c.size).1 (relayAll T c$ SetTable.grown c.size).2.1
              pure (some true)
            else pure (some true)) (λr s' => r = some true /\ Q true s') E { s with toks := s.toks + 1 } := by
      intro T g1 g2 g3;refine D9$ NA (s := { s with toks := s.toks + 1 }) n u ?_$ Il b1;obtain ⟨o1, S1⟩ := JG (s := s) (prog := prog) (w := w) n U u F P G b1 g1 (g2.trans X) g3;have I := F8 s.heap a (Obj.putSet c T);split
      · have J := relayAll_perm T c (SetTable.grown c.size)
        have f2 := relayAll_fits T c (SetTable.grown c.size);have l2 := QT T c (SetTable.grown c.size);have q2 := KC T c (SetTable.grown c.size) g3;generalize relayAll T c (SetTable.grown c.size) = Z at J f2 l2 q2 ⊢;obtain ⟨K, t3, g0⟩ := Z;dsimp only at J f2 l2 q2 ⊢;have cj : K.size = c.size := by rw [<- EE, J.length_eq, EE]
        have b2 : K.size < scanBound := by rw [cj]; exact b1
        refine D9$ W _$ D9$ NA (s := { s with heap := s.heap.update a (Obj.putSet c T), toks := s.toks + 1 }) o1 Z ?_$ Il b2;obtain ⟨_, S2⟩ := JG (s := { s with heap := s.heap.update a (Obj.putSet c T) }) (prog := prog) (w := w) o1 U Z (F.perm J) ((J.map _).trans P) G b2 f2 (l2.trans$ g2.trans X) q2;exact Ea #[Z, h true _ _ (I.trans$ F8 _ a _) (by rw [Eu D]; exact S2) (Fq _)]
      · exact Ea #[Z, h true _ _ I (by rw [Eu D]; exact S1) (Fq _)]
    split
    · rename_i tp
      refine D9 ?_;rw [hashByValue_scannable 8 (x := .str x f) Z];refine Ea ?_;have e0 : plainKind (.str x f) = false := rfl;rw [e0];simp only [Em, ↓reduceIte];refine Fs (i { t1 with plain := false } (SetTable.fits_plain_off M) O Z) (λr s' q => ?_) λ_ _ z => z;obtain ⟨rfl, q⟩ := q;exact Ea q
    · rename_i tp
      refine D9$ Ea ?_;simp only [↓reduceIte];refine Fs (i t1 M O (by simpa using tp)) (λr s' q => ?_) λ_ _ z => z;obtain ⟨rfl, q⟩ := q;exact Ea q
end
noncomputable def be(w:World):Obj:={ cls:=.type "set",dict:=none,data:=.set (List.toArray []) 0 (.fresh 0 0 (!(w.params.followText "set-order"))) }
section
variable {prog:Program}{w:World}{A:Around}{E:Value->Shared->Prop}{s:Shared}
theorem XB{h:Heap}(e:h.get? a=some (be w)):cg prog w h a []:=
 #[_,(List.toArray []),0,_,e,#[Z,Z,Z],Z,λ_ z=>by simp at z,OD,IA,(by decide:(0:Nat) < scanBound),Z,Z,.inr Z]
theorem KR(a:Value){G:Value->Shared->Prop}(h:G (.ref s.heap.objs.size) { s with heap:=s.heap.push (be w) }):
  codeAny (model prog w) A (.call (.builtin "set.__new__") #[[.type "set",a],[]]) (wants G E) s:=by
 refine LX ?_;show wpAny _ A.in1 (do checkBuiltinCall "set.__new__" _;again (.builtin "set.__new__" _)) _ _ s;refine D9$ Ij (PySem.F.newCall_set_1 a)$ Ea #[FD LU _,Ff PySem.F.entry_set_new ?_];rw[ER LU];unfold Builtin.«set.__new__» Builtin.Frozenset.newClass;have o:=sub_set_self;obtain⟨H,g,d,t,os⟩:=s;dsimp only;wp_walk;refine G7$ Ea ?_;dsimp only;simp only[newObj];exact D9$ wpAny_alloc$ Ea$ Ea h
end
theorem StrsAre.at':∀{V:List Value} {s:List Str},StrsAre V s->∀(i:Nat) (v:Value),V[i]?=some v->∃x t,s[i]?=some x/\v= .str x t
 |_,_,.nil,i,v,h=>by simp at h
 |_,_,.cons y t r,0,v,h=>by simp at h;exact#[y,t,Z,h.symm]
 |_,_,.cons y t r,i+1,v,h=>by simp only[LZ]at h;obtain⟨x,T,e,E⟩:=StrsAre.at' r i v h;exact#[x,T,by simpa using e,E]
theorem StrsAre.len:∀{v:List Value} {s:List Str},StrsAre v s->s.length=v.length
 |_,_,.nil=>rfl
 |_,_,.cons _ _ r=>by simp [StrsAre.len r]
theorem j4:Slot "set_iterator" "__next__" "set_iterator.__next__":=by
 refine .of (owner:="set_iterator") (n:="__next__") ?_ OE OE OE ?_ ?_
 ·rw[Fn,EQ];kernel_rfl
 ·first |exact .inl OE |exact .inr OE
 ·rw[FX];kernel_rfl
theorem qe:Slot "set_iterator" "__iter__" "set_iterator.__iter__":=by
 refine .of (owner:="set_iterator") (n:="__iter__") ?_ OE OE OE ?_ ?_
 ·rw[Fn,EQ];kernel_rfl
 ·first |exact .inl OE |exact .inr OE
 ·rw[FX];kernel_rfl
theorem Jv:entryFor table "set_iterator.__next__"=some Builtin.«set_iterator.__next__»:=Hs (by kernel_rfl)
theorem Jw:entryFor table "set_iterator.__iter__"=some Builtin.«dict_keyiterator.__iter__»:=by refine IS (id':="dict_keyiterator.__iter__") ?_ Z OE ?_<;>kernel_rfl
theorem JK:entryFor table "set.__iter__"=some Builtin.«frozenset.__iter__»:=by refine IS (id':="frozenset.__iter__") ?_ Z OE ?_<;>kernel_rfl
theorem JL(a:Value):argsOk "set_iterator.__next__" #[[a],[]]:=by unfold argsOk;kernel_rfl
theorem JM(a:Value):argsOk "set_iterator.__iter__" #[[a],[]]:=by unfold argsOk;kernel_rfl
def bN(h:Heap)(I:Addr)(f:Value)(i:Nat)(S:Addr)(n e:Nat):Prop:=
 ∃o,h.get? I=some o/\o.cls= .type "set_iterator"/\o.data= .fields (List.toArray [f,.int i 0,.ref S,.int n 0,.int e 0])
theorem bN.at{H:Heap}{S:Addr}(x:bN h I f i S n E)(e:∀o,h.get? I=some o->H.get? I=some o):bN H I f i S n E:=
 let #[o,a,r]:=x;#[o,e o a,r]
theorem bN.is{s:Shared}{S:Addr}(x:bN s.heap I f i S n e):s.TypeIs (.ref I) "set_iterator":=let #[o,h,H,_]:=x;#[o,h,H]
section
variable {prog:Program}{w:World}{A:Around}{E:Value->Shared->Prop}{s:Shared}
theorem JQ{c:Type}{Q:c->Shared->Prop}(d:A.handled=none)
  (h:∀H e,(∀b o,s.heap.get? b=some o->H.get? b=some o)->Shared.TypeIs { s with heap:=H } e "StopIteration"->E e { s with heap:=H }):
  wpAny (model prog w) A (do raiseNew (<- newExc (.type "StopIteration") []):Sem c) Q E s:=by
 refine D9 ?_;simp only[newExc,newTuple];refine D9$ EZ ?_ (by size_fits);refine D9 (m:=firstArgMember _ _)$ Ij (a:=Value.none) ?_ ?_
 ·first |rfl | (simp only[firstArgMember];rfl)
 refine EZ ?_ (by size_fits);simp only[raiseNew];refine D9$ wpAny_handled ?_;rw[d];refine D9$ Ea$ wpAny_throw$ h _ _ (λb o e=>Eb _ (Eb _ e)) ?_;exact#[_,Ei _ Z,Z]
theorem JR{S:Addr}(H:bN s.heap I f i S n c)
  (h:wpAny (model prog w) A.in1 (Builtin.«set_iterator.__next__» #[[.ref I],[]]) (λF a=>∃v,F= .done (.ret v)/\Q (some v) a) (λe a=>a.TypeIs e "StopIteration"/\Q none a) s):
  wpAny (model prog w) A (pyNext$ .ref I) Q E s:=by
 unfold pyNext;refine D9$ GS$ EW (name:=Str.ofString "__next__") H.is j4$ EV j4 H.is Jv ?_$ JL _;refine Fs h (λF a q=>?_) λe a q=>?_
 ·obtain⟨v,e,q⟩:=q;exact#[v,e,Ea q]
 ·exact D9$ Gm (T:="StopIteration") (b:=true) q.1 IR$ Ea q.2
theorem Qt{I:Addr}{f:Value}{i:Nat}{S:Addr}{n a:Nat}{o:Obj}{v:Array Value}(H:s.heap.get? I=some o)(b:o.cls= .type "set_iterator")(h:o.data= .fields v)(k:Nat)(x:Value)
  (e:v.setIfInBounds k x=(List.toArray [f,.int i 0,.ref S,.int n 0,.int a 0])):bN (s.heap.update I$ Obj.mapFields (·.setIfInBounds k x)) I f i S n a:=
 #[_,EL _ H$ Fz$ EO h _,(Hn ..).trans b,by rw[EO h,e]]
theorem Ya{I S P:Addr}{i:Nat}{O j:Obj}{e:Array (Int×Value)}{a:Nat}{t:SetTable}{k:Array Value}{c p:Nat}{hx:Int}{x:Value}{Q:Option Value->Shared->Prop}
  (h:bN s.heap I (.ref P) i S e.size a) (l:s.heap.get? S=some O) (H:O.data= .set e a t) (m:t.fits e.size=true) (n:s.heap.get? P=some j) (b:j.data= .seq k c)
  (q:k[i]?=some (.int p 0)) (r:e[p]?=some (hx,x)) (u:∀d,bN d I (.ref P) (i+1) S e.size a->Heap.SameBut I s.heap d->Q (some x) { s with heap:=d }):
  wpAny (model prog w) A (pyNext$ .ref I) Q E s:=by
 refine JR h ?_;obtain⟨o,f,v,g⟩:=h;show wpAny _ _ (fieldsOf (.ref I) >>= _) _ _ s;refine D9$ IP f g ?_;dsimp only;refine D9$ Hf l H m ?_;simp only[Gy,Em,↓reduceIte];refine D9$ Fb n b ?_;simp only[FE,q];unfold setNextDrawn;refine D9$ D9$ Gf l H m ?_;simp only[Gy,Em,↓reduceIte,r];refine Ea ?_;refine D9$ Fo f g OD$ Ea #[x,Z,u _ ?_$ F8 ..];exact Qt f v g _ _ (by simp [rawInt])
theorem KD(q:A.handled=none){I S P:Addr}{i:Nat}{O l:Obj}{d:Array (Int×Value)}{m:Nat}{t:SetTable}{p:Array Value}{c:Nat}{Q:Option Value->Shared->Prop}
  (h:bN s.heap I (.ref P) i S d.size m) (r:s.heap.get? S=some O) (f:O.data= .set d m t) (u:t.fits d.size=true) (v:s.heap.get? P=some l) (g:l.data= .seq p c)
  (x:p[i]?=none) (y:∀H,(∀b o,b≠I->s.heap.get? b=some o->H.get? b=some o)->Q none { s with heap:=H }):
  wpAny (model prog w) A (pyNext$ .ref I) Q E s:=by
 refine JR h ?_;obtain⟨o,j,B,a⟩:=h;show wpAny _ _ (fieldsOf (.ref I) >>= _) _ _ s;refine D9$ IP j a ?_;dsimp only;refine D9$ Hf r f u ?_;simp only[Gy,Em,↓reduceIte];refine D9$ Fb v g ?_;simp only[FE,x];refine D9$ Fo j a OD ?_;refine D9$ Fo (EL _ j$ Fz$ EO a _) (EO a _) OD ?_;refine JQ (s:={ s with heap:=_ }) (by simpa using q) λH e k T=>#[T,y H λb o n z=>k b o ?_];exact(Et _ _$ EA n).trans ((Et _ _$ EA n).trans z)
end
section
variable {prog:Program}{w:World}{A:Around}{E:Value->Shared->Prop}{s:Shared}
theorem Qu{I S:Addr}{i j nx:Nat}{O:Obj}{e:Array (Int×Value)}{a:Nat}{t:SetTable}{x:Value}{Q:Option Value->Shared->Prop}
  (h:bN s.heap I (.int j 0) i S e.size a) (f:s.heap.get? S=some O) (b:O.data= .set e a t) (k:t.fits e.size=true)
  (l:∀(q:Option (Value×Nat)->Shared->Prop) m,q (some (x,nx)) s->wpAny (model prog w) A.in1 (setNext S j i a) q m s)
  (n:∀c,bN c I (.int nx 0) (i+1) S e.size a->Heap.SameBut I s.heap c->Q (some x) { s with heap:=c }):
  wpAny (model prog w) A (pyNext$ .ref I) Q E s:=by
 refine JR h ?_;obtain⟨o,d,p,H⟩:=h;show wpAny _ _ (fieldsOf (.ref I) >>= _) _ _ s;refine D9$ IP d H ?_;dsimp only;refine D9$ Hf f b k ?_;simp only[Gy,Em,↓reduceIte];simp only[FE];refine D9$ l _ _ ?_;dsimp only;refine D9$ Fo d H OD ?_;have g:=EL (Obj.mapFields (·.setIfInBounds 0 (rawInt nx))) d (Fz$ EO H _);have D:=EO H (·.setIfInBounds 0 (rawInt nx));refine D9$ Fo g D OD$ Ea #[x,Z,n _ ?_ ((F8 ..).trans$ F8 ..)];exact Qt (s:={ s with heap:=_ }) g ((Hn ..).trans p) D _ _ (by simp [rawInt])
theorem qx(l:A.handled=none){I S:Addr}{i j:Nat}{O:Obj}{a:Array (Int×Value)}{c:Nat}{t:SetTable}{Q:Option Value->Shared->Prop}
  (h:bN s.heap I (.int j 0) i S a.size c) (m:s.heap.get? S=some O) (d:O.data= .set a c t) (n:t.fits a.size=true)
  (p:∀(q:Option (Value×Nat)->Shared->Prop) r,q none s->wpAny (model prog w) A.in1 (setNext S j i c) q r s)
  (u:∀H,(∀b o,b≠I->s.heap.get? b=some o->H.get? b=some o)->Q none { s with heap:=H }):
  wpAny (model prog w) A (pyNext$ .ref I) Q E s:=by
 refine JR h ?_;obtain⟨o,f,y,g⟩:=h;show wpAny _ _ (fieldsOf (.ref I) >>= _) _ _ s;refine D9$ IP f g ?_;dsimp only;refine D9$ Hf m d n ?_;simp only[Gy,Em,↓reduceIte];simp only[FE];refine D9$ p _ _ ?_;dsimp only;refine D9$ Fo f g OD ?_;refine JQ (s:={ s with heap:=_ }) (by simpa using l) λH e k T=>#[T,u H λb o v x=>k b o ?_];exact(Et _ _$ EA v).trans x
theorem Jg(a:w.params.followText "set-order"=true){S:Addr}(b:s.heap.get? S=some o)(H:o.data= .set c d t)
  (f:t.fits c.size=true) {Q:Option (Value×Nat)->Shared->Prop} (h:Q (((pickOrder (w.params.setOrder S d) c)[i]?).map λe=>(e.2,j)) s):
  wpAny (model prog w) A (setNext S j i d) Q E s:=by
 unfold setNext;refine D9$ Gf b H f ?_;dsimp only;unfold setsByText;refine D9$ D9$ G7$ Ea ?_;dsimp only;rw[show(model prog w).w.params.followText "set-order"=_ from a];simp only[↓reduceIte,Gy,Em];unfold setWalk;refine D9$ D9$ Gf b H f ?_;dsimp only;unfold setsByText;refine D9$ D9$ G7$ Ea ?_;dsimp only;rw[show(model prog w).w.params.followText "set-order"=_ from a];simp only[↓reduceIte];exact D9$ G7$ Ea$ Ea h
theorem JH(a:w.params.followText "set-order"=false){S:Addr}(b:s.heap.get? S=some o)(H:o.data= .set e c t)
  (d:t.fits e.size=true) (f:t.led=true) (l:e.size<=1) {Q:Option (Value×Nat)->Shared->Prop}
  (h:Q (match e[SetTable.below t.place j]?,t.place[SetTable.below t.place j]? with |some (_,x),some k=>some (x,k+1) |_,_=>none) s):
  wpAny (model prog w) A (setNext S j i c) Q E s:=by
 unfold setNext;refine D9$ Gf b H d ?_;dsimp only;unfold setsByText;refine D9$ D9$ G7$ Ea ?_;dsimp only;rw[show(model prog w).w.params.followText "set-order"=_ from a];simp only[Em,↓reduceIte];split
 ·rename_i z
  have g:(!t.plain&&decide (e.size > 1))=true:=z;simp only[Fv,IB]at g;omega
 ·refine D9 ?_;show wpAny _ _ (if (!t.led&&!e.isEmpty)=true then _ else _) _ _ _;rw[f];simp only[Gu,Nq,Em,↓reduceIte];exact Ea$ Ea h
end
theorem XC{a:Type}(f:Nat->Nat):∀(n k:Nat) (l:List a) (o:Array a),l.length=n->(pickOrder.go f n k l o).toList.Perm (o.toList++l):=by
 intro n;induction n with
 |zero=>intro k l o h;rw[List.length_eq_zero_iff.mp h];unfold pickOrder.go;simp
 |succ n i=>intro k l o h;unfold pickOrder.go;have H:f k % l.length < l.length:=Oy _ OB;rw[Ed H];dsimp only;refine(i _ _ _ (by rw[Ls H,h];rfl)).trans ?_;rw[MH,HL,List.singleton_append];refine List.Perm.append_left _ ?_;rw[I9];refine List.perm_middle.symm.trans ?_;rw[Md,Mp]
theorem j9{a:Type}(f:Nat->Nat)(x:Array a):(pickOrder f x).toList.Perm x.toList:=by have h:=XC f x.size 0 x.toList (List.toArray []) (EE ..);simpa [pickOrder] using h
theorem Xf{a:Type}(x:Array a)(d:a):(List.range x.size).map (λp=>(x[p]?).getD d)=x.toList:=by
 refine List.ext_getElem OD λi b h=>?_;have H:i < x.size:=by simpa using h
 simp [H]
def lO(ord:List (Int×Value))(i:Nat)(v:Value):Prop:=∃e,ord[i]?=some e/\v=e.2
section
variable {prog:Program}{w:World}{A:Around}{E:Value->Shared->Prop}{s:Shared}
theorem qK{S:Addr}(H:bN s.heap I f i S n e){Q:Value->Shared->Prop}(h:Q (.ref I) s):wpAny (model prog w) A (pyIter$ .ref I) Q E s:=by refine Lm H.is qe$ EV qe H.is Jw ?_$ JM _;show wpAny _ _ (ret$ .ref I) _ _ s;exact Ea #[_,Z,"set_iterator",_,H.is,j4.lookup,h]
theorem Yb(D:A.handled=none)(I S P:Addr)(l:S≠I)(m:P≠I){O oP:Obj}{y:List Nat}{c:Nat}(f:O.data= .set d G t)
  (u:t.fits d.size=true) (g:oP.data= .seq (y.map λ(i:Nat)=>rawInt i).toArray c) (n:y.Perm (List.range d.size)):
  WalksS prog w A I [I,S,P] [I] (λa b=>b=a) d.size (lO$ y.map λp=>(d[p]?).getD (0,.none))
   (λi s=>bN s.heap I (.ref P) i S d.size G/\s.heap.get? S=some O/\s.heap.get? P=some oP) where
 sub:=λb H=>by simp at H;simp [H]
 grefl:=λ_=>Z
 gtrans:=λ_ _ _ F J=>J.trans F
 frame:=λi s v T st _ k=>#[st.1.at λo e=>k I OD o e,k S OD _ st.2.1,k P OD _ st.2.2]
 item:=λi s Q E K st j=>by
  have B:y.length=d.size:=by rw[n.length_eq,IY]
  have h:i < y.length:=by omega
  have C:y[i] < d.size:=List.mem_range.mp (n.mem_iff.mp$ HW h);refine Ya (p:=y[i]) (hx:=(d[y[i]]).1) (x:=(d[y[i]]).2) st.1 st.2.1 f u st.2.2 g (by simp [h,rawInt]) (by simp [C]) λv q r=>?_;refine j _ _ #[d[y[i]],by simp [h,C],Z] #[q,?_,?_] #[λb o H e=>?_,Z,Z,Z,Ee _]
  ·rw[r.2 S l];exact st.2.1
  ·rw[r.2 P m];exact st.2.2
  ·rw[r.2 b (λz=>H (by simp [z]))];exact e
 done:=λs Q E st j=>by
  have B:y.length=d.size:=by rw[n.length_eq,IY]
  refine KD D st.1 st.2.1 f u st.2.2 g (by simp [B]) λv k=>j _ #[λb o H e=>k b o (λz=>H (by simp [z])) e,Z,Z,Z,Ee _]
 self:=λ_ _ _ _ st j=>qK st.1 j
theorem Zj(r:A.handled=none)(m:w.params.followText "set-order"=true)(I S:Addr)(l:S≠I){O:Obj}(h:O.data= .set c d t)
  (j:t.fits c.size=true):
  WalksS prog w A I [I,S] [I] (λa b=>b=a) c.size (lO (pickOrder (w.params.setOrder S d) c).toList)
   (λi s=>bN s.heap I (.int (0:Nat) 0) i S c.size d/\s.heap.get? S=some O) where
 sub:=λb H=>by simp at H;simp [H]
 grefl:=λ_=>Z
 gtrans:=λ_ _ _ u v=>v.trans u
 frame:=λi s n T st _ k=>#[st.1.at λo e=>k I OD o e,k S OD _ st.2]
 item:=λi s Q E D st f=>by
  have y:(pickOrder (w.params.setOrder S d) c).size=c.size:=by rw[<- EE,(j9 _ _).length_eq,EE]
  have g:i < (pickOrder (w.params.setOrder S d) c).size:=by omega
  refine Qu (x:=(pickOrder (w.params.setOrder S d) c)[i].2) (nx:=0) st.1 st.2 h j (λB C q=>Jg m st.2 h j (by rw[FT g];exact q)) λn q p=>?_;refine f _ _ #[(pickOrder (w.params.setOrder S d) c)[i],by rw[FY];exact FT g,Z] #[q,?_] #[λb o H e=>?_,Z,Z,Z,Ee _]
  ·rw[p.2 S l];exact st.2
  ·rw[p.2 b (λz=>H (by simp [z]))];exact e
 done:=λs Q E st f=>by
  have y:(pickOrder (w.params.setOrder S d) c).size=c.size:=by rw[<- EE,(j9 _ _).length_eq,EE]
  refine qx r st.1 st.2 h j (λB C q=>Jg m st.2 h j (by rw[Ii OB];exact q)) λn k=>f _ #[λb o H e=>k b o (λz=>H (by simp [z])) e,Z,Z,Z,Ee _]
 self:=λ_ _ _ _ st f=>qK st.1 f
theorem Yc(p:Nat):SetTable.below (List.toArray [p]) 0=0:=by simp [SetTable.below,SetTable.below.go]
theorem Yd(p:Nat):SetTable.below (List.toArray [p]) (p+1)=1:=by simp [SetTable.below,SetTable.below.go]
theorem sf(G:A.handled=none)(u:w.params.followText "set-order"=false)(I S:Addr)(n:S≠I){O:Obj}(h:O.data= .set c L t)
  (g:t.fits c.size=true) (v:t.led=true) (y:c.size<=1):
  WalksS prog w A I [I,S] [I] (λa b=>b=a) c.size (lO c.toList)
   (λi s=>(∃j:Nat,bN s.heap I (.int j 0) i S c.size L/\(i=0->j=0)/\(i=1->∃p,t.place=(List.toArray [p])/\j=p+1))/\s.heap.get? S=some O) where
 sub:=λb d=>by simp at d;simp [d]
 grefl:=λ_=>Z
 gtrans:=λ_ _ _ K M=>M.trans K
 frame:=λi s B W st _ k=>#[let #[j,a,r]:=st.1;#[j,a.at λo e=>k I OD o e,r],k S OD _ st.2]
 item:=λi s Q E X st l=>by
  obtain⟨⟨j,H,J,C⟩,f⟩:=st;have N:i=0:=by omega
  subst N;cases J Z;have D:c.size=1:=by omega
  have P:t.place.size=1:=by simp only[SetTable.fits,Fv,beq_iff_eq]at g;omega
  obtain⟨p,m⟩:=Array.size_eq_one_iff.mp P;refine Qu (x:=(c[0]'OB).2) (nx:=p+1) H f h g (λR T q=>JH u f h g v y (by rw[m,Yc,FT OB];exact q)) λB q F=>?_;refine l _ _ #[c[0]'OB,by rw[FY];exact FT OB,Z] #[#[_,q,λz=>by omega,λ_=>#[p,m,Z]],?_] #[λb o d e=>?_,Z,Z,Z,Ee _]
  ·rw[F.2 S n];exact f
  ·rw[F.2 b (λz=>d (by simp [z]))];exact e
 done:=λs Q E st l=>by
  obtain⟨⟨j,H,J,C⟩,f⟩:=st;refine qx G H f h g (λR T q=>JH u f h g v y ?_) λB k=>l _ #[λb o d e=>k b o (λz=>d (by simp [z])) e,Z,Z,Z,Ee _];by_cases z:c.size=0
  ·rw[Ii (show c.size<=_ by omega)];exact q
  ·have D:c.size=1:=by omega
   obtain⟨p,U,V⟩:=C D;subst V;rw[U,Yd,Ii (show c.size<=1 by omega)];exact q
 self:=λ_ _ _ _ st l=>let #[#[_,a,_],_]:=st;qK a l
end
theorem z9{prog:Program}{w:World}(h:ElemsOf (PySem.strKind prog w) E)(i:Nat)(v:Value)(b:lO E i v):∃x t,(E.map λe=>iW e.2)[i]?=some x/\v= .str x t:=by obtain⟨e,H,rfl⟩:=b;obtain⟨⟨k,c,_⟩,_⟩:=h e (Ey H);obtain⟨t,a⟩:=Hq c;exact#[k,t,by rw[EB,H];show some (iW e.2)=_;rw[a];rfl,a]
def wI(p:Program)(w:World)(s c:Shared)(S I:Addr)(L:List Str):Prop:=
 ∃(f:List Addr) (d:List Str) (P:Nat->Value->Prop) (St:Nat->Shared->Prop),(∀b o,s.heap.get? b=some o->c.heap.get? b=some o)/\c.gens=s.gens/\c.os=s.os/\s.toks<=c.toks/\
  s.heap.objs.size<=I/\I < c.heap.objs.size/\c.TypeIs (.ref I) "set_iterator"/\(∀b∈f,b=S∨s.heap.objs.size<=b)/\(∀A:Around,A.handled=none->WalksS p w A I f [I] (λa b=>b=a) d.length P St)/\St 0 c/\
  (∀i v,P i v->∃x t,d[i]?=some x/\v= .str x t)/\d.Perm L
section
variable {prog:Program}{w:World}{A:Around}{E:Value->Shared->Prop}{s:Shared}
theorem Ye{S:Addr}(V:cg prog w s.heap S L){Q:Value->Shared->Prop}(h:∀f I,wI prog w s f S I L->Q (.ref I) f):wpAny (model prog w) A (pyIter$ .ref S) Q E s:=by
 obtain⟨o,a,x,t,H,W,m,n,M,X,r,u,Y,N⟩:=V;have P:s.TypeIs (.ref S) "set":=#[o,H,W.1];have v:S < s.heap.objs.size:=Ef H;refine Lm P LQ$ EV LQ P JK ?_$ PySem.F.args_set_iter_1 _;unfold Builtin.«frozenset.__iter__»;show wpAny _ _ (Builtin.Frozenset.sizeOf S >>= _) _ _ s;unfold Builtin.Frozenset.sizeOf;refine D9$ D9$ Hf H m u$ Ea ?_;unfold setDrawn;refine D9$ D9$ Gf H m u ?_;dsimp only;unfold setsByText;refine D9$ D9$ G7$ Ea$ Ea ?_;split
 ·rename_i z
  have B:(!(w.params.followText "set-order")&&(!t.plain&&decide (a.size > 1)))=true:=z;simp only[Fv,IB]at B;refine D9$ Xz a.size (List.range a.size) s OD λy d G=>?_;have C:y.length=a.size:=by rw[G.length_eq,IY]
  have O:((y.map λ(i:Nat)=>rawInt i).length)<=sizeLine:=by rw[Ec,C];exact Il r
  refine D9$ Mh (s:={ s with drawn:=d }) ?_ O;refine D9 ?_;unfold setEpoch;refine D9$ Gf (Eb _ H) m u$ Ea ?_;refine D9$ EZ$ Ea #[_,Z,"set_iterator",_,#[_,Ei _ Z,Z],j4.lookup,h _ _ ?_];generalize J:s.heap.push { cls:=.type "tuple",data:=.seq (y.map λ(i:Nat)=>rawInt i).toArray }=g;have R:g.objs.size=s.heap.objs.size+1:=by rw[<- J,Fe]
  have gP:g.get? s.heap.objs.size=some { cls:=.type "tuple",data:=.seq (y.map λ(i:Nat)=>rawInt i).toArray }:=by rw[<- J];exact Ei _ Z
  have gS:g.get? S=some o:=by rw[<- J];exact Eb _ H
  refine#[[g.objs.size,S,s.heap.objs.size],(y.map λp=>(a[p]?).getD (0,.none)).map λe=>iW e.2,lO$ y.map λp=>(a[p]?).getD (0,.none),
   (λi f=>bN f.heap g.objs.size (.ref s.heap.objs.size) i S a.size x/\f.heap.get? S=some o/\f.heap.get? s.heap.objs.size=some { cls:=.type "tuple",data:=.seq (y.map λ(i:Nat)=>rawInt i).toArray }),λb o e=>?_,Z,Z,Ee _,?_,?_,#[_,Ei _ Z,Z],λb r=>?_,
   λT D=>?_,#[#[_,Ei _ Z,Z,Z],Eb _ gS,Eb _ gP],?_,?_]
  ·exact Eb _ (by rw[<- J];exact Eb _ e)
  ·show s.heap.objs.size<=g.objs.size;omega
  ·show g.objs.size < (g.push _).objs.size;rw[Fe];exact EX _
  ·simp only[Fi,EC,Hi]at r;rcases r with e |e |e
   ·subst e;exact .inr OB
   ·exact .inl e
   ·rw[e];exact .inr (Ee _)
  ·have q:=Yb (prog:=prog) (w:=w) D g.objs.size S s.heap.objs.size (Ej (by rw[R];exact GL v)) (Ej (by rw[R];exact EX _)) m u (oP:={ cls:=.type "tuple",data:=.seq (y.map λ(i:Nat)=>rawInt i).toArray }) (c:=0) Z G;simpa [C] using q
  ·refine z9 (prog:=prog) (w:=w)$ n.perm ?_;have q:=G.map λp=>(a[p]?).getD ((0:Int),Value.none);rwa [Xf]at q
  ·have q:=G.map λp=>(a[p]?).getD ((0:Int),Value.none);rw[Xf]at q;exact(q.map _).trans M
 ·rename_i z
  have B:¬(!(w.params.followText "set-order")&&(!t.plain&&decide (a.size > 1)))=true:=z;refine D9$ Ea ?_;refine D9 ?_;unfold setEpoch;refine D9$ Gf H m u$ Ea ?_;refine D9$ EZ$ Ea #[_,Z,"set_iterator",_,#[_,Ei _ Z,Z],j4.lookup,h _ _ ?_];have k:∀b∈[s.heap.objs.size,S],b=S∨s.heap.objs.size<=b:=λb r=>by
   simp only[Fi,EC,Hi]at r;rcases r with e |e
   ·subst e;exact .inr (Ee _)
   ·exact .inl e
  have l:∀U:Obj,s.heap.objs.size < (s.heap.push U).objs.size:=λU=>by rw[Fe];exact EX _
  cases K:w.params.followText "set-order" with
  |true=>
   have pl:(pickOrder (w.params.setOrder S x) a).toList.length=a.size:=by rw[(j9 _ _).length_eq,EE]
   refine#[[s.heap.objs.size,S],(pickOrder (w.params.setOrder S x) a).toList.map λe=>iW e.2,lO (pickOrder (w.params.setOrder S x) a).toList,
    (λi f=>bN f.heap s.heap.objs.size (.int (0:Nat) 0) i S a.size x/\f.heap.get? S=some o),λb o e=>Eb _ e,Z,Z,Ee _,Ee _,l _,#[_,Ei _ Z,Z],k,
    λT D=>?_,#[#[_,Ei _ Z,Z,Z],Eb _ H],?_,?_]
   ·have q:=Zj (prog:=prog) (w:=w) D K s.heap.objs.size S (Ej v) m u;rw[Ec,pl];exact q
   ·exact z9 (prog:=prog) (w:=w)$ n.perm$ j9 _ _
   ·exact((j9 _ _).map _).trans M
  |false=>
   have hs:a.size<=1:=by
    rw[K]at B;rcases N with e |e
    ·rw[e]at B;simp at B;exact B
    ·omega
   refine#[[s.heap.objs.size,S],a.toList.map λe=>iW e.2,lO a.toList,
    (λi f=>(∃j:Nat,bN f.heap s.heap.objs.size (.int j 0) i S a.size x/\(i=0->j=0)/\(i=1->∃p,t.place=(List.toArray [p])/\j=p+1))/\f.heap.get? S=some o),λb o e=>Eb _ e,Z,Z,Ee _,Ee _,l _,#[_,Ei _ Z,Z],k,
    λT D=>?_,#[#[0,#[_,Ei _ Z,Z,Z],λ_=>Z,λz=>by cases z],Eb _ H],?_,?_]
   ·have q:=sf (prog:=prog) (w:=w) D K s.heap.objs.size S (Ej v) m u (by rw[Y,K];rfl) hs;rw[Ec,EE];exact q
   ·exact z9 (prog:=prog) (w:=w) n
   ·exact M
theorem qy:∀(V:List Value) (S:List Str),V.length=S.length->(∀(i:Nat) (v:Value),V[i]?=some v->∃x t,S[i]?=some x/\v=Value.str x t)->StrsAre V S
 | [],[],_,_=>.nil
 | [],_::_,h,_=>by cases h
 |_::_,[],h,_=>by cases h
 |v::V,y::S,h,k=>by obtain⟨x,t,e,rfl⟩:=k 0 v Z;cases e;exact .cons y t$ qy V S (by simpa using h) λi u H=>k (i+1) u (by simpa using H)
theorem KS{S:Addr}(hh:A.handled=none)(y:cg prog w s.heap S L){Q:List Value->Shared->Prop}
  (h:∀a V g,s.heap.objs.size<=a.heap.objs.size->(∀b o,s.heap.get? b=some o->a.heap.get? b=some o)->a.gens=s.gens->a.os=s.os->s.toks<=a.toks->StrsAre V g->g.Perm L->Q V a):wpAny (model prog w) A (collect$ .ref S) Q E s:=by
 have n:L.length < scanBound:=by obtain⟨o,es,ep,t,j,M,hd,h0,u,h1,k,hf,hl,h2⟩:=y;rw[<- u.length_eq,Ec,EE];exact k
 unfold collect;refine D9$ Mg$ Ff K' ?_;rw[ER J'];show wpAny _ A.in1 (newList [] >>= λl=>again (.builtin "list.__iadd__" #[[l,.ref S],[]])) _ _ s;refine D9$ EZ$ Ea #[FD GY _,Ff Lq ?_];rw[ER GY];show wpAny _ A.in1 (Builtin.List.listExtendWith (.ref s.heap.objs.size) (.ref S)$ .ref s.heap.objs.size) _ _ _;unfold Builtin.List.listExtendWith;have p:S < s.heap.objs.size:=by obtain⟨o,_,_,_,j,_⟩:=y;exact Ef j
 generalize x:s.heap.push { cls:=.type "list",data:=.seq ([]:List Value).toArray }=H;have gl:H.get? s.heap.objs.size=some { cls:=.type "list",data:=.seq ([]:List Value).toArray }:=by rw[<- x];exact Ei _ Z
 have R:cg prog w H S L:=y.at λo e=>by rw[<- x];exact Eb _ e
 have gk:∀b o,s.heap.get? b=some o->H.get? b=some o:=λb o e=>by rw[<- x];exact Eb _ e
 have T:Shared.TypeIs { s with heap:=H } (.ref S) "set":=by obtain⟨o,_,_,_,j,M,_⟩:=R;exact#[o,j,M.1]
 refine D9$ FG T ?_;have n1:Builtin.List.listSameRef (.ref s.heap.objs.size) (.ref S)=false:=by simp only[Builtin.List.listSameRef,Lo];exact EN p
 have n2:(Value.type "set"==Value.type "list")=false:=by decide
 have n3:(Value.type "set"==Value.type "tuple")=false:=by decide
 simp only[n1,n2,n3,IK,Em,FF];refine D9$ Ye (s:={ s with heap:=H }) R λr I B=>?_;obtain⟨fp,g,P,St,K,kg,ko,kt,C,h3,h4,D,W,st,hv,u⟩:=B;have G:H.objs.size=s.heap.objs.size+1:=by rw[<- x,Fe]
 have f:r.TypeIs (.ref S) "set":=by obtain⟨o,j,hc⟩:=T;exact#[o,K _ _ j,hc]
 refine D9$ Ez ?_;unfold Builtin.List.listLengthHint;refine D9$ FM f PySem.F.slot_set_len.lookup ?_
 wp_delta
 refine D9$ Gm (b:=true) f sub_set_self ?_;show wpAny _ A.in1 (typeOf (Value.ref S) >>= _) _ _ _;refine D9$ FG f$ Ea ?_;rw[Er OA];refine D9$ FV ?_;have U:=K _ _ gl;refine D9 ?_;show wpAny _ A.in1 (updateSeq s.heap.objs.size (·.push .none) >>= λ_=>updateSeq s.heap.objs.size (·.pop)) _ _ _;refine D9$ GN U Z ?_;have X:=EL (Obj.mapSeq (·.push Value.none)) U Z;refine GN X Z ?_;have g3:=EL (Obj.mapSeq (·.pop)) X Z;have N:¬s.heap.objs.size∈fp:=λm=>by
  rcases D _ m with e |e
  ·exact absurd p (by rw[<- e];exact Fx _)
  ·have e':H.objs.size<=s.heap.objs.size:=e;omega
 have O:∀b o,b≠s.heap.objs.size->r.heap.get? b=some o->((r.heap.update s.heap.objs.size$ Obj.mapSeq (·.push Value.none)).update s.heap.objs.size$ Obj.mapSeq (·.pop)).get? b=some o:=
  λb o k e=>(Et _ _$ EA k).trans ((Et _ _$ EA k).trans e)
 have Y:=W A.in1 (by simpa using hh);have hn:g.length<=sizeLine:=by rw[u.length_eq];exact Il n
 refine Ea #[FD GU _,IU Y hn _ N _ g.length 0 _ _ _ Z (Ek _) (Y.frame 0 r _ r.toks st (Ee _) λb k o e=>O b o (λz=>N (z▸k)) e) g3 (Ma P) λa J c m gS d=>?_];show wpAny _ A (load s.heap.objs.size >>= _) _ _ a;refine D9$ Nu gS$ Ea$ h a J.toList g (GF$ Ef gS) (λb o e=>?_) ?_ ?_ ?_ ?_ u
 ·have ne:b≠s.heap.objs.size:=Ej (Ef e);refine m.heap b o ?_$ O b o ne$ K b o$ gk b o e;simp only[Fi,EC,Hi,Lh];refine#[ne,λz=>?_];have q:s.heap.objs.size+1<=I:=G▸C;have q2:=Ef e;rw[z]at q2;exact absurd (Eo (GL q2) q)$ Fx _
 ·exact m.gens.trans kg
 ·exact m.os.trans ko
 ·exact En kt m.toks
 ·refine qy _ _ (by rw[EE,d.1]) λi v e=>hv i v (d.2 i v (by rwa [FY]at e))
end
section
variable {prog:Program}{w:World}{A:Around}{E:Value->Shared->Prop}{s:Shared}
theorem QU{S:Addr}(z:A.handled=none)(B:cg prog w s.heap S L)(j:L.length < 64){Q:Value->Shared->Prop}
  (h:∀f a c v i,s.heap.objs.size<=a->(∀b o,s.heap.get? b=some o->f.heap.get? b=some o)->f.gens=s.gens->f.os=s.os->f.heap.get? a=some (seqObj "list" v c)->StrsAre v.toList i->i.Perm L->sortedS i=true->Q (.ref a) f):
  wpAny (model prog w) A (call (.builtin "sorted") [.ref S]) Q E s:=by
 refine Calls.call_function_entry kind_sorted plain_sorted entry_sorted (args_sorted1 _) ?_;unfold Builtin.«sorted»;refine D9 (m:=checkCount "sorted" 1 1 _)$ Ea ?_;refine D9$ KS (by simpa using z) B λd v i K k C D P H r=>?_;have F:v.length < 64:=by rw[<- _L.StrsAre.len H,r.length_eq];exact j
 refine D9$ wpAny_newList ?_ (by have q:sizeLine=1000000000∨64<=sizeLine:=.inr OA;omega);have g:=Ei d.heap (o:=seqObj "list" v.toArray 0) Z;refine D9$ Ez$ EV slot_list_sort #[_,g,Z] entry_list_sort (list_sort_treeK strKind_oneLt g H.keysOf (λV t R e=>keyKind_strs (by rw[<- e];exact H)) F λl G I=>#[_,Z,?_]) (args_list_sort _);obtain⟨n,u,J,M⟩:=sorted_out_str H G I;generalize (arrOf l).map (·.2)=out at u ⊢;obtain⟨c,N⟩:=sortedHeap_at (out:=out) g;have O:∀b o,s.heap.get? b=some o->(sortedHeap (d.heap.push$ seqObj "list" v.toArray 0) d.heap.objs.size v out).get? b=some o:=by
  intro b o e;have x:=k b o e;have y:b < d.heap.objs.size:=Ef x;have p:b < (d.heap.push$ seqObj "list" v.toArray 0).objs.size:=by rw[size_push'];exact GL y
  rw[sortedHeap_old (Ej y) p];exact Eb _ x
 exact Ea #[_,Z,h { d with heap:=sortedHeap (d.heap.push$ seqObj "list" v.toArray 0) d.heap.objs.size v out } d.heap.objs.size c out n K O C D N u (J.trans r) M]
end
theorem Jh(h:StrsAre v s):ar (s.map V.str) v:=by
 induction h with
 |nil=>exact .nil
 |cons y t _ i=>exact .cons #[t,Z] i
noncomputable def Cu(P:Program)(w:World)(a:Addr)(L:List Str):HO:=.ext λh=>cg P w h a L
section
variable {X:Cx}
theorem qc(i:X.calm=true):dw X (.builtin "sorted") (λx H Q=>∃(p:Addr) (L:List Str),x=[.ref p]/\H p=some (Cu X.prog X.w p L)/\L.length < 64/\
  ∀l S,H l=none->S.Perm L->L.Nodup->sortedS S=true->Q (.ref l) (af H l$ .lst$ S.map V.str)):=by
 intro P s B H x U Q I r h;obtain⟨p,L,rfl,j,d,q⟩:=h;obtain⟨u,rfl,R⟩:=dC r;cases R;obtain⟨f,_,_⟩:=I.hok p _ j;have b:L.Nodup:=by obtain⟨_,_,_,_,_,_,_,_,_,b,_⟩:=f;exact b
 refine QU (I.ok.hd i) f d λm a c v S e k K o t y g A=>?_;have len:(S.map V.str).length<=sizeLine:=by rw[Ec,g.length_eq];exact En (GF d) OA
 have n:aM X.prog X.w (af H a$ .lst$ S.map V.str) m.heap a (.lst$ S.map V.str):=#[len,v.toList,c,Jh y,t];refine#[.ref a,_,I.call' (ch:=[]) o (Un.laid k e$ I.hok.fresh e) (I.hok.laid k e n) (by rw[K];exact I.bare) (λ_ z=>nomatch z),Z,q _ _ (I.hok.fresh e) g b A]
theorem QV:dw X (.builtin "sorted") (λx H Q=>∃(p:Addr) (a:List Str),x=[.ref p]/\aF X.K H p (a.map V.str)/\a.length < 64/\
  ∀l S,H l=none->S.Perm a->sortedS S=true->Q (.ref l) (af H l$ .lst$ S.map V.str)):=by
 intro P s v H x U Q I r h;obtain⟨p,a,rfl,f,b,q⟩:=h;obtain⟨u,rfl,R⟩:=dC r;cases R;obtain⟨i,g,j,y⟩:=I.list f;have d:=zY g;have k:i.length=a.length:=(_L.StrsAre.len d).symm;refine sorted_strs j.isList d (by rw[k];exact b) λo S m A n=>?_;obtain⟨c,t⟩:=sortedAll_at s.heap i o;have len:(S.map V.str).length<=sizeLine:=by rw[Ec,A.length_eq];exact En (GF b) OA
 refine#[.ref$ s.heap.objs.size+1,_,I.laid (t':=s.toks) (λ_ _ e=>sortedAll_old e) (Fq _) (show aM X.prog X.w _ _ _ (.lst$ S.map V.str) from #[len,o.toList,c,Jh m,t]),Z,q _ _ (I.hok.fresh$ Fq _) A n]
end
theorem YF:mroOf (.type "reversed")=pure [.type "reversed",.type "object"]:=by rw[mroOf_type];kernel_rfl
theorem KE:typeLookup (.type "reversed") "__new__"=pure (some$ .builtin "reversed.__new__"):=by rw[Fn,EQ];kernel_rfl
theorem KU:Slot "reversed" "__init__" "object.__init__":=by
 refine .of (owner:="object") (n:="__init__") ?_ OE OE OE ?_ ?_
 ·rw[Fn,EQ];kernel_rfl
 ·first |exact .inl OE |exact .inr OE
 ·rw[FX];kernel_rfl
theorem Yf:TypeCalled "reversed" "reversed.__new__" "object.__init__":=by refine#[OE,OE,#[_,_,YF],madeBy_type YF KE OE,OE,?_,KU];rw[FX];kernel_rfl
theorem QW(a:Value):checkTypeCall "reversed" #[[a],[]]=pure ():=by kernel_rfl
theorem XD(a:Value):checkBuiltinCall "reversed.__new__" #[[.type "reversed",a],[]]=pure ():=by kernel_rfl
theorem KW:entryFor table "reversed.__new__"=some Builtin.«reversed.__new__»:=Hs (by kernel_rfl)
theorem YG:isSubtype (.type "reversed") (.type "reversed")=pure true:=by rw[FX];kernel_rfl
theorem QX:typeLookup (.type "tuple") "__reversed__"=pure none:=by rw[Fn,EQ];kernel_rfl
theorem KF:isSubtype (.type "tuple") (.type "dict")=pure false:=by rw[FX];kernel_rfl
noncomputable def revObj(t:Addr)(n:Int):Obj:={ cls:=.type "reversed",data:=.fields (List.toArray [.ref t,.int (n - 1) 0]) }
section
variable {prog:Program}{w:World}{A:Around}{E:Value->Shared->Prop}{s:Shared}
theorem Xg{Q:Value->Shared->Prop}(H:IsTup s.heap t i)(c:(i.size:Int) < 2 ^ 63)
  (h:Q (.ref s.heap.objs.size) { s with heap:=s.heap.push (revObj t i.size),toks:=s.toks+1+1 }):wpAny (model prog w) A (call (.type "reversed") [.ref t]) Q E s:=by
 refine callType_new (S:=λ_ R a=>a=s/\R (.ok$ .ret$ .ref s.heap.objs.size) { s with heap:=s.heap.push (revObj t i.size),toks:=s.toks+1+1 }) Yf OA (QW _) (XD _) (λo=>Le o _) KW
  (.of_wp λp W f R a d=>?_) #[Z,#[_,Ei _ Z,Z],h]
 obtain⟨rfl,e⟩:=d;unfold Builtin.«reversed.__new__» Builtin.SmallTypes.newClass;refine D9 ?_;dsimp only;refine D9$ Ea ?_;simp only[Gu,Em,FF];refine D9$ Ij YG ?_;simp only[Gu,Em,FF];refine Ea ?_;refine D9 (m:=Builtin.SmallTypes.refuseKeywords _ _ _)$ Ea ?_;refine D9 (m:=checkCount "reversed" 1 1 _)$ Ea ?_;dsimp only;refine D9$ FM H.typeIs QX ?_;dsimp only;refine D9 ?_;show wpAny _ _ (isInstance (.ref t) (.type "dict") >>= _) _ _ _;refine D9$ Gm (b:=false) H.typeIs KF ?_;simp only[Em,FF];refine D9$ FM H.typeIs PyProof.Rows.slot_tuple_getitem.lookup ?_;dsimp only;rw[Er OE];refine Ea ?_;simp only[Gu,Em,FF];refine D9$ NK H c ?_;refine D9 (m:=asInt? _)$ Ea ?_;dsimp only;show wpAny _ _ (newObj (.type "reversed") (.fields [Value.ref t,rawInt ((i.size:Int) - 1)].toArray) >>= _) _ _ _;exact D9$ EZ$ Ea #[_,Z,e]
end
theorem zJ:Slot "reversed" "__next__" "reversed.__next__":=by
 refine .of (owner:="reversed") (n:="__next__") ?_ OE OE OE ?_ ?_
 ·rw[Fn,EQ];kernel_rfl
 ·first |exact .inl OE |exact .inr OE
 ·rw[FX];kernel_rfl
theorem qA:Slot "reversed" "__iter__" "reversed.__iter__":=by
 refine .of (owner:="reversed") (n:="__iter__") ?_ OE OE OE ?_ ?_
 ·rw[Fn,EQ];kernel_rfl
 ·first |exact .inl OE |exact .inr OE
 ·rw[FX];kernel_rfl
theorem zK:Slot "reversed" "__length_hint__" "reversed.__length_hint__":=by
 refine .of (owner:="reversed") (n:="__length_hint__") ?_ OE OE OE ?_ ?_
 ·rw[Fn,EQ];kernel_rfl
 ·first |exact .inl OE |exact .inr OE
 ·rw[FX];kernel_rfl
theorem KG:entryFor table "reversed.__next__"=some Builtin.«reversed.__next__»:=Hs (by kernel_rfl)
theorem KH:entryFor table "reversed.__length_hint__"=some Builtin.«reversed.__length_hint__»:=Hs (by kernel_rfl)
theorem KI:entryFor table "reversed.__iter__"=some Builtin.«dict_keyiterator.__iter__»:=by refine IS (id':="dict_keyiterator.__iter__") ?_ Z OE ?_<;>kernel_rfl
theorem KY(a:Value):argsOk "reversed.__next__" #[[a],[]]:=by unfold argsOk;kernel_rfl
theorem KZ(a:Value):argsOk "reversed.__iter__" #[[a],[]]:=by unfold argsOk;kernel_rfl
theorem K0(a:Value):argsOk "reversed.__length_hint__" #[[a],[]]:=by unfold argsOk;kernel_rfl
theorem Yg:typeLookup (.type "reversed") "__len__"=pure none:=by rw[Fn,EQ];kernel_rfl
def b8(h:Heap)(I t:Addr)(k:Int):Prop:=∃o,h.get? I=some o/\o.cls= .type "reversed"/\o.data= .fields (List.toArray [.ref t,.int k 0])
theorem b8.at{H:Heap}(x:b8 h I t k)(e:∀o,h.get? I=some o->H.get? I=some o):b8 H I t k:=let #[o,a,r]:=x;#[o,e o a,r]
theorem b8.is{s:Shared}(x:b8 s.heap I t k):s.TypeIs (.ref I) "reversed":=let #[o,h,H,_]:=x;#[o,h,H]
section
variable {prog:Program}{w:World}{A:Around}{E:Value->Shared->Prop}{s:Shared}
theorem Xh(H:b8 s.heap I t k)
  (h:wpAny (model prog w) A.in1 (Builtin.«reversed.__next__» #[[.ref I],[]]) (λf S=>∃v,f= .done (.ret v)/\Q (some v) S) (λe S=>S.TypeIs e "StopIteration"/\Q none S) s):
  wpAny (model prog w) A (pyNext$ .ref I) Q E s:=by
 unfold pyNext;refine D9$ GS$ EW (name:=Str.ofString "__next__") H.is zJ$ EV zJ H.is KG ?_$ KY _;refine Fs h (λf S q=>?_) λe S q=>?_
 ·obtain⟨v,e,q⟩:=q;exact#[v,e,Ea q]
 ·exact D9$ Gm (T:="StopIteration") (b:=true) q.1 IR$ Ea q.2
theorem vY{I t:Addr}{k:Nat}{items:Array Value}{x:Value}{Q:Option Value->Shared->Prop}(H:b8 s.heap I t k)(c:IsTup s.heap t items)(d:items[k]?=some x)(e:(items.size:Int) < 2 ^ 63)
  (f:∀b,b8 b I t ((k:Int) - 1)->Heap.SameBut I s.heap b->Q (some x) { s with heap:=b,toks:=s.toks+1 }):wpAny (model prog w) A (pyNext$ .ref I) Q E s:=by
 refine Xh H ?_;obtain⟨o,a,g,h⟩:=H;have i:k < items.size:=(Array.getElem?_eq_some_iff.mp d).1;show wpAny _ _ (field (.ref I) 0 >>= _) _ _ s;refine D9$ EG a h (x:=.ref t) Z$ D9$ EG a h (x:=.int k 0) Z ?_;dsimp only;rw[Eu OB];refine D9$ FM c.typeIs PyProof.Rows.slot_tuple_getitem.lookup ?_;simp only[Mr,Em,FF];refine D9$ wpAny_mkInt$ D9$ GS ?_;refine getItem_tuple (s:={ s with toks:=s.toks+1 }) c OB OB (j:=k) ?_ d ?_
 ·unfold seqIndex?;simp;omega
 refine D9$ EG (s:={ s with toks:=s.toks+1 }) a h (x:=.int k 0) Z ?_;dsimp only;refine D9$ Fo a h OD$ Ea #[x,Z,f _ ?_$ F8 ..];exact#[_,EL _ a$ Fz$ EO h _,(Hn ..).trans g,by rw[EO h];simp [rawInt]]
theorem Qv(f:A.handled=none){Q:Option Value->Shared->Prop}(h:b8 s.heap I t (-1))
  (g:∀a,(∀b o,b≠I->s.heap.get? b=some o->a.get? b=some o)->Q none { s with heap:=a }):wpAny (model prog w) A (pyNext$ .ref I) Q E s:=by
 refine Xh h ?_;obtain⟨o,c,j,H⟩:=h;show wpAny _ _ (field (.ref I) 0 >>= _) _ _ s;refine D9$ EG c H (x:=.ref t) Z$ D9$ EG c H (x:=.int (-1) 0) Z ?_;dsimp only;rw[Er OA];refine D9$ FV$ D9 ?_;show wpAny _ _ (setField (.ref I) 1 (rawInt (-1)) >>= λ_=>setField (.ref I) 0 .none) _ _ _;refine D9$ Fo c H OD ?_;refine Fo (EL _ c$ Fz$ EO H _) (EO H _) OD ?_;refine D9 ?_;refine JQ (s:={ s with heap:=_ }) (by simpa using f) λa e k T=>#[T,g a λb o d i=>k b o ?_];exact(Et _ _$ EA d).trans ((Et _ _$ EA d).trans i)
theorem mq(H:b8 s.heap I t k){Q:Value->Shared->Prop}(h:Q (.ref I) s):wpAny (model prog w) A (pyIter$ .ref I) Q E s:=by refine Lm H.is qA$ EV qA H.is KI ?_$ KZ _;show wpAny _ _ (ret$ .ref I) _ _ s;exact Ea #[_,Z,"reversed",_,H.is,zJ.lookup,h]
theorem Ca(j:A.handled=none)(I t:Addr)(l:t≠I){items:Array Value}(c:(items.size:Int) < 2 ^ 63):
  WalksS prog w A I [I,t] [I] (λa b=>b=a) items.size (λi v=>items.toList.reverse[i]?=some v) (λi s=>b8 s.heap I t ((items.size:Int) - 1 - i)/\IsTup s.heap t items) where
 sub:=λb h=>by simp at h;simp [h]
 grefl:=λ_=>Z
 gtrans:=λ_ _ _ m n=>n.trans m
 frame:=λi s f T st _ k=>#[st.1.at λo e=>k I OD o e,let #[o,d,r]:=st.2;#[o,k t OD o d,r]]
 item:=λi s Q E p st H=>by
  have e:((items.size:Int) - 1 - i)=((items.size - 1 - i:Nat):Int):=by omega
  have g:items.size - 1 - i < items.size:=by omega
  rw[e]at st;refine vY st.1 st.2 (x:=items[items.size - 1 - i]) (by simp [g]) c λf q S=>?_;refine H _ _ ?_ #[?_,?_] #[λb o h e=>?_,Z,Z,Z,Fq _]
  ·rw[Gk (by simpa using p)];simp [g]
  ·have u:((items.size:Int) - 1 - ((i+1:Nat):Int))=((items.size - 1 - i:Nat):Int) - 1:=by omega
   rw[u];exact q
  ·obtain⟨o,d,r⟩:=st.2;exact#[o,by rw[S.2 t l];exact d,r]
  ·rw[S.2 b (λz=>h (by simp [z]))];exact e
 done:=λs Q E st H=>by
  have e:((items.size:Int) - 1 - (items.size:Int))= -1:=by omega
  rw[e]at st;exact Qv j st.1 λf k=>H _ #[λb o h e=>k b o (λz=>h (by simp [z])) e,Z,Z,Z,Ee _]
 self:=λ_ _ _ _ st H=>mq st.1 H
end
section
variable {prog:Program}{w:World}{A:Around}{E:Value->Shared->Prop}{s:Shared}
theorem AV{a:Array Value}(H:b8 s.heap I t ((a.size:Int) - 1))(f:IsTup s.heap t a)(n:a.size<=sizeLine){Q:Bool->Shared->Prop}
  (h:∀b T,s.toks<=T->Q b { s with toks:=T }):wpAny (model prog w) A (Builtin.List.listLengthHint$ .ref I) Q E s:=by
 have g:=cy;unfold Builtin.List.listLengthHint;refine D9$ FM H.is Yg ?_;show wpAny _ A (specialOf (Value.ref I) (Str.ofString "__length_hint__") >>= _) _ _ _;refine D9$ FM H.is zK.lookup ?_;have e:splitId "reversed.__length_hint__"=some ("reversed","__length_hint__"):=by decide+kernel
 dsimp only;rw[e];dsimp only;refine D9$ Gm (b:=true) H.is YG ?_;simp only[Gu,Em,FF];rw[Eu OE];refine D9$ FV ?_;refine D9$ Ij (zK.bind$ .ref I) ?_;dsimp only;refine D9$ GS$ EV zK H.is KH ?_$ K0 _;obtain⟨o,c,p,d⟩:=H;show wpAny _ _ (field (.ref I) 0 >>= _) _ _ s;refine D9$ EG c d (x:=.ref t) Z ?_;rw[Eu (show ¬((Value.ref t==Value.none)=true) from El)];refine D9$ NK f OB ?_;refine D9 (m:=asInt? _)$ Ea ?_;dsimp only;refine D9$ EG (s:={ s with toks:=s.toks+1+1 }) c d (x:=.int ((a.size:Int) - 1) 0) Z ?_;dsimp only;rw[Eu OB];refine D9$ wpAny_mkInt$ Ea #[_,Z,?_];have j:(a.size:Int) - 1+1=(a.size:Int):=by omega
 rw[j];dsimp only;have k:∀(i:Int) (T:Tok),asInt? (Value.int i T)=pure (some i):=λ_ _=>Z;rw[k];refine D9 ?_;refine Ea ?_;dsimp only;have F:Builtin.List.listFitsIndex (a.size:Int)=true:=by unfold Builtin.List.listFitsIndex;rw[Fv,IB,IB];omega
 have l:Builtin.List.listTooLong ((a.size:Int).toNat)=false:=by unfold Builtin.List.listTooLong;rw[decide_eq_false_iff_not];omega
 simp only[F,l,Gu,Em,FF];rw[Eu OB];exact Ea$ h _ (s.toks+1+1+1)$ En (Fq _)$ En (Fq _)$ Fq _
theorem Yh{items:Array Value}{Q:Value->Shared->Prop}(X:A.handled=none)(p:b8 s.heap I t ((items.size:Int) - 1))(R:IsTup s.heap t items)(Y:t≠I)(T:items.size<=sizeLine)
  (hQ:∀S l c,s.heap.objs.size<=l->(∀b o,b≠I->s.heap.get? b=some o->S.heap.get? b=some o)->S.gens=s.gens->S.os=s.os->S.heap.get? l=some { cls:=.type "list",data:=.seq items.toList.reverse.toArray c }->Q (.ref l) S):
  wpAny (model prog w) A (call (.type "list") [.ref I]) Q E s:=by
 have h0:=cy;have C:I < s.heap.objs.size:=by obtain⟨o,f,_⟩:=p;exact Ef f
 have D:t < s.heap.objs.size:=by obtain⟨o,f,_⟩:=R;exact Ef f
 refine HS (Q₁:=λO d=>O= .ref s.heap.objs.size/\d={ s with heap:=s.heap.push { cls:=.type "list",data:=.seq (List.toArray []) } }) PySem.F.called_list (PySem.F.typeCall_list_1 _) PySem.F.entry_list_init
  (code_list_new _ #[Z,Z]) λO d u=>?_
 obtain⟨rfl,rfl⟩:=u;generalize U:s.heap.push { cls:=.type "list",data:=.seq (List.toArray []) }=H;have G:H.get? s.heap.objs.size=some { cls:=.type "list",data:=.seq (List.toArray []) }:=by rw[<- U];exact Ei _ Z
 have gk:∀b o,s.heap.get? b=some o->H.get? b=some o:=λb o e=>by rw[<- U];exact Eb _ e
 refine#[#[_,G,Z],PySem.F.args_list_init_2 _ _,?_];show wpAny _ _ (do let J <- Builtin.List.listItems (.ref s.heap.objs.size);Builtin.List.listUpdate (.ref s.heap.objs.size) (λ_=>(List.toArray []));letGo J.toList.reverse;Builtin.List.listExtendWith (.ref s.heap.objs.size) (.ref I) .none) _ _ _;refine D9 ?_;unfold Builtin.List.listItems;refine D9$ Fb G Z$ Ea ?_;show wpAny _ _ (updateSeq s.heap.objs.size (λ_=>(List.toArray [])) >>= λ_=>letGo ((List.toArray []):Array Value).toList.reverse >>= λ_=>Builtin.List.listExtendWith (.ref s.heap.objs.size) (.ref I) .none) _ _ _;refine D9$ GN G Z$ D9$ LH ?_;have z:=EL (Obj.mapSeq (λ_=>((List.toArray []):Array Value))) G Z;have g:∀b o,b≠s.heap.objs.size->s.heap.get? b=some o->(H.update s.heap.objs.size$ Obj.mapSeq (λ_=>((List.toArray []):Array Value))).get? b=some o:=λb o j e=>(Et _ _$ EA j).trans (gk b o e);generalize h1:H.update s.heap.objs.size (Obj.mapSeq (λ_=>((List.toArray []):Array Value)))=k at z g ⊢;have N:I≠s.heap.objs.size:=Ej C;have K:t≠s.heap.objs.size:=Ej D;have h:b8 k I t ((items.size:Int) - 1):=p.at λo e=>g I o N e;have v:IsTup k t items:=let #[o,f,r]:=R;#[o,g t o K f,r]
 unfold Builtin.List.listExtendWith;refine D9$ FG (s:={ s with heap:=k }) h.is ?_;have n1:Builtin.List.listSameRef (.ref s.heap.objs.size) (.ref I)=false:=by simp only[Builtin.List.listSameRef,Lo];exact EA N
 have n2:(Value.type "reversed"==Value.type "list")=false:=by decide
 have n3:(Value.type "reversed"==Value.type "tuple")=false:=by decide
 simp only[n1,n2,n3,IK,Em,FF];refine D9$ mq (s:={ s with heap:=k }) h$ D9$ Ez$ AV (s:={ s with heap:=k }) h v T λb V h2=>?_;have L:¬s.heap.objs.size∈[I,t]:=by simp only[Fi,EC,Hi,Lh];exact#[EA N,EA K]
 have x:∀(B:Heap) (c:Nat),B.get? s.heap.objs.size=some { cls:=.type "list",dict:=none,data:=.seq (List.toArray []) c,slots:=(List.toArray []) }->(∀b o,b≠s.heap.objs.size->k.get? b=some o->B.get? b=some o)->
   codeAny (model prog w) A.in1 (.builtin "list.extend.loop" #[[.ref s.heap.objs.size,.ref I,.none],[]]) (λr S=>r= .ok (.ret .none)/\Q (.ref s.heap.objs.size) S) { s with heap:=B,toks:=V }:=by
  intro B c g3 M;have W:=Ca (prog:=prog) (w:=w) (A:=A.in1.in1) (by simpa using X) I t Y (items:=items) OB;refine IU W T _ L _ items.size 0 _ (List.toArray []) c Z (Ek _) #[by simpa using h.at λo e=>M I o N e,let #[o,f,r]:=v;#[o,M t o K f,r]] g3 (Ma _) λS n c' m gS a=>#[Z,hQ S _ c' (Ee _) (λb o j e=>?_) m.gens m.os ?_]
  ·have P:b≠s.heap.objs.size:=Ej (Ef e);exact m.heap b o (by simp only[Fi,EC,Hi,Lh];exact#[P,j])$ M b o P$ g b o P e
  ·have ea:n=items.toList.reverse.toArray:=by
    apply N4;refine MP λi=>?_;by_cases hi:i < items.size
    ·have y:i < n.size:=by rw[a.1];exact hi
     have q:=a.2 i n[i] (by simp [y]);rw[FY,FT y,<- q]
    ·rw[Fy (by rw[EE,a.1];omega),Fy (by simp;omega)]
   rw[<- ea];exact gS
 split
 ·refine D9$ FV$ D9 ?_;show wpAny _ _ (updateSeq s.heap.objs.size (·.push .none) >>= λ_=>updateSeq s.heap.objs.size (·.pop)) _ _ _;refine D9$ GN (s:={ s with heap:=k,toks:=V }) z Z ?_;have g3:=EL (Obj.mapSeq (·.push Value.none)) z Z;refine GN g3 Z ?_;have g4:=EL (Obj.mapSeq (·.pop)) g3 Z;refine Ea #[FD GU _,Ga (x _ _ g4 λb o j e=>(Et _ _$ EA j).trans ((Et _ _$ EA j).trans e)) λr S q=>?_];obtain⟨rfl,q⟩:=q;exact#[Z,q]
 ·refine Ea #[FD GU _,Ga (x _ _ z λb o j e=>e) λr S q=>?_];obtain⟨rfl,q⟩:=q;exact#[Z,q]
end
section
variable {X:Cx}{e:Expr}{te:TE}{xl xr:Str}{p p2 pos pos2:Pos}
inductive iq(K:Frag)(Q:VK)(x:V)(b:Hp):Prop
 |mk(a c:_)(_:x= .ref a)(_:aD K b a c)(_:∀l,b l=none->Q (.ref l) (af b l (.lst c.reverse)))
def rU(K:Frag)(te:TE):TE:=λa H Q=>te a H (iq K Q)
theorem qL(V:X.calm=true)(g:Gl X xl)(j:X.mg xl=none)(m:bootBuiltins xl=some (.type "list"))(n:Gl X xr)(t:X.mg xr=none)(v:bootBuiltins xr=some (.type "reversed"))(W:PE X e te)
  (y:xl≠"__name__":=by decide) (A:(xl==("__debug__":Str))=false:=by decide) (B:xr≠"__name__":=by decide) (C:(xr==("__debug__":Str))=false:=by decide)
  (J:starEach [.Call (.Name xr p2) [e] [] pos2] X.env=(false,eval (.Call (.Name xr p2) [e] [] pos2) X.env)::starEach [] X.env:=by rfl) (Y:(backTo pos$ starEach [] X.env).any (·.1)=false:=by rfl)
  (L:starEach [e] X.env=(false,eval e X.env)::starEach [] X.env:=by rfl) (h4:(backTo pos2$ starEach [] X.env).any (·.1)=false:=by rfl):
  PE X (.Call (.Name xl p) [.Call (.Name xr p2) [e] [] pos2] [] pos) (rU X.K te):=by
 intro P s σ H Q I h;refine EU$ kN I g j m ?_ y A;refine EM ?_ J Y;rw[J];show wpAny _ _ (spliced ((false,eval (.Call (.Name xr p2) [e] [] pos2) X.env)::backTo pos (starEach [] X.env))) _ _ s;refine Fg ?_;refine EU$ kN I n t v ?_ B C;refine EM ?_ L h4;rw[L];show wpAny _ _ (spliced ((false,eval e X.env)::backTo pos2 (starEach [] X.env))) _ _ s;refine Fg$ aL (W P s σ H _ I h) λu S D=>?_;obtain⟨x,H1,f,r1,a,M,ex,hq,q⟩:=D;subst ex;cases (show u=Value.ref a from r1);obtain⟨i,R,E,hz⟩:=f.tuple hq;have O:=R.length;have h0:=cy;refine FK$ Xg E (by simp only[Eh];omega)$ FK ?_;have F:a < S.heap.objs.size:=by obtain⟨o,G,_⟩:=E;exact Ef G
 refine Yh (s:={ S with heap:=S.heap.push (revObj a i.toArray.size),toks:=S.toks+1+1 }) (items:=i.toArray) (I.ok.hd V) #[_,Ei _ Z,Z,Z] (let #[o,G,r]:=E;#[o,Eb _ G,r]) (Ej F)
  (by simp only[Eh];omega) λT l c hl k kg ko hg=>?_
 have d:S.heap.objs.size<=l:=En (by show _<=(S.heap.push _).objs.size;rw[Fe];exact Fq _) hl;have U:∀b o,S.heap.get? b=some o->T.heap.get? b=some o:=λb o e=>k b o (Ej$ Ef e) (Eb _ e);have N:aM X.prog X.w (af H1 l$ .lst M.reverse) T.heap l (.lst M.reverse):=#[by rw[FJ];exact hz,i.reverse,c,ar.reverse R,by simpa using hg];exact#[.ref l,_,f.call' (ch:=[]) ko (Un.laid U d$ f.hok.fresh d) (f.hok.laid U d N) (by rw[kg];exact f.bare) (λ_ z=>nomatch z),Z,q _$ f.hok.fresh d]
end
theorem kC:entryFor table "dict.update.loop"=some Builtin.«dict.update.loop»:=Hs (by kernel_rfl)
theorem jI:plainId "dict.update.loop"=true:=by decide+kernel
theorem QY:typeLookup (.type "list") "keys"=pure none:=by rw[Fn,EQ];kernel_rfl
section
variable {prog:Program}{w:World}{A:Around}{E:Value->Shared->Prop}{s:Shared}
theorem xS{Q:Option Value->Shared->Prop}(j:s.heap.get? a=some o)(l:o.cls= .type "list")(H:o.data= .seq x k)(m:o.dict=none)(p:A.handled=none)
  (h:∀i T,(∀b o,s.heap.get? b=some o->i.get? b=some o)->Q none { s with heap:=i,toks:=T }):wpAny (model prog w) A (getAttr? (.ref a) "keys") Q E s:=by
 obtain⟨c,D,q,S⟩:=o;simp only at l H m;subst l H m;obtain⟨r,g,d,T,os⟩:=s;have n:∀t,(#[r,g,d,t,os]:Shared).TypeIs (.ref a) "list":=λ_=>#[_,j,Z];have u:=Nw;have v:=PySem.F.slot_list_getattribute.lookup;have y:=PySem.F.slot_list_getattribute.bind (.ref a);have z:=am_list_getattr_none;unfold getAttr? getAttrBy? getAttrBy;repeat (any_goals (first |assumption |exact n _ | ((with_reducible show wpAny _ _ (call (Value.builtin "list.__getattribute__") _ _) _ _ _);refine IC PySem.F.slot_list_getattribute (n _) am_entry_list_getattribute (PySem.F.args_list_getattribute_2 _ _) (meets_getattribute_miss_list a x k S "keys" _ QY OE (by size_fits)) #[j,by simpa using p,λi t e f=>?_]) |wp_step))
 obtain⟨B,U,C⟩:=f.there;show wpAny _ _ (getattributeRaised _ _ _ _ _ _ _) _ _ _;unfold getattributeRaised;repeat (any_goals (first |assumption |wp_step))
 exact h _ _ f.keeps
theorem K2{K:Type}[DecidableEq K]{knd:KeyKind prog w K}{R:Result->Shared->Prop}{P:Nat->Value->Prop}{St:Nat->Shared->Prop}
  (W:WalksS prog w A.in1 I Y a G n P St) (D:Addr) (H:¬D∈Y) (M:List (K×Value)) (hn:M.length=n) (h0:n<=sizeLine)
  (q:Shared) (hP:∀i v,P i v->∃b f V k o m,v= .ref b/\¬b∈a/\b≠D/\q.heap.get? b=some o/\o.cls= .type "tuple"/\o.data= .seq (List.toArray [f,V]) m/\knd.is k f=true/\M[i]?=some (k,V)):
  ∀(j i:Nat) (s:Shared) (c:Int),n - i=j->i<=n->St i s->Moved (D::a) G q s->s.heap.DictOf knd D (merged []$ M.take i)->
   (∀S,Moved (D::a) G q S->S.heap.DictOf knd D (merged [] M)->R (.ok$ .ret .none) S)->
   codeAny (model prog w) A (.builtin "dict.update.loop" #[[.ref D,.ref I,.int c 0,.none],[]]) R s:=by
 have g:¬D∈a:=λz=>H (W.sub _ z);have sub:∀b∈a,b∈D::a:=λb z=>Ew _ z;intro j;induction j with
 |zero=>
  intro i s c hj hi st m t u;have e:i=n:=by omega
  subst e;refine Ff kC ?_;rw[ER jI];show wpAny _ A.in1 (pyNext (.ref I) >>= _) _ _ s;refine D9$ W.done s _ _ st λS d=>?_;show wpAny _ A.in1 (Builtin.Dict.addKeywords D [] >>= λ_=>ret Value.none) _ _ S;refine D9 ?_;unfold Builtin.Dict.addKeywords;refine Ea$ Ea$ u S (Mo W.gtrans m$ d.mono sub) ?_;rw[<- hn,Fd]at t;obtain⟨o,x,y,B,r⟩:=t;exact#[o,x,y,d.heap D o g B,r]
 |succ j ih=>
  intro i s c hj hi st m t u;have Q:i < n:=by omega
  refine Ff kC ?_;rw[ER jI];show wpAny _ A.in1 (pyNext (.ref I) >>= _) _ _ s;refine D9$ W.item i s _ _ Q st λv S hv C d=>?_;obtain⟨b,f,V,k,o,z,rfl,l,F,J,L,N,T,hm⟩:=hP i v hv;have h:S.heap.get? b=some o:=d.heap b o l (m.heap b o (by simp only[Fi,Lh];exact#[F,l]) J);have O:S.heap.DictOf knd D (merged []$ M.take i):=by obtain⟨o,x,y,B,r⟩:=t;exact#[o,x,y,d.heap D o g B,r]
  dsimp only;refine D9$ Ez ?_;refine D9$ Mf ?_;unfold Builtin.Dict.pairItems;refine D9$ FG #[o,h,L] ?_;rw[Er OA];refine D9$ Fb h N$ Ea ?_;show wpAny _ A.in1 (holding [f,V]$ dictSet D f V) _ _ S;unfold dictSet;refine Ez$ Ez$ D9$ knd.pyHash T ?_;have U:(merged ([]:List (K×Value))$ M.take i).length<=i:=by have:=G8 ([]:List (K×Value)) (M.take i);rw[EJ]at this;simp only[Gc]at this;omega
  refine HZ (s:={ S with toks:=S.toks+1 }) T O (λh' p X=>?_) OB;rw[<- Ly [] M i (k,V) hm]at p;have m2:Moved (D::a) G q { S with heap:=h',toks:=S.toks+1 }:=(Mo W.gtrans m$ d.mono sub).then_heap (Fq _) λb o h e=>by rw[X.2 b (λz:b=D=>h (by rw[z];exact Es))];exact e
  refine Ea #[FD jI _,ih (i+1) _ (c+1) OB Q (W.frame _ S _ _ C (Fq _) λb h o e=>?_) m2 p u];rw[X.2 b (λz:b=D=>H (by rw[<- z];exact h))];exact e
end
section
variable {prog:Program}{w:World}{A:Around}{E:Value->Shared->Prop}{s:Shared}
theorem JN{K:Type}[DecidableEq K]{knd:KeyKind prog w K}{items:Array Value}{more:List (K×Value)}{Q:Value->Shared->Prop}(X:A.handled=none)
  (j:s.heap.get? l=some o) (d:o.cls= .type "list") (p:o.data= .seq items Y) (B:o.dict=none) (hn:more.length=items.size) (C:items.size<=sizeLine)
  (hP:∀(i:Nat) (v:Value),items[i]?=some v->∃b y V k o m,v=Value.ref b/\s.heap.get? b=some o/\o.cls= .type "tuple"/\o.data= .seq (List.toArray [y,V]) m/\knd.is k y=true/\more[i]?=some (k,V))
  (h:∀t T,t.DictOf knd s.heap.objs.size (merged [] more)->(∀b o,s.heap.get? b=some o->t.get? b=some o)->Q (.ref s.heap.objs.size) { s with heap:=t,toks:=T }):
  wpAny (model prog w) A (call (.type "dict") [.ref l]) Q E s:=by
 refine HS (Q₁:=λO S=>O= .ref s.heap.objs.size/\S={ s with heap:=s.heap.push { cls:=.type "dict",data:=.dict (List.toArray []) } }) HV (Ht _) HK (Lz _ #[Z,Z]) ?_;rintro O S ⟨rfl,rfl⟩;have a:(s.heap.push { cls:=.type "dict",data:=.dict (List.toArray []) }).DictOf knd s.heap.objs.size []:=HI s.heap;refine#[a.typeIs,HG _ _,?_];unfold Builtin.«dict.__init__»;refine D9 ?_;unfold Builtin.Dict.selfAndRest;refine D9$ II a.typeIs ?_;show wpAny _ _ (pure (s.heap.objs.size,[Value.ref l])) _ _ _;refine Ea ?_;show wpAny _ _ (Builtin.Dict.updateFrom "dict.__init__" s.heap.objs.size (.ref l) [] .none) _ _ _;unfold Builtin.Dict.updateFrom;generalize hH:s.heap.push { cls:=.type "dict",data:=.dict (List.toArray []) }=H at a ⊢;have g:∀b o,s.heap.get? b=some o->H.get? b=some o:=λb o e=>by rw[<- hH];exact Eb _ e
 refine D9$ FG #[o,g _ _ j,d] ?_;rw[Er OA];refine D9$ xS (s:={ s with heap:=H }) (g _ _ j) d p B (by simpa using X) λc T f=>?_;simp only[Hv,Hk];refine D9$ FV ?_;have u:c.IsList l items:=#[o,f _ _$ g _ _ j,d,Y,p];refine D9$ Ho (s:={ s with heap:=c,toks:=T }) u ?_;have L:∀b o,s.heap.get? b=some o->b < c.objs.size:=λb o e=>Ef (f _ _$ g _ _ e);obtain⟨oD,eD,D,x,rD⟩:=a;have F:s.heap.objs.size < c.objs.size:=Ef (f _ _ x);have G:l < c.objs.size:=L _ _ j;have n:∀b o,s.heap.get? b=some o->b≠s.heap.objs.size:=λb o e=>Ej (Ef e);generalize I:c.push { cls:=.type "list_iterator",data:=.fields (List.toArray [.ref l,.int 0 0]) }=J;have M:∀b o,c.get? b=some o->J.get? b=some o:=λb o e=>by rw[<- I];exact Eb _ e
 have nf:¬s.heap.objs.size∈[c.objs.size,l]:=by simp only[Fi,EC,Hi,Lh];exact#[Ej F,EA$ n _ _ j]
 have W:=(NN (prog:=prog) (w:=w) (A:=A.in1.in1) (by simpa using X) c.objs.size l (Ej G) items).toS;refine Ea #[FD jI _,Ga (K2 (knd:=knd) (A:=A.in1) (R:=λr z=>r= .ok (.ret .none)/\Q (.ref s.heap.objs.size) z) W s.heap.objs.size nf more hn C { s with heap:=J,toks:=T } (λi v hv=>?_) items.size 0 { s with heap:=J,toks:=T } 0 Z (Ek _)
  #[#[_,by rw[<- I];exact Ei _ Z,Z,Z],by rw[<- I];exact u.push _] (Moved.refl W.grefl) #[oD,eD,D,M _ _$ f _ _ x,rD] λz m hd=>#[Z,?_]) λr z q=>?_]
 ·obtain⟨b,y,V,k,o,m,e1,N,e3,e4,e5,e6⟩:=hP i v hv;refine#[b,y,V,k,o,m,e1,?_,n _ _ N,M _ _$ f _ _$ g _ _ N,e3,e4,e5,e6];simp only[Fi,EC,Hi];exact Ej$ L _ _ N
 ·obtain⟨t,g',d',P,U⟩:=z;have eg:g'=s.gens:=m.gens;have ed:d'=s.drawn:=m.drawn;have eo:U=s.os:=m.os;subst eg;subst ed;subst eo;refine h t P hd λb o e=>m.heap b o ?_ (M _ _$ f _ _$ g _ _ e);simp only[Fi,EC,Hi,Lh];exact#[n _ _ e,Ej$ L _ _ e]
 ·obtain⟨rfl,q⟩:=q;exact#[Z,q]
end
def aX(H:Hp):List Addr->List (aY×V)->Prop
 | [],[]=>True
 |q::Q,K::k=>H q=some (.tup [kV K.1,K.2])/\aX H Q k
 |_,_=>False
theorem aX.len:∀{q:List Addr} {k:List (aY×V)},aX H q k->q.length=k.length
 | [],[],_=>rfl
 |_::_,_::_,h=>by rw[ED,ED,aX.len h.2]
 | [],_::_,h=>h.elim
 |_::_,[],h=>h.elim
theorem aX.mono{H a:Hp}(k:∀b x,H b=some (.tup x)->a b=some (.tup x)):∀{q:List Addr} {K:List (aY×V)},aX H q K->aX a q K
 | [],[],_=>trivial
 |_::_,_::_,h=>#[k _ _ h.1,aX.mono k h.2]
 | [],_::_,h=>h.elim
 |_::_,[],h=>h.elim
theorem aX.snoc:∀{Q:List Addr} {K:List (aY×V)} {q:Addr} {k:aY} {v:V},aX H Q K->H q=some (.tup [kV k,v])->aX H (Q++[q]) (K++[(k,v)])
 | [],[],_,_,_,_,e=>#[e,trivial]
 |_::_,_::_,_,_,_,h,e=>#[h.1,aX.snoc h.2 e]
 | [],_::_,_,_,_,h,_=>h.elim
 |_::_,[],_,_,_,h,_=>h.elim
theorem aX.more{P:Program}(O:dR P w H h):∀{Q:List Addr} {K:List (aY×V)},aX H Q K->
  ∃M:List (aY×Value),KV K M/\∀(i:Nat) (q:Addr),Q[i]?=some q->∃c v k o m,h.get? q=some o/\o.cls= .type "tuple"/\o.data= .seq (List.toArray [c,v]) m/\(aH P w).is k c=true/\M[i]?=some (k,v)
 | [],[],_=>#[[],.nil,λi q z=>by simp at z]
 |q::Q,f::K,d=>by
  obtain⟨M,r,g⟩:=aX.more O d.2;obtain⟨z,I,R,⟨o,j,l,m,n⟩⟩:=O q _ d.1;obtain⟨c,v,rfl,p,s⟩:∃c v,I=[c,v]/\ay (kV f.1) c/\ay f.2 v:=by
   cases R with
   |cons a t=>cases t with
    |cons b t=>cases t with
     |nil=>exact#[_,_,Z,a,b]
  refine#[(f.1,v)::M,.cons #[Z,s] r,λi u e=>?_];cases i with
  |zero=>simp at e;subst e;exact#[c,v,f.1,o,m,j,l,n,Jy p,Z]
  |succ i=>simp only[LZ]at e ⊢;exact g i u e
 | [],_::_,d=>d.elim
 |_::_,[],d=>d.elim
theorem YH:∀{Q:List Addr} {U:List Value},ar (Q.map V.ref) U->U=Q.map Value.ref
 | [],_,.nil=>rfl
 |q::Q,_,.cons (b:=u) h t=>by have e:u=Value.ref q:=h;rw[e,YH t];rfl
section
variable {X:Cx}
theorem Yi(t:X.calm=true):dw X (.type "dict") (λx H Q=>∃(p:Addr) (a:List Addr) (K:List (aY×V)),x=[.ref p]/\H p=some (.lst$ a.map V.ref)/\aX H a K/\∀l,H l=none->Q (.ref l) (af H l$ .dK$ aT [] K)):=by
 intro P s W H x Y Q I r h;obtain⟨p,a,K,rfl,y,d,q⟩:=h;obtain⟨u,rfl,A⟩:=dC r;cases A;obtain⟨z,B,n,C,e⟩:=I.hok p _ y;have E:=YH C;subst E;obtain⟨more,f,g⟩:=d.more I.hok;have c:=d.len;rw[Ec]at z;have L:more.length=a.length:=by rw[<- f.length,<- c]
 refine JN (knd:=aH X.prog X.w) (items:=(a.map Value.ref).toArray) (more:=more) (I.ok.hd t) e Z Z Z (by simp [L]) (by simpa using z) (λi v j=>?_) λh' tk D k=>?_
 ·simp only[List.getElem?_toArray,EB,Option.map_eq_some_iff]at j;obtain⟨b,F,rfl⟩:=j;obtain⟨G,J,k,o,m,M,N,O,S,T⟩:=g i b F;exact#[b,G,J,k,o,m,Z,M,N,O,S,T]
 ·have R:KV (aT [] K) (merged [] more):=KV.merge f .nil;have U:(aT [] K).length<=sizeLine:=by rw[R.length];have:=G8 ([]:List (aY×Value)) more;simp only[Gc]at this;omega
  exact#[.ref s.heap.objs.size,_,I.laid k (Ee _)$ Jm U (beq_eq_false_iff_ne.mpr$ EA$ Ej I.big) R D,Z,q _$ I.hok.fresh$ Ee _]
end
section
variable {X:Cx}{o lo hi:Expr}{to tl th:TE}{pos p2:Pos}
inductive AU(v:V)(h:St)(Q:St->Hp->Prop)(e a c:V)(d:Hp):Prop
 |mk(l b f g i j:_)(_:e= .ref l)(_:v= .ref b)(_:a= .int i)(_:c= .int j)(_:d l=some (.lst f))(_:d b=some (.lst g))(_:l≠b)(_:0<=i)(_:i<=j)(_:j<=(f.length:Int))(_:f.length+g.length<=sizeLine)(_:Q h (af d l (.lst (f.take i.toNat++g++f.drop j.toNat))))
def DT(to tl th:TE):TG:=λv b H Q=>to b H λO h=>tl b h λa c=>th b c (AU v b Q O a)
theorem pF(n:PE X o to)(t:PE X lo tl)(w:PE X hi th)
  (A:∀v,assign (.Subscript o (.Slice (some lo) (some hi) none p2) pos) X.env v=(do
   let O <- holding [v] (eval o X.env)
   let c <- holding [v,O] (eval (.Slice (some lo) (some hi) none p2) X.env)
   standAt pos
   holding [v,O,c] (setItem O c v)
   release [c,v,O] []):=by intro _;rfl):PG X (.Subscript o (.Slice (some lo) (some hi) none p2) pos) (DT to tl th):=by
 intro p s a H v u Q I r h;rw[A];refine D9$ Ez$ aL (n p s a H _ I h) λO B d=>?_;obtain⟨x,C,D,R,E⟩:=d;refine D9$ Ez ?_;refine wpAny_Slice$ aL (t p B a C _ D E) λV F #[y,G,J,K,L]=>aL (w p F a G _ J L) λm S f=>?_;obtain⟨z,M,N,P,l,b,xs,ys,i,j,T,U,W,Y,h1,h2,g,h0,k,hj,hz,q⟩:=f;subst T U W Y;cases (show O=Value.ref l from R);cases (show u=Value.ref b from r);refine Ea ?_;have I4:am X p a M { S with heap:=S.heap.push { cls:=.type "slice",data:=.fields (List.toArray [V,m,.none]) } }:=N.kept (t':=S.toks) λb o e=>Eb _ e;refine D9$ GR$ D9$ Ez ?_;exact Za I4 h1 h2 g (Li S.heap V m .none) K P h0 k hj hz λs5 I5=>wpAny_release #[a,_,I5,q]
end
end _L
namespace _L
open PySem PySem.Spec PyProof.Rows Builtin Builtin.Str
section
variable {prog:Program}{w:World}{A:Around}{E:Value->Shared->Prop}{s:Shared}
theorem Jj{lo:Option Int}{Q:Value->Shared->Prop}(H:IsTup s.heap t i)(d:s.heap.IsSliceOf e v j .none)(p:IsPart v lo)(P:IsPart j f)
  (g:HT.sIx i.size 0 lo=0/\HT.sIx i.size i.size f=i.size) (h:Q (.ref t) s):wpAny (model prog w) A (getItem (.ref t)$ .ref e) Q E s:=by
 obtain⟨os,a,b,k⟩:=id d;have c:s.TypeIs (.ref e) "slice":=#[os,a,b];unfold getItem;try with_reducible refine Ez ?_
 first |refine D9 (Ea ?_) |skip
 refine D9$ Ll H.typeIs OA ?_;refine D9 (EW (name:=Str.ofString "__getitem__") H.typeIs Gi
  (EV Gi H.typeIs Oo ?_$ Oq _ _))
 show wpAny _ _ (Builtin.Tuple.tupleItemsOf (.ref t) >>= _) _ _ s;refine D9$ Om H ?_;refine D9$ FG c ?_;rw[Er OA];refine D9$ HT.sliceApplied_gen d p P ?_;show wpAny _ _ (if (((HT.sIx i.size 0 lo:Nat):Int)==0&&(1:Int)==1&&(HT.sIx i.size i.size f - HT.sIx i.size 0 lo)==i.size)=true then _ else _) _ _ s;rw[g.1,g.2,Er OD];unfold Builtin.Tuple.tupleIsExact;refine D9$ D9$ FG H.typeIs$ Ea ?_;rw[Er OA];first
  |exact FV (Ea #[_,Z,Ea h])
  |exact D9 (FV (Ea #[_,Z,Ea h]))
  |exact D9 (Ea (Ea #[_,Z,Ea h]))
end
section
variable {X:Cx}
inductive pH(x y:V)(H:Hp)(Q:VK):Prop
 |mk(a b c d:_)(_:x= .ref a)(_:y= .ref b)(_:H a=some (.tup c))(_:H b=some (.tup d))(_:c.length+d.length<=sizeLine)(_:∀r H',H' r=some (.tup (c++d))->ae H H'->Q (.ref r) H')
theorem kY:gf X (binaryOp .Add) pH:=by
 intro P s G H x y v u Q I r R h;obtain⟨a,b,m,Y,rfl,rfl,d,f,J,q⟩:=h;have t:=aD.of (K:=X.K) d;have w:=aD.of (K:=X.K) f;by_cases z:m=[]
 ·subst z;cases r;cases R;obtain⟨l,L,M,_⟩:=I.tuple t;obtain⟨i,r2,N,_⟩:=I.tuple w;have O:l=[]:=L.nil_iff.mpr Z;subst O;obtain⟨⟨T,U,A,V⟩,B,C,n,E⟩:=id M;obtain⟨⟨F,D,data2,S⟩,g,j,W,k⟩:=id N;simp only at C E j k;subst C E j k;exact MN #[_,B,Z] #[_,g,Z] Lx Mw HU HJ (HF _ _)
   (tuple_addW0 a b ([]:List Value).toArray i.toArray n W U D V S Z) #[B,g,.ref b,H,I,Z,q b H f$ ae.refl H]
 ·refine uq P s G H _ _ v u Q I r R #[a,b,m,Y,Z,Z,t,w,z,J,λe=>?_,λ_ p np=>?_]
  ·subst e;exact q a H (by rw[Nc];exact d)$ ae.refl H
  ·exact q p _ jc λc o e=>by rw[jh$ jk e np];exact e
inductive yu(x:V)(c b:Option Int)(H:Hp)(Q:VK):Prop
 |mk(a d:_)(_:x= .ref a)(_:H a=some (.tup d))(_:∀r H',H' r=some (.tup (aV d c b))->ae H H'->Q (.ref r) H')
theorem qT:Cq X yu:=by
 intro P s u H x v V w lo j S Q I R k l m h;obtain⟨a,b,rfl,d,q⟩:=h;have n:=aD.of (K:=X.K) d;by_cases g:HT.sIx b.length 0 lo=0/\HT.sIx b.length b.length j=b.length
 ·cases R;obtain⟨i,r,t,y⟩:=I.tuple n;have f:i.toArray.size=b.length:=by rw[Eh];exact r.length.symm
  refine#["tuple",_,PyProof.Rows.slot_tuple_getitem.lookup,t.typeIs,?_];refine Jj t k l m (by rw[f];exact g) #[.ref a,H,I,Z,q a H ?_$ ae.refl H];rw[d];unfold aV;rw[g.1,g.2,Nn,I0,Fd]
 ·exact yM P s u H _ v V w lo j S Q I R k l m #[a,b,Z,n,g,λp N=>q p _ jc λc o e=>by rw[jh$ jk e N];exact e]
end
end _L
namespace _L
open PySem PySem.Spec PyProof.Rows
theorem vE{G:Bool->Hp->Prop}(y:G true H)(n:b=false->G b H):G b H:=by
 cases b
 ·exact n Z
 ·exact y
theorem a6{A:Prop}(h:∀G:Prop,(A->G)->G):A:=h A λz=>z
section
variable {t u:TS}{D:aJ}{σ:St}{H:Hp}
theorem em(h:∀E:aJ,(∀a b,u D a b->E.nx a b)->t E σ H):dU t u D σ H:=h { D with nx:=u D } λ_ _ h=>h
theorem ah(h:∀F:St->Hp->Prop,(∀a b,u D a b->F a b)->t { D with nx:=F } σ H):dU t u D σ H:=h _ λ_ _ h=>h
theorem mn{c:TT}(h:∀F:Bool->Hp->Prop,(∀b a,(if b=true then t D σ a else u D σ a)->F b a)->c σ H F):rS c t u D σ H:=h _ λ_ _ x=>x
theorem Cz{c:TT}(h:∀F:Bool->Hp->Prop,(∀a,t D σ a->F true a)->(∀a,u D σ a->F false a)->c σ H F):rS c t u D σ H:=by
 refine h _ (λa x=>?_) λa x=>?_
 ·show if true=true then _ else _;rw[Er Z];exact x
 ·show if false=true then _ else _;rw[Eu OA];exact x
theorem dk(R:St->Hp->Prop)(c:∀E:aJ,E.rt=D.rt->(∀a b,R a b->E.nx a b)->t E σ H)(d:∀a b,R a b->D.nx a b):BW t D σ H:=#[R,c { D with nx:=R } Z λ_ _ h=>h,d]
theorem me{c:TT}{T:TS}(W:Nat->St->Hp->Prop)(d:Nat)(e:W d σ H)
  (f:∀m σ H,∀E:aJ,E.rt=D.rt->(∀M a b,M < m->W M a b->E.nx a b)->∀F:Bool->Hp->Prop,(∀b,T E σ b->F true b)->(∀b,D.nx σ b->F false b)->∀G:Prop,(c σ H F->G)->W m σ H->G):rZ c T D σ H:=by
 refine#[W,#[d,e],λm σ H w=>?_];refine f m σ H { D with nx:=λa b=>∃M,M < m/\W M a b,ct:=λa b=>∃M,M < m/\W M a b,bk:=D.nx } Z (λM a b l g=>#[M,l,g]) _ (λb x=>?_) (λb x=>?_) _ (λz=>z) w
 ·show if true=true then _ else _;rw[Er Z];exact#[_,λ_ _ h=>h,x]
 ·show if false=true then _ else _;rw[Eu OA];exact x
def nS(J:It)(g:TG)(T:TS)(D:aJ)(σ:St)(H:Hp):Prop:=∃W:Nat->Nat->St->Hp->Prop,(∃m,W 0 m σ H)/\∀i m σ H,W i m σ H->
 (J.stop i H/\D.nx σ H)∨(J.go i H/\∃N:St->Hp->Prop,(∀a h,N a h->∃M,M < m/\W (i+1) M a h)/\∀x h,J.yld i H x h->g x σ h λb c=>T { D with nx:=N,ct:=N,bk:=D.nx } b c)
theorem gF{w:TI}(h:∀F:It->Hp->Prop,(∀J a,nS J g T D σ a->F J a)->w σ H F):yW w g T D σ H:=h _ λ_ _ z=>z
theorem D3{g:TG}{Q:St->Hp->Prop}(h:∀F:St->Hp->Prop,(∀a b,Q a b->F a b)->g x σ H F):g x σ H Q:=h _ λ_ _ z=>z
theorem zC{lo:Int}{g:TG}{T:TS}{D:aJ}{σ:St}{H:Hp}(Pv:Nat->St->Hp->Prop)(d:Pv 0 σ H)
  (e:∀E:aJ,E.rt=D.rt->∀i σ H,i < n->(∀a c,Pv (i+1) a c->E.nx a c)->∀G:Prop,((g (.int$ lo+i) σ H λb f=>T E b f)->G)->Pv i σ H->G) (j:∀σ H,Pv n σ H->D.nx σ H):nS (sr lo n) g T D σ H:=
 Qe Pv d (λi σ H k p=>e { D with nx:=Pv (i+1),ct:=Pv (i+1),bk:=D.nx } Z i σ H k (λ_ _ h=>h) _ (λz=>z) p) j
theorem Zk{K:Frag}{a:Addr}{xs:List V}{g:TG}{T:TS}{D:aJ}{σ:St}{H:Hp}(Pv:Nat->St->Hp->Prop)(e:Pv 0 σ H)(f:∀i σ H,i<=xs.length->Pv i σ H->aF K H a xs)
  (j:∀E:aJ,E.rt=D.rt->∀i x σ H,xs[i]?=some x->(∀b d,Pv (i+1) b d->E.nx b d)->∀G:Prop,((g x σ H λc k=>T E c k)->G)->Pv i σ H->G) (l:∀σ H,Pv xs.length σ H->D.nx σ H):nS (vA K a) g T D σ H:=
 oq Pv e f (λi x σ H m p=>j { D with nx:=Pv (i+1),ct:=Pv (i+1),bk:=D.nx } Z i x σ H m (λ_ _ h=>h) _ (λz=>z) p) l
theorem Kl{K:Frag}{xs:List V}{g:TG}{T:TS}{D:aJ}{σ:St}{H:Hp}(Pv:Nat->St->Hp->Prop)(e:Pv 0 σ H)(f:∀i σ H,i<=xs.length->Pv i σ H->aD K H a xs)
  (j:∀E:aJ,E.rt=D.rt->∀i x σ H,xs[i]?=some x->(∀b d,Pv (i+1) b d->E.nx b d)->∀G:Prop,((g x σ H λc k=>T E c k)->G)->Pv i σ H->G) (l:∀σ H,Pv xs.length σ H->D.nx σ H):nS (su K a) g T D σ H:=
 sX Pv e f (λi x σ H m p=>j { D with nx:=Pv (i+1),ct:=Pv (i+1),bk:=D.nx } Z i x σ H m (λ_ _ h=>h) _ (λz=>z) p) l
end
end _L
namespace _L
open PySem PySem.Spec PyProof.Rows PySem.SeqAt
inductive Tr where
 |lf (v:V) |tp (l:Tr) |nil |cons (h t:Tr)
noncomputable def Tr.isL:Tr->Bool
 | .nil=>true
 | .cons _ _=>true
 |_=>false
noncomputable def C7:V->Bool
 | .byt _=>false
 | .flt _=>false
 |_=>true
theorem Zl(o:C7 v=true)(r:ay v u)(R:ay v U):EqAt A s u U true:=by
 cases v with
 |int a=>obtain⟨t,rfl⟩:=r;obtain⟨T,rfl⟩:=R;have:=EqAt.int_int (A:=A) (s:=s) a t a T;rwa [IL]at this
 |str a=>obtain⟨t,rfl⟩:=r;obtain⟨T,rfl⟩:=R;have:=EqAt.str_str (A:=A) (s:=s) a t a T;rwa [IL]at this
 |byt b=>cases o
 |flt b=>cases o
 |non=>cases r;cases R;exact Lc _
 |bl b=>cases r;cases R;exact Lc _
 |ref b=>cases r;cases R;exact Lc _
 |ty b=>cases r;cases R;exact Lc _
end _L
namespace _L
open PySem PySem.Spec PyProof.Rows
noncomputable def CN(K:Frag)(a:Addr)(n:Nat):It:=
 #[λi H=>∃X x,aD K H a X/\X.length=n/\X.reverse[i]?=some x,λi H x h=>h=H/\∀X,aD K H a X->X.reverse[i]?=some x,λi H=>∃X,aD K H a X/\X.length=n/\i=n]
theorem r9{P:Program}{K:Frag}(a f:Addr)(n:Nat):ny P w K tg (CN K a n) [f] f (λi h=>b8 h f a ((n:Int) - 1 - i)) where
 mem:=by simp
 obj:=λi h st b j=>by
  have e:b=f:=by simpa using j
  subst e;obtain⟨o,e,c,d⟩:=st;exact#[o,e,λv z=>by rw[d]at z;cases z]
 keep:=λi h q st k=>st.at λo e=>k f OD o e
 item:=by
  intro X y A B O i g s Q H E I t st C;subst y A B;obtain⟨l,x,D,T,m⟩:=C;obtain⟨r,R,p,hz⟩:=I.tuple D;have hl:=R.length;have U:=cy;have V:i < l.length:=by
   rcases Io i l.length with z |z
   ·exact z
   ·rw[Fy (by simpa using z)]at m;cases m
  have F:l[l.length - 1 - i]?=some x:=by rw[Gk V]at m;exact m
  obtain⟨u,W,Y⟩:=R.get F;obtain⟨G,J,f2,L,M,N⟩:=t f OD;have e:((n:Int) - 1 - i)=((l.length - 1 - i:Nat):Int):=by omega
  rw[e]at st;refine vY (items:=r.toArray) st (show IsTup s.heap a r.toArray from p) (x:=u) (by simpa using W) (by simp only[Eh];omega) λq S sb=>?_;have I1:am X g Q H { s with heap:=q,toks:=s.toks+1 }:=I.turned (t':=s.toks+1) (λb o j e=>(sb.2 b j).trans e) G J L M N;obtain⟨o,e',c,d⟩:=id S;refine#[u,Z,Ys (s:={ s with heap:=q,toks:=s.toks+1 }) e' c d OA #[x,H,I1,Y,#[Z,λys hy=>by rw[I.tuple_inj hy D];exact m],?_,λb j=>(t b j).1]];have e2:((n:Int) - 1 - ((i+1:Nat):Int))=((l.length - 1 - i:Nat):Int) - 1:=by omega
  show b8 q f a ((n:Int) - 1 - ((i+1:Nat):Int));rw[e2];exact S
 done:=by
  intro X y A B O i g s Q H E I t st C;subst y A B;obtain⟨l,D,T,m⟩:=C;obtain⟨G,J,f2,L,M,N⟩:=t f OD;have e:((n:Int) - 1 - (i:Int))= -1:=by omega
  rw[e]at st;exact Qv (I.ok.hd O) st λq eb=>#[Z,I.turned (t':=s.toks) (λb o j e=>eb b o j e) G J L M N]
 self:=λ_ _ _ _ _ st h=>mq st h
section
variable {X:Cx}{tg:Expr}
inductive vU(K:Frag)(R:It->Hp->Prop)(x:V)(b:Hp):Prop
 |mk(a c:_)(_:x= .ref a)(_:aD K b a c)(_:R (CN K a c.length) b)
def C2(K:Frag)(t:TE):TI:=λa H R=>t a H (vU K R)
theorem Z6{e:Expr}{t:TE}{c:Str}{p P:Pos}(j:Gl X c)(k:X.mg c=none)(l:bootBuiltins c=some (.type "reversed"))(y:PE X e t)(m:c≠"__name__":=by decide)(n:(c==("__debug__":Str))=false:=by decide)
  (r:starEach [e] X.env=(false,eval e X.env)::starEach [] X.env:=by rfl) (A:(backTo P$ starEach [] X.env).any (·.1)=false:=by rfl):PI X tg (.Call (.Name c p) [e] [] P) (C2 X.K t):=by
 intro d s B H R I h;refine EU$ kN I j k l ?_ m n;refine EM ?_ r A;rw[r];show wpAny _ _ (spliced ((false,eval e X.env)::backTo P (starEach [] X.env))) _ _ s;refine Fg$ aL (y d s B H _ I h) λu S z=>?_;obtain⟨x,C,g,D,a,v,E,F,q⟩:=z;subst E;cases (show u=Value.ref a from D);obtain⟨i,G,J,N⟩:=g.tuple F;have f:=G.length;have L:=cy;refine FK$ Xg (show IsTup S.heap a i.toArray from J) (by simp only[Eh];omega) ?_;have w:b8 (S.heap.push$ revObj a i.toArray.size) S.heap.objs.size a ((v.length:Int) - 1 - ((0:Nat):Int)):=#[_,Ei _ Z,Z,by rw[Eh,<- f];simp [revObj]];refine mq (s:={ S with heap:=S.heap.push (revObj a i.toArray.size),toks:=S.toks+1+1 }) w ?_;refine#[S.heap.objs.size,[S.heap.objs.size],_,_,C,Z,g.kept (t':=S.toks+1+1) λb o e=>Eb _ e,r9 a _ v.length,w,λb M=>?_,q];have e:b=S.heap.objs.size:=by simpa using M
 subst e;exact g.fpOk (Ee _)$ g.hok.fresh$ Ee _
end
theorem Xi{K:Frag}{xs:List V}{g:TG}{t:TS}{D:aJ}(Pv:Nat->St->Hp->Prop)(k:Pv 0 b H)(l:∀i b H,i<=xs.length->Pv i b H->aD K H a xs)
  (n:∀E:aJ,E.rt=D.rt->∀i x b H,xs.reverse[i]?=some x->(∀c f,Pv (i+1) c f->E.nx c f)->∀G:Prop,((g x b H λj o=>t E j o)->G)->Pv i b H->G) (r:∀b H,Pv xs.length b H->D.nx b H):nS (CN K a xs.length) g t D b H:=by
 refine#[λi m b H=>m=xs.length - i/\i<=xs.length/\Pv i b H,#[xs.length,OD,Ek _,k],?_];rintro i m b H ⟨rfl,s,p⟩;have q:=l i b H s p;by_cases d:i < xs.length
 ·refine .inr #[#[xs,_,q,Z,Ed (by simpa using d)],Pv$ i+1,λc f P=>#[xs.length - (i+1),OB,Z,d,P],λx f y=>?_];obtain⟨e,y⟩:=y;subst e;exact n { D with nx:=Pv (i+1),ct:=Pv (i+1),bk:=D.nx } Z i x b _ (y xs q) (λ_ _ h=>h) _ (λz=>z) p
 ·have e:i=xs.length:=by omega
  subst e;exact .inl #[#[xs,q,Z,Z],r b H p]
theorem rH:Slot "list_reverseiterator" "__length_hint__" "list_reverseiterator.__length_hint__":=by refine Slot.of (owner:="list_reverseiterator") (n:="__length_hint__") (by rw[Fn,EQ];kernel_rfl) OE OE OE ?_ (by rw[FX];kernel_rfl);first |exact .inl OE |exact .inr OE
theorem Zm:typeLookup (.type "list_reverseiterator") "__len__"=pure none:=by rw[Fn,EQ];kernel_rfl
theorem yR:isSubtype (.type "list_reverseiterator") (.type "list_reverseiterator")=pure true:=by rw[FX];kernel_rfl
section
variable {prog:Program}{w:World}{A:Around}{E:Value->Shared->Prop}{s:Shared}
theorem xw(H:s.heap.IsRevIter I t k){Q:Bool->Shared->Prop}(h:Q false s):wpAny (model prog w) A (Builtin.List.listLengthHint$ .ref I) Q E s:=by
 unfold Builtin.List.listLengthHint;refine D9$ FM H.typeIs Zm ?_;show wpAny _ A (specialOf (Value.ref I) (Str.ofString "__length_hint__") >>= _) _ _ _;refine D9$ FM H.typeIs rH.lookup ?_;have e:splitId "list_reverseiterator.__length_hint__"=some ("list_reverseiterator","__length_hint__"):=by decide+kernel
 dsimp only;rw[e];dsimp only;refine D9$ Gm (b:=true) H.typeIs yR ?_;simp only[Gu,Em,FF];rw[Er OE,Eu OE];exact Ea h
theorem nD{a:Array Value}{Q:List Value->Shared->Prop}(z:A.handled=none)(f:s.heap.IsRevIter I t ((a.size:Int) - 1))(r:s.heap.IsList t a)(B:t≠I)(C:a.size<=sizeLine)
  (D:∀S,(∀b o,b≠I->s.heap.get? b=some o->S.heap.get? b=some o)->s.heap.objs.size<=S.heap.objs.size->S.gens=s.gens->S.os=s.os->Q a.toList.reverse S):wpAny (model prog w) A (collect$ .ref I) Q E s:=by
 have j:I < s.heap.objs.size:=by obtain⟨o,k,_⟩:=f;exact Ef k
 have n:t < s.heap.objs.size:=by obtain⟨o,k,_⟩:=r;exact Ef k
 have u:I≠s.heap.objs.size:=Ej j;have F:t≠s.heap.objs.size:=Ej n;unfold collect;refine D9 (Mg (Ff K' (by
  rw[ER J' _];show wpAny _ A.in1 (newList [] >>= λl=>again (.builtin "list.__iadd__" #[[l,.ref I],[]])) _ _ s;refine D9$ EZ$ Ea #[FD GY _,Ff Lq ?_];rw[ER GY _];generalize v:s.heap.push { cls:=.type "list",data:=.seq ([]:List Value).toArray }=H;have J:H.get? s.heap.objs.size=some { cls:=.type "list",data:=.seq (List.toArray []) }:=by rw[<- v];exact Ei _ Z
  have G:∀b o,s.heap.get? b=some o->H.get? b=some o:=λb o e=>by rw[<- v];exact Eb _ e
  have h:H.IsRevIter I t ((a.size:Int) - 1):=f.at λo e=>G I o e;have p:H.IsList t a:=r.at λo e=>G t o e;show wpAny _ A.in1 (Builtin.List.listExtendWith (.ref s.heap.objs.size) (.ref I)$ .ref s.heap.objs.size) _ _ { s with heap:=H };unfold Builtin.List.listExtendWith;refine D9$ FG (s:={ s with heap:=H }) h.typeIs ?_;have K:Builtin.List.listSameRef (.ref s.heap.objs.size) (.ref I)=false:=by simp only[Builtin.List.listSameRef,Lo];exact EA u
  have L:(Value.type "list_reverseiterator"==Value.type "list")=false:=by decide
  have M:(Value.type "list_reverseiterator"==Value.type "tuple")=false:=by decide
  simp only[K,L,M,IK,Em,FF];refine D9$ wpAny_pyIter_revIter (s:={ s with heap:=H }) h$ D9$ Ez$ xw (s:={ s with heap:=H }) h ?_;have N:¬s.heap.objs.size∈[I,t]:=by simp only[Fi,EC,Hi,Lh];exact#[EA u,EA F]
  rw[Eu OE];refine Ea #[FD GU _,?_];have W:=(Walks.listRev (prog:=prog) (w:=w) (A:=A.in1) (by simpa using z) I t B a).toS;refine IU W C _ N _ a.size 0 _ (List.toArray []) _ Z (Ek _) #[Ek _,by simpa using h,p] J (Ma _) λS d U m x c=>?_;have O:d=a.toList.reverse.toArray:=by
   apply N4;refine MP λi=>?_;by_cases y:i < a.size
   ·have g:i < d.size:=by rw[c.1];exact y
    have q:=c.2 i d[i] (by simp [g]);rw[FY,FT g,<- q];show a[a.size - 1 - i]?=a.toList.reverse[i]?;rw[Gk (by simpa using y)];simp
   ·rw[Fy (by rw[EE,c.1];omega),Fy (by simp;omega)]
  subst O;show wpAny _ A (load s.heap.objs.size >>= _) _ _ S;refine D9$ Nu x$ Ea ?_;have P:a.toList.reverse.toArray.toList=a.toList.reverse:=by simp
  rw[P];refine D S (λb o R e=>?_) ?_ m.gens m.os
  ·have T:b≠s.heap.objs.size:=Ej (Ef e);exact m.heap b o (by simp only[Fi,EC,Hi,Lh];exact#[T,R])$ G b o e
  ·exact GF$ Ef x)))
end
section
variable {prog:Program}{w:World}{A:Around}{E:Value->Shared->Prop}{s:Shared}
theorem QZ{i:Array Value}{Q:Value->Shared->Prop}(f:A.handled=none)(H:s.heap.IsRevIter I t ((i.size:Int) - 1))(g:s.heap.IsList t i)(j:t≠I)(d:i.size<=sizeLine)
  (h:∀S:Shared,(∀b o,b≠I->s.heap.get? b=some o->S.heap.get? b=some o)->s.heap.objs.size<=S.heap.objs.size->S.gens=s.gens->S.os=s.os->
   Q (.ref S.heap.objs.size) { S with heap:=S.heap.push { cls:=.type "tuple",data:=.seq i.toList.reverse.toArray } }):
  codeAny (model prog w) A (.call (.builtin "tuple.__new__") #[[.type "tuple",.ref I],[]]) (wants Q E) s:=by
 refine LX (show wpAny _ A.in1 (do checkBuiltinCall "tuple.__new__" #[[.type "tuple",.ref I],[]];again (.builtin "tuple.__new__" #[[.type "tuple",.ref I],[]])) _ _ s from ?_);refine D9 (Ij (PySem.F.newCall_tuple_1 _) (Ea #[FD Lp _,Ff PySem.F.entry_tuple_new (by
  rw[ER Lp _];have e:=sub_tuple_self;have a:=init_tuple_lookup;have l:=madeHere_tuple;have c:=H.typeIs;wp_walk using FG c,nD (by simpa using f) H g j d;intro S k z m n;show wpAny _ _ (Builtin.Tuple.tupleExact i.toList.reverse.toArray >>= λv=>ret v) _ _ _;unfold Builtin.Tuple.tupleExact;exact D9$ EZ (Ea$ h S k z m n) (by show i.toList.reverse.toArray.size<=sizeLine;simpa using d))]))
theorem Q0{items:Array Value}{Q:Value->Shared->Prop}(d:A.handled=none)(c:s.heap.IsRevIter I t ((items.size:Int) - 1))(e:s.heap.IsList t items)(f:t≠I)(g:items.size<=sizeLine)
  (h:∀a:Shared,(∀b o,b≠I->s.heap.get? b=some o->a.heap.get? b=some o)->s.heap.objs.size<=a.heap.objs.size->a.gens=s.gens->a.os=s.os->
   Q (.ref a.heap.objs.size) { a with heap:=a.heap.push { cls:=.type "tuple",data:=.seq items.toList.reverse.toArray } }):wpAny (model prog w) A (call (.type "tuple") [.ref I]) Q E s:=by
 refine HS (Q₁:=λO S=>S.TypeIs O "tuple"/\Q O S) PySem.F.called_tuple (PySem.F.typeCall_tuple_1 _) PySem.F.entry_object_init (QZ (by simpa using d) c e f g λa k z i j=>#[#[_,Ei _ Z,Z],h a k z i j]) λO S H=>?_;exact#[H.1,Le O _,object_init_meets PySem.F.called_tuple.init.lookup PySem.F.called_tuple.made OA prog w A.in1 _ S #[H.1,Z,H.2]]
end
section
variable {X:Cx}{e:Expr}{te:TE}{xl xr:Str}{p p2 pos pos2:Pos}
inductive lI(K:Frag)(Q:VK)(x:V)(b:Hp):Prop
 |mk(a c:_)(_:x= .ref a)(_:aF K b a c)(_:∀l,b l=none->Q (.ref l) (af b l (.tup c.reverse)))
def vh(K:Frag)(te:TE):TE:=λa H Q=>te a H (lI K Q)
theorem Zn(M:X.calm=true)(g:Gl X xl)(j:X.mg xl=none)(l:bootBuiltins xl=some (.type "tuple"))(m:Gl X xr)(n:X.mg xr=none)(r:bootBuiltins xr=some (.type "reversed"))(O:PE X e te)
  (t:xl≠"__name__":=by decide) (v:(xl==("__debug__":Str))=false:=by decide) (y:xr≠"__name__":=by decide) (A:(xr==("__debug__":Str))=false:=by decide)
  (E:starEach [.Call (.Name xr p2) [e] [] pos2] X.env=(false,eval (.Call (.Name xr p2) [e] [] pos2) X.env)::starEach [] X.env:=by rfl) (T:(backTo pos$ starEach [] X.env).any (·.1)=false:=by rfl)
  (F:starEach [e] X.env=(false,eval e X.env)::starEach [] X.env:=by rfl) (U:(backTo pos2$ starEach [] X.env).any (·.1)=false:=by rfl):
  PE X (.Call (.Name xl p) [.Call (.Name xr p2) [e] [] pos2] [] pos) (vh X.K te):=by
 intro P s V H Q I h;refine EU$ kN I g j l ?_ t v;refine EM ?_ E T;rw[E];show wpAny _ _ (spliced ((false,eval (.Call (.Name xr p2) [e] [] pos2) X.env)::backTo pos (starEach [] X.env))) _ _ s;refine Fg ?_;refine EU$ kN I m n r ?_ y A;refine EM ?_ F U;rw[F];show wpAny _ _ (spliced ((false,eval e X.env)::backTo pos2 (starEach [] X.env))) _ _ s;refine Fg$ aL (O P s V H _ I h) λu d B=>?_;obtain⟨x,W,f,Y,a,G,ex,hq,q⟩:=B;subst ex;cases (show u=Value.ref a from Y);obtain⟨i,R,C,hz⟩:=f.list hq;have J:=R.length;refine FK$ call_reversed_list C.isList$ FK ?_;have D:a < d.heap.objs.size:=by obtain⟨o,ho,_⟩:=C.isList;exact Ef ho
 refine Q0 (s:={ d with heap:=d.heap.push (PySem.revObj a ((i.toArray.size:Int) - 1)) }) (items:=i.toArray) (I.ok.hd M) #[_,Ei _ Z,Z,Z] (C.isList.at λo e=>Eb _ e) (Ej D)
  (by simp only[Eh];omega) λS k hl kg ko=>?_
 have c:d.heap.objs.size<=S.heap.objs.size:=En (by show _<=(d.heap.push _).objs.size;rw[Fe];exact Fq _) hl;have L:∀b o,d.heap.get? b=some o->(S.heap.push { cls:=.type "tuple",data:=.seq i.toArray.toList.reverse.toArray }).get? b=some o:=λb o e=>Eb _ (k b o (Ej$ Ef e)$ Eb _ e);have hg:(S.heap.push { cls:=.type "tuple",data:=.seq i.toArray.toList.reverse.toArray }).get? S.heap.objs.size=some { cls:=.type "tuple",data:=.seq i.toArray.toList.reverse.toArray }:=Ei _ Z;have N:aM X.prog X.w (af W S.heap.objs.size$ .tup G.reverse) (S.heap.push { cls:=.type "tuple",data:=.seq i.toArray.toList.reverse.toArray }) S.heap.objs.size (.tup G.reverse):=by
  refine#[by rw[FJ];exact hz,i.reverse,ar.reverse R,?_];have ee:i.toArray.toList.reverse.toArray=i.reverse.toArray:=by simp
  rw[<- ee];exact#[_,hg,Z,_,Z]
 exact#[.ref S.heap.objs.size,_,f.call' (ch:=[]) ko (Un.laid L c$ f.hok.fresh c) (f.hok.laid L c N) (by show AllBare S.gens;rw[kg];exact f.bare) (λ_ z=>nomatch z),Z,q _$ f.hok.fresh c]
end
section
variable {prog:Program}{w:World}{A:Around}{E:Value->Shared->Prop}{s:Shared}
theorem Yj{Q:Value->Shared->Prop}(a:s.heap.IsTupleIter J T i)(e:s.heap.IsTuple T I)(f:I[i]?=some x)
  (q:∀b,b.IsTupleIter J T (i+1)->Heap.SameBut J s.heap b->Q x { s with heap:=b }):wpAny (model prog w) A (Builtin.SmallTypes.nextOf$ .ref J) Q E s:=by
 obtain⟨o,H,g,h⟩:=id a;obtain⟨O,c,_,n,d⟩:=e;unfold Builtin.SmallTypes.nextOf;refine D9$ EW (name:=Str.ofString "__next__") a.typeIs Gn$ EV Gn a.typeIs IE (show wpAny _ _ (field (.ref J) 0 >>= _) _ _ s from ?_)$ ID _;refine D9$ EG H h (x:=.ref T) Z (show wpAny _ _ (if (Value.ref T==Value.none)=true then _ else _) _ _ s from ?_);rw[Eu (show ¬((Value.ref T==Value.none)=true) from El)];refine(show wpAny _ _ (field (.ref J) 1 >>= _) _ _ s from D9$ EG H h (x:=.int i 0) Z (show wpAny _ _ (seqItems? (.ref T) >>= _) _ _ s from D9$ Fb c d ?_));simp only[FE,f];refine D9$ Fo H h OD$ Ea #[x,Z,Ea$ q _ #[_,EL _ H$ Fz$ EO h _,(Hn ..).trans g,by rw[EO h];simp [rawInt]] (F8 ..)]
theorem Zo(g:A.handled=none)(H:s.heap.IsTupleIter J T i)(j:s.heap.IsTuple T I)(l:I[i]?=none)
  (q:∀h e,Heap.ExtBut J s.heap h->Shared.TypeIs { s with heap:=h } e "StopIteration"->E e { s with heap:=h }):wpAny (model prog w) A (Builtin.SmallTypes.nextOf$ .ref J) Q E s:=by
 obtain⟨o,a,p,c⟩:=id H;obtain⟨O,d,_,N,f⟩:=j;unfold Builtin.SmallTypes.nextOf;refine D9$ EW (name:=Str.ofString "__next__") H.typeIs Gn$ EV Gn H.typeIs IE (show wpAny _ _ (field (.ref J) 0 >>= _) _ _ s from ?_)$ ID _;refine D9$ EG a c (x:=.ref T) Z (show wpAny _ _ (if (Value.ref T==Value.none)=true then _ else _) _ _ s from ?_);rw[Eu (show ¬((Value.ref T==Value.none)=true) from El)];refine(show wpAny _ _ (field (.ref J) 1 >>= _) _ _ s from D9$ EG a c (x:=.int i 0) Z (show wpAny _ _ (seqItems? (.ref T) >>= _) _ _ s from D9$ Fb d f ?_));simp only[FE,l];refine D9$ FV$ D9$ Fo a c OD ?_;refine JQ (by simpa using g) λh e k t=>q h e (λb o m n=>k b o ?_) t;exact(Et _ _$ EA m).trans n
end
def eE(b:Bool)(h:Heap)(i l:Addr)(k:Nat):Prop:=match b with
 |true=>h.IsListIter i l k
 |false=>h.IsTupleIter i l k
def eG(b:Bool)(h:Heap)(l:Addr)(x:Array Value):Prop:=match b with
 |true=>h.IsList l x
 |false=>h.IsTuple l x
noncomputable def eK:Bool->String
 |true=>"list_iterator"
 |false=>"tuple_iterator"
theorem eE.kp{b:Bool}{H:Heap}(x:eE b h i l k)(e:∀o,h.get? i=some o->H.get? i=some o):eE b H i l k:=by
 cases b
 ·exact Np x e
 ·obtain⟨o,a,r⟩:=x;exact#[o,e o a,r]
theorem eG.kp{b:Bool}{H:Heap}(x:eG b h l a)(e:∀o,h.get? l=some o->H.get? l=some o):eG b H l a:=by
 cases b
 ·obtain⟨o,c,r⟩:=x;exact#[o,e o c,r]
 ·exact Oz x e
theorem eE.ob(x:eE b h i l k):∃o,h.get? i=some o/\o.cls= .type (eK b)/\∀v,o.data≠ .cell v:=by
 cases b
 ·obtain⟨o,H,c,d⟩:=x;exact#[o,H,c,λv z=>by rw[d]at z;cases z]
 ·obtain⟨o,H,c,d⟩:=x;exact#[o,H,c,λv z=>by rw[d]at z;cases z]
section
variable {prog:Program}{w:World}{A:Around}{E:Value->Shared->Prop}{s:Shared}
theorem zZ{Q:Value->Shared->Prop}(H:eE b s.heap J T i)(a:eG b s.heap T I)(c:I[i]?=some x)
  (q:∀h,eE b h J T (i+1)->Heap.SameBut J s.heap h->Q x { s with heap:=h }):wpAny (model prog w) A (Builtin.SmallTypes.nextOf$ .ref J) Q E s:=by
 cases b
 ·exact Yj H a c q
 ·exact wpAny_nextOf_list_item H a c q
theorem Qw(H:A.handled=none)(a:eE b s.heap J T i)(c:eG b s.heap T I)(d:I[i]?=none)
  (q:∀h e,Heap.ExtBut J s.heap h->Shared.TypeIs { s with heap:=h } e "StopIteration"->E e { s with heap:=h }):wpAny (model prog w) A (Builtin.SmallTypes.nextOf$ .ref J) Q E s:=by
 cases b
 ·exact Zo H a c d q
 ·exact wpAny_nextOf_list_end H a c d λh e k #[o,f,g]=>q h (.ref e) k #[o,f,g]
theorem vW{Q:Value->Shared->Prop}(h:eG b s.heap T i)
  (q:Q (.ref s.heap.objs.size) { s with heap:=s.heap.push { cls:=.type (eK b),data:=.fields (List.toArray [.ref T,.int 0 0]) } }):wpAny (model prog w) A (pyIter$ .ref T) Q E s:=by
 cases b
 ·exact Nt h q
 ·exact Ho h q
structure nB(z u v c d a b:Addr):Prop where
 uz:u≠z
 vz:v≠z
 cz:c≠z
 dz:d≠z
 uv:u≠v
 uc:u≠c
 ud:u≠d
 vc:v≠c
 vd:v≠d
 cd:c≠d
 az:a≠z
 av:a≠v
 ac:a≠c
 ad:a≠d
 bz:b≠z
 bv:b≠v
 bc:b≠c
 bd:b≠d
theorem YI{Q:Option Value->Shared->Prop}(D:nB z u v c d a b)
  (H:IsZip s.heap z u v .none) (hu:IsPair s.heap u (.ref c) (.ref d)) (hv:IsPair s.heap v p q) (h1:eE B s.heap c a k) (h2:eE C s.heap d b k) (g1:eG B s.heap a xs) (g2:eG C s.heap b ys) (hx:xs[k]?=some x) (hy:ys[k]?=some y)
  (hQ:∀h,IsZip h z u v (rawInt s.heap.objs.size)->IsPair h v x y->eE B h c a (k+1)->eE C h d b (k+1)->IsPair h s.heap.objs.size x y->h.objs.size=s.heap.objs.size+1->
   (∀e o,e≠z->e≠v->e≠c->e≠d->s.heap.get? e=some o->h.get? e=some o)->Q (some$ .ref s.heap.objs.size) { s with heap:=h }):wpAny (model prog w) A (pyNext$ .ref z) Q E s:=by
 have W:s.TypeIs (.ref z) "zip":=#[_,H,Z];unfold pyNext;refine D9$ GS$ EW (name:=Str.ofString "__next__") W FI$ EV FI W Hh (show wpAny _ _ (field (.ref z) 2 >>= _) _ _ _ from ?_)$ GZ _;refine D9$ EG H Z (x:=.bool false) Z (show wpAny _ _ (field (.ref z) 3 >>= _) _ _ _ from D9$ EG H Z (x:=.ref u) Z$ D9$ Fb hu Z ?_);refine(show wpAny _ _ (Builtin.SmallTypes.ownedTupleIsFree (.ref z) >>= _) _ _ _ from D9 ?_);unfold Builtin.SmallTypes.ownedTupleIsFree;refine D9$ EG H Z (x:=.none) Z$ Ea ?_;simp only[Hk];refine D9$ FV$ D9$ EG H Z (x:=.ref v) Z$ D9$ GH H OD λX F S=>?_;replace F:IsZip X z u v .ellipsis:=F;refine D9 ?_;simp only[MX,M',Ge,GX];refine D9$ D9$ Mu (show wpAny _ _ (Builtin.SmallTypes.nextOf (.ref c) >>= _) _ _ _ from ?_);refine D9$ zZ (s:={ s with heap:=X }) (h1.kp λo e=>S.extBut _ _ D.cz e) (g1.kp λo e=>S.extBut _ _ D.az e) hx λG i2 l=>Ea ?_;have Y:IsPair G v p q:=l.extBut _ _ D.vc (S.extBut _ _ D.vz hv);refine D9$ Fb (s:={ s with heap:=G }) Y Z$ D9$ M4 (s:={ s with heap:=G }) Y λI J r=>?_;replace J:IsPair I v x q:=J;refine D9$ LH$ Ea$ D9$ D9$ Mu (show wpAny _ _ (Builtin.SmallTypes.nextOf (.ref d) >>= _) _ _ _ from ?_);have K:∀e o,e≠z->e≠c->e≠v->s.heap.get? e=some o->I.get? e=some o:=λe o N f g w=>r.extBut _ _ g (l.extBut _ _ f$ S.extBut _ _ N w);refine D9$ zZ (s:={ s with heap:=I }) (h2.kp λo e=>K _ _ D.dz D.cd.symm D.vd.symm e) (g2.kp λo e=>K _ _ D.bz D.bc D.bv e) hy λL i4 i=>Ea ?_;have v4:IsPair L v x q:=i.extBut _ _ D.vd J;refine D9$ Fb (s:={ s with heap:=L }) v4 Z$ D9$ M4 (s:={ s with heap:=L }) v4 λm V j=>?_;replace V:IsPair m v x y:=V;refine D9$ LH$ Ea$ Ea$ D9$ Fb (s:={ s with heap:=m }) V Z$ D9$ Mh ?_;have e5:m.objs.size=s.heap.objs.size:=by rw[j.1,i.1,r.1,l.1,S.1]
 have k5:∀e o,e≠z->e≠v->e≠c->e≠d->s.heap.get? e=some o->m.get? e=some o:=λe o N f g O w=>j.extBut _ _ f (i.extBut _ _ O$ K e o N g f w);have z5:IsZip m z u v .ellipsis:=j.extBut _ _ D.vz.symm (i.extBut _ _ D.dz.symm$ r.extBut _ _ D.vz.symm$ l.extBut _ _ D.cz.symm F);have j1:eE B m c a (k+1):=i2.kp λo e=>j.extBut _ _ D.vc.symm (i.extBut _ _ D.cd$ r.extBut _ _ D.vc.symm e);have j2:eE C m d b (k+1):=i4.kp λo e=>j.extBut _ _ D.vd.symm e;have lz:z < m.objs.size:=Ef z5;refine(show wpAny _ _ (Builtin.SmallTypes.ownedTupleHandOut (.ref z) (.ref m.objs.size) >>= _) _ _ _ from D9 ?_);unfold Builtin.SmallTypes.ownedTupleHandOut;have z6:IsZip (m.push { cls:=.type "tuple",data:=.seq (List.toArray [x,y]) }) z u v .ellipsis:=Eb _ z5;refine D9$ GH z6 OD λm7 P R=>?_;replace P:IsZip m7 z u v (rawInt m.objs.size):=P;refine GH P OD λM t T=>?_;replace t:IsZip M z u v (rawInt m.objs.size):=t;have U:∀e o,e≠z->m.get? e=some o->M.get? e=some o:=λe o n w=>T.extBut _ _ n (R.extBut _ _ n$ Eb _ w);have t8:IsPair M m.objs.size x y:=T.extBut _ _ (EN lz) (R.extBut _ _ (EN lz)$ Ei _ Z);have e8:M.objs.size=m.objs.size+1:=by rw[T.1,R.1,Fe]
 rw[e5]at t t8 e8;refine Ea #[_,Z,Ea ?_];show Q (some$ .ref m.objs.size) _;rw[e5];exact hQ M t (U _ _ D.vz V) (j1.kp λo e=>U _ o D.cz e) (j2.kp λo e=>U _ o D.dz e) t8 e8 λe o N f g O w=>U e o N (k5 e o N f g O w)
theorem Z7{b2:Bool}{ys:Array Value}{p q:Value}{Q:Option Value->Shared->Prop}(C:A.handled=none)(D:nB z u v c d a b)
  (h:IsZip s.heap z u v .none) (F:IsPair s.heap u (.ref c) (.ref d)) (G:eE I s.heap c a k) (J:eG I s.heap a L) (K:L[k]?=none)
  (O:∀H,(∀e o,e≠z->e≠v->e≠c->e≠d->s.heap.get? e=some o->H.get? e=some o)->Q none { s with heap:=H }):wpAny (model prog w) A (pyNext$ .ref z) Q E s:=by
 have g:s.TypeIs (.ref z) "zip":=#[_,h,Z];unfold pyNext;refine D9$ GS$ EW (name:=Str.ofString "__next__") g FI$ EV FI g Hh (show wpAny _ _ (field (.ref z) 2 >>= _) _ _ _ from ?_)$ GZ _;refine D9$ EG h Z (x:=.bool false) Z (show wpAny _ _ (field (.ref z) 3 >>= _) _ _ _ from D9$ EG h Z (x:=.ref u) Z$ D9$ Fb F Z ?_);refine(show wpAny _ _ (Builtin.SmallTypes.ownedTupleIsFree (.ref z) >>= _) _ _ _ from D9 ?_);unfold Builtin.SmallTypes.ownedTupleIsFree;refine D9$ EG h Z (x:=.none) Z$ Ea ?_;simp only[Hk];refine D9$ FV$ D9$ EG h Z (x:=.ref v) Z$ D9$ GH h OD λm f S=>?_;replace f:IsZip m z u v .ellipsis:=f;refine D9 ?_;simp only[MX,M',Ge,GX];refine D9$ D9$ Mu (show wpAny _ _ (Builtin.SmallTypes.nextOf (.ref c) >>= _) _ _ _ from ?_);refine D9$ Qw (s:={ s with heap:=m }) (by simpa using C) (G.kp λo e=>S.extBut _ _ D.cz e) (J.kp λo e=>S.extBut _ _ D.az e) K λM e i j=>?_;have l:IsZip M z u v .ellipsis:=i _ _ D.cz.symm f;refine GH (s:={ s with heap:=M }) l OD λn U r=>?_;have t:Shared.TypeIs { s with heap:=n } e "StopIteration":=by
  cases e with
  |ref x=>
   obtain⟨o,y,B⟩:=j;have P:x≠z:=λw=>by subst w;have:=y.symm.trans l;cases this;injection B with w;exact absurd w OA
   exact#[o,r.extBut _ _ P y,B]
  |_=>exact j
 exact D9$ Gm (T:="StopIteration") (b:=true) t IR$ Ea$ O n λe o N V R W w=>r.extBut _ _ N (i _ _ R$ S.extBut _ _ N w)
theorem Z8{b1 b2:Bool}{xs ys:Array Value}{Q:Value->Shared->Prop}(J:eG b1 s.heap a xs)(L:eG b2 s.heap b ys)
  (h:∀H,IsZip H (s.heap.objs.size+4) (s.heap.objs.size+2) (s.heap.objs.size+3) .none->IsPair H (s.heap.objs.size+2) (.ref s.heap.objs.size) (.ref$ s.heap.objs.size+1)->
   IsPair H (s.heap.objs.size+3) .none .none->eE b1 H s.heap.objs.size a 0->eE b2 H (s.heap.objs.size+1) b 0->(∀e o,s.heap.get? e=some o->H.get? e=some o)->Q (.ref$ s.heap.objs.size+4) { s with heap:=H }):
  wpAny (model prog w) A (call (.type "zip") [.ref a,.ref b]) Q E s:=by
 refine callType_new (S:=λ_ R c=>c=s/\R (.ok$ .ret$ .ref$ s.heap.objs.size+4) { s with heap:=((((s.heap.push { cls:=.type (eK b1),data:=.fields (List.toArray [.ref a,.int 0 0]) }).push { cls:=.type (eK b2),data:=.fields (List.toArray [.ref b,.int 0 0]) }).push { cls:=.type "tuple",data:=.seq (List.toArray [.ref s.heap.objs.size,.ref$ s.heap.objs.size+1]) }).push { cls:=.type "tuple",data:=.seq (List.toArray [.none,.none]) }).push { cls:=.type "zip",data:=.fields (List.toArray [.none,.bool false,.bool false,.ref$ s.heap.objs.size+2,.ref$ s.heap.objs.size+3]) } })
  PySem.F.called_zip OA (PySem.F.typeCall_zip_2 _ _) (PySem.F.newCall_zip_2 _ _) (λO=>PySem.F.args_object_init_3 O _ _) PySem.F.entry_zip_new (.of_wp λp w' A' R c P=>?_) #[Z,?_]
 ·obtain⟨rfl,q⟩:=P;obtain⟨r,g,D,t,os⟩:=c;have u:=sub_zip;have T:eG b1 (Shared.heap #[r,g,D,t,os]) a xs:=J;have _L:eG b2 (Shared.heap #[r.push { cls:=.type (eK b1),data:=.fields (List.toArray [.ref a,.int 0 0]) },g,D,t,os]) b ys:=L.kp λo e=>Eb _ e;wp_walk using vW T,vW _L;refine#[_,Z,?_];simp only[Fe]at q ⊢;exact q
 ·have z (h:Heap) (o:Obj):(h.push o).objs.size=h.objs.size+1:=Fe ..;generalize d:s.heap.push { cls:=.type (eK b1),data:=.fields (List.toArray [.ref a,.int 0 0]) }=M;generalize f:M.push { cls:=.type (eK b2),data:=.fields (List.toArray [.ref b,.int 0 0]) }=i;generalize j:i.push { cls:=.type "tuple",data:=.seq (List.toArray [.ref s.heap.objs.size,.ref$ s.heap.objs.size+1]) }=k;generalize l:k.push { cls:=.type "tuple",data:=.seq (List.toArray [.none,.none]) }=n;generalize v:n.push { cls:=.type "zip",data:=.fields (List.toArray [.none,.bool false,.bool false,.ref$ s.heap.objs.size+2,.ref$ s.heap.objs.size+3]) }=m;have N:M.objs.size=s.heap.objs.size+1:=by rw[<- d,z]
  have x:i.objs.size=s.heap.objs.size+2:=by rw[<- f,z,N]
  have y:k.objs.size=s.heap.objs.size+3:=by rw[<- j,z,x]
  have U:n.objs.size=s.heap.objs.size+4:=by rw[<- l,z,y]
  have K:∀e o,n.get? e=some o->m.get? e=some o:=λe o w=>by rw[<- v];exact Eb _ w
  have B:∀e o,k.get? e=some o->m.get? e=some o:=λe o w=>K e o (by rw[<- l];exact Eb _ w);have C:∀e o,i.get? e=some o->m.get? e=some o:=λe o w=>B e o (by rw[<- j];exact Eb _ w);have G:∀e o,M.get? e=some o->m.get? e=some o:=λe o w=>C e o (by rw[<- f];exact Eb _ w);have V:∀e o,s.heap.get? e=some o->m.get? e=some o:=λe o w=>G e o (by rw[<- d];exact Eb _ w);have I:IsZip m (s.heap.objs.size+4) (s.heap.objs.size+2) (s.heap.objs.size+3) .none:=by rw[<- U,<- v];exact Ei _ Z
  have W:IsPair m (s.heap.objs.size+3) .none .none:=K _ _ (by rw[<- y,<- l];exact Ei _ Z);have X:IsPair m (s.heap.objs.size+2) (.ref s.heap.objs.size) (.ref$ s.heap.objs.size+1):=B _ _ (by rw[<- x,<- j];exact Ei _ Z);have Y:m.get? (s.heap.objs.size+1)=some { cls:=.type (eK b2),data:=.fields (List.toArray [.ref b,.int 0 0]) }:=C _ _ (by rw[<- N,<- f];exact Ei _ Z);have q1:m.get? s.heap.objs.size=some { cls:=.type (eK b1),data:=.fields (List.toArray [.ref a,.int 0 0]) }:=G _ _ (by rw[<- d];exact Ei _ Z);refine#[#[_,I,Z],h m I X W ?_ ?_ V]
  ·cases b1<;>exact#[_,q1,Z,Z]
  ·cases b2<;>exact#[_,Y,Z,Z]
end
def Cr(K:Frag)(b:Bool)(H:Hp)(a:Addr)(x:List V):Prop:=match b with
 |true=>aF K H a x
 |false=>aD K H a x
theorem am.sqB{X:Cx}(I:am X c d H s)(h:Cr X.K b H a x):∃i:List Value,ar x i/\eG b s.heap a i.toArray:=by
 cases b
 ·obtain⟨i,r,p,_⟩:=I.tuple h;exact#[i,r,p]
 ·obtain⟨i,r,p,_⟩:=I.list h;exact#[i,r,p.isList]
theorem YJ(n a b:Nat)(h:a < n)(H:b < n):nB (n+4) (n+2) (n+3) n (n+1) a b:=by refine#[?_,?_,?_,?_,?_,?_,?_,?_,?_,?_,?_,?_,?_,?_,?_,?_,?_,?_]<;>(show(_:Nat)≠_;omega)
section
variable {prog:Program}{w:World}{A:Around}{E:Value->Shared->Prop}
theorem vH(h:l≠J):∀(n i:Nat) (s:Shared) (Q:List Value->Shared->Prop),s.heap.IsListIter J l i->s.heap.IsList l I->i+n<=I.size->
  (∀a,a.IsListIter J l (i+n)->Heap.SameBut J s.heap a->Q ((I.toList.drop i).take n) { s with heap:=a })->wpAny (model prog w) A (draw (.ref J) n) Q E s
 |0,i,s,Q,b,_,_,q=>show wpAny _ _ (pure []) Q E s from Ea (by simpa using q s.heap b (LG ..))
 |n+1,i,s,Q,b,c,d,q=>by
  have H:i < I.size:=by omega
  refine(show wpAny _ _ (pyNext (.ref J) >>= _) Q E s from D9$ MJ b c (x:=I[i]) (by simp [H]) λm j S=>?_);refine D9$ Ez$ vH h n (i+1) _ _ j (c.extBut S.extBut h) OB λf g k=>Ea ?_;have e:=q f (by rw[show i+(n+1)=i+1+n by omega];exact g) (S.trans k);rwa [show I.toList.drop i=I[i]::I.toList.drop (i+1) by simp [List.drop_eq_getElem_cons,H],List.take_succ_cons]at e
theorem vj{s:Shared}{Q:List Value->Shared->Prop}(f:A.handled=none)(h:s.heap.IsList l i)(a:i.size=n)
  (q:∀c,Heap.ExtBut s.heap.objs.size s.heap c->Q i.toList { s with heap:=c }):wpAny (model prog w) A (unpackItems (.ref l) n none) Q E s:=by
 have H:l≠s.heap.objs.size:=by obtain⟨o,g,_⟩:=h;exact Ej$ Ef g
 unfold unpackItems;refine D9 ?_;unfold notIterableAtAll;refine D9$ FM h.typeIs slot_list_iter.lookup ?_;refine Ea ?_;simp only[Em,FF];refine D9$ Ez$ Ho h ?_;have I:(s.heap.push { cls:=.type "list_iterator",data:=.fields (List.toArray [.ref l,.int 0 0]) }).IsListIter s.heap.objs.size l 0:=#[_,Ei _ Z,Z,Z];refine D9$ Ez$ vH H n 0 _ _ I (h.push _) OB λj J S=>?_;have k:(i.toList.drop 0).take n=i.toList:=by rw[Nn,Gg (by simp [a])]
 rw[k,Eu (by simp [a])];have L:j.IsList l i:=(h.push _).extBut S.extBut H;refine D9$ Ez$ MV f J L (by simp [a]) λm p=>?_;simp only[Option.isSome_none,Em,FF];exact Ea$ q m λb o d e=>p b o d (S.extBut b o d$ Eb _ e)
end
section
variable {X:Cx}{pos:Pos}
inductive C1(K:Frag)(n:Nat)(t:sN)(v:V)(c:St)(H:Hp)(Q:St->Hp->Prop):Prop
 |mk(a b:_)(_:v= .ref a)(_:aF K H a b)(_:b.length=n)(_:t b c H Q)
theorem YK{E:List Expr}{k n:Nat}{t:sN}(g:X.calm=true)(h:Af X E t)
  (i:(assignEach E X.env).length=n:=by rfl) (c:(assignEach E X.env).findIdx? (·.1)=none:=by rfl):PG X (.Tuple E k pos) (C1 X.K n t):=by
 intro P s f H v u Q I r d;obtain⟨a,x,j,l,m,d⟩:=d;subst j;cases r;obtain⟨q,R,p,A⟩:=I.list l;rw[assign_Tuple];refine D9$ GR ?_;unfold unpack;rw[i,c];refine D9$ Ez$ vj (I.ok.hd g) p.isList (by simp [<- m,R.length]) λw y=>?_;have z:am X P f H { s with heap:=w }:=I.kept (t':=s.toks) λb o e=>y b o (Ej$ Ef e) e;exact h P _ f H x _ Q z (by simpa using R) d
inductive rP(K:Frag)(i j k:Nat)(D:aJ)(f:St)(x:V)(b:Hp):Prop
 |mk(a c d e:_)(_:x= .ref a)(_:aD K b a [c,d,e])(_:D.nx (((f.set k (some e)).set j (some d)).set i (some c)) b)
def wo(K:Frag)(t:TE)(i j k:Nat):TS:=λD a H=>t a H (rP K i j k D a)
theorem uD{t e:Expr}{T:TE}{x y z:Str}{i j k:Nat}(n:X.calm=true)(c:X.N.Nodup)(w:X.N[i]?=some x)(A:X.N[j]?=some y)(B:X.N[k]?=some z)(L:nU X.env.scope x)(C:nU X.env.scope y)(E:nU X.env.scope z)(F:PE X e T)
  (G:X.fn x=true∨X.env.scope.names.lookup x=some .local:=by first |exact .inl Z |exact .inr Z) (J:X.fn y=true∨X.env.scope.names.lookup y=some .local:=by first |exact .inl Z |exact .inr Z) (M:X.fn z=true∨X.env.scope.names.lookup z=some .local:=by first |exact .inl Z |exact .inr Z)
  (O:swapsWithSole [t] e pos.line X.env=pure false:=by rfl) (P:swappedStores [t] e X.env=pure (some [x,y,z]):=by rfl):PS X (.Assign [t] e pos) (wo X.K T i j k):=by
 intro p s f H D I h;rw[exec_Assign_arm];refine D9$ GR ?_;rw[O];refine D9$ Ea ?_;rw[Eu OA];refine D9$ aL (F p s f H _ I h) λv S d=>?_;obtain⟨xv,g,l,R,a,v1,v2,v3,Q,V,q⟩:=d;rw[P];refine D9$ Ea ?_;subst Q;cases R;obtain⟨W,r,Y,hz⟩:=l.tuple V;cases r with
 |cons q1 r=>
  cases r with
  |cons q2 r=>
   cases r with
   |cons q3 r=>
    cases r
    rename_i u U m
    unfold assignStores;refine D9$ FV$ D9$ wpAny_unpackItems_tuple (items:=(List.toArray [u,U,m])) (I.ok.hd n) Y λh' hx=>?_;have I2:am X p f g { S with heap:=h' }:=l.kept (t':=S.toks) λb o e=>hx b o (Ej$ Ef e) e;refine D9 ?_;show wpAny _ _ (assignInOrder [λv=>bindName X.env z v,λv=>bindName X.env y v,λv=>bindName X.env x v] [m,U,u]) _ _ _;refine D9$ Ez$ Ml$ zw I2 c B E q3 (λs2 I3=>?_) M;refine D9$ Ez$ Ml$ zw I3 c A C q2 (λs3 I4=>?_) J;refine D9$ Ez$ Ml$ zw I4 c w L q1 (λs4 I5=>?_) G;exact Ea$ Ea #[_,g,I5,q]
end
theorem sV(l b:Addr)(I i:Array Value)(n N:Nat)(D:Option Addr)(S:Array (Option Value))(e:¬(!I.isEmpty&&Builtin.List.listTooLong (I.size+i.size))=true)(W:I.size<=sizeLine)(a:I.size+i.size<=sizeLine+1):
  Meets (Builtin.«list.extend» #[[.ref l,.ref b],[]]) (λ_ R s=>s.heap.get? l=some { cls:=.type "list",dict:=none,data:=.seq I n,slots:=(List.toArray []) }/\s.heap.get? b=some #[.type "tuple",D,.seq i N,S]/\R (.ok$ .ret Value.none) { s with heap:=s.heap.update l (Obj.mapSeq λx=>x++i),toks:=s.toks }):=by
 refine NF λp w A R s h=>?_;obtain⟨f,g,d,t,os⟩:=s;obtain⟨H,c,h⟩:=h;have F:=AutoSeq1.idx_int;have j:=Lk;have k:=AutoSeq1.sub_list_list;have m:=AutoSeq1.sub_tuple_list;have o:=AutoSeq1.sub_list_tuple;have hz:(I++i).size<=sizeLine+1:=by rw[IW];exact a
 wp_walk using (GN H Z (hz:=W) (_hz':=hz)),Lj H,Lj c;exact#[_,Z,h]
section
variable {X:Cx}
inductive gG(K:Frag)(x:V)(a:List V)(H:Hp)(Q:VK):Prop
 |mk(l b c d:_)(_:x= .ref l)(_:a=[.ref b])(_:H l=some (.lst c))(_:aD K H b d)(_:c.length+d.length<=sizeLine)(_:Q .non (af H l (.lst (c++d))))
theorem Yk:Cm X "list.extend" (gG X.K):=by
 intro p s A H x V v U Q I g j h;obtain⟨l,b,B,C,rfl,rfl,f,k,D,q⟩:=h;cases g;obtain⟨u,rfl,m⟩:=j.one;cases m;obtain⟨z,a,n,r,E,e⟩:=I.lstM f;obtain⟨i,R,P,F⟩:=I.tuple k;have o:=R.length;have d:a.toArray.size+i.toArray.size<=sizeLine:=by rw[Eh,Eh];omega
 have c:¬(!a.toArray.isEmpty&&Builtin.List.listTooLong (a.toArray.size+i.toArray.size))=true:=by rw[eL d,Nr];exact El
 obtain⟨⟨G,O,J,S⟩,t,w,N,y⟩:=P;cases w;cases y;refine IC Nf #[_,e,Z] M3 (MT _ _) (sV l b a.toArray i.toArray n N O S c (by rw[Eh];omega) OB) #[e,t,?_];refine#[.non,_,I.lset (its':=a++i) f e OD (r.append R) (by rw[Eg];omega),Z,q]
end
section
variable {prog:Program}{w:World}{A:Around}{E:Value->Shared->Prop}{s:Shared}
theorem Jk{R:Result->Shared->Prop}{P:Nat->Value->Prop}{St:Nat->Shared->Prop}
  (W:WalksS prog w A.in1 I N j G n P St) (S:Addr) (H:¬S∈N) (c:List Str) (O:c.length=n) (Q:∀i v,P i v->∃x t,c[i]?=some x/\v= .str x t) (d:∀L:List Str,L.Nodup->(∀x∈L,x∈c)->L.length+1 < scanBound):
  ∀(k i:Nat) (s:Shared) (L:List Str),n - i=k->i<=n->St i s->cg prog w s.heap S L->(∀x,x∈L↔x∈c.take i)->L.length<=i->
   (∀a l,Moved (S::j) G s a->cg prog w a.heap S l->(∀x,x∈l↔x∈c)->l.length<=n->R (.ok$ .ret .none) a)->
   codeAny (model prog w) A (.builtin "set.update.loop" #[[.ref S,.ref I],[]]) R s:=by
 have f:¬S∈j:=λz=>H (W.sub _ z);have sub:∀b∈j,b∈S::j:=λb z=>Ew _ z;intro k;induction k with
 |zero=>
  intro i s L T U st p q F r;have e:i=n:=by omega
  subst e;refine Ff HM ?_;rw[ER GG];show wpAny _ A.in1 (pyNext (.ref I) >>= _) _ _ s;refine D9$ W.done s _ _ st λa m=>?_;show wpAny _ A.in1 (ret Value.none) _ _ a;refine Ea$ r a L (m.mono sub) (p.at λo e=>m.heap S o f e) (λx=>?_) F;rw[q x,<- O,Fd]
 |succ k V=>
  intro i s L T U st p q F r;have J:i < n:=by omega
  refine Ff HM ?_;rw[ER GG];show wpAny _ A.in1 (pyNext (.ref I) >>= _) _ _ s;refine D9$ W.item i s _ _ J st λv a X u m=>?_;obtain⟨x,t,B,rfl⟩:=Q i v X;show wpAny _ A.in1 (holding [Value.str x t] (setAdd S$ .str x t) >>= _) _ _ a;refine D9$ Ez ?_;have h:L.Nodup:=by obtain⟨_,_,_,_,_,_,_,_,_,h,_⟩:=p;exact h
  refine XA (p.at λo e=>m.heap S o f e) (d L h λx B=>Fp ((q x).mp B)) λb h' Y K S2 g=>?_;refine Ea #[FD GG _,V (i+1) _ _ OB J (W.frame _ a _ _ u g λb d o e=>?_) S2 (λy=>?_) ?_ λC l M D q1 q2=>?_]
  ·rw[K.2 b (λz:b=S=>H (by rw[<- z];exact d))];exact e
  ·have tk:c.take (i+1)=c.take i++[x]:=by rw[Gw,B];rfl
   rw[tk,Hc,IM,<- q y];split
   ·rename_i hm
    exact#[.inl,λz=>z.elim id λe=>e▸hm]
   ·rw[Hc,IM]
  ·split
   ·omega
   ·rw[Eg,Gj];omega
  ·refine r C l (Mo W.gtrans ((m.mono sub).then_heap g λb o d e=>?_) M) D q1 q2;rw[K.2 b (λz:b=S=>d (by rw[z];exact Es))];exact e
end
section
variable {prog:Program}{w:World}{A:Around}{E:Value->Shared->Prop}{s:Shared}
set_option maxHeartbeats 3200000 in
theorem JO{Q:Value->Shared->Prop}
  (hh:A.handled=none) (hl:s.heap.IsList l I) (hi:StrsAre I.toList n) (C:∀L:List Str,L.Nodup->(∀x∈L,x∈n)->L.length+1 < scanBound)
  (h:∀(a:Heap) (t:Nat) L,cg prog w a s.heap.objs.size L->(∀x,x∈L↔x∈n)->L.length<=I.size->
   (∀b o,b < s.heap.objs.size->s.heap.get? b=some o->a.get? b=some o)->s.toks<=t->Q (.ref s.heap.objs.size) { s with heap:=a,toks:=t }):
  wpAny (model prog w) A (call (.type "set") [.ref l]) Q E s:=by
 obtain⟨c,tl,m1⟩:=PySem.F.called_set.mro;have m0:=PySem.F.called_set.made;have sb:=PySem.F.called_set.sub;refine Mj$ LX ?_;show wpAny _ _ (callAny (.type "set") _) _ _ _;refine Ea #[Code.quiet_builtin _ OE,Ff PySem.F.entry_type_call ?_];rw[Around.under_plain (weight_type_call_type "set" [.ref l] []) Z];have n1:=PySem.F.called_set.notType;have n2:=PySem.F.called_set.canCreate;have ct:=PySem.F.typeCall_set_1 (.ref l);repeat (any_goals (first |assumption |wp_step))
 refine Ga (KR (.ref l) (E:=E) (G:=λv S=>v= .ref s.heap.objs.size/\S={ s with heap:=s.heap.push (be w) }) #[Z,Z]) λr S D=>?_;cases r with
 |error e=>exact D
 |ok fl=>
  cases fl with
  |ret o2=>
   obtain⟨rfl,rfl⟩:=D;have J:(s.heap.push$ be w).get? s.heap.objs.size=some (be w):=Ei _ Z;have hT:Shared.TypeIs { s with heap:=s.heap.push (be w) } (.ref s.heap.objs.size) "set":=#[_,J,Z];have li:=PySem.F.called_set.init.lookup;have bi:=PySem.F.called_set.init.bind (.ref s.heap.objs.size);repeat (any_goals (first |assumption |wp_step))
   refine Ga (codeAny_call_builtin (R:=wants (λr d=>r= .none/\∃a t L,d={ s with heap:=a,toks:=t }/\cg prog w a s.heap.objs.size L/\(∀x,x∈L↔x∈n)/\L.length<=I.size/\
     (∀b o,b < s.heap.objs.size->s.heap.get? b=some o->a.get? b=some o)/\s.toks<=t) E) PySem.F.called_set.init.plain PySem.F.entry_set_init (check_set_init_1 hT ?_)) λp d H=>?_
   ·obtain⟨ol,q,u,nl,y⟩:=hl;obtain⟨o1,g,K,O⟩:=ol;simp only at u y;subst u;subst y;have f:(s.heap.push$ be w).get? l=some { cls:=.type "list",dict:=g,data:=.seq I nl,slots:=O }:=Eb _ q;have ns:=PySem.F.sub_list_set;have nf:=PySem.F.sub_list_frozenset;have ne:(Value.type "list"==Value.type "dict")=false:=by decide
    have j:(s.heap.push$ be w).IsList l I:=#[_,f,Z,nl,Z];unfold be at J hT f j ⊢;unfold Builtin.«set.__init__» noKeywords Builtin.Frozenset.updateFrom;generalize M:pyIter=PI;wp_walk;subst M;refine Ho j ?_;refine D9$ Mg ?_;have z:l < s.heap.objs.size:=Ef q;have h3:A.in1.in1.in1.handled=none:=by simp [hh]
    have N:l≠(s.heap.push$ be w).objs.size:=by rw[Fe];exact Ej$ GL z
    have P:¬s.heap.objs.size∈[(s.heap.push$ be w).objs.size,l]:=by rw[Fe];simp only[Fi,EC,Hi,Lh];exact#[Ej$ EX _,EN z]
    have B:n.length=I.size:=by rw[_L.StrsAre.len hi,EE]
    refine Jk ((NN h3 _ l N I).toS) s.heap.objs.size P n B (λi v hv=>StrsAre.at' hi i v (by rw[FY];exact hv)) C (I.size - 0) 0 _ [] OB (Ek _)
     #[#[_,Ei _ Z,Z,Z],j.push _] (XB$ Eb _ J) (λx=>by simp) (Ee _) λs' L m T U V=>?_
    obtain⟨a,g',d',W,X⟩:=s';have eg:g'=s.gens:=m.gens;have ed:d'=s.drawn:=m.drawn;have eo:X=s.os:=m.os;subst eg;subst ed;subst eo;show wpAny _ _ _ _ _ _;refine Ea ?_;show wpAny _ _ (ret Value.none) _ _ _;refine Ea #[Z,a,W,L,Z,T,U,V,λb o C e=>?_,m.toks];have b1:b≠s.heap.objs.size:=Ej C;have b2:b≠(s.heap.push$ be w).objs.size:=by rw[Fe];exact Ej$ GL C
    exact m.heap b o (by simp only[Fi,EC,Hi,Lh];exact#[b1,b2])$ Eb _$ Eb _ e
   ·cases p with
    |error e=>exact H
    |ok k=>
     cases k with
     |ret r=>
      obtain⟨rfl,a,t,L,rfl,T,U,V,Y,q3⟩:=H;repeat (any_goals (first |assumption |wp_step))
      exact h _ _ _ T U V Y q3
     |_=>exact H.elim
  |_=>exact D.elim
end
section
variable {X:Cx}
theorem qM(m:X.calm=true):dw X (.type "set") (λg H Q=>∃(p:Addr) (S:List Str),g=[.ref p]/\aF X.K H p (S.map V.str)/\(∀L:List Str,L.Nodup->(∀x∈L,x∈S)->L.length+1 < scanBound)/\
  ∀l L,H l=none->L.Nodup->(∀x,x∈L↔x∈S)->Q (.ref l) (af H l$ Cu X.prog X.w l L)):=by
 intro P s B H g U Q I r h;obtain⟨p,S,rfl,n,t,q⟩:=h;obtain⟨u,rfl,R⟩:=dC r;cases R;obtain⟨i,v,y,C⟩:=I.list n;have j:=zY v;have D:i.length=S.length:=(_L.StrsAre.len j).symm;refine JO (I.ok.hd m) y.isList (by simpa using j) t λc T L d z E k _=>?_;have a:L.Nodup:=by obtain⟨_,_,_,_,_,_,_,_,_,a,_⟩:=d;exact a
 have A:∀b o,s.heap.get? b=some o->c.get? b=some o:=λb o e=>k b o (Ef e) e;obtain⟨o,f⟩:∃o,c.get? s.heap.objs.size=some o:=let #[o,_,_,_,f,_]:=d;#[o,f]
 exact#[.ref s.heap.objs.size,_,I.laid A (Ee _) (show aM X.prog X.w _ c _ (Cu X.prog X.w s.heap.objs.size L) from #[d,#[o,f],λF G x e=>cg.at x e]),Z,q _ _ (I.hok.fresh$ Ee _) a z]
end
section
variable {X:Cx}{CX:mf}{k:Nat}{f C:Addr}{fd:FuncData}{ps:List Str}{sp:Sp}{dvs:List V}{ds:List Value}{E:XK}{x m:Str}{p pos apos:Pos}{e:Expr}{es:List Expr}{t:TA}
structure wE(K:Frag)(C:Addr)(m:Str)(f:Addr):Prop where
 rd:PySem.W.readsIn K C (.type "type")=true
 ga:specialIn K (.ref C) "__getattribute__"=some (some$ .builtin "type.__getattribute__")
 at_:PySem.W.findCls K (.ref C) (.type "type") m=some (.val$ .ref f)
 kp:keepIn K (.ref f)=true
theorem ut{pl:Sem Bool}(j:Gl X x)(l:X.mg x=some (.ref C))(M:wE X.K C m f)(F:aj X.prog X.w X.K X.mg X.base CX k f fd ps sp)(n:bH k X.A)(q:ax X.K fd ps ds)(u:ar dvs ds)(v:df CX X E)(y:PA X (e::es) t)
  (a:(x==("__debug__":Str))=false:=by decide)
  (c:starEach (e::es) X.env=(false,eval e X.env)::starEach es X.env:=by rfl) (d:(backTo pos$ starEach es X.env).any (·.1)=false:=by rfl)
  (z:eval (.Call (.Attribute (.Name x p) m apos) (e::es) [] pos) X.env=(do
   let O <- eval (.Name x p) X.env
   standAt apos.atName
   let (f,first) <- holding [O] (getMethod O m pl)
   callWith pos f first (backTo pos$ starEach (e::es) X.env) (backToKw pos$ keywordEach [] X.env)):=by rfl):
  PE X (.Call (.Attribute (.Name x p) m apos) (e::es) [] pos) (dB sp dvs E t):=by
 intro P s g H Q I h;refine Ia (pl:=pl) (zh I j l ?_ a) z;refine PySem.W.method_cls I.kIn M.ga$ PySem.W.cls_value I.kIn M.rd M.at_ Z ?_;have B:am X P g H { s with toks:=s.toks+1 }:=I.kept (h':=s.heap) λb o e=>e;refine Ld (h₀:=X.base) I.ok.mod.kin M.kp (aL (y pos P _ g H _ B h) λU S #[G,J,i,r,D]=>#[i.kIn,?_]) c d;exact QE F n q u v i r D
end
abbrev dG(h:Heap)(z u v T:Addr)(f:Bool):Prop:=
 h.get? z=some { cls:=.type "zip",dict:=none,data:=.fields (List.toArray [rawInt T,.bool f,.bool false,.ref u,.ref v]),slots:=(List.toArray []) }
section
variable {prog:Program}{w:World}{A:Around}{E:Value->Shared->Prop}{s:Shared}
theorem Zp{Q:Option Obj->Shared->Prop}(h:Q (s.heap.get? a) s):wpAny M A (loadIfAlive a) Q E s:=λ_ _ _=>h
theorem Aw{Q:Bool->Shared->Prop}(H:dG s.heap z u v T f)(a:∃o,s.heap.get? T=some o)
  (q:∀h,dG h z u v T true->Heap.ExtBut z s.heap h->h.objs.size=s.heap.objs.size->Q false { s with heap:=h }):wpAny (model prog w) A (Builtin.SmallTypes.ownedTupleIsFree$ .ref z) Q E s:=by
 unfold Builtin.SmallTypes.ownedTupleIsFree;refine D9$ EG H Z (x:=rawInt T) Z ?_;show wpAny _ _ (loadIfAlive ((T:Int).toNat) >>= _) _ _ s;refine D9$ Zp ?_;obtain⟨o,c⟩:=a;rw[FE,c];simp only[Mr,Em,FF];refine D9$ EG H Z (x:=.bool f) Z ?_;cases f with
 |true=>simp only[Gy,Em,FF];exact D9$ Ea$ Ea$ q s.heap H (λb o _ e=>e) Z
 |false=>rw[Er OA];refine D9$ GH H OD λh d S=>Ea (q h d S.extBut S.1)
theorem YL{Q:Option Value->Shared->Prop}(D:nB z u v c d a b)
  (g:dG s.heap z u v T f) (p:∃o,s.heap.get? T=some o) (q:IsPair s.heap u (.ref c) (.ref d)) (r:eE B s.heap c a k) (t:eE l s.heap d b k) (G:eG B s.heap a C) (F:eG l s.heap b Y) (I:C[k]?=some x) (J:Y[k]?=some y)
  (L:∀h,dG h z u v T true->eE B h c a (k+1)->eE l h d b (k+1)->IsPair h s.heap.objs.size x y->h.objs.size=s.heap.objs.size+1->
   (∀e o,e≠z->e≠c->e≠d->s.heap.get? e=some o->h.get? e=some o)->Q (some$ .ref s.heap.objs.size) { s with heap:=h }):wpAny (model prog w) A (pyNext$ .ref z) Q E s:=by
 have H:s.TypeIs (.ref z) "zip":=#[_,g,Z];unfold pyNext;refine D9$ GS$ EW (name:=Str.ofString "__next__") H FI$ EV FI H Hh (show wpAny _ _ (field (.ref z) 2 >>= _) _ _ _ from ?_)$ GZ _;refine D9$ EG g Z (x:=.bool false) Z (show wpAny _ _ (field (.ref z) 3 >>= _) _ _ _ from D9$ EG g Z (x:=.ref u) Z$ D9$ Fb q Z ?_);refine(show wpAny _ _ (Builtin.SmallTypes.ownedTupleIsFree (.ref z) >>= _) _ _ _ from D9$ Aw g p λO P i n=>?_);simp only[Em,FF];refine D9 ?_;simp only[ME,Ge,GX];refine D9$ D9$ Ez (show wpAny _ _ (Builtin.SmallTypes.nextOf (.ref c) >>= _) _ _ _ from ?_);refine D9$ zZ (s:={ s with heap:=O }) (r.kp λo e=>i _ _ D.cz e) (G.kp λo e=>i _ _ D.az e) I λM R j=>Ea (Ea ?_);refine D9$ D9$ Ez (show wpAny _ _ (Builtin.SmallTypes.nextOf (.ref d) >>= _) _ _ _ from ?_);have K:∀e o,e≠z->e≠c->s.heap.get? e=some o->M.get? e=some o:=λe o n U w=>j.extBut _ _ U (i _ _ n w);refine D9$ zZ (s:={ s with heap:=M }) (t.kp λo e=>K _ _ D.dz D.cd.symm e) (F.kp λo e=>K _ _ D.bz D.bc e) J λm V S=>Ea (Ea$ Ea ?_);show wpAny _ _ (newTuple [x,y] >>= _) _ _ _;refine D9$ Mh$ Ea #[_,Z,Ea ?_];have N:m.objs.size=s.heap.objs.size:=by rw[S.1,j.1];exact n
 have W:dG m z u v T true:=S.extBut _ _ D.dz.symm (j.extBut _ _ D.cz.symm P);show Q (some$ .ref m.objs.size) _;rw[N];refine L _ (Eb _ W) (R.kp λo e=>Eb _ (S.extBut _ _ D.cd e)) (V.kp λo e=>Eb _ e) (by rw[<- N];exact Ei _ Z) (by rw[Fe,N]) λe o X a2 a3 w=>Eb _ (S.extBut _ _ a3$ K _ _ X a2 w)
theorem Z9{b2:Bool}{ys:Array Value}{Q:Option Value->Shared->Prop}(j:A.handled=none)(D:nB z u v c d a b)
  (H:dG s.heap z u v T f) (l:∃o,s.heap.get? T=some o) (m:IsPair s.heap u (.ref c) (.ref d)) (p:eE B s.heap c a k) (G:eG B s.heap a q) (r:q[k]?=none)
  (t:∀i,(∀e o,e≠z->e≠c->e≠d->s.heap.get? e=some o->i.get? e=some o)->Q none { s with heap:=i }):wpAny (model prog w) A (pyNext$ .ref z) Q E s:=by
 have h:s.TypeIs (.ref z) "zip":=#[_,H,Z];unfold pyNext;refine D9$ GS$ EW (name:=Str.ofString "__next__") h FI$ EV FI h Hh (show wpAny _ _ (field (.ref z) 2 >>= _) _ _ _ from ?_)$ GZ _;refine D9$ EG H Z (x:=.bool false) Z (show wpAny _ _ (field (.ref z) 3 >>= _) _ _ _ from D9$ EG H Z (x:=.ref u) Z$ D9$ Fb m Z ?_);refine(show wpAny _ _ (Builtin.SmallTypes.ownedTupleIsFree (.ref z) >>= _) _ _ _ from D9$ Aw H l λM F g n=>?_);simp only[Em,FF];refine D9 ?_;simp only[ME,Ge,GX];refine D9$ D9$ Ez (show wpAny _ _ (Builtin.SmallTypes.nextOf (.ref c) >>= _) _ _ _ from ?_);refine D9$ Qw (s:={ s with heap:=M }) (by simpa using j) (p.kp λo e=>g _ _ D.cz e) (G.kp λo e=>g _ _ D.az e) r λy e S C=>?_;exact D9$ Gm (T:="StopIteration") (b:=true) C IR$ Ea$ t y λe o n N I w=>S _ _ N (g _ _ n w)
end
theorem Jx:typeLookup (.type "zip") "__getattr__"=pure none:=by rw[Fn,EQ];kernel_rfl
theorem XE:typeLookup (.type "zip") "keys"=pure none:=by rw[Fn,EQ];kernel_rfl
theorem Q1:entryFor table "zip.__getattribute__"=some Builtin.«object.__getattribute__»:=
 IS (id':="object.__getattribute__") (by kernel_rfl) OE OE (by kernel_rfl)
theorem KJ(a:Addr)(x:Array Value)(S:Array (Option Value))(u:Tok):
  Meets (Builtin.«object.__getattribute__» #[[.ref a,.str "keys" u],[]]) (λA R s=>s.heap.get? a=some { cls:=.type "zip",dict:=none,data:=.fields x,slots:=S }/\raisesAttr (.ref a) "keys" A R s):=
 NF λp w A R s H=>by
  obtain⟨c,g,d,t,os⟩:=s;obtain⟨e,H⟩:=H;have f:(#[c,g,d,t,os]:Shared).TypeIs (.ref a) "zip":=#[_,e,Z];have b:=XE;have h:(["__module__","__name__","__qualname__","__doc__","__annotations__"]:List Str).contains "keys"=false:=by decide+kernel
  unfold Builtin.«object.__getattribute__»;repeat (any_goals (first |assumption |wp_step))
  try simp only[h,Em,FF]
  repeat (any_goals (first |assumption |wp_step))
  exact wpAny_raiseAttrError H.1 H.2$ attrMsg_fits OE (by size_fits)
section
variable {prog:Program}{w:World}{A:Around}{E:Value->Shared->Prop}{s:Shared}
theorem mw{Q:Option Value->Shared->Prop}(f:s.heap.get? a=some { cls:=.type "zip",dict:=none,data:=.fields x,slots:=j })(k:A.handled=none)
  (h:∀c T,(∀b o,s.heap.get? b=some o->c.get? b=some o)->Q none { s with heap:=c,toks:=T }):wpAny (model prog w) A (getAttr? (.ref a) "keys") Q E s:=by
 obtain⟨l,g,d,T,os⟩:=s;have i:∀t,(#[l,g,d,t,os]:Shared).TypeIs (.ref a) "zip":=λ_=>#[_,f,Z];have m:=Nw;have n:=PySem.F.slot_zip_getattribute.lookup;have p:=PySem.F.slot_zip_getattribute.bind (.ref a);have q:=Jx;unfold getAttr? getAttrBy? getAttrBy;repeat (any_goals (first |assumption |exact i _ | ((with_reducible show wpAny _ _ (call (Value.builtin "zip.__getattribute__") _ _) _ _ _);refine IC PySem.F.slot_zip_getattribute (i _) Q1 (PySem.F.args_zip_getattribute_2 _ _) (KJ a x j _) #[f,by simpa using k,λc t e H=>?_]) |wp_step))
 obtain⟨r,u,v⟩:=H.there;show wpAny _ _ (getattributeRaised _ _ _ _ _ _ _) _ _ _;unfold getattributeRaised;repeat (any_goals (first |assumption |wp_step))
 exact h _ _ H.keeps
def wK(h:Heap)(z u v c d a b Dd:Addr)(x y:Array Value)(i:Nat):Prop:=
 ((IsZip h z u v .none/\∃p q,IsPair h v p q)∨∃T f o,dG h z u v T f/\h.get? T=some o/\T≠z/\T≠c/\T≠d/\T≠Dd)/\IsPair h u (.ref c) (.ref d)/\eE false h c a i/\eE false h d b i/\eG false h a x/\eG false h b y
theorem vo{Dd:Addr}{Q:Option Value->Shared->Prop}(D:nB z u v c d a b)(l:Dd < s.heap.objs.size)(S:wK s.heap z u v c d a b Dd J Y k)(L:J[k]?=some x)(M:Y[k]?=some y)
  (N:∀h,wK h z u v c d a b Dd J Y (k+1)->IsPair h s.heap.objs.size x y->h.objs.size=s.heap.objs.size+1->(∀e o,e≠z->e≠v->e≠c->e≠d->s.heap.get? e=some o->h.get? e=some o)->Q (some$ .ref s.heap.objs.size) { s with heap:=h }):wpAny (model prog w) A (pyNext$ .ref z) Q E s:=by
 obtain⟨H,g,j,m,G,i⟩:=S;obtain⟨oc,n,_⟩:=j.ob;obtain⟨od,r,_⟩:=m.ob;rcases H with ⟨H,p,q,U⟩ | ⟨T,f,o,H,O,t,P,R,V⟩
 ·refine YI D H g U j m G i L M λh B v1 I C t F K=>N h #[.inr #[s.heap.objs.size,false,_,B,t,EN$ Ef H,EN$ Ef n,EN$ Ef r,EN l],K _ _ D.uz D.uv D.uc D.ud g,I,C,G.kp λo e=>K _ _ D.az D.av D.ac D.ad e,i.kp λo e=>K _ _ D.bz D.bv D.bc D.bd e] t F K
 ·refine YL D H #[o,O] g j m G i L M λh B I C W F K=>N h #[.inr #[T,true,o,B,K _ _ t P R O,t,P,R,V],K _ _ D.uz D.uc D.ud g,I,C,G.kp λo e=>K _ _ D.az D.ac D.ad e,i.kp λo e=>K _ _ D.bz D.bc D.bd e] W F λe o X n2 n3 n4 w=>K e o X n3 n4 w
theorem Aa{Dd:Addr}{Q:Option Value->Shared->Prop}(g:A.handled=none)(D:nB z u v c d a b)(n:wK s.heap z u v c d a b Dd x ys k)(i:x[k]?=none)
  (j:∀H,(∀e o,e≠z->e≠v->e≠c->e≠d->s.heap.get? e=some o->H.get? e=some o)->Q none { s with heap:=H }):wpAny (model prog w) A (pyNext$ .ref z) Q E s:=by
 obtain⟨h,l,m,B,G,C⟩:=n;rcases h with ⟨h,p,q,F⟩ | ⟨T,f,o,h,r,I,J,L,M⟩
 ·exact Z7 (b2:=false) (p:=p) (q:=q) (ys:=ys) g D h l m G i j
 ·exact Z9 (b2:=false) (ys:=ys) g D h #[o,r] l m G i λH K=>j H λe o N O t y w=>K e o N t y w
structure Ad(D z u v c d a b:Addr):Prop where
 z:D≠z
 u:D≠u
 v:D≠v
 c:D≠c
 d:D≠d
 a:D≠a
 b:D≠b
theorem wK.keep{h j:Heap}{Dd:Addr}(F:Ad Dd z u v c d a b)(k:∀e o,e≠Dd->h.get? e=some o->j.get? e=some o)(st:wK h z u v c d a b Dd x y i):wK j z u v c d a b Dd x y i:=by
 obtain⟨H,l,m,n,G,r⟩:=st;refine#[?_,k _ _ F.u.symm l,m.kp λo e=>k _ _ F.c.symm e,n.kp λo e=>k _ _ F.d.symm e,G.kp λo e=>k _ _ F.a.symm e,r.kp λo e=>k _ _ F.b.symm e];rcases H with ⟨H,p,q,B⟩ | ⟨T,f,o,H,g,C,D,I,t⟩
 ·exact .inl #[k _ _ F.z.symm H,p,q,k _ _ F.v.symm B]
 ·exact .inr #[T,f,o,k _ _ F.z.symm H,k _ _ t g,C,D,I,t]
theorem KK{K:Type}[DecidableEq K]{knd:KeyKind prog w K}{R:Result->Shared->Prop}{Dd:Addr}{x:Array Value}(X:A.handled=none)(D:nB z u v c d a b)(F:Ad Dd z u v c d a b)(m:List (K×Value))(Y:m.length=x.size)(h0:x.size<=sizeLine)
  (hP:∀(i:Nat),i < x.size->∃f V k,x[i]?=some f/\ys[i]?=some V/\knd.is k f=true/\m[i]?=some (k,V)):
  ∀(j i:Nat) (s:Shared) (n:Int),x.size - i=j->i<=x.size->wK s.heap z u v c d a b Dd x ys i->s.heap.DictOf knd Dd (merged []$ m.take i)->
   (∀h T,(∀e o,e≠Dd->e≠z->e≠v->e≠c->e≠d->s.heap.get? e=some o->h.get? e=some o)->h.DictOf knd Dd (merged [] m)->R (.ok$ .ret .none) { s with heap:=h,toks:=T })->
   codeAny (model prog w) A (.builtin "dict.update.loop" #[[.ref Dd,.ref z,.int n 0,.none],[]]) R s:=by
 intro j;induction j with
 |zero=>
  intro i s n hj hi st q C;have e:i=x.size:=by omega
  subst e;refine Ff kC ?_;rw[ER jI];show wpAny _ A.in1 (pyNext (.ref z) >>= _) _ _ s;refine D9$ Aa (by simpa using X) D st OD λh g=>?_;show wpAny _ A.in1 (Builtin.Dict.addKeywords Dd [] >>= λ_=>ret Value.none) _ _ { s with heap:=h };refine D9 ?_;unfold Builtin.Dict.addKeywords;refine Ea$ Ea$ C h s.toks (λe o _ N t y B w=>g e o N t y B w) ?_;rw[<- Y,Fd]at q;obtain⟨o,es,ep,ho,r⟩:=q;exact#[o,es,ep,g _ _ F.z F.v F.c F.d ho,r]
 |succ j ih=>
  intro i s n hj hi st q C;have M:i < x.size:=by omega
  obtain⟨f,V,k,hx,hy,O,hm⟩:=hP i M;refine Ff kC ?_;rw[ER jI];show wpAny _ A.in1 (pyNext (.ref z) >>= _) _ _ s;obtain⟨oD,G,I,H,rD⟩:=id q;have L:Dd < s.heap.objs.size:=Ef H;refine D9$ vo D L st hx hy λl S P N g=>?_;have hb:Shared.TypeIs { s with heap:=l } (.ref s.heap.objs.size) "tuple":=#[_,P,Z];have J:l.DictOf knd Dd (merged []$ m.take i):=#[oD,G,I,g _ _ F.z F.v F.c F.d H,rD];dsimp only;refine D9$ Ez ?_;refine D9$ Mf ?_;unfold Builtin.Dict.pairItems;refine D9$ FG hb ?_;rw[Er OA];refine D9$ Fb P Z$ Ea ?_;show wpAny _ A.in1 (holding [f,V]$ dictSet Dd f V) _ _ { s with heap:=l };unfold dictSet;refine Ez$ Ez$ D9$ knd.pyHash O ?_;have Q:(merged ([]:List (K×Value))$ m.take i).length<=i:=by have:=G8 ([]:List (K×Value)) (m.take i);rw[EJ]at this;simp only[Gc]at this;omega
  refine HZ (s:={ s with heap:=l,toks:=s.toks+1 }) O J (λh p sb=>?_) OB;rw[<- Ly [] m i (k,V) hm]at p;have U:∀e o,e≠Dd->l.get? e=some o->h.get? e=some o:=λe o ne w=>(sb.2 e ne).trans w;refine Ea #[FD jI _,ih (i+1) _ (n+1) OB M (S.keep F U) p λh2 T k2 d2=>C h2 T (λe o W N t y B w=>k2 e o W N t y B (U _ _ W$ g e o N t y B w)) d2]
theorem K5{K:Type}[DecidableEq K]{knd:KeyKind prog w K}{more:List (K×Value)}{Q:Value->Shared->Prop}(N:A.handled=none)(D:nB z u v c d a b)
  (j:IsZip s.heap z u v .none) (P:IsPair s.heap u (.ref c) (.ref d)) (m:∃p q,IsPair s.heap v p q) (U:eE false s.heap c a 0) (V:eE false s.heap d b 0) (W:eG false s.heap a x) (X:eG false s.heap b ys)
  (hn:more.length=x.size) (n:x.size<=sizeLine) (hP:∀(i:Nat),i < x.size->∃Y vu k,x[i]?=some Y/\ys[i]?=some vu/\knd.is k Y=true/\more[i]?=some (k,vu))
  (h:∀l t,l.DictOf knd s.heap.objs.size (merged [] more)->(∀e o,e≠z->e≠v->e≠c->e≠d->s.heap.get? e=some o->l.get? e=some o)->Q (.ref s.heap.objs.size) { s with heap:=l,toks:=t }):
  wpAny (model prog w) A (call (.type "dict") [.ref z]) Q E s:=by
 refine HS (Q₁:=λO S=>O= .ref s.heap.objs.size/\S={ s with heap:=s.heap.push { cls:=.type "dict",data:=.dict (List.toArray []) } }) HV (Ht _) HK (Lz _ #[Z,Z]) ?_;rintro O S ⟨rfl,rfl⟩;have f:(s.heap.push { cls:=.type "dict",data:=.dict (List.toArray []) }).DictOf knd s.heap.objs.size []:=HI s.heap;refine#[f.typeIs,HG _ _,?_];unfold Builtin.«dict.__init__»;refine D9 ?_;unfold Builtin.Dict.selfAndRest;refine D9$ II f.typeIs ?_;show wpAny _ _ (pure (s.heap.objs.size,[Value.ref z])) _ _ _;refine Ea ?_;show wpAny _ _ (Builtin.Dict.updateFrom "dict.__init__" s.heap.objs.size (.ref z) [] .none) _ _ _;unfold Builtin.Dict.updateFrom;generalize hH:s.heap.push { cls:=.type "dict",data:=.dict (List.toArray []) }=H at f ⊢;have G:∀b o,s.heap.get? b=some o->H.get? b=some o:=λb o e=>by rw[<- hH];exact Eb _ e
 refine D9$ FG #[_,G _ _ j,Z] ?_;rw[Er OA];refine D9$ mw (s:={ s with heap:=H }) (G _ _ j) (by simpa using N) λM t k1=>?_;simp only[Hv,Hk];refine D9$ FV ?_;have g:∀b o,s.heap.get? b=some o->M.get? b=some o:=λb o e=>k1 _ _ (G _ _ e);refine D9$ NJ (s:={ s with heap:=M,toks:=t }) (g _ _ j) ?_;obtain⟨oD,eD,y,B,rD⟩:=f;obtain⟨p,q,m⟩:=m;obtain⟨oc,C,_⟩:=U.ob;obtain⟨od,I,_⟩:=V.ob;obtain⟨oa,J,_⟩:=id W;obtain⟨ob,L,_⟩:=id X;have F:Ad s.heap.objs.size z u v c d a b:=#[EN$ Ef j,EN$ Ef P,EN$ Ef m,EN$ Ef C,EN$ Ef I,EN$ Ef J,EN$ Ef L];refine Ea #[FD jI _,Ga (KK (knd:=knd) (A:=A.in1) (R:=λr s'=>r= .ok (.ret .none)/\Q (.ref s.heap.objs.size) s') (by simpa using N) D F more hn n hP x.size 0 { s with heap:=M,toks:=t } 0 Z (Ek _)
  #[.inl #[g _ _ j,p,q,g _ _ m],g _ _ P,U.kp λo e=>g _ _ e,V.kp λo e=>g _ _ e,W.kp λo e=>g _ _ e,X.kp λo e=>g _ _ e] #[oD,eD,y,k1 _ _ B,rD] λl T k2 d2=>#[Z,?_]) λr s' q=>?_]
 ·exact h l T d2 λe o n1 n2 n3 n4 w=>k2 e o (Ej$ Ef w) n1 n2 n3 n4 (g _ _ w)
 ·obtain⟨rfl,q⟩:=q;exact#[Z,q]
end
section
variable {X:Cx}{e1 e2:Expr}{ta:TA}{p p2 pos pos2:Pos}
inductive BU(K:Frag)(Q:VK)(e:List V)(c:Hp):Prop
 |mk(a b:Addr)(d:List aY)(f:List V)(_:e=[.ref a,.ref b])(_:aD K c a (d.map kV))(_:aD K c b f)(_:d.length=f.length)(_:∀l,c l=none->Q (.ref l) (af c l (.dK (aT [] (d.zip f)))))
def D0(K:Frag)(ta:TA):TE:=λa H Q=>ta a H (BU K Q)
theorem QO{P:Program}{w:World}:∀{K:List aY} {U:List Value},ar (K.map kV) U->∀(i:Nat) (k:aY),K[i]?=some k->∃u,U[i]?=some u/\(aH P w).is k u=true
 | [],_,_,i,k,h=>by simp at h
 |k0::K,_,.cons (b:=u) h t,0,k,e=>by
  have E:k0=k:=by simpa using e
  subst E;exact#[u,Z,Jy h]
 |k0::K,_,.cons h t,i+1,k,e=>by simpa using QO (P:=P) (w:=w) t i k (by simpa using e)
theorem XQ:∀{K:List aY} {y:List V} {u:List Value},ar y u->KV (K.zip y) (K.zip u)
 | [],_,_,_=>by simp only[List.zip_nil_left];exact .nil
 |_::_,_,_,.nil=>by simp only[List.zip_nil_right];exact .nil
 |k::K,_,_,.cons h t=>.cons #[Z,h] (XQ t)
theorem uw(m:Gl X "dict")(n:X.mg "dict"=none)(t:Gl X "zip")(v:X.mg "zip"=none)(N:X.calm=true)(O:PA X [e1,e2] ta)
  (T:starEach [e1,e2] X.env=(false,eval e1 X.env)::starEach [e2] X.env:=by rfl) (U:(backTo pos2$ starEach [e2] X.env).any (·.1)=false:=by rfl)
  (f:starEach [Expr.Call (.Name "zip" p2) [e1,e2] [] pos2] X.env=(false,eval (.Call (.Name "zip" p2) [e1,e2] [] pos2) X.env)::starEach [] X.env:=by rfl) (x:(backTo pos$ starEach [] X.env).any (·.1)=false:=by rfl):
  PE X (.Call (.Name "dict" p) [.Call (.Name "zip" p2) [e1,e2] [] pos2] [] pos) (D0 X.K ta):=by
 intro P s V H Q I h;refine EU$ kN I m n La ?_;refine EM ?_ f x;rw[f];show wpAny _ _ (spliced ((false,eval _ X.env)::backTo pos (starEach [] X.env))) _ _ s;refine Fg ?_;refine EU$ kN I t v Lg ?_;refine EM (aL (O pos2 P s V H _ I h) λus S z=>?_) T U;obtain⟨vs,H1,d,W,Y⟩:=z;obtain⟨a,b,c,ys,e,gx,gy,hl,q⟩:=Y;subst e;cases W with
 |cons r rr=>
  cases rr with
  |cons r' y=>
   cases y;cases r;cases r';obtain⟨A,F,G,z1⟩:=d.tuple gx;obtain⟨j,R,C,z2⟩:=d.tuple gy;have l1:=F.length;have l2:=R.length;rw[Ec]at l1 z1;have la:a < S.heap.objs.size:=by obtain⟨o,D,_⟩:=G;exact Ef D
   have lb:b < S.heap.objs.size:=by obtain⟨o,D,_⟩:=C;exact Ef D
   refine Z8 (b1:=false) (b2:=false) (xs:=A.toArray) (ys:=j.toArray) G C λE J u' v' i1 i2 k=>?_;refine FK ?_;have Dz:=YJ S.heap.objs.size a b la lb;refine K5 (s:={ S with heap:=E }) (knd:=aH X.prog X.w) (more:=c.zip j) (d.ok.hd N) Dz J u' #[_,_,v'] i1 i2 (eG.kp (b:=false) G λo e=>k _ _ e) (eG.kp (b:=false) C λo e=>k _ _ e) (by rw[Hr,Eh];omega) (by rw[Eh];omega) (λi hi=>?_) λh2 tk dd k2=>?_
   ·rw[Eh]at hi;have L:i < c.length:=by omega
    have M:i < j.length:=by omega
    obtain⟨u,hu,ku⟩:=QO F i _ (Ed L);refine#[u,j[i],c[i],by simpa using hu,by simp [M],ku,?_];rw[LF];exact#[Ed L,Ed M]
   ·have g:KV (aT []$ c.zip ys) (merged []$ c.zip j):=KV.merge (XQ R) .nil;have zl:(aT []$ c.zip ys).length<=sizeLine:=by rw[g.length];have:=G8 ([]:List (aY×Value)) (c.zip j);rw[Hr]at this;simp only[Gc]at this;omega
    have k3:∀e o,S.heap.get? e=some o->h2.get? e=some o:=λe o w=>by have l:=Ef w;exact k2 e o (Ej$ Eo l$ FP _ _) (Ej$ Eo l$ FP _ _) (Ej l) (Ej$ Eo l$ FP _ _)$ k _ _ w
    have B:S.heap.objs.size<=E.objs.size:=GF (FL (FP _ 4)$ Ef J);exact#[.ref E.objs.size,_,d.laid k3 B$ Jm zl (beq_eq_false_iff_ne.mpr$ EA$ Ej$ Eo d.big B) g dd,Z,q _$ d.hok.fresh B]
end
end _L
namespace _L
open PySem PySem.Spec PyProof.Rows PySem.SeqAt
section
variable {X:Cx}
theorem Zq{pins:List (Addr×Obj)}{σ:St}{H:Hp}{s:Shared}(I:am X pins σ H s){A:Around}{kvs:List (aY×V)}{va vb:List (aY×Value)}(ra:KV kvs va)(rb:KV kvs vb)(ndb:(vb.map (·.1)).Nodup)(hv:∀p∈kvs,∃i,p.2= .int i):PySem.W.KeqHits A s vb va true:=by
 refine Xd λp hp=>?_;have l1:=ra.length;obtain⟨i,hi,e⟩:=List.getElem_of_mem hp;have hik:i < kvs.length:=by omega
 have hx:kvs[i]?=some (kvs[i].1,kvs[i].2):=List.getElem?_eq_getElem hik;obtain⟨v1,q1,r1⟩:=ra.get hx;obtain⟨v2,q2,r2⟩:=rb.get hx;have ep:p=(kvs[i].1,v1):=by
  have:va[i]?=some p:=by rw[List.getElem?_eq_getElem hi,e]
  rw[this]at q1;exact Option.some.inj q1
 subst ep;obtain⟨n,hn⟩:=hv _ (List.getElem_mem hik);rw[hn]at r1 r2;obtain⟨t1,rfl⟩:=r1;obtain⟨t2,rfl⟩:=r2;refine#[_,JE ndb$ List.mem_of_getElem? q2,?_];obtain⟨e',h1,h2⟩:=HT.eqAt_int A s n t1 n t2;rw[h2.mpr rfl]at h1;exact h1
end
def CJ(prog:Program)(w:World)(A:Around)(s:Shared)(u v:Value):Prop:=∀(E:Value->Shared->Prop) (Q:Bool->Shared->Prop),Q true s->wpAny (model prog w) A (eqBool u v) Q E s
section
variable {X:Cx}
def vq(H:Hp)(x y:V):Prop:=(x=y/\C7 x=true)∨∃a b kvs,x= .ref a/\y= .ref b/\H a=some (.dK kvs)/\H b=some (.dK kvs)/\∀p∈kvs,∃i,p.2= .int i
theorem nY{pins:List (Addr×Obj)}{σ:St}{H:Hp}{s:Shared}(I:am X pins σ H s){A:Around}(hu:A.units < cLine){x y:V}(h:vq H x y){u v:Value}(rx:ay x u)(ry:ay y v):CJ X.prog X.w A s u v:=by
 rcases h with ⟨rfl,ok⟩ | ⟨a,b,kvs,rfl,rfl,ha,hb,hv⟩
 ·exactλE Q q=>Zl ok rx ry X.prog X.w E Q q
 ·cases rx;cases ry;intro E Q q;by_cases e:a=b
  ·rw[e];exact EqAt.same _ X.prog X.w E Q q
  ·obtain⟨z1,m1,va,ra,da⟩:=Yt I.hok ha;obtain⟨z2,m2,vb,rb,db⟩:=Yt I.hok hb;obtain⟨_,_,_,_,_,_,_,_,ndb⟩:=id db;have l1:=ra.length;have l2:=rb.length;unfold eqBool;refine wpAny_holding$ wpAny_ite_split (λz=>absurd (by have y:=eq_of_beq z;injection y) e) λ_=>wpAny_bind ?_;refine PySem.W.keq_eq (r:=true) m1 m2 da db hu (λ_=>Zq I ra rb ndb hv) ?_;rw[<- l1,<- l2,beq_self_eq_true];exact wpAny_truthy_bool q
theorem Xj:∀{xs ys:List V} {us vs:List Value},ar xs us->ar ys vs->∀q∈us.zip vs,∃p∈xs.zip ys,ay p.1 q.1/\ay p.2 q.2
 |_,_,_,_,.nil,_,q,h=>by simp at h
 |_,_,_,_,.cons _ _,.nil,q,h=>by simp at h
 |_,_,_,_,.cons a r,.cons b t,q,h=>by
  rcases List.mem_cons.mp (by simpa only[List.zip_cons_cons] using h) with rfl |h
  ·exact#[_,List.mem_cons_self,a,b]
  ·obtain⟨p,m,e⟩:=Xj r t q h;exact#[p,List.mem_cons_of_mem _ m,e]
end
end _L
namespace _L
open PySem PySem.Spec PyProof.Rows
section
variable {X:Cx}{st:Stmt}{ss:List Stmt}{e:Expr}{es:List Expr}
def DM:TS:=λ_ _ _=>False
theorem Bm:PS X st DM:=λ_ _ _ _ _ _ h=>False.elim h
theorem yr:iY X ss DM:=λ_ _ _ _ _ _ h=>False.elim h
end
section
variable {prog:Program}{w:World}{A:Around}{E:Value->Shared->Prop}{s:Shared}
inductive vC(g:Bool)(h:Heap)(z u v c d a b e:Addr)(j k:Array Value)(i:Nat):Prop
 |mk(_:(IsZip h z u v .none/\∃p q,IsPair h v p q)∨∃T f o,dG h z u v T f/\h.get? T=some o/\T≠z/\T≠c/\T≠d/\T≠e)(_:IsPair h u (.ref c) (.ref d))(_:eE false h c a i)(_:eE g h d b i)(_:eG false h a j)(_:eG g h b k)
theorem vp{b2:Bool}{z u v c d a b Dd:Addr}{k:Nat}{xs ys:Array Value}{x y:Value}{Q:Option Value->Shared->Prop}(D:nB z u v c d a b)(ltD:Dd < s.heap.objs.size)(hs:vC b2 s.heap z u v c d a b Dd xs ys k)(hx:xs[k]?=some x)(hy:ys[k]?=some y)
  (hQ:∀h',vC b2 h' z u v c d a b Dd xs ys (k+1)->IsPair h' s.heap.objs.size x y->h'.objs.size=s.heap.objs.size+1->(∀e o,e≠z->e≠v->e≠c->e≠d->s.heap.get? e=some o->h'.get? e=some o)->Q (some$ .ref s.heap.objs.size) { s with heap:=h' }):wpAny (model prog w) A (pyNext$ .ref z) Q E s:=by
 obtain⟨hz,hu,h1,h2,g1,g2⟩:=hs;obtain⟨oc,hoc,_⟩:=h1.ob;obtain⟨od,hod,_⟩:=h2.ob;rcases hz with ⟨hz,p,q,hv⟩ | ⟨T,f,o,hz,hT,t1,t2,t3,t4⟩
 ·refine YI D hz hu hv h1 h2 g1 g2 hx hy λh' z1 v1 i1 i2 t1 e1 k1=>hQ h' #[.inr #[s.heap.objs.size,false,_,z1,t1,Nat.ne_of_gt$ Heap.lt_size hz,Nat.ne_of_gt$ Heap.lt_size hoc,Nat.ne_of_gt$ Heap.lt_size hod,Nat.ne_of_gt ltD],k1 _ _ D.uz D.uv D.uc D.ud hu,i1,i2,g1.kp λo e=>k1 _ _ D.az D.av D.ac D.ad e,g2.kp λo e=>k1 _ _ D.bz D.bv D.bc D.bd e] t1 e1 k1
 ·refine YL D hz #[o,hT] hu h1 h2 g1 g2 hx hy λh' z1 i1 i2 p1 e1 k1=>hQ h' #[.inr #[T,true,o,z1,k1 _ _ t1 t2 t3 hT,t1,t2,t3,t4],k1 _ _ D.uz D.uc D.ud hu,i1,i2,g1.kp λo e=>k1 _ _ D.az D.ac D.ad e,g2.kp λo e=>k1 _ _ D.bz D.bc D.bd e] p1 e1 λe o n1 n2 n3 n4 w=>k1 e o n1 n3 n4 w
theorem Ab{b2:Bool}{z u v c d a b Dd:Addr}{k:Nat}{xs ys:Array Value}{Q:Option Value->Shared->Prop}(hh:A.handled=none)(D:nB z u v c d a b)(hs:vC b2 s.heap z u v c d a b Dd xs ys k)(hx:xs[k]?=none)
  (hQ:∀h',(∀e o,e≠z->e≠v->e≠c->e≠d->s.heap.get? e=some o->h'.get? e=some o)->Q none { s with heap:=h' }):wpAny (model prog w) A (pyNext$ .ref z) Q E s:=by
 obtain⟨hz,hu,h1,h2,g1,g2⟩:=hs;rcases hz with ⟨hz,p,q,hv⟩ | ⟨T,f,o,hz,hT,t1,t2,t3,t4⟩
 ·exact Z7 (b2:=b2) (p:=p) (q:=q) (ys:=ys) hh D hz hu h1 g1 hx hQ
 ·exact Z9 (b2:=b2) (ys:=ys) hh D hz #[o,hT] hu h1 g1 hx λh' k1=>hQ h' λe o n1 n2 n3 n4 w=>k1 e o n1 n3 n4 w
theorem vC.keep{b2:Bool}{h h':Heap}{z u v c d a b Dd:Addr}{xs ys:Array Value}{i:Nat}(F:Ad Dd z u v c d a b)(k:∀e o,e≠Dd->h.get? e=some o->h'.get? e=some o)(st:vC b2 h z u v c d a b Dd xs ys i):vC b2 h' z u v c d a b Dd xs ys i:=by
 obtain⟨hz,hu,h1,h2,g1,g2⟩:=st;refine#[?_,k _ _ F.u.symm hu,h1.kp λo e=>k _ _ F.c.symm e,h2.kp λo e=>k _ _ F.d.symm e,g1.kp λo e=>k _ _ F.a.symm e,g2.kp λo e=>k _ _ F.b.symm e];rcases hz with ⟨hz,p,q,hv⟩ | ⟨T,f,o,hz,hT',t1,t2,t3,t4⟩
 ·exact .inl #[k _ _ F.z.symm hz,p,q,k _ _ F.v.symm hv]
 ·exact .inr #[T,f,o,k _ _ F.z.symm hz,k _ _ t4 hT',t1,t2,t3,t4]
theorem KL{b2:Bool}{K:Type}[DecidableEq K]{knd:KeyKind prog w K}{R:Result->Shared->Prop}{z u v c d a b Dd:Addr}{xs ys:Array Value}(hh:A.handled=none)(D:nB z u v c d a b)(F:Ad Dd z u v c d a b)(more:List (K×Value))(hn:more.length=xs.size)(hsz:xs.size<=sizeLine)
  (hP:∀(i:Nat),i < xs.size->∃ku vu k,xs[i]?=some ku/\ys[i]?=some vu/\knd.is k ku=true/\more[i]?=some (k,vu)):
  ∀(j i:Nat) (s:Shared) (n:Int),xs.size - i=j->i<=xs.size->vC b2 s.heap z u v c d a b Dd xs ys i->s.heap.DictOf knd Dd (merged []$ more.take i)->
   (∀h' tk,(∀e o,e≠Dd->e≠z->e≠v->e≠c->e≠d->s.heap.get? e=some o->h'.get? e=some o)->h'.DictOf knd Dd (merged [] more)->R (.ok$ .ret .none) { s with heap:=h',toks:=tk })->
   codeAny (model prog w) A (.builtin "dict.update.loop" #[[.ref Dd,.ref z,.int n 0,.none],[]]) R s:=by
 intro j;induction j with
 |zero=>
  intro i s n hj hi st hS hR;have e:i=xs.size:=by omega
  subst e;refine codeAny_builtin kC ?_;rw[Around.under_plainId jI];show wpAny _ A.in1 (pyNext (.ref z) >>= _) _ _ s;refine wpAny_bind$ Ab (by simpa using hh) D st OD λh' k1=>?_;show wpAny _ A.in1 (Builtin.Dict.addKeywords Dd [] >>= λ_=>ret Value.none) _ _ { s with heap:=h' };refine wpAny_bind ?_;unfold Builtin.Dict.addKeywords;refine wpAny_pure$ wpAny_pure$ hR h' s.toks (λe o _ n1 n2 n3 n4 w=>k1 e o n1 n2 n3 n4 w) ?_;rw[<- hn,List.take_length]at hS;obtain⟨o,es,ep,ho,r⟩:=hS;exact#[o,es,ep,k1 _ _ F.z F.v F.c F.d ho,r]
 |succ j ih=>
  intro i s n hj hi st hS hR;have lt:i < xs.size:=by omega
  obtain⟨ku,vu,k,hx,hy,hk,hm⟩:=hP i lt;refine codeAny_builtin kC ?_;rw[Around.under_plainId jI];show wpAny _ A.in1 (pyNext (.ref z) >>= _) _ _ s;obtain⟨oD,esD,epD,hoD,rD⟩:=id hS;have ltD:Dd < s.heap.objs.size:=Heap.lt_size hoD;refine wpAny_bind$ vp D ltD st hx hy λh1 st1 p1 n1 k1=>?_;have hb:Shared.TypeIs { s with heap:=h1 } (.ref s.heap.objs.size) "tuple":=#[_,p1,rfl];have hS':h1.DictOf knd Dd (merged []$ more.take i):=#[oD,esD,epD,k1 _ _ F.z F.v F.c F.d hoD,rD];dsimp only;refine wpAny_bind$ wpAny_holding ?_;refine wpAny_bind$ wpAny_tryCatch ?_;unfold Builtin.Dict.pairItems;refine wpAny_bind$ wpAny_typeOf hb ?_;rw[if_pos OA];refine wpAny_bind$ wpAny_seqItems p1 rfl$ wpAny_pure ?_;show wpAny _ A.in1 (holding [ku,vu]$ dictSet Dd ku vu) _ _ { s with heap:=h1 };unfold dictSet;refine wpAny_holding$ wpAny_holding$ wpAny_bind$ knd.pyHash hk ?_;have hlen:(merged ([]:List (K×Value))$ more.take i).length<=i:=by have:=merged_length_le ([]:List (K×Value)) (more.take i);rw[List.length_take]at this;simp only[List.length_nil]at this;omega
  refine wpAny_dictSetHashed_pairs (s:={ s with heap:=h1,toks:=s.toks+1 }) hk hS' (λh' hd' sb=>?_) OB;rw[<- merged_take_succ [] more i (k,vu) hm]at hd';have kk:∀e o,e≠Dd->h1.get? e=some o->h'.get? e=some o:=λe o ne w=>(sb.2 e ne).trans w;refine wpAny_pure #[plainId_quiet jI _,ih (i+1) _ (n+1) OB lt (st1.keep F kk) hd' λh2 tk k2 d2=>hR h2 tk (λe o n0 n1 n2 n3 n4 w=>k2 e o n0 n1 n2 n3 n4 (kk _ _ n0$ k1 e o n1 n2 n3 n4 w)) d2]
theorem KM{b2:Bool}{K:Type}[DecidableEq K]{knd:KeyKind prog w K}{z u v c d a b:Addr}{xs ys:Array Value}{more:List (K×Value)}{Q:Value->Shared->Prop}(hh:A.handled=none)(D:nB z u v c d a b)
  (hz:IsZip s.heap z u v .none) (hu:IsPair s.heap u (.ref c) (.ref d)) (hv:∃p q,IsPair s.heap v p q) (h1:eE false s.heap c a 0) (h2:eE b2 s.heap d b 0) (g1:eG false s.heap a xs) (g2:eG b2 s.heap b ys)
  (hn:more.length=xs.size) (hsz:xs.size<=sizeLine) (hP:∀(i:Nat),i < xs.size->∃ku vu k,xs[i]?=some ku/\ys[i]?=some vu/\knd.is k ku=true/\more[i]?=some (k,vu))
  (h:∀h' tk,h'.DictOf knd s.heap.objs.size (merged [] more)->(∀e o,e≠z->e≠v->e≠c->e≠d->s.heap.get? e=some o->h'.get? e=some o)->Q (.ref s.heap.objs.size) { s with heap:=h',toks:=tk }):
  wpAny (model prog w) A (call (.type "dict") [.ref z]) Q E s:=by
 refine callType_codes (Q₁:=λobj s₁=>obj= .ref s.heap.objs.size/\s₁={ s with heap:=s.heap.push { cls:=.type "dict",data:=.dict (List.toArray []) } }) PySem.F.kt_called_dict (PySem.F.kt_typeCall_dict_1 _) PySem.F.entry_dict_init (kt_code_dict_new _ #[rfl,rfl]) ?_;rintro obj s₁ ⟨rfl,rfl⟩;have hnew:(s.heap.push { cls:=.type "dict",data:=.dict (List.toArray []) }).DictOf knd s.heap.objs.size []:=Heap.DictOf.new s.heap;refine#[hnew.typeIs,PySem.F.args_dict_init_2 _ _,?_];unfold Builtin.«dict.__init__»;refine wpAny_bind ?_;unfold Builtin.Dict.selfAndRest;refine wpAny_bind$ wpAny_notOrdered_dict hnew.typeIs ?_;show wpAny _ _ (pure (s.heap.objs.size,[Value.ref z])) _ _ _;refine wpAny_pure ?_;show wpAny _ _ (Builtin.Dict.updateFrom "dict.__init__" s.heap.objs.size (.ref z) [] .none) _ _ _;unfold Builtin.Dict.updateFrom;generalize hH:s.heap.push { cls:=.type "dict",data:=.dict (List.toArray []) }=H at hnew ⊢;have gk:∀b o,s.heap.get? b=some o->H.get? b=some o:=λb o e=>by rw[<- hH];exact Heap.get?_push_of_some _ e
 refine wpAny_bind$ wpAny_typeOf #[_,gk _ _ hz,rfl] ?_;rw[if_pos OA];refine wpAny_bind$ mw (s:={ s with heap:=H }) (gk _ _ hz) (by simpa using hh) λm1 tk k1=>?_;simp only[Option.isNone_none,if_true];refine wpAny_bind$ wpAny_rule ?_;have kk:∀b o,s.heap.get? b=some o->m1.get? b=some o:=λb o e=>k1 _ _ (gk _ _ e);refine wpAny_bind$ wpAny_pyIter_zip (s:={ s with heap:=m1,toks:=tk }) (kk _ _ hz) ?_;obtain⟨oD,eD,epD,hoD,rD⟩:=hnew;obtain⟨p,q,hv⟩:=hv;obtain⟨oc,hoc,_⟩:=h1.ob;obtain⟨od,hod,_⟩:=h2.ob;obtain⟨oa,hoa,_⟩:=id g1;obtain⟨ob,hob⟩:∃ob,s.heap.get? b=some ob:=by
  cases b2 with
  |false=>obtain⟨o,h,_⟩:=g2;exact#[o,h]
  |true=>obtain⟨o,h,_⟩:=g2;exact#[o,h]
 have F:Ad s.heap.objs.size z u v c d a b:=#[Nat.ne_of_gt$ Heap.lt_size hz,Nat.ne_of_gt$ Heap.lt_size hu,Nat.ne_of_gt$ Heap.lt_size hv,Nat.ne_of_gt$ Heap.lt_size hoc,Nat.ne_of_gt$ Heap.lt_size hod,Nat.ne_of_gt$ Heap.lt_size hoa,Nat.ne_of_gt$ Heap.lt_size hob];refine wpAny_pure #[plainId_quiet jI _,codeAny_mono (KL (knd:=knd) (A:=A.in1) (R:=λr s'=>r= .ok (.ret .none)/\Q (.ref s.heap.objs.size) s') (by simpa using hh) D F more hn hsz hP xs.size 0 { s with heap:=m1,toks:=tk } 0 rfl (Nat.zero_le _)
  #[.inl #[kk _ _ hz,p,q,kk _ _ hv],kk _ _ hu,h1.kp λo e=>kk _ _ e,h2.kp λo e=>kk _ _ e,g1.kp λo e=>kk _ _ e,g2.kp λo e=>kk _ _ e] #[oD,eD,epD,k1 _ _ hoD,rD] λh' tk' k2 d2=>#[rfl,?_]) λr s' q=>?_]
 ·exact h h' tk' d2 λe o n1 n2 n3 n4 w=>k2 e o (Nat.ne_of_lt$ Heap.lt_size w) n1 n2 n3 n4 (kk _ _ w)
 ·obtain⟨rfl,q⟩:=q;exact#[rfl,q]
end
section
variable {X:Cx}{e1 e2:Expr}{ta:TA}{p p2 pos pos2:Pos}
inductive wt(K:Frag)(Q:VK)(f:List V)(c:Hp):Prop
 |mk(d:Bool)(a b:Addr)(e:List aY)(g:List V)(_:f=[.ref a,.ref b])(_:aD K c a (e.map kV))(_:Cr K d c b g)(_:e.length=g.length)(_:∀l,c l=none->Q (.ref l) (af c l (.dK (aT [] (e.zip g)))))
def Dn(K:Frag)(ta:TA):TE:=λσ H Q=>ta σ H (wt K Q)
theorem pq(hgd:Gl X "dict")(hmd:X.mg "dict"=none)(hgz:Gl X "zip")(hmz:X.mg "zip"=none)(hc:X.calm=true)(ha:PA X [e1,e2] ta)
  (hs:starEach [e1,e2] X.env=(false,eval e1 X.env)::starEach [e2] X.env:=by rfl) (hp:(backTo pos2$ starEach [e2] X.env).any (·.1)=false:=by rfl)
  (hs2:starEach [Expr.Call (.Name "zip" p2) [e1,e2] [] pos2] X.env=(false,eval (.Call (.Name "zip" p2) [e1,e2] [] pos2) X.env)::starEach [] X.env:=by rfl) (hp2:(backTo pos$ starEach [] X.env).any (·.1)=false:=by rfl):
  PE X (.Call (.Name "dict" p) [.Call (.Name "zip" p2) [e1,e2] [] pos2] [] pos) (Dn X.K ta):=by
 intro pins s σ H Q I h;refine wpAny_Call_Name_kw$ kN I hgd hmd PyProof.Rows.boot_dict ?_;refine PyProof.Rows.callWith_type1 ?_ hs2 hp2;rw[hs2];show wpAny _ _ (spliced ((false,eval _ X.env)::backTo pos (starEach [] X.env))) _ _ s;refine Calls.spliced_cons ?_;refine wpAny_Call_Name_kw$ kN I hgz hmz PyProof.Rows.boot_zip ?_;refine PyProof.Rows.callWith_type1 (aL (ha pos2 pins s σ H _ I h) λus s1 z_z=>?_) hs hp;obtain⟨vs,H1,I1,r1,q1⟩:=z_z;obtain⟨b2,a,b,ks,ys,e,gx,gy,hl,q⟩:=q1;subst e;cases r1 with
 |cons r rr=>
  cases rr with
  |cons r' rr'=>
   cases rr';cases r;cases r';obtain⟨its,rv,g1,z1⟩:=I1.tuple gx;obtain⟨jts,rw',g2⟩:=I1.sqB gy;have l1:=rv.length;have l2:=rw'.length;rw[List.length_map]at l1 z1;have la:a < s1.heap.objs.size:=by obtain⟨o,ho,_⟩:=g1;exact Heap.lt_size ho
   have lb:b < s1.heap.objs.size:=by
    cases b2 with
    |false=>obtain⟨o,ho,_⟩:=g2;exact Heap.lt_size ho
    |true=>obtain⟨o,ho,_⟩:=g2;exact Heap.lt_size ho
   refine Z8 (b1:=false) (b2:=b2) (xs:=its.toArray) (ys:=jts.toArray) g1 g2 λh' z' u' v' i1 i2 k=>?_;refine Calls.spliced_nil ?_;have Dz:=YJ s1.heap.objs.size a b la lb;refine KM (s:={ s1 with heap:=h' }) (knd:=aH X.prog X.w) (more:=ks.zip jts) (I1.ok.hd hc) Dz z' u' #[_,_,v'] i1 i2 (eG.kp (b:=false) g1 λo e=>k _ _ e) (eG.kp (b:=b2) g2 λo e=>k _ _ e) (by rw[List.length_zip,List.size_toArray];omega) (by rw[List.size_toArray];omega) (λi hi=>?_) λh2 tk dd k2=>?_
   ·rw[List.size_toArray]at hi;have hk:i < ks.length:=by omega
    have hj:i < jts.length:=by omega
    obtain⟨u,hu,ku⟩:=QO rv i _ (List.getElem?_eq_getElem hk);refine#[u,jts[i],ks[i],by simpa using hu,by simp [hj],ku,?_];rw[List.getElem?_zip_eq_some];exact#[List.getElem?_eq_getElem hk,List.getElem?_eq_getElem hj]
   ·have rel:KV (aT []$ ks.zip ys) (merged []$ ks.zip jts):=KV.merge (XQ rw') .nil;have zl:(aT []$ ks.zip ys).length<=sizeLine:=by rw[rel.length];have:=merged_length_le ([]:List (aY×Value)) (ks.zip jts);rw[List.length_zip]at this;simp only[List.length_nil]at this;omega
    have k3:∀e o,s1.heap.get? e=some o->h2.get? e=some o:=λe o w=>by have lt:=Heap.lt_size w;exact k2 e o (Nat.ne_of_lt$ Nat.lt_of_lt_of_le lt$ Nat.le_add_right _ _) (Nat.ne_of_lt$ Nat.lt_of_lt_of_le lt$ Nat.le_add_right _ _) (Nat.ne_of_lt lt) (Nat.ne_of_lt$ Nat.lt_of_lt_of_le lt$ Nat.le_add_right _ _)$ k _ _ w
    have big:s1.heap.objs.size<=h'.objs.size:=Nat.le_of_lt (Nat.lt_of_le_of_lt (Nat.le_add_right _ 4)$ Heap.lt_size z');exact#[.ref h'.objs.size,_,I1.laid k3 big$ Jm zl (beq_eq_false_iff_ne.mpr$ Ne.symm$ Nat.ne_of_lt$ Nat.lt_of_lt_of_le I1.big big) rel dd,rfl,q _$ I1.hok.fresh big]
end
section
open PySem.W
theorem Zr{M:Model}{K:Frag}{h:Heap}{x C B:Addr}{ox:Obj}(X:K.In h)(hx:h.get? x=some ox)(hc:ox.cls= .ref C)(hB:clsIn K B≠none)(tB:typeIn K (.ref B)=some (.type "type"))(mB:mroIn K B (.type "BaseException")=some true)(mC:mroIn K C (.ref B)=some false):
  Looks M h (excMatches (.ref x)$ .ref B) false:=by
 have L0:Looks M h (typeOf$ .ref x) (.ref C):=hc▸(Looks.ld hx).andThen .now;have L1:=looks_typeIn (M:=M) X tB;have _L:Looks M h (isInstance (.ref B)$ .type "tuple") false:=L1.andThen (Looks.of_pure tc_notTuple);have L3:Looks M h (isType$ .ref B) true:=by
  unfold clsIn at hB;split at hB
  ·rename_i ho
   intro A' Q' E' s' k q;unfold isType loadHead;exact wpAny_bind$ wpAny_loadPart (k _ _$ X _ _ ho)$ wpAny_pure q
  ·exact absurd rfl hB
 have L4:Looks M h (isExcClass$ .ref B) true:=by unfold isExcClass;exact L3.andThen (by rw[if_pos rfl];exact looks_mroIn X mB)
 have L5:=looks_mroIn (M:=M) X mC;intro A' Q' E' s' k q;unfold excMatches;refine wpAny_bind$ _L A' _ E' s' k ?_;rw[if_neg OA];refine wpAny_bind$ wpAny_pure ?_;dsimp only;refine wpAny_bind ?_;rw[List.forIn_cons];refine wpAny_bind$ wpAny_bind$ L4 A' _ E' s' k ?_;simp only[Bool.not_true,Bool.false_eq_true,if_false];refine wpAny_pure ?_;dsimp only;rw[List.forIn_nil];refine wpAny_pure ?_;refine wpAny_bind$ L0 A' _ E' s' k ?_;refine wpAny_bind ?_;rw[List.forIn_cons];refine wpAny_bind$ wpAny_bind$ L5 A' _ E' s' k ?_;simp only[Bool.false_eq_true,if_false];refine wpAny_pure ?_;dsimp only;rw[List.forIn_nil];refine wpAny_pure ?_;exact wpAny_pure q
end
def wx(K:Frag)(A B:Addr)(tb:CQ)(ta tc:TS):TS:=λD σ H=>tb D (λx C d _ H'=>(mroIn K C (.ref A)=some true/\∀T',H' T'=none->ta D σ (af (af H' T'$ eI T') x$ fH C d T' x))∨(mroIn K C (.ref A)=some false/\mroIn K C (.ref B)=some true/\∀T',H' T'=none->tc D σ (af (af H' T'$ eI T') x$ fH C d T' x))) σ H
section
variable {X:Cx}{st a₀ b₀:Stmt}{as bs:List Stmt}{tb:CQ}{ta tc:TS}{ca cb:Str}{np np' hp hp' pos:Pos}{A B:Addr}
theorem uG(hst:X.stack=X.env::X.outer)(hfr:X.env.frame=some X.env.locals)(hb:DA X st tb)(hg:Gl X ca)(hm:X.mg ca=some (.ref A))(hA:clsIn X.K A≠none)(tA:typeIn X.K (.ref A)=some (.type "type"))(mA:mroIn X.K A (.type "BaseException")=some true)
  (hg':Gl X cb) (hm':X.mg cb=some (.ref B)) (hB:clsIn X.K B≠none) (tB:typeIn X.K (.ref B)=some (.type "type")) (mB:mroIn X.K B (.type "BaseException")=some true)
  (hs:∀e,iY (X.mark e λ_ _=>False) (a₀::as) ta) (hs':∀e,iY (X.mark e λ_ _=>False) (b₀::bs) tc) (hda:(ca==("__debug__":Str))=false:=by decide) (hdb:(cb==("__debug__":Str))=false:=by decide):
  PS X (.Try [st] [.ExceptHandler (some$ .Name ca np) none (a₀::as) hp,.ExceptHandler (some$ .Name cb np') none (b₀::bs) hp'] [] [] pos) (wx X.K A B tb ta tc):=by
 intro pins s σ H D I h;refine wpAny_Try_except$ wpAny_execs_cons$ wpAny_mono (hb pins s σ H D _ I h) (λf s1 q=>?_) λe s1 q=>?_
 ·cases f with
  |next=>exact wpAny_execs_nil (wpAny_execs_nil q)
  |ret v=>exact q
  |brk=>exact q
  |cont=>exact q
 obtain⟨x,C,d,T,H',rfl,I1,hx,hT,hTx,q⟩:=q;obtain⟨⟨ox,vs,h1,h2,h3,h4,h5,h6⟩,_⟩:=I1.hok x _ hx;obtain⟨⟨oT,tz,t1,t2,t3⟩,_⟩:=I1.hok T _ hT;have hsz:=(Array.getElem?_eq_some_iff.mp h6).1;have fr1:X.A.frames=some (X.env::X.outer):=by rw[<- hst];exact I1.ok.frames
 have fl1:s1.heap.FunFrames X.base (X.env::X.outer):=by rw[<- hst];exact I1.stack
 refine Qr (base:=X.base) fr1 fl1 hfr h1 h5 h6 hTx t1 t2 t3 λg2 Nd=>?_;have hx1:(dH T s1.heap).get? x=some ox:=(Heap.get?_update_other _ _ hTx).trans h1;refine xI (s:={ s1 with heap:=g2 }) Nd hx1 h5 hsz λg3 Nd3=>?_;obtain⟨T',hn,hT'x,I3⟩:=(I1.cleared hT t1 t2 t3).noted (C:=C) (d:=d) (t':=s1.toks) hx hx1 h2 h4 h5 hsz (by unfold ij;rw[hst];exact Nd3);have I3:am X pins σ (af (af H' T'$ eI T') x$ fH C d T' x) { s1 with heap:=g3 }:=I3;obtain⟨⟨ox3,vs3,k1,k2,k3,k4,k5,k6⟩,_⟩:=I3.hok x _ jc;have hT3:af (af H' T'$ eI T') x (fH C d T' x) T'=some (eI T'):=by rw[jh hT'x,jc]
 obtain⟨⟨oT3,tz3,u1,u2,u3⟩,_⟩:=I3.hok T' _ hT3;have suite:∀{E':Value->Shared->Prop} {c₀:Stmt} {cs:List Stmt} {tz:TS} {hp:Pos},(∀e,iY (X.mark e λ_ _=>False) (c₀::cs) tz)->tz D σ (af (af H' T'$ eI T') x$ fH C d T' x)->codeAny (model X.prog X.w) (X.A.mark$ some$ .ref x) (Code.handlers (.ref x) [.ExceptHandler none none (c₀::cs) hp] X.env) (λr s₂=>match r with | .ok f=>SP X pins D f s₂ | .error y=>cameBackBy (model X.prog X.w) X.A X.env E' y s₂) { s1 with heap:=g3 }:=by
  intro E' c₀ cs tz hp hz qz;refine codeAny_handlers_suite ?_;unfold setFlight;refine wpAny_bind$ wpAny_field k1 k5 k6 ?_;rw[if_pos (show(Value.ref T' != Value.none)=true from by simp)];refine wpAny_setField u1 u2 (Array.getElem?_eq_some_iff.mp u3).1 ?_;have I4:=I3.cleared hT3 u1 u2 u3;refine wpAny_mono (hz (.ref x) pins _ _ _ D (I4.mark (.ref x) λ_ _=>False) qz) (λf s6 q6=>?_) λ_ _ z=>z.elim;cases f with
  |next=>obtain⟨σ',H6,I6,nx⟩:=q6;exact#[_,_,I6.unmark I.ok,nx]
  |brk=>obtain⟨σ',H6,I6,nx⟩:=q6;exact#[_,_,I6.unmark I.ok,nx]
  |cont=>obtain⟨σ',H6,I6,nx⟩:=q6;exact#[_,_,I6.unmark I.ok,nx]
  |ret v=>obtain⟨y,σ',H6,I6,rv,nx⟩:=q6;exact#[y,_,_,I6.unmark I.ok,rv,nx]
 rcases q with ⟨mC,q⟩ | ⟨mC,mC2,q⟩
 ·refine wpAny_handleBy_cons (codeAny_handlers_test ?_) (by intro z;cases z);refine zh (I3.mark (.ref x) λ_ _=>False) hg hm ?_ hda;refine qw I3.kIn k1 k2 hA tA mA mC _ _ _ _ (λ_ _ e=>e) ?_;exact suite hs$ q T' hn
 ·refine wpAny_handleBy_cons (codeAny_handlers_test ?_) (by intro z;cases z);refine zh (I3.mark (.ref x) λ_ _=>False) hg hm ?_ hda;refine Zr I3.kIn k1 k2 hA tA mA mC _ _ _ _ (λ_ _ e=>e) ?_;refine wpAny_handleBy_cons (codeAny_handlers_test ?_) (by intro z;cases z);refine zh (I3.mark (.ref x) λ_ _=>False) hg' hm' ?_ hdb;refine qw I3.kIn k1 k2 hB tB mB mC2 _ _ _ _ (λ_ _ e=>e) ?_;exact suite hs'$ q T' hn
end
def yX(ta:TE)(tb:Ag):Ag:=λσ H Q R=>ta σ H λx H1=>tb σ H1 (λy H2=>∀p,H2 p=none->Q (.ref p) (af H2 p$ .tup [x,y])) R
theorem pE{X:Cx}{a b:Expr}{ta:TE}{tb:Ag}{pos:Pos}{x1}(ha:PE X.nox a ta)(hb:Co X b tb)(hs:starEach [a,b] X.env=[(false,eval a X.env),(false,eval b X.env)]:=by rfl):Co X (.Tuple [a,b] x1 pos) (yX ta tb):=by intro pins s σ H Q R I h;refine wpAny_Tuple_spliced ?_;rw[hs];show wpAny _ _ (spliced ((false,eval a X.env)::backTo pos [(false,eval b X.env)])) _ _ s;refine Calls.spliced_cons$ wpAny_mono (ha pins s σ H _ (I.wish _) h) (λu s1 z_z=>?_) λ_ _ z=>z.elim;obtain⟨x,H1,I1,r1,q1⟩:=z_z;have I1:=I1.unwish;show wpAny _ _ (spliced ((false,eval b X.env)::backTo pos [])) _ _ s1;refine Calls.spliced_cons$ aL (hb pins s1 σ H1 _ R I1 q1) λv s2 z_z=>?_;obtain⟨y,H2,I2,r2,q2⟩:=z_z;refine Calls.spliced_nil #[by show 2<=sizeLine;decide,?_];have hf:H2 s2.heap.objs.size=none:=I2.hok.fresh (Nat.le_refl _);refine#[.ref s2.heap.objs.size,af H2 s2.heap.objs.size$ .tup [x,y],I2.laid (t':=s2.toks) (λb u e=>Heap.get?_push_of_some _ e) (Nat.le_refl _) ?_,rfl,q2 _ hf];exact#[by show 2<=sizeLine;decide,_,.cons r1$ .cons r2 .nil,#[_,Heap.get?_push_size _ rfl,rfl,_,rfl]]
end _L
namespace _L
open PySem PySem.Spec PyProof.Rows PySem.SeqAt
theorem wX{prog:Program}{w:World}(l b:Addr)(us vs:Array Value)(n n2:Nat)(dd dd2:Option Addr)(sl sl2:Array (Option Value))(hsz:us.size=vs.size):
  MeetsIn prog w (Builtin.«tuple.__eq__» #[[.ref l,.ref b],[]]) (λA R s=>(s.heap.get? l=some #[.type "tuple",dd,.seq us n,sl]/\s.heap.get? b=some #[.type "tuple",dd2,.seq vs n2,sl2])/\
   (∀q∈us.toList.zip vs.toList,CJ prog w A.in1 s q.1 q.2)/\R (.ok$ .ret$ .bool true) s):=
 .of_wp λA R s #[#[h1,h2],h3,h4]=>by
  obtain⟨hp,g,d,tk,os⟩:=s;have sub:=AutoSeq1.sub_tuple_tuple;wp_walk using wpAny_loadPart' h1,wpAny_loadPart' h2,wpAny_forIn_list _ (λrest b s'=>b.1=none/\s'=#[hp,g,d,tk,os]/\∀q∈rest,CJ prog w A.in1 #[hp,g,d,tk,os] q.1 q.2) _
  case turn=>
   rintro ⟨y,x⟩ rest b s' ⟨e1,rfl,e2⟩;refine wpAny_bind$ e2 (y,x) List.mem_cons_self _ _ ?_;wp_walk;exact#[rfl,rfl,λq hq=>e2 q (List.mem_cons_of_mem _ hq)]
  case fin=>
   rintro ⟨b1,b2⟩ s' ⟨e1,rfl,_⟩;simp only at e1;subst e1;wp_walk;exact#[_,rfl,by simpa [Builtin.Tuple.tupleCompareSizes,bne,hsz] using h4]
  case h=>exact#[rfl,rfl,h3]
inductive Bq(K:Frag)(x y:V)(H:Hp)(Q:VK):Prop
 |mk(a b c d:_)(_:x= .ref a)(_:y= .ref b)(_:aD K H a c)(_:aD K H b d)(_:c.length=d.length)(_:∀q∈c.zip d,vq H q.1 q.2)(_:Q (.bl true) H)
theorem yi{X:Cx}(hu:X.A.units+1 < cLine):gf X (compareOp .Eq) (Bq X.K):=by
 intro pins s σ H x y v u Q I rx ry h;obtain⟨a,b,xs,ys,rfl,rfl,ha,hb,hl,hz,q⟩:=h;cases rx;cases ry;obtain⟨ia,ra,pa,_⟩:=I.tuple ha;obtain⟨ib,rb,pb,_⟩:=I.tuple hb;obtain⟨⟨c1,d1,t1,s1⟩,o1,e1,n1,f1⟩:=pa;obtain⟨⟨c2,d2,t2,s2⟩,o2,e2,n2,f2⟩:=pb;simp only at e1 f1 e2 f2;subst e1 f1 e2 f2;have la:=ra.length;have lb:=rb.length;refine wpAny_richCompare_same_room (op:=.Eq) #[_,o1,rfl] #[_,o2,rfl] PySem.F.slot_tuple_eq (call_meetsIn PySem.F.slot_tuple_eq #[_,o1,rfl] PySem.F.entry_tuple_eq (PySem.F.args_tuple_eq_2 _ _) (wX a b ia.toArray ib.toArray n1 n2 d1 d2 s1 s2 (by simp;omega)) #[#[o1,o2],λp hp=>?_,?_]) OB
 ·obtain⟨z,m,r1,r2⟩:=Xj ra rb p (by simpa using hp);exact nY I (by show X.A.units+1 < cLine;exact hu) (hz z m) r1 r2
 ·exact#[(λx=>nomatch x),.bl true,H,I,rfl,q]
end _L
namespace _L
open PySem PySem.Spec PyProof.Rows
theorem bH.m(r:bH k A)(h:j<=k:=by omega):bH j A:=r.mono h
theorem bZ{N P:List Str}{s:Scope}(a:s.kind=.function:=by rfl)(b:s.isCoroutine=false:=by rfl)(c:s.isGenerator=false:=by rfl)(d:N.Nodup:=by decide +kernel)(e:N.take P.length=P:=by rfl)(f:∀x∈P,s.names.lookup x=some .local ∨ s.names.lookup x=some .cell:=by decide +kernel)(g:∀y∈s.names,y.2≠.free:=by decide +kernel):al N P s:=#[a,b,c,d,e,f,g]
theorem nE{N:List Str}{s t:Scope}{M:List Str}{i:List Nat}(a:∀y∈t.names,y.2≠.cell:=by decide +kernel)(b:t.kind=.function:=by rfl)(c:∀y∈t.names,y.2=.local->t.names.lookup y.1=some .local:=by decide +kernel)(d:∀y∈t.names,y.2=.free->s.names.lookup y.1=some .cell:=by decide +kernel)(e:M.drop n=i.map (λi=>N.getD i Str.empty):=by decide +kernel)(f:M.length=n+i.length:=by rfl)(g:∀j∈i,t.names.lookup (N.getD j Str.empty)=some .free:=by decide +kernel):a7 N s t M n i:=#[a,b,c,d,e,f,g]
end _L
local macro_rules|`(tactic|obtain $p:rcasesPat:=$t)=>`(tactic|(refine _L.a6 λG k=>?_;rcases $t:term with $p:rcasesPat<;>(refine k ?_;clear k)))
namespace _K
open PySem PySem.Spec PyProof.Rows _L
abbrev z0z:List Str:=["_law_box_here","_law_wide"]
abbrev z1z:List Str:=["term"]
abbrev z2z:List Str:=["_law_box_here"]
abbrev z3z:List Str:=["term","held"]
abbrev z4z:List Str:=["statement","behind"]
abbrev z5z:List Str:=["statement"]
abbrev z6z:List Str:=["_law_box_here","_law_names_here","_law_heads","_law_spare","_law_deep"]
abbrev z7z:List Str:=["_law_term_here","_law_held"]
abbrev z8z:List Str:=["self","statement","behind"]
abbrev z9z:List Str:=["_law_box_here","_law_names_here","_law_deep"]
abbrev z10z:List Str:=["self","body","behind"]
abbrev z11z:List Str:=["self","one","args","deep"]
abbrev z12z:List Str:=["body","behind"]
abbrev z13z:List Str:=["_law_box_here","_law_a","_law_b"]
abbrev z14z:List Str:=["_law_parts","_law_f","_law_args","_law_state","_law_depth"]
abbrev z15z:List Str:=["name","params","body"]
abbrev z16z:List Str:=["_law_box_here","_law_f","_law_inner_here","_law_w"]
abbrev z17z:List Str:=["_law_one","_law_box_here"]
abbrev z18z:List Str:=["_law_program","_law_f","_law_args","_law_cells_here","_law_most"]
abbrev z19z:List Str:=["self","statement","place","behind"]
abbrev z20z:List Str:=["sign","left","right"]
abbrev z21z:List Str:=["_law_state","_law_spot_here"]
abbrev z22z:List Str:=["self","cells","most"]
abbrev z23z:List Str:=["self","program","cells","most"]
abbrev z24z:List Str:=["self","statement","held","deep"]
abbrev z25z:List Str:=["self","statement","held","todo","deep"]
abbrev z26z:List Str:=["_law_box_here","_law_total"]
abbrev z27z:List Str:=["_law_box_here","_law_names_here"]
abbrev z28z:List Str:=["program","f","args","cells","most"]
abbrev z29z:List Str:=["_law_parts","_law_f","_law_args","_law_state","_law_depth","_law_part","_law_held","_law_goal","_law_params","_law_deed","_law_ways","_law_way","_law_answer"]
abbrev z30z:List Str:=["_law_box_here","_law_total","_law_letters","_law_wide","_law_spot_here","_law_signs","_law_first","_law_form","_law_found","_law_k","_law_one","_law_word","_law_some","_law_odd"]
abbrev z31z:List Str:=["_law_k","_law_box_here","_law_letters"]
abbrev z32z:List Str:=["_law_j","_law_box_here","_law_letters"]
abbrev z33z:List Str:=["num","var","op","go","ask","back","chain","sets","iff","ends","calls","reads","gives"]
abbrev z34z:List Str:=["_law_one","_law_box_here","_law_names_here"]
abbrev z35z:List Str:=["_law_box_here","_law_total","_law_room"]
abbrev z36z:List Str:=["_law_box_here","_law_f","_law_g","_law_w"]
abbrev z37z:List Str:=["_law_box_here","_law_names_here","_law_heads","_law_spare","_law_deep","_law_kind","_law_x","_law_f","_law_params","_law_body_here"]
abbrev z38z:List Str:=["_law_box_here","_law_f","_law_inner_here","_law_w","_law_n","_law_i","_law_s","_law_x","_law_y","_law_body_here","_law_spot_here","_law_start","_law_loop"]
abbrev z39z:List Str:=["_law_box_here","_law_f","_law_inner_here","_law_w","_law_n","_law_i","_law_s","_law_x","_law_y","_law_spot_here","_law_body_here","_law_kept","_law_some","_law_start","_law_loop"]
abbrev z40z:List Str:=["_law_box_here","_law_program","_law_total","_law_f","_law_params","_law_body_here"]
abbrev z41z:List Str:=["_law_script","_law_box_here","_law_program","_law_f","_law_args","_law_k","_law_numbers"]
variable {P:Program}{w:World}{K:Frag}{mg:Str->Option Value}{base:Heap}
noncomputable def top(i:Nat):Stmt:=PySem.Challenge.pw_againbook_k19_whole_cuts_run_by_hand.main.body.getD i (.Pass #[0,0,0,0])
noncomputable abbrev yy:Stmt:=top 38
noncomputable abbrev pZ:Stmt:=top 39
noncomputable abbrev gH:Stmt:=top 41
def au(p:Addr)(H h:Hp):Prop:=∀b o,b≠p->H b=some o->h b=some o
theorem au.refl:au p H H:=λ_ _ _ h=>h
theorem au.trans(a:au p H d)(b:au p d e):au p H e:=λc o n h=>b c o n (a c o n h)
theorem au.of_eq{H a:Hp}(h:∀b,b≠p->a b=H b):au p H a:=λb o n e=>by rw[h b n];exact e
theorem au.upd_new{o:HO}(a:au p H h)(n:h r=none):au p H (af h r o):=λb u N e=>by have q:=a b u N e;rw[jh$ jk q n];exact q
theorem au.upd_own(a:au p H h)(n:H r=none):au p H (af h r o):=λb u N e=>by rw[jh$ jk e n];exact a b u N e
structure aq(H:Hp)(p:Addr):Prop where
 ob:∃a b:Int,0<=a/\1<=b/\b<=2147483646/\H p=some (.lst [.int a,.int b])
theorem aq.eq{c:Hp}(B:aq H p)(e:c p=H p):aq c p:=by obtain⟨a,b,d,f,g,h⟩:=B.ob;exact#[a,b,d,f,g,by rw[e];exact h]
theorem aq.upd_new{o:HO}(B:aq H p)(n:H r=none):aq (af H r o) p:=by obtain⟨a,b,c,d,e,h⟩:=B.ob;exact B.eq (by rw[jh$ jk h n])
theorem aq.ne(B:aq H p)(n:H r=none):r≠p:=by obtain⟨a,b,c,d,e,h⟩:=B.ob;exact EA$ jk h n
inductive aW(c:List V)(H:Hp)(Q:VK)(a:XK):Prop
 |mk(p:Addr)(w:Int)(_:c=[.ref p,.int w])(_:aq H p)(_:0 < w)(_:w<=1000000000000000000)(_:∀(d:Int) (H':Hp),0<=d->d < w->aq H' p->(∀b,b≠p->H' b=H b)->Q (.int d) H')
inductive mV(K:Frag)(e:List V)(H:Hp)(Q:VK)(c:XK):Prop
 |mk(a:Addr)(d:List Int)(k:Int)(_:e=[.ref a,.int k])(_:aF K H a (d.map V.int))(_:0<=k)(_:k < 1000)(_:∀(r:Addr) (H':Hp),H r=none->aq H' r->(∀b,b≠r->H' b=H b)->Q (.ref r) H')
theorem hG:(10:Int) ^ (18:Int).toNat=1000000000000000000:=by decide
theorem oE{ns:List Int}{k:Int}(H:0<=k)(a:k < (ns.length:Int)):∃v:Int,dF (ns.map V.int) k=some (.int v):=by
 have h:k.toNat < ns.length:=by omega
 have e:k=((k.toNat:Nat):Int):=by omega
 have q:dF (ns.map V.int) ((k.toNat:Nat):Int)=some (.int ns[k.toNat]):=jW (by rw[EB,Ed h];rfl);rw[<- e]at q;exact#[_,q]
structure Cl(P:Program)(w:World)(K:Frag)(mg:Str->Option Value)(base:Heap)(L:Nat)(f:Addr)(fd:FuncData)(ps:List Str)(sp:Sp)(py:Str):Prop where
 g:aj P w K mg base aC L f fd ps sp
 b:ax K fd ps []
 k:keepIn K (.ref f)=true
 m:mg py=some (.ref f)
theorem Cl.e{X:Cx}{e:Expr}(c:Cl X.prog X.w X.K X.mg X.base L f o q s a)(i:bH L X.A)(j:PA X (e::E) t)(l:Gl X a:=by rfl)(h:(a==("__debug__":Str))=false:=by decide)(n:starEach (e::E) X.env=(false,eval e X.env)::starEach E X.env:=by rfl)(H:(backTo d$ starEach E X.env).any (·.1)=false:=by rfl):PE X (.Call (.Name a p) (e::E) [] d) (dB s [] E0 t):=kj c.g i l c.m c.k c.b .nil bu j h n H
theorem jx{X:Cx}(h:PE X a t):PE X (.Subscript a (.Constant (.int i) j p) b) (eY (i9 X.K) t$ tC$ .int i):=jv zU h je λ_ _=>Z
theorem jy{X:Cx}{p:Pos}(i:Nat)(h:X.N.Nodup)(H:PE X e t)(b:X.N[i]?=some x:=by rfl)(c:nU X.env.scope x:=by exact Or.inl Z)(d:swapsWith e (some$ .Name x a) p.line X.env=pure false:=by rfl)(f:X.fn x=true∨X.env.scope.names.lookup x=some .local:=by first |exact .inl Z |exact .inr Z |assumption):PS X (.Assign [.Name x a] e p) (dn t$ bf i):=j3 h b c H d f
theorem jp{K:Frag}{H:Hp}{Q:VK}(h:H p=some (.tup x))(a:dF x n=some v)(q:Q v H)(e:b[i]?=some (some$ .ref p):=by rfl):eY (i9 K) (bh i) (tC$ .int n) b H Q:=#[_,e,p,x,n,v,Z,Z,aD.of h,a,q]
theorem jZ{X:Cx}(h:PE X a t):PT X (.Compare a [.Eq] [.Constant (.str x) j p] b) (nj$ eY Bp t$ tC$ .str x):=jA zD h jj Z
theorem zb{X:Cx}(h:PE X a t):PT X (.Compare a [.Eq] [.Constant (.int x) j p] b) (nj$ eY Bp t$ tC$ .int x):=jA zD h je Z
theorem gN:al ["_law_box_here","_law_wide","_law_digit","_law_one","_law_mixed"] z0z (aa pZ):=bZ
theorem uh(F:aU K "_law_take" "_law_take" pZ f x):aj P w K mg base aC 1 f x z0z aW:=by
 refine F.ok gN ?_ λC A O s H V Q E z h=>?_
 ·rintro _ _ _ _ ⟨p,w,rfl,_⟩;rfl
 obtain⟨p,W,rfl,B,d,g,q⟩:=h;obtain⟨a,b,l,i,j,e⟩:=B.ob;refine#[_,jd (ju (jA qN (jv jo (pv 0) je (λ_ _=>Z)) je$ aA _)
   (jd (jy 2 gN.nd$ jq kJ (jv jo (pv 0) je (λ_ _=>Z))$ pv 1)
   (jd (kH (jq q8 (jv jo (pv 0) je (λ_ _=>Z))$ pv 1)$ qC (pv 0) je zz)
   (jg$ jl$ pv 2))) jm)
  (jd (jy 3 gN.nd$ jq kJ (jq kO (jv jo (pv 0) je (λ_ _=>Z)) je) je)
  (jd (kH (jq jO (jq kJ (jq jO (jq kO (pv 3) je) je) je) je)$ qC (pv 0) je zz)
  (jd (jy 4 gN.nd$ jq q8 (jq jO (jq kO (pv 3) je)$ jv jo (pv 0) je (λ_ _=>Z)) je)
  (jd (ju (jA qN (pv 1) (jq Jl je je)$ aA _) (jg$ jy 4 gN.nd$ jq kO (pv 4)$ pv 4) jm)
  (jg$ jl$ jq kJ (pv 4)$ pv 1))))),?_]
 refine#[_,Z,p,_,_,_,Z,Z,aF.of e,Z,_,_,Z,Z,_,Z,?_];refine bJ (λc=>?_) (λc=>?_)
 ·have D:(0:Int) < a:=Fm c;refine#[_,Z,p,_,_,_,Z,Z,aF.of e,Z,_,Z,_,_,Z,Z,d,?_];refine#[_,Z,p,_,_,_,Z,Z,aF.of e,Z,_,Z,_,_,Z,Z,#[d,g],_,Z,p,_,_,0,Z,Z,e,Z,_,Z,?_];refine q (a % W) _ (Ft _ OB) (EY _ d) #[a / W,b,No l OB,i,j,jc] λb n=>jh n
 ·have I:0<=b*69621 % 2147483647:=Ft _ OA;have J:b*69621 % 2147483647 < 2147483647:=EY _ OA;refine#[_,Z,p,_,_,_,Z,Z,aF.of e,Z,_,_,Z,Z,.inr #[OA,OA],_,_,Z,Z,(by show(0:Int) < 2147483647;decide),?_];refine#[_,Z,_,_,Z,Z,.inr #[OA,OA],_,_,Z,Z,_,_,Z,Z,(by show(0:Int) < 2147483646;decide),_,_,Z,Z,_,Z,p,_,_,1,Z,Z,e,Z,?_];generalize m:b*69621 % 2147483647=o at*;have N:0<=(o*48271+30103) % 2147483646:=Ft _ OA;have L:(o*48271+30103) % 2147483646 < 2147483646:=EY _ OA;generalize r:(o*48271+30103) % 2147483646=t at*;refine#[_,Z,_,_,Z,Z,.inr #[OA,OA],_,Z,p,_,_,_,Z,Z,aF.of jc,Z,_,_,Z,Z,_,_,Z,Z,#[OA,OA],?_];have X:0<=(o*2147483647+(t+1)) / 8191:=by omega
  have R:(o*2147483647+(t+1)) / 8191 < 18446744073709551616:=by omega
  generalize u:(o*2147483647+(t+1)) / 8191=M at*;refine#[_,Z,_,_,Z,Z,#[OA,OA,OA],_,_,Z,Z,_,Z,?_];have v:aq (af H p$ .lst [.int a,.int$ t+1]) p:=#[a,t+1,l,OB,OB,jc];refine bJ (λy=>?_) (λy=>?_)
  ·refine#[_,Z,_,Z,_,_,Z,Z,.inl #[OB,OB],?_];refine#[_,Z,_,Z,_,_,Z,Z,d,?_];exact q _ _ (Ft _ OB) (EY _ d) v λb n=>jh n
  ·refine#[_,Z,_,Z,_,_,Z,Z,d,?_];exact q _ _ (Ft _ OB) (EY _ d) v λb n=>jh n
theorem lh:al ["_law_script","_law_k","_law_cell","_law_seed"] ["_law_script","_law_k"] (aa yy):=bZ
theorem x6(F:aU K "_law_box" "_law_box" yy f I)(m:mg "len"=none)(M:mg "int"=none):aj P w K mg base aC 1 f I ["_law_script","_law_k"] (mV K):=by
 refine F.ok lh ?_ λJ A o s H W Q E X h=>?_
 ·rintro _ _ _ _ ⟨a,ns,k,rfl,_⟩;rfl
 obtain⟨a,ns,k,rfl,d,i,L,q⟩:=h;refine#[_,jd (jy 2 lh.nd$ jq jO (jq kO je$ pv 1) je)
  (jd (ju (jA JY (pv 1) (jP jJ Z m F'$ ja (pv 0) jb)$ aA _)
   (jg$ jy 2 lh.nd$ jv jo (pv 0) (pv 1) (λ_ _=>Z))
   (jg (ju (jA qN (jP jJ Z m F'$ ja (pv 0) jb) je$ aA _)
    (jg$ jy 2 lh.nd$ jq jO (pv 2)$ jq kO (jq kJ (jv jo (pv 0) (jq kJ (pv 1)$ jP jJ Z m F'$ ja (pv 0) jb) (λ_ _=>Z)) je) je) jm)))
  (jd (jy 3 lh.nd$ jq jO (jq kJ (jq jO (jq kO (jq kJ (pv 2) je) je)$ jq kO je$ pv 1) je) je)
  (jg$ jl$ jD$ ja (jq kO (pv 2)$ jC zP Z M Mm$ ja (kW ZN (pv 2) (jq Jl je je)$ aA _) jb)$ ja (pv 3) jb))),?_]
 have e:(ns.map V.int).length=ns.length:=Ec _;have T:∀c:Int,∃v:V,∃x:Int,v= .int x/\1<=x/\x<=2147483646/\v= .int ((c % 2147483629*48271+40692*k) % 2147483646+1):=λc=>by have N:0<=(c % 2147483629*48271+40692*k) % 2147483646:=Ft _ OA;have O:(c % 2147483629*48271+40692*k) % 2147483646 < 2147483646:=EY _ OA;exact#[_,_,Z,OB,OB,Z]
 have j:∀(c:Int) (r:Addr),H r=none->Q (.ref r) (af H r$ .lst [.int$ c*(if decide ((10:Int) ^ (18:Int).toNat<=c)=true then 1 else 0),.int ((c % 2147483629*48271+40692*k) % 2147483646+1)]):=λc r R=>by
  refine q r _ R #[_,_,?_,?_,?_,jc] λb n=>jh n
  ·rw[hG];by_cases h:(1000000000000000000:Int)<=c
   ·rw[EI h,Er Z];omega
   ·rw[Ep h,Eu El];omega
  ·have N:0<=(c % 2147483629*48271+40692*k) % 2147483646:=Ft _ OA;omega
  ·have O:(c % 2147483629*48271+40692*k) % 2147483646 < 2147483646:=EY _ OA;omega
 have B:∀c:Int,sG c (if decide ((10:Int) ^ (18:Int).toNat<=c)=true then 1 else 0):=λc=>.inr (by split<;>decide);refine ah λF0 u=>#[_,Z,_,_,Z,Z,.inl #[OA,OA],_,_,Z,Z,u _ _ ?_];clear u;refine ah λS y=>?_;have l:∀c:Int,S [some$ .ref a,some$ .int k,some$ .int c,none] H:=λc=>y _ _ (ah λF2 U=>#[_,Z,_,_,Z,Z,(by show(0:Int) < 2147483629;decide),_,_,Z,Z,.inr #[OA,OA],_,Z,_,_,Z,Z,.inl #[OA,OA],_,_,Z,Z,_,_,Z,Z,(by show(0:Int) < 2147483646;decide),_,_,Z,Z,U _ _ (#[_,Z,_,Z,_,_,Z,Z,#[OA,OA,OA],_,_,Z,Z,.inr #[_,Z,_,_,Z,Z,B c,_,Z,cj,j c]])]);clear y;refine mn λG g=>#[_,Z,_,Z,a,_,Z,.inl d,_,_,Z,Z,_,Z,g _ _ ?_];clear g;refine bJ (λc=>?_) (λc=>?_)
 ·have C:k < (((ns.map V.int).length:Nat):Int):=Fm c;rw[e]at C;obtain⟨v,p⟩:=oE (ns:=ns) i C;exact#[_,Z,_,Z,a,_,_,_,Z,Z,d,p,l v]
 ·have C:¬k < (((ns.map V.int).length:Nat):Int):=Iv (Bool.eq_false_iff.mpr c);rw[e]at C;refine mn λG g=>#[_,Z,a,_,Z,.inl d,_,_,Z,Z,_,Z,g _ _ ?_];clear g;refine bJ (λz=>?_) (λz=>?_)
  ·have D:(0:Int) < (((ns.map V.int).length:Nat):Int):=Fm z;obtain⟨v,p⟩:=oE (ns:=ns) (k:=k % (((ns.map V.int).length:Nat):Int)) (Ft _ OB) (by have:=EY k D;rw[e]at this;rw[e];exact this);exact#[_,Z,_,Z,_,Z,_,Z,a,_,Z,.inl d,_,_,Z,Z,D,a,_,_,_,Z,Z,d,p,_,_,Z,Z,(by show(0:Int) < 2147483629;decide),_,_,Z,Z,.inr #[OA,OA],_,_,Z,Z,l _]
  ·exact l _
theorem ma(i j:Str):(i++j).length=i.length+j.length:=by show(i.cps++j.cps).size=i.cps.size+j.cps.size;exact IW
theorem zc:1000000<=sizeLine:=by rw[Ik];decide
theorem ao{H:Hp}{o:HO}(h:H b=some u)(n:H r=none):af H r o b=some u:=by rw[jh$ jk h n];exact h
theorem rL{z:Str}{k:Int}(H:0<=k)(a:k < (z.length:Int)):∃c:Nat,dF z.cps.toList k=some c:=by
 have b:z.cps.toList.length=z.length:=EE;have h:k.toNat < z.cps.toList.length:=by omega
 have e:k=((k.toNat:Nat):Int):=by omega
 have q:dF z.cps.toList ((k.toNat:Nat):Int)=some z.cps.toList[k.toNat]:=jW (Ed h);rw[<- e]at q;exact#[_,q]
theorem Kd{ys:List Str}{k:Int}(H:0<=k)(a:k < (ys.length:Int)):∃y∈ys,dF (ys.map V.str) k=some (.str y):=by
 have h:k.toNat < ys.length:=by omega
 have e:k=((k.toNat:Nat):Int):=by omega
 have q:dF (ys.map V.str) ((k.toNat:Nat):Int)=some (.str ys[k.toNat]):=jW (by rw[EB,Ed h];rfl);rw[<- e]at q;exact#[_,HW h,q]
noncomputable def a8(s:List Str)(lo h:Option Int):List Str:=(s.drop$ HT.sIx s.length 0 lo).take (HT.sIx s.length s.length h - HT.sIx s.length 0 lo)
theorem zA(s:List Str)(lo h:Option Int):aV (s.map V.str) lo h=(a8 s lo h).map V.str:=by unfold aV a8;rw[Ec,HN,Ny]
theorem zM{lo:Option Int}(h:y∈a8 s lo H):y∈s:=Ms (Fp h)
theorem qm(s:List Str)(lo h:Option Int):(a8 s lo h).length<=s.length:=by unfold a8;rw[EJ,Gh];omega
theorem qU:∀{ys:List Str},(∀y∈ys,y.length<=1)->(ys.map (·.length)).sum<=ys.length
 | [],_=>Ee _
 |y::r,h=>by have a:=h y Es;have b:=qU (ys:=r) λz H=>h z (Ew _ H);rw[Fj,List.sum_cons,ED];omega
theorem qV{z:Str}{ys:List Str}(H:z.length=0)(h:∀y∈ys,y.length<=1):(Txt.join z ys).length<=ys.length:=by show(Builtin.Str.glued z ys).length<=_;rw[size_glued,H,Nat.mul_zero,Nat.add_zero];exact qU h
noncomputable def de:Str:="abcdefghijklmnopqrstuvwxyz"
theorem JI:de.length=26:=by decide+kernel
noncomputable def nF(d:Int)(k:Nat):Nat:=97+((d+5*(0+(k:Int))) % 26).toNat
theorem tH(H:i < 20)(a:j < 20)(h:nF d i=nF d j):i=j:=by unfold nF at h;omega
theorem xJ(H:0<=k)(a:k < 26)(h:dF de.cps.toList k=some c):c=97+k.toNat:=by
 have q:∀m:Fin 26,dF de.cps.toList (m.val:Int)=some (97+m.val):=by decide+kernel
 have e:=q #[k.toNat,OB];have E:((k.toNat:Nat):Int)=k:=by omega
 dsimp only at e;rw[E,h]at e;injection e
def Sh(A S:Str)(d:Int)(c:Nat)(w:Str):Prop:=if d=2 then ∃R:Str,w=R++#[(List.toArray [c])] else w=A++#[(List.toArray [c])]++S∨w=A++#[(List.toArray [c])]++S++"z"∨w="qqqqqqq"++#[(List.toArray [c])]
theorem ky(a b:Str):(a++b).cps.toList=a.cps.toList++b.cps.toList:=by show(a.cps++b.cps).toList=_;exact Array.toList_append
theorem Xk{R:Str}(h:R++(#[(List.toArray [c])]:Str)=r++#[(List.toArray [C])]):c=C:=by have e:=Gb (Array.toList ∘ Str.cps) h;have e:(R++(#[(List.toArray [c])]:Str)).cps.toList=(r++(#[(List.toArray [C])]:Str)).cps.toList:=e;rw[ky,ky]at e;have:=List.append_inj_right' e Z;injection this
theorem tJ{S:Str}(h:A++(#[(List.toArray [c])]:Str)++S=A++#[(List.toArray [C])]++S):c=C:=by have e:=Gb (Array.toList ∘ Str.cps) h;have e:(A++(#[(List.toArray [c])]:Str)++S).cps.toList=(A++(#[(List.toArray [C])]:Str)++S).cps.toList:=e;rw[ky,ky,ky,ky]at e;have:=L9 (HP e);injection this
theorem BF{A S : Str}{d : Int}{c C : Nat}{w : Str}(i : A.length + S.length <= 5)(h : Sh A S d c w)(H : Sh A S d C w) : c = C := by
  unfold Sh at h H;have l : ∀ c : Nat, (#[(List.toArray [c])] : Str).length = 1 :=λ_ => Z;have L : (Str.ofString "z").length = 1 := by decide +kernel
  have f : (Str.ofString "qqqqqqq").length = 7 := by decide +kernel
  split at h
  · rename_i a
    rw [Er a] at H;obtain ⟨R, rfl⟩ := h;obtain ⟨r, e⟩ := H;exact Xk e
  · rename_i a
    rw [Eu a] at H;rcases h with rfl | rfl | rfl <;> rcases H with e | e | e
    · exact tJ e
    all_goals first
      | exact Xk e
      | (have g := Gb Str.length e
         simp only [ma, l, L, f] at g;omega)
      | skip
    have E := Gb (Array.toList ∘ Str.cps) e;have E : (A ++ (#[(List.toArray [c])] : Str) ++ S ++ ("z" : Str)).cps.toList = (A ++ (#[(List.toArray [C])] : Str) ++ S ++ ("z" : Str)).cps.toList := E;rw [ky, ky (A ++ _ ++ S)] at E;have b := HP E;rw [ky, ky, ky, ky] at b;have := L9 (HP b);injection this
theorem Xl{y:List Str}:y.Nodup↔∀i j:Nat,i < j->j < y.length->y[i]?≠y[j]?:=by
 unfold List.Nodup;rw[List.pairwise_iff_getElem];refine#[λh i j H a e=>?_,λh i j b a H e=>h i j H a ?_]
 ·rw[Ed (by omega:i < y.length),Ed a]at e;injection e with e;exact h i j OB a H e
 ·rw[Ed b,Ed a,e]
theorem rG{A S:Str}{d D:Int}{Y:List Str}(b:A.length+S.length<=5)(g:Y.length<=20)(h:∀j y,Y[j]?=some y->Sh A S D (nF d j) y):Y.Nodup:=by rw[Xl];intro i j c H e;have a:=h i _ (Ed (by omega:i < Y.length));have f:=h j _ (Ed H);rw[Ed (by omega:i < Y.length),Ed H]at e;injection e with e;rw[e]at a;have:=tH OB OB (BF b a f);omega
theorem Zs{y:List Str}(h:y.Nodup)(b:a∉y):(y.set n a).Nodup:=by
 rw[Xl]at h ⊢;intro i j H c e;rw[Ir]at c;by_cases d:n=i
 ·rw[d,Hm OB,Gs OB]at e;exact b$ Ey e.symm
 ·by_cases f:n=j
  ·rw[f,Hm OB,Gs OB]at e;exact b$ Ey e
  ·rw[Gs d,Gs f]at e;exact h i j H c e
theorem tP{y:List Str}(h:sy (.str a) (y.map V.str)=false):a∉y:=λm=>by unfold sy at h;rw[MQ]at h;exact h (.str a) (List.mem_map.mpr #[a,m,Z]) (by simp [nQ])
theorem sR{ss:List Str}{d1 d2:Int}(h:ss.length=(1+d1).toNat)(a:0<=d2)(b:d2 < 1+d1):(a8 ss none$ some d2).length+(a8 ss (some$ d2+1) none).length<=d1.toNat:=by
 obtain⟨k,rfl⟩:∃k:Nat,d2=k:=#[d2.toNat,(MG a).symm];obtain⟨n,rfl⟩:∃n:Nat,d1=n:=#[d1.toNat,(MG OB).symm];have H:k<=n:=by omega
 have h:ss.length=n+1:=by rw[h];omega
 clear a b;unfold a8;rw[show((k:Int)+1)=((k+1:Nat):Int) from Z,HT.sIx_nat,HT.sIx_nat,EJ,EJ,Gh,h,He$ FN H,He$ Nat.le_succ_of_le H];refine En (Nat.add_le_add (Iw _ _)$ Iw _ _) ?_;show k - 0+(n+1 - (k+1))<=n;rw[I0,Nat.add_sub_add_right,My H];exact Ee _
theorem Dh{S:Str}:Sh A S d c ("qqqqqqq"++#[(List.toArray [c])]):=by
 unfold Sh;split
 ·exact#[_,Z]
 ·exact .inr$ .inr Z
theorem Di{A S:Str}{d:Int}{c:Nat}{w:Str}(h:if d=2 then ∃R:Str,w=R++#[(List.toArray [c])] else w=A++#[(List.toArray [c])]++S∨w=A++#[(List.toArray [c])]++S++"z"):Sh A S d c w:=by
 unfold Sh;split at h
 ·rename_i e;rw[Er e];exact h
 ·rename_i e;rw[Eu e];exact h.elim .inl λz=>.inr (.inl z)
noncomputable def pre(s:List Str)(d:Int):Str:=Txt.join "" (a8 s none$ some d)
noncomputable def eB(s:List Str)(d:Int):Str:=Txt.join "" (a8 s (some$ d+1) none)
inductive eS(b:List V)(H:Hp)(Q:VK)(a:XK):Prop
 |mk(p:Addr)(n:Int)(_:b=[.ref p,.int n])(_:aq H p)(_:1<=n)(_:n<=20)(_:∀(r:Addr) (ys:List Str) (H':Hp),H r=none->H' r=some (.lst (ys.map V.str))->(ys.length:Int)=n->(∀y∈ys,y.length<=20)/\ys.Nodup->aq H' p->au p H H'->Q (.ref r) H')
theorem aZ:al z30z z26z (aa gH):=bZ
noncomputable def K6:Scope:=#[.function,[(".0",.local),("_law_k",.local),("_law_take",.globalImplicit),("_law_box_here",.free),("_law_letters",.free)],false,false,[]]
theorem Yl:(z31z:List Str).Nodup:=by decide+kernel
theorem Ym:a7 z30z (aa gH) K6 z31z 1 [0,2]:=nE
noncomputable def K7:Scope:=#[.function,[(".0",.local),("_law_j",.local),("_law_take",.globalImplicit),("_law_box_here",.free),("_law_letters",.free)],false,false,[]]
theorem Yn:(z32z:List Str).Nodup:=by decide+kernel
theorem Yo:a7 z30z (aa gH) K7 z32z 1 [0,2]:=nE
theorem Ji{p:Addr}{Q:List V->Hp->Prop}(o:n<=20)(B:aq f p)
  (q:∀(S:List Str) (H:Hp),S.length=n->(∀s∈S,s.length<=1)->aq H p->(∀b,b≠p->H b=f b)->Q (S.map V.str) H):
  dW (sr 0 n) 1 [some$ .ref p,some$ .str de] (bf 0) lF (eY uJ (bh 2)$ dB aW [] E0$ ak (bh 1)$ ak (tC$ .int 26) aP) Q f:=by
 refine Xw (λi y H=>∃S:List Str,y=S.map V.str/\S.length=i/\(∀s∈S,s.length<=1)/\aq H p/\∀b,b≠p->H b=f b)
  #[[],Z,Z,(λ_ h=>nomatch h),B,λ_ _=>Z] (En o OA) (λi y H #[S,e,l,_]=>by rw[e,Ec,l];exact Ee _) ?_ ?_
 ·intro i y H x a;obtain⟨S,rfl,g,j,m,E⟩:=a;refine#[_,Z,_,Z,p,26,Z,m,OA,OA,λd A D r t u=>?_];obtain⟨c,v⟩:=rL (z:=de) D (by rw[JI];exact r);refine#[_,_,c,Z,Z,OA,v,S++[#[(List.toArray [c])]],by rw[EF];rfl,by rw[Eg,g];rfl,λs hs=>?_,t,λb N=>(u b N).trans (E b N)];rcases List.mem_append.mp hs with hs |hs
  ·exact j s hs
  ·rw[List.mem_singleton.mp hs];exact Ee 1
 ·intro y H a;obtain⟨S,rfl,g,j,m,E⟩:=a;exact q S H g j m E
def Rw(p g r:Addr)(n d D b e:Int)(i c:Nat)(s y:List Str)(H:Hp)(L:Nat)(Z:Str->Prop):_L.St->Hp->Prop:=λa h=>∃W:Str,(W.length<=L/\Z W)/\
 a=[some$ .ref p,some$ .int n,some$ .str de,some$ .int (1+d),some$ .int D,some$ .ref g,some$ .int b,some$ .int e,some$ .ref r,some$ .int (0+(i:Int)),some$ .str #[(List.toArray [c])],some$ .str W,none,none]/\
 h g=some (.lst$ s.map V.str)/\h r=some (.lst$ y.map V.str)/\aq h p/\au p H h
def Rf(p r:Addr)(n:Int)(H:Hp):_L.St->Hp->Prop:=λa h=>a[8]?=some (some$ .ref r)/\∃Y:List Str,h r=some (.lst$ Y.map V.str)/\(Y.length:Int)=n/\((∀y∈Y,y.length<=20)/\Y.Nodup)/\aq h p/\au p H h
theorem Qx(Y:List Str):(Y.map V.str).all dX=true:=by rw[M0];intro v h;obtain⟨y,_,rfl⟩:=List.mem_map.mp h;rfl
theorem rE(Y:List Str)(j:Nat)(y:Str):(Y.map V.str).set j (V.str y)=(Y.set j y).map V.str:=(NG ..).symm
inductive NI(p g r:Addr)(n b c d e:Int)(v:List Str)(H:Hp)(i:Nat)(x:_L.St)(a:Hp):Prop
 |mk(s t u:Option V)(w:List Str)(f:x=[some (.ref p),some (.int n),some (.str de),some (.int (1+b)),some (.int c),some (.ref g),some (.int d),some (.int e),some (.ref r),s,t,u,none,none])(h:a g=some (.lst (v.map V.str)))(k:a r=some (.lst (w.map V.str)))(l:w.length=i)(m:(∀y∈w,y.length<=20)/\∀j y,w[j]?=some y->Sh (pre v c) (eB v c) e (nF d j) y)(o:aq a p)(q:au p H a)
theorem oZ(F:aU K "_law_names" "_law_names" gH f fd)(GT:aj P w K mg base aC 1 fT f4 z0z aW)(x:ax K f4 z0z [])(C:keepIn K (.ref fT)=true)
  (M:mg "_law_take"=some (.ref fT)) (mr:mg "range"=none):aj P w K mg base aC 2 f fd z26z eS:=by
 refine F.ok aZ ?_ λc1 A o1 s H vs Q E D h=>?_
 ·rintro _ _ _ _ ⟨p,n,rfl,_⟩;rfl
 obtain⟨p,n,rfl,B,a3,a4,q⟩:=h;refine#[_,(@jd _ _ _ _ _ (@j3 _ _ (2) _ _ _ _ aZ.nd Z (Or.inr Z) (@jj _ _ _ _) OF$ .inl Z)$ @jd _ _ _ _ _ (@j3 _ _ (3) _ _ _ _ aZ.nd Z (Or.inl Z) (@jq _ _ _ _ _ _ _ _ jO (@je _ _ _ _)$ @kj _ _ _ _ _ _ _ _ _ _ _ _ _ _ _ _ GT D Z M C x .nil bu (@ja _ _ _ _ _ (@pv _ 0 _ _ OF (.inr$ .inl Z) OA OA) (@ja _ _ _ _ _ (@je _ _ _ _) (@jb _) OF) OF) OA OF OF) OF$ .inl Z)$ @jd _ _ _ _ _ (@j3 _ _ (4) _ _ _ _ aZ.nd Z (Or.inl Z) (@kj _ _ _ _ _ _ _ _ _ _ _ _ _ _ _ _ GT D Z M C x .nil bu (@ja _ _ _ _ _ (@pv _ 0 _ _ OF (.inr$ .inl Z) OA OA) (@ja _ _ _ _ _ (@pv _ 3 _ _ OF (.inl Z) OA OA) (@jb _) OF) OF) OA OF OF) OF$ .inl Z)$ @jd _ _ _ _ _ (@uF _ _ _ _ _ _ _ _ _ _ (5) (z31z) (1) ([0,2]) _ _ _ _ aZ.nd Z (Or.inl Z) Z (@kS _ _ _ _ _ _ Z mr (@ja _ _ _ _ _ (@pv _ 3 _ _ OF (by first |exact Or.inl Z |exact Or.inr (Or.inl Z) |exact Or.inr$ Or.inr Z) OA OA) (@jb _) OF) OF) Ym (λ_ _ _ _ _=>(@jr _ _ (0) _ Yl Z (Or.inl Z) (by first |exact .inl Z |exact .inr Z))) (λ_ _ _ _ _=>(@zr _)) (λ_ _ _ _ _=>(@jv _ _ _ _ _ _ _ Kb (@pv _ 2 _ _ OF (by first |exact Or.inl Z |exact Or.inr (Or.inl Z) |exact Or.inr$ Or.inr Z) OA OA) (@kj _ _ _ _ _ _ _ _ _ _ _ _ _ _ _ _ GT D Z M C x .nil bu (@ja _ _ _ _ _ (@pv _ 1 _ _ OF (by first |exact Or.inl Z |exact Or.inr (Or.inl Z) |exact Or.inr$ Or.inr Z) OA OA) (@ja _ _ _ _ _ (@je _ _ _ _) (@jb _) OF) OF) OA OF OF) (λ_ _=>Z))) OF (by first |exact .inl Z |exact .inr Z) (by intro _;rfl))$ @jd _ _ _ _ _ (@j3 _ _ (6) _ _ _ _ aZ.nd Z (Or.inl Z) (@kj _ _ _ _ _ _ _ _ _ _ _ _ _ _ _ _ GT D Z M C x .nil bu (@ja _ _ _ _ _ (@pv _ 0 _ _ OF (.inr$ .inl Z) OA OA) (@ja _ _ _ _ _ (@je _ _ _ _) (@jb _) OF) OF) OA OF OF) OF$ .inl Z)$ @jd _ _ _ _ _ (@j3 _ _ (7) _ _ _ _ aZ.nd Z (Or.inl Z) (@kj _ _ _ _ _ _ _ _ _ _ _ _ _ _ _ _ GT D Z M C x .nil bu (@ja _ _ _ _ _ (@pv _ 0 _ _ OF (.inr$ .inl Z) OA OA) (@ja _ _ _ _ _ (@je _ _ _ _) (@jb _) OF) OF) OA OF OF) OF$ .inl Z)$ @jd _ _ _ _ _ (@j3 _ _ (8) _ _ _ _ aZ.nd Z (Or.inl Z) (@jD _ _ _ _$ @jb _) OF$ .inl Z)$ @jd _ _ _ _ _ (@ze _ _ _ _ _ _ _ _ Fk Z (@kS _ _ _ _ _ _ Z mr (@ja _ _ _ _ _ (@pv _ 1 _ _ OF (.inl Z) OA OA) (@jb _) OF) OF) (@jr _ _ (9) _ aZ.nd Z (Or.inl Z)$ .inl Z) (@jd _ _ _ _ _ (@j3 _ _ (10) _ _ _ _ aZ.nd Z (Or.inl Z) (@jv _ _ _ _ _ _ _ Kb (@pv _ 2 _ _ OF (.inr$ .inl Z) OA OA) (@jq _ _ _ _ _ _ _ _ kJ (@jq _ _ _ _ _ _ _ _ jO (@pv _ 6 _ _ OF (.inl Z) OA OA)$ @jq _ _ _ _ _ _ _ _ kO (@je _ _ _ _)$ @pv _ 9 _ _ OF (.inl Z) OA OA)$ @je _ _ _ _) (λ_ _=>Z)) OF$ .inl Z)$ @jd _ _ _ _ _ (@jX _ _ _$ @j3 _ _ (11) _ _ _ _ aZ.nd Z (Or.inl Z) (@jq _ _ _ _ _ _ _ _ zB (@jq _ _ _ _ _ _ _ _ zB (@kM _ _ _ _ _ _ _ _ _ _ _ _ Hg Ic Ib QL (@jj _ _ _ _) (@ja _ _ _ _ _ (@jK _ _ _ _ _ _ _ _ _ _ km (@pv _ 5 _ _ OF (.inl Z) OA OA) (@kX _)$ @jH _ _ _$ @pv _ 4 _ _ OF (.inl Z) OA OA) (@jb _) OF) OF OF OF OF OF)$ @pv _ 10 _ _ OF (.inl Z) OA OA)$ @kM _ _ _ _ _ _ _ _ _ _ _ _ Hg Ic Ib QL (@jj _ _ _ _) (@ja _ _ _ _ _ (@jK _ _ _ _ _ _ _ _ _ _ km (@pv _ 5 _ _ OF (.inl Z) OA OA) (@jH _ _ _$ @jq _ _ _ _ _ _ _ _ jO (@pv _ 4 _ _ OF (.inl Z) OA OA)$ @je _ _ _ _)$ @kX _) (@jb _) OF) OF OF OF OF OF) OF$ .inl Z)$ @jd _ _ _ _ _ (@jX _ _ _$ @ju _ _ _ _ _ _ _ _ (@PW.pt _ _ _$ @Ka _ _ _ _ _ _ _ (zb$ @pv _ 7 _ _ OF (.inl Z) OA OA)$ @qR _ _ _ _$ zb$ @jq _ _ _ _ _ _ _ _ kJ (@pv _ 9 _ _ OF (.inl Z) OA OA)$ @je _ _ _ _) (@jg _ _ _$ @j3 _ _ (11) _ _ _ _ aZ.nd Z (Or.inl Z) (@jq _ _ _ _ _ _ _ _ zB (@pv _ 11 _ _ OF (.inl Z) OA OA)$ @jj _ _ _ _) OF$ .inl Z)$ @jm _)$ @jd _ _ _ _ _ (@jX _ _ _$ @ju _ _ _ _ _ _ _ _ (zb$ @pv _ 7 _ _ OF (.inl Z) OA OA) (@jg _ _ _$ @j3 _ _ (11) _ _ _ _ aZ.nd Z (Or.inl Z) (@jq _ _ _ _ _ _ _ _ zB (@kM _ _ _ _ _ _ _ _ _ _ _ _ Hg Ic Ib QL (@jj _ _ _ _) (@ja _ _ _ _ _ (@kn _ _ _ _ _ _ _ (z32z) (1) ([0,2]) _ _ _ _ Z (@kS _ _ _ _ _ _ Z mr (@ja _ _ _ _ _ (@kj _ _ _ _ _ _ _ _ _ _ _ _ _ _ _ _ GT D Z M C x .nil bu (@ja _ _ _ _ _ (@pv _ 0 _ _ OF (by first |exact Or.inl Z |exact Or.inr (Or.inl Z) |exact Or.inr$ Or.inr Z) OA OA) (@ja _ _ _ _ _ (@je _ _ _ _) (@jb _) OF) OF) OA OF OF) (@jb _) OF) OF) Yo (λ_ _ _ _ _=>(@jr _ _ (0) _ Yn Z (Or.inl Z) (by first |exact .inl Z |exact .inr Z))) (λ_ _ _ _ _=>(@zr _)) (λ_ _ _ _ _=>(@jv _ _ _ _ _ _ _ Kb (@pv _ 2 _ _ OF (by first |exact Or.inl Z |exact Or.inr (Or.inl Z) |exact Or.inr$ Or.inr Z) OA OA) (@kj _ _ _ _ _ _ _ _ _ _ _ _ _ _ _ _ GT D Z M C x .nil bu (@ja _ _ _ _ _ (@pv _ 1 _ _ OF (by first |exact Or.inl Z |exact Or.inr (Or.inl Z) |exact Or.inr$ Or.inr Z) OA OA) (@ja _ _ _ _ _ (@je _ _ _ _) (@jb _) OF) OF) OA OF OF) (λ_ _=>Z))) (by intro _;rfl)) (@jb _) OF) OF OF OF OF OF)$ @pv _ 10 _ _ OF (.inl Z) OA OA) OF$ .inl Z)$ @jm _)$ @jd _ _ _ _ _ (@jX _ _ _$ @ju _ _ _ _ _ _ _ _ (@jA _ _ _ _ _ _ _ _ zQ (@pv _ 11 _ _ OF (.inl Z) OA OA) (@ji _ _ _ _ _$ @QM _ _ OF) Z) (@jg _ _ _$ @j3 _ _ (11) _ _ _ _ aZ.nd Z (Or.inl Z) (@jq _ _ _ _ _ _ _ _ zB (@jj _ _ _ _)$ @pv _ 10 _ _ OF (.inl Z) OA OA) OF$ .inl Z)$ @jm _)$ @jg _ _ _$ @jS _ _ _ _ (@kM _ _ _ _ _ _ _ _ _ _ _ _ EH ET ES jY (@pv _ 8 _ _ OF (.inl Z) OA OA) (@ja _ _ _ _ _ (@pv _ 11 _ _ OF (.inl Z) OA OA) (@jb _) OF) OF OF OF OF OF) OF) (by intro _;rfl))$ @jd _ _ _ _ _ (@jX _ _ _$ @ju _ _ _ _ _ _ _ _ (@jA _ _ _ _ _ _ _ _ zD (@kj _ _ _ _ _ _ _ _ _ _ _ _ _ _ _ _ GT D Z M C x .nil bu (@ja _ _ _ _ _ (@pv _ 0 _ _ OF (.inr$ .inl Z) OA OA) (@ja _ _ _ _ _ (@je _ _ _ _) (@jb _) OF) OF) OA OF OF) (@je _ _ _ _)$ aA _) (@jd _ _ _ _ _ (@j3 _ _ (12) _ _ _ _ aZ.nd Z (Or.inl Z) (@jD _ _ _ _$ @QM _ _ OF) OF$ .inl Z)$ @jd _ _ _ _ _ (@j3 _ _ (13) _ _ _ _ aZ.nd Z (Or.inl Z) (@jv _ _ _ _ _ _ _ jo (@pv _ 12 _ _ OF (.inl Z) OA OA) (@kj _ _ _ _ _ _ _ _ _ _ _ _ _ _ _ _ GT D Z M C x .nil bu (@ja _ _ _ _ _ (@pv _ 0 _ _ OF (.inr$ .inl Z) OA OA) (@ja _ _ _ _ _ (@je _ _ _ _) (@jb _) OF) OF) OA OF OF) (λ_ _=>Z)) OF$ .inl Z)$ @jg _ _ _$ @ju _ _ _ _ _ _ _ _ (@jA _ _ _ _ _ _ _ _ Jd (@pv _ 13 _ _ OF (.inl Z) OA OA) (@pv _ 8 _ _ OF (.inl Z) OA OA) Z) (@jg _ _ _$ @kH _ _ _ _ _ _ (@pv _ 13 _ _ OF (.inl Z) OA OA) (@qC _ _ _ _ _ _ _ (@pv _ 8 _ _ OF (.inl Z) OA OA) (@kj _ _ _ _ _ _ _ _ _ _ _ _ _ _ _ _ GT D Z M C x .nil bu (@ja _ _ _ _ _ (@pv _ 0 _ _ OF (.inr$ .inl Z) OA OA) (@ja _ _ _ _ _ (@pv _ 1 _ _ OF (.inl Z) OA OA) (@jb _) OF) OF) OA OF OF) zz (by intro _;rfl)) OF OF OF)$ @jm _)$ @jm _)$ @jg _ _ _$ @jl _ _ _ _$ @pv _ 8 _ _ OF (.inl Z) OA OA),?_];refine em λE0 f0=>f0 _ _ ?_;refine em λG a=>#[_,Z,p,6,Z,B,OA,OA,λd1 H1 a' b0 U e1=>#[_,_,Z,Z,a _ _ ?_]];refine em λE2 f2=>#[_,Z,_,Z,p,_,Z,U,OB,OB,λd2 H2 b1 b2 B2 e2=>f2 _ _ ?_];clear f0 a f2;refine em λG a=>#[_,Z,_,Z,OB,OB,?_];refine Ji (p:=p) OB B2 λss H3 a2 e B3 e3 g hg=>a _ _ ?_;clear a;have k3:au p H H3:=(au.of_eq e1).trans ((au.of_eq e2).trans$ au.of_eq e3);have v:g≠p:=B3.ne hg;refine em λG a=>#[_,Z,p,26,Z,B3.upd_new hg,OA,OA,λW H4 b3 b4 B4 e4=>a _ _ ?_];refine em λE2 f2=>#[_,Z,p,3,Z,B4,OA,OA,λI H5 b5 b7 B5 e5=>f2 _ _ ?_];clear a f2;have h2:H5 g=some (.lst$ ss.map V.str):=by rw[e5 g v,e4 g v];exact jc
 have k5:au p H H5:=(k3.upd_new hg).trans ((au.of_eq e4).trans$ au.of_eq e5);refine em λG a=>#[OA,λr u=>a _ _ ?_];clear a;have m:r≠p:=B5.ne u;have h4:g≠r:=jk h2 u;have n3:H g=none:=by
  cases z:H g with
  |none=>rfl
  |some o=>have:=k3 g o v z;rw[hg]at this;cases this
 have X:H r=none:=by
  cases z:H r with
  |none=>rfl
  |some o=>have:=k5 r o m z;rw[u]at this;cases this
 have b9:=zc;refine em λG a=>gF λJ j=>#[_,Z,_,Z,OB,OB,j _ _ ?_];clear j;refine zC (lo:=0) (NI p g r n d1 d2 W I ss H) #[none,none,none,[],Z,ao h2 u,jc,Z,#[(λ_ h=>nomatch h),(λ_ _ h=>nomatch h)],B5.upd_new u,k5.upd_new u] ?_ ?_
 ·intro E0 _ i σ H' hi fE Gq T b;obtain⟨ok,oo,ow,ys,rfl,L,Y,h0,d,B',k'⟩:=b;clear a;obtain⟨c,hc⟩:=rL (z:=de) (k:=(W+5*(0+(i:Int))) % 26) (Ft _ OA) (by rw[JI];exact EY _ OA);refine T ?_;clear T;show dU (dn _ _) _ E0 _ _;refine em λG a=>#[_,Z,_,Z,_,Z,_,_,Z,Z,.inl #[OA,OA],_,_,Z,Z,_,_,Z,Z,(by show(0:Int) < 26;decide),_,_,c,Z,Z,OA,hc,a _ _ ?_];clear a;have b':(#[(List.toArray [c])]:Str).length=1:=rfl;have h5:c=nF W i:=xJ (Ft _ OA) (EY _ OA) hc;refine em λG a=>dk (Rw p g r n d1 d2 W I i c ss ys H 13 (·=pre ss d2++#[(List.toArray [c])]++eB ss d2)) (λE2 _ t=>?_) λO H1 b=>?_
  ·clear a fE;refine#[Z,_,Z,_,Z,_,Z,g,_,Z,aF.of L,λs1 n1=>?_];have z1:=qU (ys:=a8 ss none (some d2)) λy d=>e y (zM d);have z2:=qm ss none (some d2);refine#[_,s1,a8 ss none$ some d2,Z,Z,aF.of (by rw[jc,zA]),OA,OB,?_];have j1:=qV (z:="") (ys:=a8 ss none (some d2)) OE λy d=>e y (zM d);refine#[_,Z,_,_,Z,Z,OB,?_];refine#[Z,_,Z,_,Z,_,_,Z,Z,_,Z,g,_,Z,aF.of$ ao L n1,λs2 n2=>?_];have z3:=qU (ys:=a8 ss (some$ d2+1) none) λy d=>e y (zM d);have z4:=qm ss (some$ d2+1) none;refine#[_,s2,a8 ss (some$ d2+1) none,Z,Z,aF.of (by rw[jc,zA]),OA,OB,?_];have j2:=qV (z:="") (ys:=a8 ss (some$ d2+1) none) OE λy d=>e y (zM d);refine#[_,_,Z,Z,by rw[ma];omega,?_];exact t _ _ #[_,#[by show(Txt.join ("":Str) (a8 ss none$ some d2)++(#[(List.toArray [c])]:Str)++Txt.join ("":Str) (a8 ss (some$ d2+1) none)).length<=13;rw[ma,ma];omega,Z],Z,ao (ao L n1) n2,ao (ao Y n1) n2,(B'.upd_new n1).upd_new n2,(k'.upd_new n1).upd_new n2]
  obtain⟨w1,⟨c2,z1⟩,rfl,g1,r1,U,k1⟩:=b;refine a _ _ ?_;clear a;refine em λG a=>dk (Rw p g r n d1 d2 W I i c ss ys H 14 (λw=>w=pre ss d2++#[(List.toArray [c])]++eB ss d2∨w=pre ss d2++#[(List.toArray [c])]++eB ss d2++"z")) (λE2 _ t=>?_) λO H2 b=>?_
  ·clear a fE;refine#[_,Z,Z,_,Z,?_];refine bJ (λS=>?_) (λS=>?_)
   ·refine#[_,Z,_,_,Z,Z,(by show(0:Int) < 2;decide),Z,_,Z,?_];refine bJ (λcb=>?_) (λcb=>?_)
    ·have hz:(Str.ofString "z").length=1:=by decide+kernel
     refine#[_,Z,_,_,Z,Z,by rw[hz];omega,?_];exact t _ _ #[_,#[by rw[ma,hz];omega,.inr (by rw[z1])],Z,g1,r1,U,k1]
    ·exact t _ _ #[w1,#[OB,.inl z1],Z,g1,r1,U,k1]
   ·exact tF$ t _ _ #[w1,#[OB,.inl z1],Z,g1,r1,U,k1]
  obtain⟨w2,⟨c3,z2⟩,rfl,g2,r2,B2,k2⟩:=b;refine a _ _ ?_;clear a;refine em λG a=>dk (Rw p g r n d1 d2 W I i c ss ys H 14 (λw=>if I=2 then ∃R:Str,w=R++#[(List.toArray [c])] else w=pre ss d2++#[(List.toArray [c])]++eB ss d2∨w=pre ss d2++#[(List.toArray [c])]++eB ss d2++"z")) (λE2 _ t=>?_) λO H3 b=>?_
  ·clear a fE;refine#[_,Z,Z,_,Z,?_];refine bJ (λS=>?_) (λS=>?_)
   ·refine#[Z,_,Z,p,8,Z,B2,OA,OA,λd6 H6 d0 d3 B6 e6=>?_];refine#[_,Z,OB,OB,?_];refine Ji (p:=p) OB B6 λtt H7 c4 h3 B7 e7 g7 n7=>?_;have jt:=qV (z:="") (ys:=tt) OE h3;have zt:=qU h3;refine#[_,g7,tt,Z,Z,aF.of jc,OA,OB,?_];refine#[_,Z,_,_,Z,Z,OB,?_];have g8:H7 g=some (.lst$ ss.map V.str):=by rw[e7 g v,e6 g v];exact g2
    have r8:H7 r=some (.lst$ ys.map V.str):=by rw[e7 r m,e6 r m];exact r2
    have e5:I=2:=by injection Fm S
    exact t _ _ #[_,#[by rw[ma];omega,(Er e5).mpr #[_,Z]],Z,ao g8 n7,ao r8 n7,B7.upd_new n7,(k2.trans ((au.of_eq e6).trans$ au.of_eq e7)).upd_new n7]
   ·have e5:I≠2:=λz=>S (by rw[z];exact EI Z);exact t _ _ #[w2,#[OB,(Eu e5).mpr z2],Z,g2,r2,B2,k2]
  obtain⟨w3,⟨c5,z3⟩,rfl,g3,r3,B3,k3⟩:=b;refine a _ _ ?_;clear a;refine em λG a=>dk (Rw p g r n d1 d2 W I i c ss ys H 14$ Sh (pre ss d2) (eB ss d2) I c) (λE2 _ t=>?_) λO H4 b=>?_
  ·clear a fE;refine#[_,Z,OA,λt0 N=>?_];refine#[t0,_,Z,.inr$ aD.of jc,Z,Zf OF,_,Z,?_];refine bJ (λS=>?_) (λS=>?_)
   ·have hq:(Str.ofString "qqqqqqq").length=7:=by decide+kernel
    refine#[_,Z,_,_,Z,Z,by rw[hq];omega,?_];exact t _ _ #[_,#[by rw[ma,hq];omega,Dh],Z,ao g3 N,ao r3 N,B3.upd_new N,k3.upd_new N]
   ·exact t _ _ #[w3,#[OB,Di z3],Z,ao g3 N,ao r3 N,B3.upd_new N,k3.upd_new N]
  obtain⟨w4,⟨c6,z4⟩,rfl,g4,r4,B4,k4⟩:=b;refine a _ _ ?_;clear a;refine#[_,Z,.inl #[Z,_,aF.of r4],_,Z,r,_,_,Z,Z,r4,by rw[Ec];omega,?_];refine fE _ _ #[_,_,_,ys++[w4],Z,by rw[jh h4];exact g4,by rw[jc,EF];rfl,by rw[Eg,h0];rfl,#[λy hm=>?_,λj y hj=>?_],B4.eq$ jh$ EA m,k4.upd_own X]
  ·rcases List.mem_append.mp hm with hm |hm
   ·exact d.1 y hm
   ·rw[List.mem_singleton.mp hm];omega
  ·by_cases h6:j < ys.length
   ·rw[Go h6]at hj;exact d.2 j y hj
   ·have lj:=(List.getElem?_eq_some_iff.mp hj).1;rw[Eg,Gj]at lj;have ej:j=ys.length:=by omega
    rw[ej,FR$ Ee _,Hw]at hj;injection hj with hj;rw[<- hj,ej,h0,<- h5];exact z4
 ·intro σ H' b;obtain⟨ok,oo,ow,ys,rfl,L,Y,h0,d,B',k'⟩:=b;have h1:(ys.length:Int)=n:=by omega
  have f5:=sR (ss:=ss) (d1:=d1) (d2:=d2) OB OB OB;have j1:(pre ss d2).length<=_:=qV (z:="") (ys:=a8 ss none (some d2)) OE λy d=>e y (zM d);have j2:(eB ss d2).length<=_:=qV (z:="") (ys:=a8 ss (some$ d2+1) none) OE λy d=>e y (zM d);have nd:=rG OB OB d.2;have d:=d.1;refine a _ _ ?_;clear a;refine ah λF1 a=>dk (Rf p r n H) (λE2 _ t=>?_) λO H1 b=>?_
  ·clear a;refine mn λG' g'=>#[_,Z,p,6,Z,B',OA,OA,λd6 H6 d0 d3 B6 e6=>#[Z,_,Z,g' _ _ ?_]];clear g';have r6:H6 r=some (.lst$ ys.map V.str):=by rw[e6 r m];exact Y
   have k6:au p H H6:=k'.trans (au.of_eq e6);refine bJ (λS=>?_) (λS=>?_)
   ·refine em λE3 f3=>#[OA,λt0 N=>f3 _ _ ?_];clear f3;have t1:t0≠p:=B6.ne N;refine em λE4 f3=>#[_,Z,_,Z,p,13,Z,B6.upd_new N,OA,OA,λd7 H7 d' a0 B7 e7=>?_];have t7:H7 t0=some (.lst ((z33z:List Str).map V.str)):=((e7 t0 t1).trans jc).trans (Gb (λl=>some (HO.lst l)) OE);have r7:H7 r=some (.lst$ ys.map V.str):=by rw[e7 r m];exact ao r6 N
    have k7:au p H H7:=(k6.upd_new N).trans (au.of_eq e7);obtain⟨od,h7,h8⟩:=Kd (ys:=(z33z:List Str)) d' (by simpa using a0);refine#[t0,_,_,_,Z,Z,aF.of t7,h8,f3 _ _ ?_];clear f3;have h9:od.length<=20:=by
     have:∀y∈(z33z:List Str),y.length<=20:=by decide+kernel
     exact this od h7
    refine mn λG' g'=>#[_,Z,_,Z,r,_,Z,.inl$ aF.of r7,Z,Qx _,_,Z,g' _ _ ?_];clear g';refine bJ (λcb=>?_) (λcb=>?_)
    ·refine#[_,Z,_,Z,_,Z,_,Z,p,n,Z,B7,OB,OB,λd8 H8 a1 c9 B8 e8=>?_];have r8:H8 r=some (.lst$ ys.map V.str):=by rw[e8 r m];exact r7
     have k8:au p H H8:=k7.trans (au.of_eq e8);refine#[r,_,d8,d8.toNat,Z,Z,r8,?_,?_]
     ·unfold ms;rw[Er a1,Ec,Er OB]
     refine t _ _ #[Z,ys.set d8.toNat od,by rw[jc,rE],by rw[Ir];exact h1,#[λy hm=>?_,Zs nd$ tP (by have c0:(!sy (.str od) (ys.map V.str))=true:=cb;rw[MU]at c0;exact c0)],B8.eq$ jh$ EA m,k8.upd_own X];rcases List.mem_or_eq_of_mem_set hm with hm |hm
     ·exact d y hm
     ·rw[hm];exact h9
    ·exact t _ _ #[Z,ys,r7,h1,#[d,nd],B7,k7]
   ·exact t _ _ #[Z,ys,r6,h1,#[d,nd],B6,k6]
  obtain⟨h',y0,r1,l1,y1,U,k1⟩:=b;refine a _ _ ?_;exact#[_,h',q r y0 H1 X r1 l1 y1 U k1]
def ai(H h:Hp):Prop:=∀b x,H b=some (.tup x)->h b=some (.tup x)
theorem ae.tm(a:ae H c):ai H c:=λb x h=>a b _ h
theorem jf{H:Hp}{o:HO}(n:H p=none):ae H (af H p o):=λb u e=>ao e n
theorem bR{b:Bool}{A B:Prop}(h:b=true)(x:A):if b=true then A else B:=by rw[Er h];exact x
theorem aE{b:Bool}{A B:Prop}(h:b=false)(x:B):if b=true then A else B:=by rw[h,Eu El];exact x
theorem aQ:sizeLine=16777216:=by rw[Ik]
theorem aq.same(B:aq H p)(s:ae H c):aq c p:=by obtain⟨a,b,d,e,f,h⟩:=B.ob;exact#[a,b,d,e,f,s _ _ h]
theorem au.of_same(s:ae H h):au p H h:=λb o _ e=>s _ _ e
theorem au.tm(k:au p H h)(B:aq H p):ai H h:=λb x e=>by obtain⟨a,c,_,_,_,f⟩:=B.ob;exact k b _ (jB e f (by intro w;cases w)) e
theorem au.none(k:au p H h)(B:aq h p)(n:h r=none):H r=none:=by
 cases z:H r with
 |none=>rfl
 |some o=>have:=k _ _ (B.ne n) z;rw[n]at this;cases this
theorem Zt{K:Frag}{a:Addr}{xs:List V}{t:TE}{Q:List V->Hp->Prop}(u:xs.length<=sizeLine)(Pv:Nat->List V->Hp->Prop)(l:Pv 0 [] H)
  (n:∀i Y h,Pv i Y h->aF K h a xs/\Y.length<=i) (o:∀i x Y h,xs[i]?=some x->Pv i Y h->t (some x::d) h λy c=>Pv (i+1) (Y++[y]) c) (q:∀Y h,Pv xs.length Y h->Q Y h):
  dW (vA K a) 1 d (bf 0) lF t Q H:=by
 refine#[λi m Y h=>m=xs.length - i/\i<=xs.length/\Pv i Y h,#[xs.length,OD,Ek _,l],?_];intro i m Y h f;obtain⟨rfl,z,p⟩:=f;obtain⟨g,A⟩:=n i Y h p;by_cases b:i < xs.length
 ·refine .inr #[#[xs,xs[i],g,Ed b],OB,Pv$ i+1,λr c s=>#[xs.length - (i+1),OB,Z,b,s],λv c T j y=>?_];obtain⟨e,y⟩:=y;subst e;obtain⟨w,rfl⟩:=oI j;exact#[#[[some _],Z,Z],o i v Y c (y xs g) p]
 ·have e:i=xs.length:=by omega
  subst e;exact .inl #[#[xs,g,Ee _],q Y h p]
theorem zo{K:Frag}{xs:List V}{t:TE}{Q:List V->Hp->Prop}(u:xs.length<=sizeLine)(Pv:Nat->List V->Hp->Prop)(l:Pv 0 [] H)
  (n:∀i Y h,Pv i Y h->aD K h a xs/\Y.length<=i) (o:∀i x Y h,xs[i]?=some x->Pv i Y h->t (some x::d) h λy c=>Pv (i+1) (Y++[y]) c) (q:∀Y h,Pv xs.length Y h->Q Y h):
  dW (su K a) 1 d (bf 0) lF t Q H:=by
 refine#[λi m Y h=>m=xs.length - i/\i<=xs.length/\Pv i Y h,#[xs.length,OD,Ek _,l],?_];intro i m Y h f;obtain⟨rfl,z,p⟩:=f;obtain⟨g,A⟩:=n i Y h p;by_cases b:i < xs.length
 ·refine .inr #[#[xs,xs[i],g,Ed b],OB,Pv$ i+1,λr c s=>#[xs.length - (i+1),OB,Z,b,s],λv c T j y=>?_];obtain⟨e,y⟩:=y;subst e;obtain⟨w,rfl⟩:=oI j;exact#[#[[some _],Z,Z],o i v Y c (y xs g) p]
 ·have e:i=xs.length:=by omega
  subst e;exact .inl #[#[xs,g,Ee _],q Y h p]
noncomputable abbrev iG:Stmt:=top 40
noncomputable abbrev mK:Stmt:=top 42
inductive Tm where
 |num (n:Int) |var (x:Str) |op (i:Nat) (a b:Tm)
noncomputable def Tm.depth:Tm->Nat
 | .num _=>0
 | .var _=>0
 | .op _ a b=>max a.depth b.depth+1
noncomputable def iM:Str:="+-*/<="
theorem rF:iM.length=6:=by decide+kernel
noncomputable def Dg(i:Nat):Str:=#[(List.toArray [iM.cps.toList.getD i 0])]
theorem yK(H:0<=d)(a:d < 6):dF iM.cps.toList d=some (iM.cps.toList.getD d.toNat 0):=by
 have b:iM.cps.toList.length=6:=by decide+kernel
 have h:d.toNat < iM.cps.toList.length:=by omega
 have e:d=((d.toNat:Nat):Int):=by omega
 have q:dF iM.cps.toList ((d.toNat:Nat):Int)=some (iM.cps.toList.getD d.toNat 0):=jW (by rw[Lu,Ed h];rfl);rw[<- e]at q;exact q
def Tm.Good(y:List Str):Tm->Prop
 | .num n=>0<=n/\n < 1000000000000000000
 | .var x=>x∈y
 | .op i a b=>i < 6/\a.Good y/\b.Good y
def aO(H:Hp):Tm->Addr->Prop
 | .num n,p=>H p=some (.tup [.str "num",.int n])
 | .var x,p=>H p=some (.tup [.str "var",.str x])
 | .op i a b,p=>∃q r,H p=some (.tup [.str "op",.str (Dg i),.ref q,.ref r])/\aO H a q/\aO H b r
theorem aO.mono{H a:Hp}(h:∀b x,H b=some (.tup x)->a b=some (.tup x)):∀{t:Tm} {p:Addr},aO H t p->aO a t p
 | .num _,_,e=>h _ _ e
 | .var _,_,e=>h _ _ e
 | .op _ _ _,_,z=>by obtain⟨q,r,e,E,c⟩:=z;exact #[q,r,h _ _ e,aO.mono h E,aO.mono h c]
theorem aO.same(h:ae H a)(e:aO H t p):aO a t p:=e.mono λb x z=>h b _ z
theorem aO.but(B:aq H p)(k:au p H h)(e:aO H t a):aO h t a:=e.mono λb X z=>by obtain⟨x,y,_,_,_,d⟩:=B.ob;exact k b _ (jB z d (by intro q;cases q)) z
theorem aO.new{H:Hp}{o:HO}(n:H r=none)(e:aO H t a):aO (af H r o) t a:=e.mono λb x z=>ao z n
inductive fX(c:List V)(H:Hp)(Q:VK)(a:XK):Prop
 |mk(p:Addr)(_:c=[.ref p])(_:aq H p)(_:∀(d:Int) (H':Hp),0<=d->d < 1000000000000000000->aq H' p->(∀b,b≠p->H' b=H b)->Q (.int d) H')
inductive cn(n:Nat)(b:List V)(H:Hp)(Q:VK)(a:XK):Prop
 |mk(p g:Addr)(d:Int)(c:List Str)(_:b=[.ref p,.ref g,.int d])(_:aq H p)(_:H g=some (.lst (c.map V.str)))(_:1<=c.length)(_:c.length<=20)(_:0<=d)(_:d < (n:Int))(_:∀(r:Addr) (T:Tm) (H':Hp),aO H' T r->(T.depth:Int)<=d->T.Good c->aq H' p->au p H H'->Q (.ref r) H')
theorem qh{Y:List Str}(B:aq H p)(h:H g=some (.lst$ Y.map V.str)):g≠p:=by
 obtain⟨x,y,_,_,_,b⟩:=B.ob;refine jB h b λz=>?_;injection z with z
 match Y,z with
 |a::r,z=>injection z with c _;cases c
theorem rn:al z2z z2z (aa iG):=bZ
theorem Zu(F:aU K "_law_number" "_law_number" iG f t)(C:Cl P w K mg base 1 I u z0z aW "_law_take"):aj P w K mg base aC 2 f t z2z fX:=by
 refine F.ok rn (λv H Q E h=>?_) (λx A o s H v Q E a h=>?_)
 ·obtain⟨p,rfl,_⟩:=h;rfl
 obtain⟨p,rfl,B,q⟩:=h;refine#[_,(jd (ju (zb$ C.e a$ ja (pv 0)$ ja je jb) (jg$ jl$ C.e a$ ja (pv 0)$ ja (jq Jl je je) jb) jm)$ jg$ jl$ C.e a$ ja (pv 0)$ ja je jb),?_];refine#[_,Z,p,4,Z,B,OA,OA,λL M y G m r=>#[Z,_,Z,?_]];refine bJ (λc=>?_) (λc=>?_)
 ·refine#[_,Z,_,_,Z,Z,#[OA,OA,OA],p,_,Z,m,OA,OA,λD g d i j k=>?_];have z:=hG;exact q D g d OB j λb n=>(k b n).trans (r b n)
 ·refine#[_,Z,p,9,Z,m,OA,OA,λD g d i j k=>?_];exact q D g d OB j λb n=>(k b n).trans (r b n)
theorem l9:al ["_law_box_here","_law_names_here","_law_deep","_law_kind","_law_one"] z9z (aa mK):=bZ
theorem ui(F:aU K "_law_term" "_law_term" mK f fd)(cF:Cl P w K mg base (n+2) f fd z9z (cn n) "_law_term")(S:Cl P w K mg base 1 fT f0 z0z aW "_law_take")(cN:Cl P w K mg base 2 fN f2 z2z fX "_law_number")(ml:mg "len"=none):aj P w K mg base aC (n+3) f fd z9z (cn$ n+1):=by
 refine F.ok l9 ?_ λc0 A T s H vs Q E u h=>?_
 ·rintro _ _ _ _ ⟨p,g,d,ys,rfl,_⟩;rfl
 obtain⟨p,g,d,ys,rfl,B,hg,v,x,h1,h2,q⟩:=h;refine#[_,(jd (jy 3 l9.nd$ S.e u.m$ ja (pv 0)$ ja je jb)$ jd (jX$ ju (PW.pt$ Q2 (jA JY (pv 3) je$ aA _)$ J9$ PW.pt$ Ka (jA qN (pv 3) je$ aA _)$ qR$ zb$ pv 2) (jg$ jl$ ji$ ja jj$ ja (cN.e u.m$ ja (pv 0) jb) jb) jm)$ jd (ju (jA JY (pv 3) je$ aA _) (jg$ jl$ ji$ ja jj$ ja (jv jo (pv 1) (S.e u.m$ ja (pv 0)$ ja (jP jJ Z ml F'$ ja (pv 1) jb) jb) (λ_ _=>Z)) jb) jm)$ jd (jy 4 l9.nd$ cF.e u$ ja (pv 0)$ ja (pv 1)$ ja (jq kI (pv 2) je) jb)$ jg$ jl$ ji$ ja jj$ ja (jv Kb jj (S.e u.m$ ja (pv 0)$ ja je jb) (λ_ _=>Z))$ ja (pv 4)$ ja (cF.e u$ ja (pv 0)$ ja (pv 1)$ ja (jq kI (pv 2) je) jb) jb),?_];have b0:=zc;have j:g≠p:=qh B hg;refine ah λF1 l=>#[_,Z,p,6,Z,B,OA,OA,λM O k0 k1 R e1=>l _ _ ?_];clear l;have k:O g=some (.lst$ ys.map V.str):=by rw[e1 g j];exact hg
 have U:au p H O:=au.of_eq e1;have num:∀(D:Int) (a:Hp) (r:Addr),0<=D->D < 1000000000000000000->aq a p->(∀b,b≠p->a b=O b)->a r=none->Q (.ref r) (af a r$ .tup [.str "num",.int D]):=λD a r C I i o N=>
  q r (.num D) _ jc (by show((0:Nat):Int)<=d;omega) #[C,I] (i.upd_new N) ((U.trans$ au.of_eq o).upd_new N)
 refine ah λF1 l=>dk (λJ H'=>J=[some$ .ref p,some$ .ref g,some$ .int d,some$ .int M,none]/\H'=O/\(M<=3∨d≠0)) (λE2 eR fm=>?_) λJ H' W=>?_
 ·clear l;refine mn λG' G=>#[_,Z,_,_,Z,Z,_,Z,?_];refine bJ (λc=>?_) (λc=>?_)
  ·refine G _ _$ xC ?_;show gj _ E2 _ _;unfold gj;rw[eR];exact#[_,Z,p,Z,R,λD a C I i o=>#[cj,λr N=>num D a r C I i o N]]
  refine#[_,Z,_,_,Z,Z,_,Z,?_];refine bJ (λc2=>?_) (λc2=>?_)
  ·refine#[_,Z,Z,_,Z,G _ _ ?_];refine bJ (λc3=>?_) (λc3=>?_)
   ·show gj _ E2 _ _;unfold gj;rw[eR];exact#[_,Z,p,Z,R,λD a C I i o=>#[cj,λr N=>num D a r C I i o N]]
   ·exact fm _ _ #[Z,Z,.inr λz=>c3 (by rw[z];rfl)]
  ·have c1:¬(3:Int) < M:=Iv (Bool.eq_false_iff.mpr c2);exact G _ _$ tF$ fm _ _ #[Z,Z,.inl OB]
 obtain⟨rfl,eH,hk⟩:=W;rw[eH];refine l _ _ ?_;clear l;refine ah λF1 l=>mn λG' G=>#[_,Z,_,_,Z,Z,_,Z,G _ _ ?_];clear G;refine bJ (λc=>?_) (λc=>l _ _ ?_)
 ·-- a variable
  refine#[_,Z,_,Z,_,Z,g,_,Z,.inl$ aF.of k,p,_,Z,R,by rw[Ec];omega,by rw[Ec];omega,λD a X L i o=>?_];rw[Ec]at L;obtain⟨y,hy,Y⟩:=Kd (ys:=ys) X L;have t:a g=some (.lst$ ys.map V.str):=by rw[o g j];exact k
  refine#[g,_,_,_,Z,Z,aF.of t,Y,cj,λr N=>?_];exact q r (.var y) _ jc (by show((0:Nat):Int)<=d;omega) hy (i.upd_new N) ((U.trans$ au.of_eq o).upd_new N)
 ·have c':¬M < (4:Int):=Iv (Bool.eq_false_iff.mpr c);have hd:d≠0:=hk.resolve_left OB;refine#[_,Z,_,Z,_,Z,_,_,Z,Z,p,g,d - 1,ys,Z,R,k,v,x,OB,OB,λr1 T1 a t1 d3 g0 i k2=>?_];have t:a g=some (.lst$ ys.map V.str):=k2 g _ j k;refine#[_,Z,p,6,Z,i,OA,OA,λs3 H3 s0 s1 B3 e3=>?_];have h0:H3 g=some (.lst$ ys.map V.str):=by rw[e3 g j];exact t
  have k3:au p a H3:=au.of_eq e3;refine#[iM,_,_,Z,Z,(by rw[rF];omega),yK s0 s1,?_];refine#[_,Z,_,Z,_,Z,_,Z,_,_,Z,Z,p,g,d - 1,ys,Z,B3,h0,v,x,OB,OB,λr2 T2 H4 t2 d4 g1 B4 k4=>?_];refine#[sD,λr N=>?_];have t0:aO H4 T1 r1:=(t1.but i k3).but B3 k4;refine q r (.op s3.toNat T1 T2) _ #[r1,r2,jc,t0.new N,t2.new N] ?_ #[OB,g0,g1] (B4.upd_new N) (((U.trans k2).trans$ k3.trans k4).upd_new N);show((max T1.depth T2.depth+1:Nat):Int)<=d;omega
theorem tN:aj P w K mg base aC 2 f e z9z (cn 0):=by
 have n:∀v H Q E,¬cn 0 v H Q E:=λv H Q E h=>by obtain⟨p,g,d,y,_,_,_,_,_,i,b,_⟩:=h;have c:d < ((0:Nat):Int):=b;omega
 exact#[λv H Q E h=>absurd h (n v H Q E),λA o s H a u v Q E _ _ _ _ h=>absurd h (n v H Q E)]
theorem wz(F:aU K "_law_term" "_law_term" mK f a)(b:ax K a z9z [])(m:mg "_law_term"=some (.ref f))(c:Cl P w K mg base 1 g d z0z aW "_law_take")(C:Cl P w K mg base 2 h e z2z fX "_law_number")(M:mg "len"=none):
  ∀n:Nat,aj P w K mg base aC (n+2) f a z9z (cn n)
 |0=>tN
 |n+1=>ui F #[(wz F b m c C M n),b,F.kp,m] c C M
end _K
namespace _K
open PySem PySem.Spec PyProof.Rows _L
variable {P:Program}{w:World}{K:Frag}{mg:Str->Option Value}{base:Heap}
noncomputable def Tm.vars:Tm->List Str
 | .num _=>[]
 | .var x=>[x]
 | .op _ a b=>a.vars++b.vars
theorem ke:∀{t:Tm},t.Good y->∀x∈t.vars,x∈y
 | .num _,_,_,h=>nomatch h
 | .var _,g,_,h=>by rw[List.mem_singleton.mp h];exact g
 | .op _ _ _,g,_,h=>(List.mem_append.mp h).elim (ke g.2.1 _) (ke g.2.2 _)
theorem j5:∀{l m:List Str},l.Nodup->(∀x∈l,x∈m)->l.length<=m.length
 | [],_,_,_=>Ek _
 |x::l,m,n,h=>by rw[Iq]at n;have H:=h x Es;have q:=j5 (l:=l) (m:=m.erase x) n.2 λy a=>(List.mem_erase_of_ne (λe=>n.1 (by rw[<- e];exact a))).mpr (h y$ Ew _ a);rw[List.length_erase_of_mem H]at q;have:0 < m.length:=List.length_pos_of_mem H;rw[ED];omega
theorem Kz:∀{l m:List Str},l.Nodup->m.Nodup->(∀x,x∈l↔x∈m)->l.Perm m
 | [],[],_,_,_=>.nil
 | [],y::m,_,_,h=>absurd ((h y).mpr Es) OD
 |x::l,m,n,N,h=>by
  rw[Iq]at n;have a:x∈m:=(h x).mp Es;refine(List.Perm.cons x$ Kz n.2 (N.erase x) λy=>?_).trans (List.perm_cons_erase a).symm;rw[N.mem_erase_iff];constructor
  ·intro H;exact#[λe=>n.1 (by rw[<- e];exact H),(h y).mp$ Ew _ H]
  ·rintro ⟨b,H⟩;exact(List.mem_cons.mp ((h y).mpr H)).resolve_left b
theorem Qy:∀{p:Str} {l:List Str},risingS p l=true->(p::l).Pairwise λa b=>a.cps.toList<=b.cps.toList
 |p,[],_=>by simp
 |p,x::r,h=>by
  have H:(!ltCps x.cps.toList p.cps.toList&&risingS x r)=true:=h;rw[Fv]at H;have i:=Qy H.2;have c:p.cps.toList<=x.cps.toList:=by have z:=H.1;rw[ltCps_eq]at z;simpa using z
  rw[List.pairwise_cons]at i ⊢;refine#[λy hy=>?_,List.pairwise_cons.mpr i];rcases List.mem_cons.mp hy with rfl |hy
  ·exact c
  ·exact Nz c$ i.1 y hy
theorem Qz(h:sortedS l=true):l.Pairwise λa b=>a.cps.toList<=b.cps.toList:=by
 cases l with
 |nil=>exact .nil
 |cons x r=>exact Qy h
theorem XF{l:List Str}(p:l.Perm m)(h:sortedS l=true)(H:sortedS m=true):l=m:=by refine List.Perm.eq_of_pairwise (λa b _ _ x y=>?_) (Qz h) (Qz H) p;have e:=List.le_antisymm x y;cases a;cases b;exact Gb Str.mk$ Array.toList_inj.mp e
inductive Lf where
 |rd (x:Str) (t:Addr) (T:Tm)
 |st (x:Str) (t:Addr) (T:Tm)
 |wr (t u:Addr) (T U:Tm)
 |cl (x f:Str) (q:Addr) (ts:List (Addr×Tm))
 |gv (t:Addr) (T:Tm)
def sI(H:Hp):Lf->List V->Prop
 | .rd x t T,v=>v=[.str "read",.str x,.ref t]/\aO H T t
 | .st x t T,v=>v=[.str "set",.str x,.ref t]/\aO H T t
 | .wr t u T U,v=>v=[.str "write",.ref t,.ref u]/\aO H T t/\aO H U u
 | .cl x f q a,v=>v=[.str "call",.str x,.str f,.ref q]/\H q=some (.tup (a.map λc=>V.ref c.1))/\∀c∈a,aO H c.2 c.1
 | .gv t T,v=>v=[.str "give",.ref t]/\aO H T t
theorem sI.mono(k:ai H a)(h:sI H l v):sI a l v:=by
 cases l with
 |rd x t T |st x t T |gv t T=>exact#[h.1,h.2.mono k]
 |wr t u T U=>exact#[h.1,h.2.1.mono k,h.2.2.mono k]
 |cl x f q d=>exact#[h.1,k _ _ h.2.1,λc b=>(h.2.2 c b).mono k]
inductive Bd where
 |nil
 |lf (p:Addr) (l:Lf) (r:Bd)
 |ite (p t:Addr) (T:Tm) (a b r:Bd)
 |loop (p t:Addr) (T:Tm) (a r:Bd)
noncomputable def Bd.app:Bd->Bd->Bd
 | .nil,s=>s
 | .lf p l r,s=>.lf p l (r.app s)
 | .ite p t T a b r,s=>.ite p t T a b (r.app s)
 | .loop p t T a r,s=>.loop p t T a (r.app s)
noncomputable def Bd.size:Bd->Nat
 | .nil=>0
 | .lf _ _ r=>r.size+1
 | .ite _ _ _ a b r=>a.size+b.size+r.size+1
 | .loop _ _ _ a r=>a.size+r.size+1
noncomputable def Bd.dep:Bd->Nat
 | .nil=>0
 | .lf _ _ r=>r.dep
 | .ite _ _ _ a b r=>max (max a.dep b.dep+1) r.dep
 | .loop _ _ _ a r=>max (a.dep+1) r.dep
def dj(y:List Str)(T:Tm):Prop:=T.Good y/\T.depth < 6
def Lf.Ok(y:List Str):Lf->Prop
 | .rd x _ T=>x∈y/\dj y T
 | .st x _ T=>x∈y/\dj y T
 | .wr _ _ T U=>dj y T/\dj y U
 | .cl x _ _ t=>x∈y/\t.length<=6/\∀c∈t,dj y c.2
 | .gv _ T=>dj y T
def Bd.Ok(y:List Str):Bd->Prop
 | .nil=>True
 | .lf _ l r=>l.Ok y/\r.Ok y
 | .ite _ _ T a b r=>dj y T/\a.Ok y/\b.Ok y/\r.Ok y
 | .loop _ _ T a r=>dj y T/\a.Ok y/\r.Ok y
abbrev fe:=List (Str×Nat)
def Lf.Cs(F:fe):Lf->Prop
 | .cl _ f _ t=>(f,t.length)∈F
 |_=>True
def Bd.Cs(F:fe):Bd->Prop
 | .nil=>True
 | .lf _ l r=>l.Cs F/\r.Cs F
 | .ite _ _ _ a b r=>a.Cs F/\b.Cs F/\r.Cs F
 | .loop _ _ _ a r=>a.Cs F/\r.Cs F
theorem Ke{F:fe}:∀{a b:Bd},a.Cs F->b.Cs F->(a.app b).Cs F
 | .nil,_,_,h=>h
 | .lf _ _ _,_,h,k=>#[h.1,Ke h.2 k]
 | .ite _ _ _ _ _ _,_,h,k=>#[h.1,h.2.1,Ke h.2.2 k]
 | .loop _ _ _ _ _,_,h,k=>#[h.1,Ke h.2 k]
theorem zV{F:fe}(k:∀f∈F,f∈G):∀{a:Bd},a.Cs F->a.Cs G
 | .nil,_=>trivial
 | .lf _ l _,h=>#[by cases l<;>first |exact k _ h.1 |trivial,zV k h.2]
 | .ite _ _ _ _ _ _,h=>#[zV k h.1,zV k h.2.1,zV k h.2.2]
 | .loop _ _ _ _ _,h=>#[zV k h.1,zV k h.2]
theorem jT:∀(a b:Bd),(a.app b).size=a.size+b.size
 | .nil,b=>by show b.size=0+b.size;omega
 | .lf _ _ r,b=>by have:=jT r b;show(r.app b).size+1=r.size+1+b.size;omega
 | .ite _ _ _ x y r,b=>by have:=jT r b;show x.size+y.size+(r.app b).size+1=x.size+y.size+r.size+1+b.size;omega
 | .loop _ _ _ x r,b=>by have:=jT r b;show x.size+(r.app b).size+1=x.size+r.size+1+b.size;omega
theorem zi:∀(a b:Bd),(a.app b).dep=max a.dep b.dep
 | .nil,b=>(Nat.zero_max b.dep).symm
 | .lf _ _ r,b=>zi r b
 | .ite _ _ _ x y r,b=>by show max _ (r.app b).dep=max (max _ r.dep) b.dep;rw[zi r b,NE]
 | .loop _ _ _ x r,b=>by show max _ (r.app b).dep=max (max _ r.dep) b.dep;rw[zi r b,NE]
theorem Kf:∀{a b:Bd},a.Ok y->b.Ok y->(a.app b).Ok y
 | .nil,_,_,h=>h
 | .lf _ _ _,_,g,h=>#[g.1,Kf g.2 h]
 | .ite _ _ _ _ _ _,_,g,h=>#[g.1,g.2.1,g.2.2.1,Kf g.2.2.2 h]
 | .loop _ _ _ _ _,_,g,h=>#[g.1,g.2.1,Kf g.2.2 h]
def c7(H:Hp):Bd->List V->Prop
 | .nil,x=>x=[]
 | .lf p l r,x=>∃v y,x= .ref p::y/\H p=some (.tup v)/\sI H l v/\c7 H r y
 | .ite p t T a b r,x=>∃q Q A B y,x= .ref p::y/\H p=some (.tup [.str "if",.ref t,.ref q,.ref Q])/\aO H T t/\H q=some (.tup A)/\H Q=some (.tup B)/\c7 H a A/\c7 H b B/\c7 H r y
 | .loop p t T a r,x=>∃q A y,x= .ref p::y/\H p=some (.tup [.str "while",.ref t,.ref q])/\aO H T t/\H q=some (.tup A)/\c7 H a A/\c7 H r y
theorem c7.mono(k:ai H m):∀{x:List V},c7 H a x->c7 m a x:=by
 induction a with
 |nil=>exactλh=>h
 |lf p l r n=>rintro x ⟨v,y,e,c,d,f⟩;exact#[v,y,e,k _ _ c,d.mono k,n f]
 |ite p t T a b r i o I=>rintro x ⟨q,Q,A,B,y,e,c,g,d,f,j,s,u⟩;exact#[q,Q,A,B,y,e,k _ _ c,g.mono k,k _ _ d,k _ _ f,i j,o s,I u]
 |loop p t T a r i I=>rintro x ⟨q,A,y,e,c,g,d,f,j⟩;exact#[q,A,y,e,k _ _ c,g.mono k,k _ _ d,i f,I j]
theorem c7.app(k:c7 H b y):∀{x:List V},c7 H a x->c7 H (a.app b) (x++y):=by
 induction a with
 |nil=>intro x h;have e:x=[]:=h;rw[e];exact k
 |lf p l r I=>rintro x ⟨v,z,e,c,d,f⟩;exact#[v,z++y,by rw[e];rfl,c,d,I f]
 |ite p t T a b r _ _ i=>rintro x ⟨q,Q,A,B,z,e,c,g,d,f,j,m,n⟩;exact#[q,Q,A,B,z++y,by rw[e];rfl,c,g,d,f,j,m,i n]
 |loop p t T a r _ i=>rintro x ⟨q,A,z,e,c,g,d,f,j⟩;exact#[q,A,z++y,by rw[e];rfl,c,g,d,f,i j]
theorem c7.len:∀{x:List V},c7 H a x->x.length<=a.size:=by
 induction a with
 |nil=>intro x h;have e:x=[]:=h;rw[e];exact Ee 0
 |lf p l r I=>rintro x ⟨v,y,e,d,f,c⟩;rw[e];exact FN (I c)
 |ite p t T a b r _ _ i=>rintro x ⟨q,Q,A,B,y,e,d,j,f,c,g,m,k⟩;rw[e];exact FN (En (i k) (Nj _ _))
 |loop p t T a r _ i=>rintro x ⟨q,A,y,e,d,j,f,c,g⟩;rw[e];exact FN (En (i g) (Nj _ _))
inductive gp(H:Hp):V->Bd->Prop
 |lf (p:Addr) (l:Lf) (vs:List V) (h1:H p=some (.tup vs)) (h2:sI H l vs):gp H (.ref p) (.lf p l .nil)
 |ite (p t:Addr) (T:Tm) (a b:Bd) (qa qb:Addr) (as bs:List V) (h1:H p=some (.tup [.str "if",.ref t,.ref qa,.ref qb])) (h0:aO H T t) (h2:H qa=some (.tup as)) (h3:H qb=some (.tup bs)) (h4:c7 H a as) (h5:c7 H b bs):gp H (.ref p) (.ite p t T a b .nil)
 |loop (p t:Addr) (T:Tm) (a:Bd) (qa:Addr) (as:List V) (h1:H p=some (.tup [.str "while",.ref t,.ref qa])) (h0:aO H T t) (h2:H qa=some (.tup as)) (h3:c7 H a as):gp H (.ref p) (.loop p t T a .nil)
theorem gp.bd(h:gp H v s):c7 H s [v]:=by
 cases h with
 |lf p l V c d=>exact#[V,[],Z,c,d,Z]
 |ite p t T a b q Q A B c e d f g i=>exact#[q,Q,A,B,[],Z,c,e,d,f,g,i,Z]
 |loop p t T a q A c e d f=>exact#[q,A,[],Z,c,e,d,f,Z]
theorem gp.mono(k:ai H g)(h:gp H v s):gp g v s:=by
 cases h with
 |lf p l V c d=>exact .lf p l V (k _ _ c) (d.mono k)
 |ite p t T a b q Q A B c e d f i j=>exact .ite p t T a b q Q A B (k _ _ c) (e.mono k) (k _ _ d) (k _ _ f) (i.mono k) (j.mono k)
 |loop p t T a q A c e d f=>exact .loop p t T a q A (k _ _ c) (e.mono k) (k _ _ d) (f.mono k)
theorem c7.last:∀{x:List V},c7 H a x->x=[]/\a= .nil∨∃z v b s,x=z++[v]/\a=b.app s/\c7 H b z/\gp H v s:=by
 induction a with
 |nil=>exactλh=>.inl #[h,Z]
 |lf p l r i=>
  rintro x ⟨u,y,e,f,g,n⟩;rcases i n with ⟨E,d⟩ | ⟨z,v,b,s,E,d,j,k⟩
  ·exact .inr #[[],.ref p,.nil,.lf p l .nil,by rw[e,E];rfl,by rw[d];rfl,Z,.lf p l u f g]
  ·exact .inr #[.ref p::z,v,.lf p l b,s,by rw[e,E];rfl,by rw[d];rfl,#[u,z,Z,f,g,j],k]
 |ite p t T a b r _ _ i=>
  rintro x ⟨q,Q,A,B,y,e,f,m,g,n,G,C,o⟩;rcases i o with ⟨E,d⟩ | ⟨z,v,c,s,E,d,j,k⟩
  ·exact .inr #[[],.ref p,.nil,.ite p t T a b .nil,by rw[e,E];rfl,by rw[d];rfl,Z,.ite p t T a b q Q A B f m g n G C]
  ·exact .inr #[.ref p::z,v,.ite p t T a b c,s,by rw[e,E];rfl,by rw[d];rfl,#[q,Q,A,B,z,Z,f,m,g,n,G,C,j],k]
 |loop p t T a r _ i=>
  rintro x ⟨q,A,y,e,f,m,g,G,o⟩;rcases i o with ⟨E,d⟩ | ⟨z,v,c,s,E,d,j,k⟩
  ·exact .inr #[[],.ref p,.nil,.loop p t T a .nil,by rw[e,E];rfl,by rw[d];rfl,Z,.loop p t T a q A f m g G]
  ·exact .inr #[.ref p::z,v,.loop p t T a c,s,by rw[e,E];rfl,by rw[d];rfl,#[q,A,z,Z,f,m,g,G,j],k]
theorem zH:∀{a b:Bd},(a.app b).Ok y->a.Ok y/\b.Ok y
 | .nil,_,h=>#[trivial,h]
 | .lf _ _ _,_,h=>#[#[h.1,(zH h.2).1],(zH h.2).2]
 | .ite _ _ _ _ _ _,_,h=>#[#[h.1,h.2.1,h.2.2.1,(zH h.2.2.2).1],(zH h.2.2.2).2]
 | .loop _ _ _ _ _,_,h=>#[#[h.1,h.2.1,(zH h.2.2).1],(zH h.2.2).2]
structure Nm(ss:List Str)(M:Str->Prop):Prop where
 nd:ss.Nodup
 so:sortedS ss=true
 mem:∀x,x∈ss↔M x
theorem Nm.uniq(h:Nm a M)(g:Nm s M):a=s:=XF (Kz h.nd g.nd λx=>(h.mem x).trans (g.mem x).symm) h.so g.so
open Classical in
noncomputable def canon(M:Str->Prop):List Str:=if h:∃s,Nm s M then Classical.choose h else []
theorem Nm.canon(h:Nm s M):s=canon M:=by have e:∃s,Nm s M:=#[s,h];unfold _K.canon;rw[dif_pos e];exact h.uniq$ Classical.choose_spec e
theorem Nm.len{s y:List Str}{M:Str->Prop}(h:Nm s M)(H:∀x,M x->x∈y):s.length<=y.length:=j5 h.nd λx a=>H x ((h.mem x).mp a)
def Lf.use(M:Str->Prop):Lf->Str->Prop
 | .rd x _ T,y=>(M y/\y≠x)∨y∈T.vars
 | .st x _ T,y=>(M y/\y≠x)∨y∈T.vars
 | .wr _ _ T U,y=>M y∨y∈T.vars∨y∈U.vars
 | .cl x _ _ t,y=>(M y/\y≠x)∨∃c∈t,y∈c.2.vars
 | .gv _ T,y=>y∈T.vars
def Bd.use:Bd->(Str->Prop)->Str->Prop
 | .nil,M=>M
 | .lf _ l r,M=>l.use (r.use M)
 | .ite _ _ T a b r,M=>λy=>(a.use (r.use M) y∨b.use (r.use M) y)∨y∈T.vars
 | .loop _ _ T a r,M=>λy=>(a.use (λ_=>False) y∨r.use M y)∨y∈T.vars
theorem JS:∀(a b:Bd) (M:Str->Prop),(a.app b).use M=a.use (b.use M)
 | .nil,_,_=>rfl
 | .lf _ l r,b,M=>by show l.use ((r.app b).use M)=l.use (r.use (b.use M));rw[JS r b M]
 | .ite _ _ T x y r,b,M=>by show(λz=>(x.use ((r.app b).use M) z∨y.use ((r.app b).use M) z)∨z∈T.vars)=λz=>(x.use (r.use (b.use M)) z∨y.use (r.use (b.use M)) z)∨z∈T.vars;rw[JS r b M]
 | .loop _ _ T x r,b,M=>by show(λz=>(x.use (λ_=>False) z∨(r.app b).use M z)∨z∈T.vars)=λz=>(x.use (λ_=>False) z∨r.use (b.use M) z)∨z∈T.vars;rw[JS r b M]
theorem Lf.use_in{M:Str->Prop}{l:Lf}(h:l.Ok Y)(a:∀x,M x->x∈Y):∀y,l.use M y->y∈Y:=by
 intro y H;cases l with
 |rd x t T |st x t T=>exact H.elim (λz=>a y z.1) (ke h.2.1 y)
 |wr t u T U=>exact H.elim (a y) λz=>z.elim (ke h.1.1 y) (ke h.2.1 y)
 |cl x f q d=>exact H.elim (λz=>a y z.1) λ#[c,b,z]=>ke (h.2.2 c b).1 y z
 |gv t T=>exact ke h.1 y H
theorem Bd.use_in:∀{b:Bd} {M:Str->Prop},b.Ok Y->(∀x,M x->x∈Y)->∀y,b.use M y->y∈Y
 | .nil,_,_,H,y,c=>H y c
 | .lf _ l r,_,h,H,y,c=>Lf.use_in h.1 (Bd.use_in h.2 H) y c
 | .ite _ _ T a b r,_,h,H,y,c=>c.elim (λz=>z.elim (Bd.use_in h.2.1 (Bd.use_in h.2.2.2 H) y) (Bd.use_in h.2.2.1 (Bd.use_in h.2.2.2 H) y)) (ke h.1.1 y)
 | .loop _ _ T a r,_,h,H,y,c=>c.elim (λz=>z.elim (Bd.use_in h.2.1 (λ_ w=>w.elim) y) (Bd.use_in h.2.2 H y)) (ke h.1.1 y)
end _K
namespace _K
open PySem PySem.Spec PyProof.Rows _L
variable {P:Program}{w:World}{K:Frag}{mg:Str->Option Value}{base:Heap}
noncomputable abbrev dJ:Stmt:=top 4
noncomputable abbrev yA:Stmt:=top 6
noncomputable abbrev p7:Stmt:=top 7
noncomputable abbrev uR:Stmt:=top 8
noncomputable abbrev uQ:Stmt:=top 9
inductive cQ(n:Nat)(c:List V)(H:Hp)(Q:VK)(b:XK):Prop
 |mk(a:Addr)(T:Tm)(d:List Str)(_:c=[.ref a])(_:aO H T a)(_:T.depth < n)(_:T.Good d)(_:d.length<=21)(_:∀(r:Addr) (ss:List Str) (H':Hp),H r=none->H' r=some (.lst (ss.map V.str))->ss.Nodup->(∀x,x∈ss↔x∈T.vars)->sortedS ss=true->ae H H'->Q (.ref r) H')
theorem rj:al z1z z1z (aa dJ):=bZ
theorem t6{f:Addr}{o:FuncData}(F:aU K "names_in" "names_in" dJ f o){n:Nat}(C:Cl P w K mg base (n+1) f o z1z (cQ n) "names_in")(M:mg "set"=none)(p:mg "sorted"=none):aj P w K mg base aC (n+2) f o z1z (cQ$ n+1):=by
 refine F.ok rj (λvs H Q E h=>?_) (λc0 A O s H vs Q E v h=>?_)
 ·obtain⟨a,T,Y,rfl,_⟩:=h;rfl
 obtain⟨a,T,Y,rfl,t,dp,g,j,q⟩:=h;refine#[_,(jd (ju (jZ$ jx$ pv 0) (jg$ jl$ jD jb) jm)$ jd (ju (jZ$ jx$ pv 0) (jg$ jl$ jD$ ja (jx$ pv 0) jb) jm)$ jg$ jl$ jP (qc Z) Z p LJ$ ja (jC (qM Z) Z M Ov$ ja (jq qg (C.e v$ ja (jx$ pv 0) jb)$ C.e v$ ja (jx$ pv 0) jb) jb) jb),?_];cases T with
 |num m=>have b:H a=some (.tup [.str "num",.int m]):=t;refine(jp b Z #[Z,_,Z,bR OE ?_]);exact#[OA,λr N=>q r [] _ N jc IA (λx=>Lv) Z (jf N)]
 |var x=>have b:H a=some (.tup [.str "var",.str x]):=t;refine(jp b Z #[Z,_,Z,aE OE ?_]);refine(jp b Z #[Z,_,Z,bR OE ?_]);exact(jp b Z #[nL,λr N=>q r [x] _ N jc OD (λy=>Lv) Z (jf N)])
 |op i B D=>obtain⟨p1,p2,b,h1,h2⟩:=t;have d0:max B.depth D.depth+1 < n+1:=dp;refine(jp b Z #[Z,_,Z,aE OE ?_]);refine(jp b Z #[Z,_,Z,aE OE ?_]);refine(jp b Z #[p1,B,Y,Z,h1,OB,g.2.1,j,λr1 S H1 n1 e1 d1 G o1 u=>?_]);refine(jp (u _ _ b) Z #[p2,D,Y,Z,h2.same u,OB,g.2.2,j,λr2 k H2 n2 e2 d2 I o2 J=>?_]);have l1:S.length<=21:=En (j5 d1 λx d=>ke g.2.1 x ((G x).mp d)) j;have l2:k.length<=21:=En (j5 d2 λx d=>ke g.2.2 x ((I x).mp d)) j;have b0:=zc;refine#[r1,r2,_,_,Z,Z,J _ _ e1,e2,(by rw[Ec,Ec];omega),λc nc=>?_];refine#[c,S++k,Z,aF.of (by rw[jc,EF]),(λL nd hs=>FL (FN$ j5 nd hs) (by rw[Eg];show S.length+k.length+1 < 4096;omega)),λl L nl dL R=>?_];have lL:=j5 dL λx d=>(R x).mp d;rw[Eg]at lL;refine#[l,L,Z,jc,OB,λz ss U W dz oz=>?_];have X:ae H (af (af H2 c$ .lst$ S.map V.str++k.map V.str) l$ Cu P w l L):=(u.trans J).trans ((jf nc).trans$ jf nl);refine q z ss _ (X.free U) jc (W.nodup_iff.mpr dz) (λx=>?_) oz$ X.trans$ jf U;rw[W.mem_iff,R x,Hc,G x,I x];exact List.mem_append.symm
theorem tK:aj P w K mg base aC 1 f d z1z (cQ 0):=by
 have n:∀v H Q E,¬cQ 0 v H Q E:=λv H Q E h=>by obtain⟨a,T,y,_,_,c,_⟩:=h;exact absurd c$ Hd _
 exact#[λv H Q E h=>absurd h (n v H Q E),λA o s H b u v Q E _ _ _ _ h=>absurd h (n v H Q E)]
theorem vZ(F:aU K "names_in" "names_in" dJ f a)(b:ax K a z1z [])(c:mg "names_in"=some (.ref f))(m:mg "set"=none)(M:mg "sorted"=none):
  ∀n:Nat,aj P w K mg base aC (n+1) f a z1z (cQ n)
 |0=>tK
 |n+1=>t6 F #[(vZ F b c m M n),b,F.kp,c] m M
noncomputable def Lf.own:Lf->List (Addr×Tm)
 | .rd _ t T=>[(t,T)]
 | .st _ t T=>[(t,T)]
 | .wr t u T U=>[(t,T),(u,U)]
 | .cl _ _ _ a=>a
 | .gv t T=>[(t,T)]
noncomputable def Bd.own:Bd->List (Addr×Tm)
 | .nil=>[]
 | .lf _ l _=>l.own
 | .ite _ t T _ _ _=>[(t,T)]
 | .loop _ t T _ _=>[(t,T)]
noncomputable def rT(c:Addr×Tm):V:=.ref c.1
inductive lD(b:List V)(H:Hp)(Q:VK)(a:XK):Prop
 |mk(v:V)(s:Bd)(_:b=[v])(_:gp H v s)(_:∀(r:Addr) (H':Hp),H' r=some (.tup (s.own.map rT))->ae H H'->Q (.ref r) H')
theorem YM:aV (a::b::r) (some 1) (some 2)=[b]:=by
 unfold aV;have e:(1:Int)=((1:Nat):Int):=rfl;have E:(2:Int)=((2:Nat):Int):=rfl;rw[E,e,HT.sIx_nat,HT.sIx_nat,ED,ED];have c:min 1 (r.length+1+1)=1:=by omega
 have d:min 2 (r.length+1+1) - 1=1:=by omega
 rw[c,d];rfl
theorem wj:al ["statement","word"] z5z (aa yA):=bZ
theorem yd{f:Addr}{j:FuncData}(F:aU K "own_terms" "own_terms" yA f j):aj P w K mg base aC 1 f j z5z lD:=by
 refine F.ok wj ?_ λC A o s H V Q E d h=>?_
 ·rintro _ _ _ _ ⟨v,s,rfl,_⟩;rfl
 obtain⟨v,st,rfl,m,q⟩:=h;refine#[_,(jd (jy 1 wj.nd$ jx$ pv 0)$ jd (ju (jA zQ (pv 1) (ji$ ja jj$ ja jj jb) Z) (jg$ jl$ jK qT (pv 0) (jH je) kX) jm)$ jd (ju (jZ$ pv 1) (jg$ jl$ jK qT (pv 0) (jH je) kX) jm)$ jd (ju (jZ$ pv 1) (jg$ jl$ jx$ pv 0) jm)$ jg$ jl$ jK qT (pv 0) (jH je)$ jH je),?_];cases m with
 |lf p l V c g=>
  cases l with
  |rd x t T |st x t T=>obtain⟨rfl,i⟩:=g;refine(jp c Z #[_,Z,cj,λl n=>#[l,_,Z,.inr$ aD.of jc,Z,Z,_,Z,bR OE ?_]]);exact#[_,Z,_,Z,p,_,Z,ao c n,λr e d s=>q r e d ((jf n).trans s)]
  |wr t u T U=>obtain⟨rfl,i,L⟩:=g;refine(jp c Z #[_,Z,cj,λl n=>#[l,_,Z,.inr$ aD.of jc,Z,Z,_,Z,aE OE ?_]]);refine#[_,Z,Z,_,Z,bR OE ?_];exact#[_,Z,_,Z,p,_,Z,ao c n,λr e d s=>q r e d ((jf n).trans s)]
  |cl x M y N=>obtain⟨rfl,z,i⟩:=g;refine(jp c Z #[_,Z,cj,λl n=>#[l,_,Z,.inr$ aD.of jc,Z,Z,_,Z,aE OE ?_]]);refine#[_,Z,Z,_,Z,aE OE ?_];refine#[_,Z,Z,_,Z,bR OE ?_];exact(jp (ao c n) Z$ q y _ (ao z n)$ jf n)
  |gv t T=>obtain⟨rfl,i⟩:=g;refine(jp c Z #[_,Z,cj,λl n=>#[l,_,Z,.inr$ aD.of jc,Z,Z,_,Z,aE OE ?_]]);refine#[_,Z,Z,_,Z,aE OE ?_];refine#[_,Z,Z,_,Z,aE OE ?_];exact#[_,Z,_,Z,_,Z,p,_,Z,ao c n,λr e d s=>q r e (by rw[YM]at d;exact d) ((jf n).trans s)]
 |ite p t T a b B O D R c G g I S W |loop p t T a B D c G g I=>refine(jp c Z #[_,Z,cj,λl n=>#[l,_,Z,.inr$ aD.of jc,Z,Z,_,Z,aE OE ?_]]);refine#[_,Z,Z,_,Z,aE OE ?_];refine#[_,Z,Z,_,Z,aE OE ?_];exact#[_,Z,_,Z,_,Z,p,_,Z,ao c n,λr e d s=>q r e (by rw[YM]at d;exact d) ((jf n).trans s)]
theorem KA{K:Frag}{a:Addr}{Y:List Str}{t:TT}{T:TE}{q:List V->Hp->Prop}{b:_L.St}{H:Hp}(f:Str->Bool)(L:Y.length<=1000)(A:H a=some (.lst$ Y.map V.str))
  (B:∀y g (Q:Bool->Hp->Prop),y∈Y->ae H g->(∀j,ae g j->Q (f y) j)->t (some (.str y)::b) g Q)
  (C:∀y g (Q:VK),y∈Y->Q (.str y) g->T (some (.str y)::b) g Q) (D:∀c,ae H c->q ((Y.filter f).map V.str) c):dW (vA K a) 1 b (bf 0) t T q H:=by
 have F:=zc;refine#[λi m n c=>m=Y.length - i/\i<=Y.length/\n=((Y.take i).filter f).map V.str/\ae H c,#[Y.length,OD,Ek _,OD,ae.refl H],?_];rintro i m n c ⟨rfl,M,rfl,k⟩;have d:aF K c a (Y.map V.str):=aF.of (k _ _ A);by_cases h:i < Y.length
 ·have o:(Y.map V.str)[i]?=some (.str Y[i]):=by rw[EB,Ed h];rfl
  refine .inr #[#[_,_,d,o],?_,λz j=>z=((Y.take$ i+1).filter f).map V.str/\ae H j,λz j #[G,I]=>#[Y.length - (i+1),OB,Z,h,G,I],λv j N l y=>?_]
  ·rw[Ec];have:=Iy f (Y.take i);rw[EJ]at this;omega
  obtain⟨e,y⟩:=y;subst e;have p:=y _ d;rw[o]at p;cases p;obtain⟨w,rfl⟩:=oI l;have r:Y[i]∈Y:=HW h;have s:Y.take (i+1)=Y.take i++[Y[i]]:=by rw[GK,Ed h];rfl
  refine#[#[[some _],Z,Z],B Y[i] _ _ r k λJ u=>?_];cases x:f Y[i] with
  |true=>
   refine bR Z$ C Y[i] J _ r #[?_,k.trans u];rw[s,MF,EF];have E:[Y[i]].filter f=[Y[i]]:=by simp [x]
   rw[E];rfl
  |false=>
   refine aE Z #[?_,k.trans u];rw[s,MF,EF];have E:[Y[i]].filter f=[]:=by simp [x]
   rw[E];simp
 ·have e:i=Y.length:=by omega
  subst e;refine .inl #[#[_,d,OD],?_];rw[Gg$ Ee _];exact D c k
def Lf.bt(M:Str->Prop):Lf->Str->Prop
 | .rd x _ _,y=>M y/\y≠x
 | .st x _ _,y=>M y/\y≠x
 | .wr _ _ _ _,y=>M y
 | .cl x _ _ _,y=>M y/\y≠x
 | .gv _ _,_=>False
def Bd.bt(M:Str->Prop):Bd->Str->Prop
 | .nil,y=>M y
 | .lf _ l _,y=>l.bt M y
 | .ite _ _ _ a b _,y=>a.use M y∨b.use M y
 | .loop _ _ _ a _,y=>a.use (λ_=>False) y∨M y
theorem se(h:gp H v s)(M:Str->Prop)(y:Str):s.use M y↔s.bt M y∨∃c∈s.own,y∈c.2.vars:=by
 cases h with
 |lf p l V _ _=>
  cases l with
  |rd x t T |st x t T=>exact#[λz=>z.elim .inl λw=>.inr #[_,List.mem_singleton.mpr Z,w],λz=>z.elim .inl λ#[c,hc,w]=>.inr (by rw[List.mem_singleton.mp hc]at w;exact w)]
  |wr t u T U=>
   refine#[λz=>z.elim .inl λw=>.inr (w.elim (λw=>#[_,Es ..,w]) λw=>#[_,Ew _$ List.mem_singleton.mpr Z,w]),λz=>z.elim .inl λ#[c,hc,w]=>.inr ?_];rcases List.mem_cons.mp hc with e |hc
   ·rw[e]at w;exact .inl w
   ·rw[List.mem_singleton.mp hc]at w;exact .inr w
  |cl x f q d=>exact Lv
  |gv t T=>exact#[λw=>.inr #[_,List.mem_singleton.mpr Z,w],λz=>z.elim False.elim λ#[c,hc,w]=>by rw[List.mem_singleton.mp hc]at w;exact w]
 |ite p t T a b Q g A B _ _ _ _ _ _ |loop p t T a Q A _ _ _ _=>exact#[λz=>z.elim .inl λw=>.inr #[_,List.mem_singleton.mpr Z,w],λz=>z.elim .inl λ#[c,hc,w]=>.inr (by rw[List.mem_singleton.mp hc]at w;exact w)]
structure NL(H:Hp)(g:Addr)(ss:List Str)(M:Str->Prop)(ys:List Str):Prop where
 at':H g=some (.lst$ ss.map V.str)
 nm:Nm ss M
 sub:∀x,M x->x∈ys
 y20:ys.length<=21
theorem NL.len{H:Hp}{g:Addr}{s:List Str}{M:Str->Prop}{y:List Str}(h:NL H g s M y):s.length<=21:=En (h.nm.len h.sub) h.y20
theorem NL.same(h:NL H g a M y)(s:ae H b):NL b g a M y:=#[s _ _ h.at',h.nm,h.sub,h.y20]
structure NU(H:Hp)(g:Addr)(ss:List Str)(M:Str->Prop)(ys:List Str):Prop where
 at':H g=some (.lst$ ss.map V.str)
 nd:ss.Nodup
 mem:∀x,x∈ss↔M x
 sub:∀x,M x->x∈ys
 y20:ys.length<=21
theorem NL.nu(h:NL H g s M y):NU H g s M y:=#[h.at',h.nm.nd,h.nm.mem,h.sub,h.y20]
inductive rJ(n:Nat)(c:List V)(H:Hp)(Q:VK)(a:XK):Prop
 |mk(v:V)(g:Addr)(s:Bd)(b:List Str)(M:Str->Prop)(d:List Str)(_:c=[v,.ref g])(_:gp H v s)(_:NL H g b M d)(_:s.Ok d)(_:s.dep < n+1)(_:s.size<=10000000)(_:∀(r:Addr) (zs:List Str) (H':Hp),H' r=some (.lst (zs.map V.str))->(∀y,y∈zs↔s.bt M y)->zs.length<=50->ae H H'->Q (.ref r) H')
inductive eW(n:Nat)(c:List V)(H:Hp)(Q:VK)(a:XK):Prop
 |mk(v:V)(g:Addr)(s:Bd)(b:List Str)(M:Str->Prop)(d:List Str)(_:c=[v,.ref g])(_:gp H v s)(_:NL H g b M d)(_:s.Ok d)(_:s.dep < n+1)(_:s.size<=10000000)(_:∀(r:Addr) (zs:List Str) (H':Hp),H r=none->NL H' r zs (s.use M) d->ae H H'->Q (.ref r) H')
inductive g9(n:Nat)(e:List V)(H:Hp)(Q:VK)(c:XK):Prop
 |mk(a g:Addr)(b:Bd)(f:List V)(d:List Str)(M:Str->Prop)(h:List Str)(_:e=[.ref a,.ref g])(_:H a=some (.tup f))(_:c7 H b f)(_:NU H g d M h)(_:b.Ok h)(_:b.dep < n)(_:b.size<=10000000)(_:∀(r:Addr) (zs:List Str) (H':Hp),H r=none->NL H' r zs (b.use M) h->ae H H'->Q (.ref r) H')
theorem Nm.empty:Nm [] (λ_=>False):=#[IA,Z,λx=>#[λh=>absurd h EC,False.elim]]
theorem wm:al ["statement","behind","word"] z4z (aa p7):=bZ
noncomputable def rC:Scope:=#[.function,[(".0",.local),("name",.local),("statement",.free)],false,false,[]]
theorem A1:(["name","statement"]:List Str).Nodup:=by decide+kernel
theorem Ay:a7 ["statement","behind","word"] (aa p7) rC ["name","statement"] 1 [0]:=nE
theorem pi{L n:Nat}(F:aU K "used_behind_terms" "used_behind_terms" p7 f fd)(J:Cl P w K mg base L fA f0 z12z (g9 n) "used_ahead"):aj P w K mg base aC (L+1) f fd z4z (rJ n):=by
 refine F.ok wm ?_ λc0 A O s H vs Q E R h=>?_
 ·rintro _ _ _ _ ⟨v,g,s,G,M,Y,rfl,_⟩;rfl
 obtain⟨v,g,st,G,M,Y,rfl,hs,c,W,hd,hz,q⟩:=h;refine#[_,(jd (jy 2 wm.nd$ jx$ pv 0)$ jd (ju (jA zQ (pv 2) (ji$ ja jj$ ja jj$ ja jj jb) Z) (jg$ jl$ @kn _ _ _ _ _ _ _ (["name","statement"]) (1) ([0]) _ _ _ _ Z (JP$ pv 1) Ay (λ_ _ _ _ _=>(jr (i:=0) A1 Z$ Or.inl Z)) (λ_ _ _ _ _=>(@Z4 _ _ _$ jA Q3 (pv 0) (jv (r:=i9 K) zU (pv 1) je (λ_ _=>Z))$ aA _)) (λ_ _ _ _ _=>(pv 0)) (by intro _;rfl)) jm)$ jd (ju (jZ$ pv 2) (jg$ jl$ jq qg (J.e R.m$ ja (jx$ pv 0)$ ja (pv 1) jb)$ J.e R.m$ ja (jx$ pv 0)$ ja (pv 1) jb) jm)$ jd (ju (jZ$ pv 2) (jg$ jl$ jq qg (J.e R.m$ ja (jx$ pv 0)$ ja (jD jb) jb)$ pv 1) jm)$ jd (ju (jZ$ pv 2) (jg$ jl$ jD jb) jm)$ jg$ jl$ pv 1),?_];have g0:=c.len;cases hs with
 |lf p l vs d B=>
  cases l with
  |rd x t T |st x t T=>
   obtain⟨rfl,X⟩:=B;refine(jp d Z #[_,Z,f8,λl N=>#[l,_,Z,.inr$ aD.of jc,Z,Z,_,Z,bR OE ?_]]);have S:ae H (af H l$ .tup [.str "set",.str "read",.str "call"]):=jf N;refine#[_,Z,g,Z,#[_,aF.of$ S _ _ c.at'],KA (λy=>!decide (V.str y=V.str x)) OB (S _ _ c.at') (λy I Q' hy k C=>?_) (λy I Q' hy C=>#[_,Z,C]) λH' k r j=>?_]
   ·exact#[_,Z,jp (k _ _$ S _ _ d) Z #[Z,_,Z,C _$ ae.refl _]]
   ·refine q r _ _ jc (λy=>?_) (En (Iy ..) OB) ((S.trans k).trans$ jf j);rw[Nb,c.nm.mem y];exact and_congr_right λ_=>by simp
  |wr t u T U=>obtain⟨rfl,X,hU⟩:=B;refine(jp d Z #[_,Z,f8,λl N=>#[l,_,Z,.inr$ aD.of jc,Z,Z,_,Z,aE OE ?_]]);refine#[_,Z,Z,_,Z,aE OE ?_];refine#[_,Z,Z,_,Z,aE OE ?_];refine#[_,Z,Z,_,Z,aE OE ?_];exact#[_,Z,q g G _ (ao c.at' N) c.nm.mem OB$ jf N]
  |cl x f' q' ts=>
   obtain⟨rfl,h8,X⟩:=B;refine(jp d Z #[_,Z,f8,λl N=>#[l,_,Z,.inr$ aD.of jc,Z,Z,_,Z,bR OE ?_]]);have S:ae H (af H l$ .tup [.str "set",.str "read",.str "call"]):=jf N;refine#[_,Z,g,Z,#[_,aF.of$ S _ _ c.at'],KA (λy=>!decide (V.str y=V.str x)) OB (S _ _ c.at') (λy I Q' hy k C=>?_) (λy I Q' hy C=>#[_,Z,C]) λH' k r j=>?_]
   ·exact#[_,Z,jp (k _ _$ S _ _ d) Z #[Z,_,Z,C _$ ae.refl _]]
   ·refine q r _ _ jc (λy=>?_) (En (Iy ..) OB) ((S.trans k).trans$ jf j);rw[Nb,c.nm.mem y];exact and_congr_right λ_=>by simp
  |gv t T=>obtain⟨rfl,X⟩:=B;refine(jp d Z #[_,Z,f8,λl N=>#[l,_,Z,.inr$ aD.of jc,Z,Z,_,Z,aE OE ?_]]);refine#[_,Z,Z,_,Z,aE OE ?_];refine#[_,Z,Z,_,Z,aE OE ?_];refine#[_,Z,Z,_,Z,bR OE ?_];exact#[rN,λr j=>q r [] _ jc (λy=>#[λh=>absurd h EC,λh=>(show False from h).elim]) (Ek _) ((jf N).trans$ jf j)]
 |ite p t T a b qa qb as bs d h0 B h3 h4 h5=>refine(jp d Z #[_,Z,f8,λl N=>#[l,_,Z,.inr$ aD.of jc,Z,Z,_,Z,aE OE ?_]]);refine#[_,Z,Z,_,Z,bR OE ?_];have S:ae H (af H l$ .tup [.str "set",.str "read",.str "call"]):=jf N;have h6:max (max a.dep b.dep+1) 0 < n+1:=hd;have h7:a.size+b.size+0+1<=10000000:=hz;refine(jp (S _ _ d) Z #[_,Z,qa,g,a,as,G,M,Y,Z,S _ _ B,h4.mono$ ae.tm S,(c.same S).nu,W.2.1,OB,OB,λr1 z1 I _ D k1=>?_]);have z:=S.trans k1;refine(jp (z _ _ d) Z #[_,Z,qb,g,b,bs,G,M,Y,Z,z _ _ h3,h5.mono$ ae.tm z,(c.same z).nu,W.2.2.1,OB,OB,λr2 z2 H2 _ n2 k2=>?_]);have l1:=D.len;have l2:=n2.len;have b0:=zc;refine#[r1,r2,_,_,Z,Z,k2 _ _ D.at',n2.at',by rw[Ec,Ec];omega,λr j=>q r (z1++z2) _ (by rw[jc,EF]) (λy=>?_) (by rw[Eg];omega) ((z.trans k2).trans$ jf j)];rw[Hc,D.nm.mem y,n2.nm.mem y];exact Lv
 |loop p t T a qa as d h0 B h3=>refine(jp d Z #[_,Z,f8,λl N=>#[l,_,Z,.inr$ aD.of jc,Z,Z,_,Z,aE OE ?_]]);refine#[_,Z,Z,_,Z,aE OE ?_];refine#[_,Z,Z,_,Z,bR OE ?_];have S:ae H (af H l$ .tup [.str "set",.str "read",.str "call"]):=jf N;have h6:max (a.dep+1) 0 < n+1:=hd;have h7:a.size+0+1<=10000000:=hz;refine(jp (S _ _ d) Z #[rN,λe ne=>?_]);have z:=S.trans (jf (o:=.lst []) ne);refine#[qa,e,a,as,[],λ_=>False,Y,Z,z _ _ B,h3.mono$ ae.tm z,(NL.nu #[jc,Nm.empty,λ_ w=>w.elim,c.y20]),W.2.1,OB,OB,λr1 z1 I _ D k1=>?_];have l1:=D.len;have s3:=z.trans k1;have b0:=zc;refine#[_,Z,r1,g,_,_,Z,Z,D.at',s3 _ _ c.at',by rw[Ec,Ec];omega,λr j=>q r (z1++G) _ (by rw[jc,EF]) (λy=>?_) (by rw[Eg];omega) (s3.trans$ jf j)];rw[Hc,D.nm.mem y,c.nm.mem y];exact Lv
theorem yk(h:gp H v s):∀c∈s.own,aO H c.2 c.1:=by
 cases h with
 |lf p l V _ d=>
  cases l with
  |rd x t T |st x t T |gv t T=>intro c hc;rw[List.mem_singleton.mp hc];exact d.2
  |wr t u T U=>
   intro c hc;rcases List.mem_cons.mp hc with e |hc
   ·rw[e];exact d.2.1
   ·rw[List.mem_singleton.mp hc];exact d.2.2
  |cl x f q i=>exact d.2.2
 |ite p t T a b Q j A B _ g _ _ _ _ |loop p t T a Q A _ g _ _=>intro c hc;rw[List.mem_singleton.mp hc];exact g
theorem yl(h:gp H v s)(o:s.Ok y):s.own.length<=100/\∀c∈s.own,dj y c.2:=by
 have O:∀(t:Addr) (T:Tm),dj y T->[(t,T)].length<=100/\∀c∈[(t,T)],dj y c.2:=λt T h=>#[by show 1<=100;omega,λc hc=>by rw[List.mem_singleton.mp hc];exact h];cases h with
 |lf p l V _ g=>
  cases l with
  |rd x t T |st x t T=>exact O t T o.1.2
  |wr t u T U=>
   refine#[by show 2<=100;omega,λc hc=>?_];rcases List.mem_cons.mp hc with e |hc
   ·rw[e];exact o.1.1
   ·rw[List.mem_singleton.mp hc];exact o.1.2
  |cl x f q i=>exact#[En o.1.2.1 OA,o.1.2.2]
  |gv t T=>exact O t T o.1
 |ite p t T a b Q j A B _ d _ _ _ _ |loop p t T a Q A _ d _ _=>exact O t T o.1
theorem zR:∀(a b c:Bd),(a.app b).app c=a.app (b.app c)
 | .nil,_,_=>rfl
 | .lf p l r,b,c=>by show Bd.lf p l ((r.app b).app c)=_;rw[zR r b c];rfl
 | .ite p t T x y r,b,c=>by show Bd.ite p t T x y ((r.app b).app c)=_;rw[zR r b c];rfl
 | .loop p t T x r,b,c=>by show Bd.loop p t T x ((r.app b).app c)=_;rw[zR r b c];rfl
theorem qr:∀(a:Bd),a.app .nil=a
 | .nil=>rfl
 | .lf p l r=>by show Bd.lf p l (r.app .nil)=_;rw[qr r]
 | .ite p t T x y r=>by show Bd.ite p t T x y (r.app .nil)=_;rw[qr r]
 | .loop p t T x r=>by show Bd.loop p t T x (r.app .nil)=_;rw[qr r]
inductive OI(v:V)(g r k:Addr)(s:Bd)(M:Str->Prop)(b:Hp)(i:Nat)(n:_L.St)(a:Hp):Prop
 |mk(l:Option V)(m:List Str)(d:n=[some v,some (.ref g),some (.ref k),l])(e:a k=some (.lst (m.map V.str)))(f:∀y,y∈m↔s.bt M y∨∃c∈s.own.take i,y∈c.2.vars)(h:m.length<=50+21*i)(j:au k b a)
theorem rA:al ["statement","behind","names","term"] z4z (aa uR):=bZ
theorem pj{L:Nat}(F:aU K "used_ahead_of" "used_ahead_of" uR f fd)(cB:Cl P w K mg base (L+9) fB f0 z4z (rJ n) "used_behind_terms")(cO:Cl P w K mg base 1 fO f2 z5z lD "own_terms")(cN:Cl P w K mg base 7 fN f3 z1z (cQ 6) "names_in")(m0:mg "list"=none)(m2:mg "set"=none)(m3:mg "sorted"=none):aj P w K mg base aC (L+10) f fd z4z (eW n):=by
 refine F.ok rA ?_ λc0 A o1 s H vs Q E t h=>?_
 ·rintro _ _ _ _ ⟨v,g,s,ss,M,Y,rfl,_⟩;rfl
 obtain⟨v,g,st,ss,M,Y,rfl,j,u,U,hd,hz,q⟩:=h;refine#[_,(jd (jy 2 rA.nd$ jC Je Z m0 LA$ ja (cB.e t.m$ ja (pv 0)$ ja (pv 1) jb) jb)$ jd (ze Fk Z (zq$ cO.e t.m$ ja (pv 0) jb) (jr (i:=3) rA.nd Z$ Or.inl Z)$ jg$ jS$ kM EH Hz Hy Qk (pv 2)$ ja (cN.e t.m$ ja (pv 3) jb) jb)$ jg$ jl$ jP (qc Z) Z m3 LJ$ ja (jC (qM Z) Z m2 Ov$ ja (pv 2) jb) jb),?_];refine ah λF1 C=>#[_,Z,_,Z,v,g,st,ss,M,Y,Z,j,u,U,hd,hz,λr1 G H1 e1 m1 l1 k1=>#[r1,_,Z,.inl$ aF.of e1,λN I=>C _ _ ?_]];clear C;have s2:ae H (af H1 N$ .lst$ G.map V.str):=k1.trans (jf I);have J:=j.mono (ae.tm s2);obtain⟨o2,O⟩:=yl j U;have a:af H1 N (.lst$ G.map V.str) N=some (.lst$ G.map V.str):=jc;have h0:H N=none:=k1.free I;generalize af H1 N (.lst$ G.map V.str)=H2 at s2 J a;refine ah λF1 C=>?_;refine gF λF kF=>#[_,Z,v,st,Z,J,λr H3 t W=>#[r,Z,#[_,aD.of t],kF _ _ ?_]];clear kF;have r0:r≠N:=jB t (W _ _ a) (by intro z;cases z);have s3:=s2.trans W;have b0:=zc;refine Kl (K:=K) (xs:=st.own.map rT) (OI v g r N st M H3) #[_,G,Z,W _ _ a,λy=>?_,OB,au.refl] (λi σ H' hi h=>?_) ?_ (λσ H' h=>C _ _ ?_)
 ·rw[m1 y];exact#[.inl,λz=>z.elim (λw=>w) λ#[c,p,_]=>absurd p EC]
 ·obtain⟨_,_,_,_,_,_,k⟩:=h;exact aD.of$ k _ _ r0 t
 ·clear C;intro E _ i x σ H4 B fE Gq D h;obtain⟨o3,X,rfl,h1,R,h3,k4⟩:=h;rw[EB]at B;cases p:st.own[i]? with
  |none=>rw[p]at B;cases B
  |some c=>
   rw[p]at B;cases B;refine D ?_;clear D;have cm:=Ey p;have hi:i < st.own.length:=by
    rcases Io i st.own.length with z |z
    ·exact z
    ·rw[Fy z]at p;cases p
   have tm:ai H3 H4:=λb xs e=>k4 b _ (jB e (W _ _ a) (by intro z;cases z)) e;show ni _ E [some v,some$ .ref g,some$ .ref N,some$ .ref c.1] H4;refine#[_,Z,.inl #[Z,_,aF.of h1],_,Z,c.1,c.2,Y,Z,((yk j c cm).mono$ ae.tm s3).mono tm,(O c cm).2,(O c cm).1,u.y20,λr5 s5 H5 n5 e5 d5 m5 o5 k5=>?_];have l5:s5.length<=21:=En (j5 d5 λx B=>ke (O c cm).1 x ((m5 x).mp B)) u.y20;refine#[N,r5,_,_,Z,Z,k5 _ _ h1,e5,by rw[Ec,Ec];omega,fE _ _ #[_,X++s5,Z,by rw[jc,EF],λy=>?_,by rw[Eg];omega,λb o nb e=>?_]]
   ·rw[Hc,R y,m5 y,GK,p];refine#[λz=>z.elim (λz=>z.elim .inl λ#[d,hd,w]=>.inr #[d,GV _ hd,w]) λw=>.inr #[c,EK _$ List.mem_singleton.mpr Z,w],λz=>z.elim (λw=>.inl (.inl w)) λ#[d,hd,w]=>?_];rcases List.mem_append.mp hd with hd |hd
    ·exact .inl$ .inr #[d,hd,w]
    ·have ed:d=c:=List.mem_singleton.mp hd;rw[ed]at w;exact .inr w
   ·rw[jh nb];exact k5 _ _$ k4 b o nb e
 ·obtain⟨o3,X,rfl,h1,R,h3,k4⟩:=h;clear C;rw[Ec]at R h3;have s4:ae H H':=λb o e=>k4 b o (jk e h0) (s3 _ _ e);refine#[_,Z,N,X,Z,aF.of h1,(λL nd j=>FL (FN$ j5 nd j) (by show X.length+1 < 4096;omega)),λl L S h4 hm=>?_];have sub:∀y∈L,y∈Y:=λy hy=>Bd.use_in U u.sub y ((se j M y).mpr (by have:=(R y).mp ((hm y).mp hy);rwa [Fd]at this));have lL:=En (j5 h4 sub) u.y20;refine#[l,L,Z,jc,OB,λr' s0 T pm nd so=>?_];refine q r' s0 _ ((s4.trans$ jf S).free T) #[jc,#[pm.nodup_iff.mpr nd,so,λy=>?_],Bd.use_in U u.sub,u.y20] ((s4.trans$ jf S).trans$ jf T);rw[pm.mem_iff,hm y,R y,se j M y,Fd]
theorem none_of(s:ae H h)(n:h r=none):H r=none:=by
 cases z:H r with
 |none=>rfl
 |some o=>have:=s _ _ z;rw[n]at this;cases this
inductive UI(a g:Addr)(b:Bd)(p:List V)(M:Str->Prop)(q:List Str)(H:Hp)(i:Nat)(s:_L.St)(d:Hp):Prop
 |mk(n:Addr)(o:Option V)(c m:Bd)(r:List Str)(e:s=[some (.ref a),some (.ref g),some (.ref n),o])(f:b=c.app m)(h:c7 H c (p.take (p.length - i)))(j:NL d n r (m.use M) q)(k:ae H d)(l:H n=none)
theorem mQ:al ["body","behind","names","statement"] z12z (aa uQ):=bZ
theorem yg{L:Nat}(F:aU K "used_ahead" "used_ahead" uQ f fd)(cU:Cl P w K mg base (L+10) fU f0 z4z (eW n) "used_ahead_of")(J:mg "sorted"=none)(N:mg "reversed"=none):aj P w K mg base aC (L+11) f fd z12z (g9$ n+1):=by
 refine F.ok mQ ?_ λc0 A O s H vs Q E hr h=>?_
 ·rintro _ _ _ _ ⟨a,g,b,xs,R,M,Y,rfl,_⟩;rfl
 obtain⟨a,g,b,xs,R,M,Y,rfl,ha,hb,d,ho,hd,hz,q⟩:=h;refine#[_,(jd (jy 2 mQ.nd$ jP QV Z J LJ$ ja (pv 1) jb)$ jd (ze Fk Z (@Z6 _ _ _ _ _ _ _ Z N Hu (pv 0) OA OA OF OF) (jr (i:=3) mQ.nd Z$ Or.inl Z)$ jg$ jy 2 mQ.nd$ cU.e hr.m$ ja (pv 3)$ ja (pv 2) jb)$ jg$ jl$ pv 2),?_];have g0:R.length<=21:=En (j5 d.nd λx o=>d.sub x ((d.mem x).mp o)) d.y20;have b0:=aQ;refine ah λF1 t=>#[_,Z,g,R,Z,aF.of d.at',OB,λl c nl pm so=>t _ _ ?_];clear t;have T:Nm c M:=#[pm.nodup_iff.mpr d.nd,so,λx=>pm.mem_iff.trans (d.mem x)];have U:ae H (af H l$ .lst$ c.map V.str):=jf nl;have u:NL (af H l$ .lst$ c.map V.str) l c M Y:=#[jc,T,d.sub,d.y20];generalize af H l (.lst$ c.map V.str)=H1 at U u;have xl:=hb.len;refine ah λF1 t=>?_;refine gF λF kF=>#[_,Z,a,xs,Z,aD.of$ U _ _ ha,kF _ _ ?_];clear kF;refine Xi (K:=K) (xs:=xs) (UI a g b xs M Y H) #[l,_,b,.nil,c,Z,(qr b).symm,by rw[I0,Fd];exact hb,u,U,nl] (λi σ H' hi h=>?_) ?_ (λσ H' h=>t _ _ ?_)
 ·obtain⟨_,_,_,_,_,_,_,_,_,k,_⟩:=h;exact aD.of$ k _ _ ha
 ·clear t;intro E _ i x σ H2 o fE Gq p h;obtain⟨I,o3,pre,eB,W,rfl,j,y,X,B,n2⟩:=h;have hi:i < xs.length:=by
   rcases Io i xs.length with z |z
   ·exact z
   ·rw[Fy (by simpa using z)]at o;cases o
  rw[Gk hi]at o;have et:xs.take (xs.length - i)=xs.take (xs.length - (i+1))++[x]:=by
   have C:xs.length - i=(xs.length - 1 - i)+1:=by omega
   have e2:xs.length - (i+1)=xs.length - 1 - i:=by omega
   rw[C,e2,GK,o];rfl
  rw[et]at y;rcases y.last with ⟨e,_⟩ | ⟨ws,v,D,S,C,e2,h4,h5⟩
  ·exact absurd e OD
  obtain⟨ew,ev⟩:=MY C Z;cases ev;subst e2;have h0:=zH (j▸ho);have G:=zH h0.1;have a1:b.dep=max (D.app S).dep eB.dep:=by rw[j,zi]
  have a2:(D.app S).dep=max D.dep S.dep:=zi ..;have h6:S.dep<=b.dep:=by rw[a1,a2];exact En (M8 ..)$ Ni ..
  clear a1 a2;have h7:S.size<=b.size:=by rw[j,jT,jT];omega
  refine p ?_;clear p;show dn _ _ E [some$ .ref a,some$ .ref g,some$ .ref I,some x] H2;refine#[_,Z,_,Z,x,I,S,W,eB.use M,Y,Z,h5.mono$ ae.tm B,X,G.2,OB,OB,λr z H3 nr n3 k3=>fE _ _ #[r,_,D,S.app eB,z,Z,by rw[j,zR],?_,by rw[JS];exact n3,B.trans k3,none_of B nr]];rw[ew];exact h4
 ·obtain⟨I,o3,pre,eB,W,rfl,j,y,X,B,n2⟩:=h;rw[Hw]at y;have ep:pre= .nil:=by
   rcases y.last with ⟨_,e⟩ | ⟨ws,v,D,S,C,_⟩
   ·exact e
   ·exact absurd C OD
  rw[ep]at j;refine#[_,Z,q I W H' n2 ?_ B];rw[j];exact X
theorem xU:aj P w K mg base aC k f e z12z (g9 0):=by
 have n:∀v H Q E,¬g9 0 v H Q E:=λv H Q E h=>by obtain⟨a,g,b,x,S,M,y,_,_,_,_,_,d,_⟩:=h;exact absurd d$ Hd _
 exact#[λv H Q E h=>absurd h (n v H Q E),λA o s H c u v Q E _ _ _ _ h=>absurd h (n v H Q E)]
theorem BZ(F:aU K "used_ahead" "used_ahead" uQ f e)(FB:aU K "used_behind_terms" "used_behind_terms" p7 r g)(d:aU K "used_ahead_of" "used_ahead_of" uR o b)
  (B:ax K e z12z []) (i:mg "used_ahead"=some (.ref f)) (j:ax K g z4z []) (k:mg "used_behind_terms"=some (.ref r)) (p:ax K b z4z []) (q:mg "used_ahead_of"=some (.ref o)) (C:Cl P w K mg base 1 u s z5z lD "own_terms") (l:Cl P w K mg base 7 v t z1z (cQ 6) "names_in") (M:mg "list"=none) (a:mg "set"=none) (m:mg "sorted"=none) (c:mg "reversed"=none):
  ∀n:Nat,aj P w K mg base aC (3*n+8) f e z12z (g9 n)/\aj P w K mg base aC (3*n+10) o b z4z (eW n)
 |0=>by have h:aj P w K mg base aC 8 f e z12z (g9 0):=xU;have H:=pi (L:=8) (n:=0) FB #[h,B,F.kp,i];exact#[h,pj (L:=0) d #[H,j,FB.kp,k] C l M a m]
 |n+1=>by
  have I:=(BZ F FB d B i j k p q C l M a m c n).2;have h:=yg (L:=3*n) F #[I,p,d.kp,q] m c;have E:3*n+11=3*(n+1)+8:=by omega
  rw[E]at h;have H:=pi (L:=3*(n+1)+8) (n:=n+1) FB #[h,B,F.kp,i];exact#[h,pj (L:=3*(n+1)) d #[H,j,FB.kp,k] C l M a m]
noncomputable abbrev yx:Stmt:=top 17
noncomputable abbrev pQ:Stmt:=top 20
noncomputable abbrev pN:Stmt:=top 21
noncomputable abbrev iH:Stmt:=top 22
noncomputable abbrev pT:Stmt:=top 23
noncomputable def Lf.cut:Lf->Nat
 | .st _ _ _=>0
 | .gv _ _=>0
 |_=>1
noncomputable def Bd.cuts:Bd->Nat
 | .nil=>0
 | .lf _ l r=>l.cut+r.cuts
 | .ite _ _ _ a b r=>1+a.cuts+b.cuts+r.cuts
 | .loop _ _ _ a r=>1+a.cuts+r.cuts
noncomputable def Bd.inn:Bd->Bd
 | .ite _ _ _ a b _=>a.app b
 | .loop _ _ _ a _=>a
 |_=>.nil
theorem zN:∀(a b:Bd),(a.app b).cuts=a.cuts+b.cuts
 | .nil,b=>by show b.cuts=0+b.cuts;omega
 | .lf _ l r,b=>by have:=zN r b;show l.cut+(r.app b).cuts=l.cut+r.cuts+b.cuts;omega
 | .ite _ _ _ x y r,b=>by have:=zN r b;show 1+x.cuts+y.cuts+(r.app b).cuts=1+x.cuts+y.cuts+r.cuts+b.cuts;omega
 | .loop _ _ _ x r,b=>by have:=zN r b;show 1+x.cuts+(r.app b).cuts=1+x.cuts+r.cuts+b.cuts;omega
inductive lu(b:List V)(H:Hp)(Q:VK)(a:XK):Prop
 |mk(v:V)(s:Bd)(_:b=[v])(_:gp H v s)(_:s.size<=10000000)(_:∀(r:Addr) (xs:List V) (H':Hp),H' r=some (.tup xs)->c7 H' s.inn xs->ae H H'->Q (.ref r) H')
inductive fj(d:List V)(H:Hp)(Q:VK)(c:XK):Prop
 |mk(a:Addr)(b:Bd)(e:List V)(_:d=[.ref a])(_:H a=some (.tup e))(_:c7 H b e)(_:b.size<=10000000)(_:∀H',ae H H'->Q (.int (b.cuts:Int)) H')
theorem Bu:al z5z z5z (aa yx):=bZ
theorem xZ(F:aU K "bodies_in" "bodies_in" yx f y):aj P w K mg base aC 1 f y z5z lu:=by
 refine F.ok Bu ?_ λC A o s H V Q E j h=>?_
 ·rintro _ _ _ _ ⟨v,s,rfl,_⟩;rfl
 obtain⟨v,st,rfl,z,B,q⟩:=h;refine#[_,(jd (ju (jZ$ jx$ pv 0) (jg$ jl$ jq kY (jx$ pv 0)$ jx$ pv 0) jm)$ jd (ju (jZ$ jx$ pv 0) (jg$ jl$ jx$ pv 0) jm)$ jg$ jl$ ji jb),?_];have D:=aQ;cases z with
 |lf p l V c d=>
  cases l with
  |rd x t T |st x t T |wr t u T U |cl x f R S |gv t T=>obtain⟨rfl,_⟩:=d;refine(jp c Z #[Z,_,Z,aE OE ?_]);refine(jp c Z #[Z,_,Z,aE OE ?_]);exact#[rN,λr N=>q r [] _ jc Z (jf N)]
 |ite p t T a b e G g I c J d i m n=>refine(jp c Z #[Z,_,Z,bR OE ?_]);have L:a.size+b.size+0+1<=10000000:=B;have W:=m.len;have X:=n.len;exact(jp c Z$ jp c Z #[e,G,g,I,Z,Z,d,i,OB,λr M j s=>q r _ M j ((n.mono$ ae.tm s).app$ m.mono$ ae.tm s) s])
 |loop p t T a e g c J d i=>refine(jp c Z #[Z,_,Z,aE OE ?_]);refine(jp c Z #[Z,_,Z,bR OE ?_]);exact(jp c Z$ q e g H d i$ ae.refl H)
theorem u7(h:gp H v s):s.inn.size < s.size/\∃(p:Addr) (w:Str) (r:List V),v= .ref p/\H p=some (.tup (.str w::r))/\s.cuts=(if sy (.str w) [.str "set",.str "give"]=true then 0 else 1)+s.inn.cuts:=by
 cases h with
 |lf p l i c d=>
  refine#[Nat.zero_lt_succ _,?_];cases l with
  |rd x t T |wr t u T U |cl x f Q j=>obtain⟨rfl,_⟩:=d;exact#[p,_,_,Z,c,by rw[Eu OE];rfl]
  |st x t T |gv t T=>obtain⟨rfl,_⟩:=d;exact#[p,_,_,Z,c,by rw[Er OE];rfl]
 |ite p t T a b q k A B c e d g m n=>refine#[by show(a.app b).size < a.size+b.size+0+1;rw[jT];omega,p,_,_,Z,c,?_];rw[Eu OE];show 1+a.cuts+b.cuts+0=1+(a.app b).cuts;rw[zN];omega
 |loop p t T a q A c e d g=>refine#[by show a.size < a.size+0+1;omega,p,_,_,Z,c,?_];rw[Eu OE];show 1+a.cuts+0=1+a.cuts;omega
theorem fg:dF (v::y) 0=some v:=jW (j:=0) Z
inductive MI(a n:Addr)(b:Bd)(H:Hp)(m:Nat)(p:_L.St)(c:Hp):Prop
 |mk(l:Option V)(W:Bd)(o:List V)(k:Nat)(d:m=W.size)(e:p=[some (.ref a),some (.int (k:Int)),some (.ref n),l])(f:c n=some (.lst o))(g:c7 c W o)(h:k+W.cuts=b.cuts)(i:W.size<=10000000)(j:au n H c)
theorem gK:al ["body","many","todo","statement"] ["body"] (aa pQ):=bZ
theorem tY(F:aU K "many_cuts" "many_cuts" pQ f fd)(cB:Cl P w K mg base 1 fB f0 z5z lu "bodies_in")(m0:mg "list"=none):aj P w K mg base aC 2 f fd ["body"] fj:=by
 refine F.ok gK ?_ λc0 A o1 s H vs Q E hr h=>?_
 ·rintro _ _ _ _ ⟨a,b,xs,rfl,_⟩;rfl
 obtain⟨a,b,xs,rfl,ha,hb,hz,q⟩:=h;refine#[_,(jd (jy 1 gK.nd je)$ jd (jy 2 gK.nd$ jC Je Z m0 LA$ ja (pv 0) jb)$ jd (Kk Fk (@Q9 _ _ _ (pv 2) (λ_=>Z))$ jd (jy 3 gK.nd$ Z1 EH LS LO Z2$ pv 2)$ jd (jX$ ju (jA Jd (jx$ pv 3) (ji$ ja jj$ ja jj jb) Z) (jg$ yq (i:=1) gK.nd Z (Or.inl Z) je xA) jm)$ jg$ jS$ kM EH Hz Hy Yk (pv 2)$ ja (cB.e hr.m$ ja (pv 3) jb) jb)$ jg$ jl$ pv 1),?_];have b0:=aQ;refine ah λU d=>d _ _ ?_;clear d;refine ah λU d=>#[_,Z,a,_,Z,.inr$ aD.of ha,λt C=>d _ _ ?_];clear d;have s0:ae H (af H t$ .lst xs):=jf C;refine ah λU d=>?_;refine me (MI a t b H) b.size #[_,b,xs,0,Z,Z,jc,hb.mono$ ae.tm s0,OB,hz,λc o N e=>s0 _ _ e] ?_;intro m σ D E _ fE F X Y Gq y h;obtain⟨o3,W,zs,k,rfl,rfl,x,h2,h3,h4,h5⟩:=h;refine y #[_,Z,!zs.isEmpty,.inl #[zs,aF.of x,Z],?_];clear y;rcases h2.last with ⟨e1,e2⟩ | ⟨g,v,B,n,e1,e2,g1,g2⟩
 ·rw[e1];refine Y _$ d _ _ #[_,Z,?_];rw[e2]at h3;have e3:k=b.cuts:=by have:k+0=b.cuts:=h3;omega
  rw[e3];exact q _ λc o e=>h5 c o (jk e C) e
 ·rw[e1];have ne:(!(g++[v]).isEmpty)=true:=by cases g<;>rfl
  rw[ne];refine X _ ?_;clear Y X d;have h6:W.size=B.size+n.size:=by rw[e2,jT]
  have h7:W.cuts=B.cuts+n.cuts:=by rw[e2,zN]
  obtain⟨h8,p,w',r,rfl,hp,hc⟩:=u7 g2;rw[e1]at x;refine ah λU d=>#[_,Z,.inl #[Z,_,aF.of x],t,_,.ref p,Z,Z,x,OD,d _ _ ?_];clear d;rw[Mt];have T:ai D (af D t$ .lst g):=λc ys e=>by rw[jh$ jB e x (by intro z;cases z)];exact e
  have t2:af D t (.lst g) t=some (.lst g):=jc;have u:=g1.mono T;have I:=g2.mono T;have J:=T _ _ hp;have k2:au t H (af D t$ .lst g):=λc o N e=>by rw[jh N];exact h5 c o N e
  generalize af D t (.lst g)=H2 at t2 u I J k2;clear T x h2 h5 g1 g2 hp;have R:∀(j:Nat) (H3:Hp),ae H2 H3->j+B.cuts+n.inn.cuts=b.cuts->ni (Dk K "list" (gG K) (bh 2)$ ak (dB lu [] E0$ ak (bh 3) aP) aP) E [some$ .ref a,some$ .int (j:Int),some$ .ref t,some$ .ref p] H3:=λj H3 L hk=>by
   have g0:=I.mono (ae.tm L);refine#[_,Z,.inl #[Z,_,aF.of$ L _ _ t2],_,Z,.ref p,n,Z,g0,OB,λr' ys H4 h0 hy s4=>?_];have S:=L.trans s4;have l1:=u.len;have l2:=hy.len;refine#[t,r',g,ys,Z,Z,S _ _ t2,aD.of h0,OB,fE (B.app n.inn).size _ _ (by rw[jT];omega) #[_,B.app n.inn,g++ys,j,Z,Z,jc,?_,by rw[zN];omega,by rw[jT];omega,λc o N e=>?_]]
   ·have M:ai H4 (af H4 t$ .lst$ g++ys):=λc z0 e=>by rw[jh$ jB e (S _ _ t2) (by intro z;cases z)];exact e
    exact(hy.mono M).app ((u.mono$ ae.tm S).mono M)
   ·rw[jh N];exact S _ _$ k2 c o N e
  refine ah λU d=>dk (λO H'=>∃j:Nat,O=[some$ .ref a,some$ .int (j:Int),some$ .ref t,some$ .ref p]/\ae H2 H'/\j+B.cuts+n.inn.cuts=b.cuts) (λE2 _ fm=>?_) λO H' h=>?_
  ·clear d fE;refine Cz λG X Y=>(jp J fg #[cj,λl nl=>#[l,_,Z,.inr$ aD.of jc,Z,Z,_,Z,?_]]);cases hv:sy (.str w') [.str "set",.str "give"] with
   |true=>rw[hv,Er Z]at hc;exact Y _$ fm _ _ #[k,Z,jf nl,OB]
   |false=>rw[hv,Eu El]at hc;refine X _ #[_,Z,_,_,Z,Z,fm _ _ #[k+1,?_,jf nl,OB]];show [_,some$ V.int ((k:Int)+1),_,_]=[_,some$ V.int ((k+1:Nat):Int),_,_];rfl
  ·obtain⟨j,rfl,L,hk⟩:=h;exact d _ _$ R j H' L hk
end _K
namespace _K
open PySem PySem.Spec PyProof.Rows _L
variable {P:Program}{w:World}{K:Frag}{mg:Str->Option Value}{base:Heap}
inductive Ci where
 |go (n:Int) |give (t:Addr)
structure Wy where
 sets:List (Str×Addr)
 goal:Ci
inductive Dd where
 |st (p:Addr) |ask (t:Addr)
structure Ct where
 M:Str->Prop
 d:Dd
 ws:List Wy
structure Pc where
 M:Str->Prop
 w:Wy
def cq(H:Hp):Tr->V->List V->Prop
 | .lf v,x,_=>x=v/\C7 v=true
 | .tp l,x,_=>l.isL=true/\∃a X,x= .ref a/\H a=some (.tup X)/\cq H l .non X
 | .nil,_,X=>X=[]
 | .cons h t,_,X=>h.isL=false/\t.isL=true/\∃y Y,X=y::Y/\cq H h y []/\cq H t .non Y
theorem cq.mono(k:ai H d):∀{t:Tr} {x:V} {X:List V},cq H t x X->cq d t x X:=by
 intro t;induction t with
 |lf v |nil=>exactλh=>h
 |tp l f=>rintro x X ⟨h,a,Y,e,b,c⟩;exact#[h,a,Y,e,k _ _ b,f c]
 |cons h t i I=>rintro x X ⟨E,g,y,Y,e,b,c⟩;exact#[E,g,y,Y,e,i b,I c]
noncomputable def bo:List Tr->Tr
 | []=>.nil
 |t::T=>.cons t (bo T)
theorem QA:∀t:List Tr,(bo t).isL=true
 | []=>rfl
 |_::_=>rfl
noncomputable def eZ(t:List Tr):Tr:=.tp (bo t)
noncomputable def iU(x:Str):Tr:=.lf (.str x)
noncomputable def nK(a:Addr):Tr:=.lf (.ref a)
noncomputable def AY(n:Int):Tr:=.lf (.int n)
section
variable {H:Hp}
theorem jL:cq H (bo []) .non []:=rfl
theorem jw{t:Tr}(h:t.isL=false)(a:cq H t y [])(b:cq H (bo T) .non Y):cq H (bo (t::T)) .non (y::Y):=#[h,QA T,y,Y,Z,a,b]
theorem jV(h:H a=some (.tup x))(b:cq H (bo t) .non x):cq H (eZ t) (.ref a) []:=#[QA t,a,x,Z,h,b]
theorem qE:cq H (iU x) (.str x) []:=#[Z,Z]
theorem Jn:cq H (nK a) (.ref a) []:=#[Z,Z]
theorem yZ:cq H (AY n) (.int n) []:=#[Z,Z]
theorem JT(a:cq H (bo s) .non Y):∀{T:List Tr} {x:List V},cq H (bo T) .non x->cq H (bo$ T++s) .non (x++Y)
 | [],x,h=>by have e:x=[]:=h;rw[e];exact a
 |t::T,x,h=>by obtain⟨E,_,y,z,e,b,c⟩:=h;rw[e];exact jw E b (JT a c)
theorem zj:∀{T:List Tr} {x:List V},cq H (bo T) .non x->x.length=T.length
 | [],x,h=>by have e:x=[]:=h;rw[e];rfl
 |t::T,x,h=>by obtain⟨_,_,y,z,e,_,a⟩:=h;rw[e,ED,ED,zj a]
theorem Xm:∀(S:List Str),cq H (bo$ S.map iU) .non (S.map V.str)
 | []=>rfl
 |s::S=>jw Z qE (Xm S)
theorem YN:∀{T:List Tr} {x:List V},cq H (bo T) .non x->cq H (bo T.reverse) .non x.reverse
 | [],x,h=>by have e:x=[]:=h;rw[e];rfl
 |t::T,x,h=>by obtain⟨E,_,y,z,e,a,b⟩:=h;rw[e,Hl,Hl];exact JT (jw E a jL)$ YN b
theorem Kg:∀{T:List Tr} {X:List V},cq H (bo T) .non X->∀(i:Nat) (x:V),X[i]?=some x->∃t,T[i]?=some t/\cq H t x []
 | [],X,h,i,x,a=>by have e:X=[]:=h;rw[e]at a;simp at a
 |t::T,X,h,0,x,a=>by obtain⟨_,_,y,z,e,b,c⟩:=h;rw[e]at a;cases a;exact#[t,Z,b]
 |t::T,X,h,i+1,x,a=>by obtain⟨_,_,y,z,e,b,c⟩:=h;rw[e]at a;simpa using Kg c i x (by simpa using a)
end
noncomputable def Bz(s:Str×Addr):Tr:=eZ [iU s.1,nK s.2]
noncomputable def tq:Ci->Tr
 | .go n=>eZ [iU "go",AY n]
 | .give t=>eZ [iU "give",nK t]
noncomputable def fk(w:Wy):Tr:=eZ [eZ$ w.sets.map Bz,tq w.goal]
noncomputable def Cy:Dd->Tr
 | .st p=>nK p
 | .ask t=>eZ [iU "ask",nK t]
noncomputable def Az(c:Ct):Tr:=eZ [eZ ((canon c.M).map iU),Cy c.d,eZ$ c.ws.map fk]
theorem xu(g:Ci):(tq g).isL=false:=by cases g<;>rfl
theorem AB(d:Dd):(Cy d).isL=false:=by cases d<;>rfl
def lM(H:Hp)(p:Pc)(v:V)(g:Addr)(y:List Str):Prop:=∃(r:Addr) (s:List Str) (W:V),v= .ref r/\H r=some (.tup [.ref g,W])/\NL H g s p.M y/\cq H (fk p.w) W []
theorem lM.same(h:lM H p v g y)(s:ae H a):lM a p v g y:=by obtain⟨r,S,W,e,b,c,d⟩:=h;exact#[r,S,W,e,s _ _ b,c.same s,d.mono$ ae.tm s]
theorem lM.but(h:lM H p v g y)(k:au f H c)(d:H f=some (.lst C))(n:g≠f):lM c p v g y:=by obtain⟨r,s,W,e,i,a,j⟩:=h;have t:ai H c:=λb x e=>k b _ (jB e d (by intro z;cases z)) e;exact#[r,s,W,e,t _ _ i,#[k _ _ n a.at',a.nm,a.sub,a.y20],j.mono t]
noncomputable def Lf.isCut:Lf->Bool
 | .st _ _ _=>false
 | .gv _ _=>false
 |_=>true
noncomputable def Bd.deed:Bd->Dd
 | .lf p _ _=>.st p
 | .ite _ t _ _ _ _=>.ask t
 | .loop _ t _ _ _=>.ask t
 | .nil=>.st 0
inductive gR(b:List V)(H:Hp)(Q:VK)(a:XK):Prop
 |mk(v:V)(s:Bd)(_:b=[v])(_:gp H v s)(_:∀(d:V) (H':Hp),cq H' (Cy s.deed) d []->ae H H'->Q d H')
inductive eV(b:List V)(H:Hp)(Q:VK)(a:XK):Prop
 |mk(t:Addr)(T:Tm)(c:List Str)(_:b=[.ref t])(_:aO H T t)(_:dj c T)(_:c.length<=21)(_:∀(v:V) (g:Addr) (H':Hp),lM H' #[λx=>x∈T.vars,#[[],.give t]] v g c->H g=none->ae H H'->Q v H')
inductive mX(K:Frag)(c:List V)(H:Hp)(Q:VK)(b:XK):Prop
 |mk(a:Addr)(_:c=[.ref a])(_:aD K H a [.str "num",.int 0])(_:∀(r:Addr),H r=none->Q (.ref r) (af H r (.lst [])))
inductive mY(K:Frag)(b:List V)(H:Hp)(Q:VK)(a:XK):Prop
 |mk(t:Addr)(c:List Str)(_:b=[.ref t])(_:aD K H t [.str "num",.int 0])(_:c.length<=21)(_:∀(v:V) (g:Addr) (H':Hp),lM H' #[λx=>x∈(Tm.num 0).vars,#[[],.give t]] v g c->H g=none->ae H H'->Q v H')
open Classical in
noncomputable def gi(x:Str)(t:Addr)(p:Pc):Wy:=if p.M x then #[(x,t)::p.w.sets,p.w.goal] else p.w
inductive gV(d:List V)(H:Hp)(Q:VK)(a:XK):Prop
 |mk(v b:V)(p t:Addr)(x:Str)(T:Tm)(c:Pc)(g:Addr)(e:List Str)(_:d=[v,b])(_:gp H v (.lf p (.st x t T) .nil))(_:lM H c b g e)(_:x∈e)(_:dj e T)(_:c.w.sets.length<=10000000)(_:∀(v':V) (g':Addr) (H':Hp),lM H' #[(Lf.st x t T).use c.M,gi x t c] v' g' e->H g'=none->ae H H'->Q v' H')
theorem yC:al z5z z5z (aa pN):=bZ
theorem tV(F:aU K "deed_of" "deed_of" pN f e):aj P w K mg base aC 1 f e z5z gR:=by
 refine F.ok yC ?_ λC A o s H V Q E z h=>?_
 ·rintro _ _ _ _ ⟨v,s,rfl,_⟩;rfl
 obtain⟨v,st,rfl,g,q⟩:=h;refine#[_,(jd (ju (jA zQ (jx$ pv 0) (ji$ ja jj$ ja jj jb) Z) (jg$ jl$ ji$ ja jj$ ja (jx$ pv 0) jb) jm)$ jg$ jl$ pv 0),?_];cases g with
 |lf p l V c d=>
  cases l with
  |rd x t T |st x t T |wr t u T U |cl x f B D |gv t T=>obtain⟨rfl,_⟩:=d;refine(jp c Z #[cj,λl n=>#[l,_,Z,.inr$ aD.of jc,Z,Z,_,Z,aE OE ?_]]);exact#[_,Z,q _ _ Jn$ jf n]
 |ite p t T a b i I j J c m d y L M |loop p t T a i j c m d y=>refine(jp c Z #[cj,λl n=>#[l,_,Z,.inr$ aD.of jc,Z,Z,_,Z,bR OE ?_]]);refine(jp (ao c n) Z #[cj,λr N=>?_]);exact q _ _ (jV jc$ jw Z qE$ jw Z Jn jL) ((jf n).trans$ jf N)
theorem yc{fN:Addr}{fdN:FuncData}(F:aU K "names_in" "names_in" dJ f b)(c:Cl P w K mg base (n+1) f b z1z (cQ n) "names_in")(m:mg "set"=none)(M:mg "sorted"=none):aj P w K mg base aC (n+2) f b z1z (mX K):=by
 refine F.ok rj (λv H Q E h=>?_) (λC A o s H v Q E d h=>?_)
 ·obtain⟨a,rfl,_⟩:=h;rfl
 obtain⟨a,rfl,g,q⟩:=h;refine#[_,(jd (ju (jZ$ jx$ pv 0) (jg$ jl$ jD jb) jm)$ jd (ju (jZ$ jx$ pv 0) (jg$ jl$ jD$ ja (jx$ pv 0) jb) jm)$ jg$ jl$ jP (qc Z) Z M LJ$ ja (jC (qM Z) Z m Ov$ ja (jq qg (c.e d$ ja (jx$ pv 0) jb)$ c.e d$ ja (jx$ pv 0) jb) jb) jb),?_];refine#[_,Z,a,_,_,_,Z,Z,g,Z,Z,_,Z,bR OE ?_];exact#[rN,λr N=>q r N]
theorem mO:al z1z z1z (aa iH):=bZ
theorem o0(F:aU K "place_of_give" "place_of_give" iH f d)(C:Cl P w K mg base 7 U i z1z (cQ 6) "names_in"):aj P w K mg base aC 8 f d z1z eV:=by
 refine F.ok mO ?_ λj A o s H V Q E l h=>?_
 ·rintro _ _ _ _ ⟨t,T,y,rfl,_⟩;rfl
 obtain⟨t,T,y,rfl,p,O,b,q⟩:=h;refine#[_,(jg$ jl$ ji$ ja (C.e l.m$ ja (pv 0) jb)$ ja (ji$ ja (ji jb)$ ja (ji$ ja jj$ ja (pv 0) jb) jb) jb),?_];refine#[_,Z,t,T,y,Z,p,O.2,O.1,b,λg v a z B D M G I=>?_];have J:NL a g v (λx=>x∈T.vars) y:=#[B,#[D,G,M],ke O.1,b];refine#[rN,λe L=>#[_,Z,cj,λu c=>#[cj,λx N=>#[cj,λr n=>?_]]]];have S:ae a (af (af (af (af a e$ .tup []) u$ .tup [.str "give",.ref t]) x$ .tup [.ref e,.ref u]) r$ .tup [.ref g,.ref x]):=(((jf L).trans$ jf c).trans$ jf N).trans (jf n);refine q _ g _ #[r,_,.ref x,Z,jc,J.same S,?_] z (I.trans S);exact jV (ao jc n)$ jw Z (jV (ao (ao (ao jc c) N) n) jL)$ jw Z (jV (ao (ao jc N) n)$ jw Z qE$ jw Z Jn jL) jL
theorem ye(F:aU K "place_of_give" "place_of_give" iH f j)(C:Cl P w K mg base 7 G l z1z (mX K) "names_in"):aj P w K mg base aC 8 f j z1z (mY K):=by
 refine F.ok mO ?_ λp A o s H V Q E v h=>?_
 ·rintro _ _ _ _ ⟨t,y,rfl,_⟩;rfl
 obtain⟨t,y,rfl,z,B,q⟩:=h;refine#[_,(jg$ jl$ ji$ ja (C.e v.m$ ja (pv 0) jb)$ ja (ji$ ja (ji jb)$ ja (ji$ ja jj$ ja (pv 0) jb) jb) jb),?_];refine#[_,Z,t,Z,z,λg a=>?_];have b:ae H (af H g$ .lst []):=jf a;have c:NL (af H g$ .lst []) g [] (λx=>x∈(Tm.num 0).vars) y:=#[jc,#[IA,Z,λx=>Lv],λx h=>absurd h EC,B];generalize af H g (.lst [])=d at b c;refine#[rN,λe D=>#[_,Z,cj,λu i=>#[cj,λx N=>#[cj,λr n=>?_]]]];have S:ae d (af (af (af (af d e$ .tup []) u$ .tup [.str "give",.ref t]) x$ .tup [.ref e,.ref u]) r$ .tup [.ref g,.ref x]):=(((jf D).trans$ jf i).trans$ jf N).trans (jf n);refine q _ g _ #[r,_,.ref x,Z,jc,c.same S,?_] a (b.trans S);exact jV (ao jc n)$ jw Z (jV (ao (ao (ao jc i) N) n) jL)$ jw Z (jV (ao (ao jc N) n)$ jw Z qE$ jw Z Jn jL) jL
end _K
namespace _K
open PySem PySem.Spec PyProof.Rows _L
variable {P:Program}{w:World}{K:Frag}{mg:Str->Option Value}{base:Heap}
theorem tE{Y:List Str}:sy (.str x) (Y.map V.str)=decide (x∈Y):=by
 by_cases h:x∈Y
 ·rw[EI h];unfold sy;rw[MZ];exact#[.str x,List.mem_map.mpr #[x,h,Z],by simp [nQ]]
 ·rw[Ep h];unfold sy;rw[Bool.eq_false_iff];intro z;rw[MZ]at z;obtain⟨v,a,e⟩:=z;obtain⟨y,H,rfl⟩:=List.mem_map.mp a;have E:x=y∨y=x:=by
   first
    |exact .inl (by simpa [nQ] using e)
    |exact .inr (by simpa [nQ] using e)
  rcases E with rfl |rfl
  ·exact h H
  ·exact h H
theorem y9{H:Hp}{w:Wy}{v:V}(h:cq H (fk w) v []):∃(W s:Addr) (S:List V) (y:V),v= .ref W/\H W=some (.tup [.ref s,y])/\H s=some (.tup S)/\cq H (bo$ w.sets.map Bz) .non S/\cq H (tq w.goal) y []:=by obtain⟨_,W,x,rfl,a,_,_,l,b,e,⟨_,s,S,c,d,f⟩,_,_,g,Y,E,i,j⟩:=h;have k:Y=[]:=j;rw[k]at E;rw[E]at e;rw[e,c]at a;exact#[W,s,S,g,Z,a,d,f,i]
theorem l7:al ["statement","behind","way"] z4z (aa pT):=bZ
theorem ue(F:aU K "place_of_set" "place_of_set" pT f fd)(cU:Cl P w K mg base 10 fU f0 z4z (eW 0) "used_ahead_of"):aj P w K mg base aC 11 f fd z4z gV:=by
 refine F.ok l7 ?_ λc0 A O s H vs Q E hr h=>?_
 ·rintro _ _ _ _ ⟨v,bv,p,t,x,T,C,g,Y,rfl,_⟩;rfl
 obtain⟨v,bv,p,t,x,T,C,g,Y,rfl,X,hp,hx,ok,hl,q⟩:=h;refine#[_,(jd (jy 2 l7.nd$ jx$ pv 1)$ jd (jX$ ju (jA zQ (jx$ pv 0) (jx$ pv 1) Z) (jg$ jy 2 l7.nd$ ji$ ja (jq kY (ji$ ja (jK qT (pv 0) (jH je) kX) jb)$ jx$ pv 2)$ ja (jx$ pv 2) jb) jm)$ jg$ jl$ ji$ ja (cU.e hr.m$ ja (pv 0)$ ja (jx$ pv 1) jb)$ ja (pv 2) jb),?_];have b0:=aQ;obtain⟨r,ss,wv,rfl,b,B,hW⟩:=hp;have h0:=X;cases X with
 |lf _ _ vs h1 h2=>
  obtain⟨rfl,hT⟩:=h2;obtain⟨wa,sa,sx,y,rfl,i,D,j,hy⟩:=y9 hW;refine ah λF1 d=>(jp b Z$ d _ _ ?_);clear d;have sl:=zj j;rw[Ec]at sl;refine ah λF1 d=>dk (λl I=>∃W:V,l=[some$ .ref p,some$ .ref r,some W]/\cq I (fk$ gi x t C) W []/\ae H I) (λE2 _ fm=>?_) λl I h=>?_
  ·clear d;refine Cz λG kT kF=>(jp h1 Z$ jp b Z #[g,_,Z,.inl$ aF.of B.at',Z,Qx _,_,Z,?_]);rw[tE];by_cases a:x∈ss
   ·rw[EI a];refine kT _ #[_,Z,_,Z,p,_,Z,h1,λs1 H1 J k1=>#[nL,λu nu=>?_]];have L:=k1.trans (jf (o:=.tup [.ref s1]) nu);refine(jp (L _ _ i) Z #[u,sa,_,_,Z,Z,jc,L _ _ D,by show 1+sx.length<=_;omega,λc H2 hc z=>?_]);have R:=L.trans z;refine(jp (R _ _ i) Z #[cj,λnw n=>fm _ _ #[.ref nw,Z,?_,R.trans$ jf n]]);have tm:=ae.tm (R.trans$ jf (o:=.tup [.ref c,y]) n);unfold gi;rw[Er ((B.nm.mem x).mp a)];refine jV jc$ jw Z (jV (ao hc n)$ jw Z ?_$ j.mono tm)$ jw (xu _) (hy.mono tm) jL;exact jV (ao (z _ _$ ao J nu) n)$ jw Z qE$ jw Z Jn jL
   ·rw[Ep a];refine kF _$ fm _ _ #[_,Z,?_,ae.refl _];unfold gi;rw[Eu λw=>a ((B.nm.mem x).mpr w)];exact hW
  ·obtain⟨W,rfl,S,k⟩:=h;refine d _ _ ?_;clear d;refine#[_,Z,jp (k _ _ b) Z #[.ref p,g,.lf p (.st x t T) .nil,ss,C.M,Y,Z,h0.mono$ ae.tm k,B.same k,#[#[hx,ok],trivial],(by show 0 < 1;decide),(by show 0+1<=10000000;decide),λg' zs H3 n3 N3 z=>?_]];refine#[_,Z,cj,λr' N=>q _ g' _ #[r',zs,W,Z,jc,N3.same$ jf N,S.mono$ ae.tm$ z.trans$ jf N] (k.free n3) ((k.trans z).trans$ jf N)]
noncomputable abbrev uL:Stmt:=bK (top 24) 1
noncomputable abbrev uP:Stmt:=bK (top 24) 2
noncomputable abbrev uM:Stmt:=bK (top 24) 3
noncomputable abbrev uS:Stmt:=bK (top 24) 4
noncomputable abbrev pP:Stmt:=bK (top 24) 0
noncomputable def pL(m:Int)(p:Addr)(l:Lf)(q:Pc×List Ct):Pc×List Ct:=match l with
 | .gv t T=>(#[λx=>x∈T.vars,#[[],.give t]],q.2)
 | .st x t T=>(#[(Lf.st x t T).use q.1.M,gi x t q.1],q.2)
 | .rd x t T=>(#[(Lf.rd x t T).use q.1.M,#[[],.go (m - (q.2.length:Int) - 1)]],q.2++[#[(Lf.rd x t T).use q.1.M,.st p,[q.1.w]]])
 | .wr t u T U=>(#[(Lf.wr t u T U).use q.1.M,#[[],.go (m - (q.2.length:Int) - 1)]],q.2++[#[(Lf.wr t u T U).use q.1.M,.st p,[q.1.w]]])
 | .cl x f a b=>(#[(Lf.cl x f a b).use q.1.M,#[[],.go (m - (q.2.length:Int) - 1)]],q.2++[#[(Lf.cl x f a b).use q.1.M,.st p,[q.1.w]]])
noncomputable def pB(m:Int):Bd->Pc->List Ct->Pc×List Ct
 | .nil,c,f=>(c,f)
 | .lf p l r,c,f=>pL m p l (pB m r c f)
 | .ite p t T a b r,c,f=>
  let q:=pB m r c f
  let o:=pB m b q.1 q.2
  let s:=pB m a q.1 o.2
  (#[(Bd.ite p t T a b .nil).use q.1.M,#[[],.go$ m - (q.2.length:Int) - ((Bd.ite p t T a b .nil).cuts:Int)]],s.2++[#[(Bd.ite p t T a b .nil).use q.1.M,.ask t,[s.1.w,o.1.w]]])
 | .loop p t T a r,c,f=>
  let q:=pB m r c f
  let d:Pc:=#[(Bd.loop p t T a .nil).use q.1.M,#[[],.go$ m - (q.2.length:Int) - ((Bd.loop p t T a .nil).cuts:Int)]]
  let s:=pB m a d q.2
  (d,s.2++[#[(Bd.loop p t T a .nil).use q.1.M,.ask t,[s.1.w,q.1.w]]])
theorem Kh(m:Int):∀(a b:Bd) (c:Pc) (f:List Ct),pB m (a.app b) c f=pB m a (pB m b c f).1 (pB m b c f).2
 | .nil,_,_,_=>rfl
 | .lf p l r,b,c,f=>by show pL m p l (pB m (r.app b) c f)=pL m p l (pB m r _ _);rw[Kh m r b c f]
 | .ite p t T x y r,b,c,f=>by have e:=Kh m r b c f;show pB m (.ite p t T x y$ r.app b) c f=_;unfold pB;rw[e]
 | .loop p t T x r,b,c,f=>by have e:=Kh m r b c f;show pB m (.loop p t T x$ r.app b) c f=_;unfold pB;rw[e]
theorem zf(m:Int):∀(b:Bd) (c:Pc) (F:List Ct),(pB m b c F).2.length=F.length+b.cuts
 | .nil,_,_=>rfl
 | .lf p l r,c,F=>by
  have e:=zf m r c F;show(pL m p l$ pB m r c F).2.length=F.length+(l.cut+r.cuts);cases l with
  |rd x t T |wr t u T U |cl x f a d=>show((pB m r c F).2++[_]).length=F.length+(1+r.cuts);rw[Eg,e];show _+1=_;omega
  |st x t T |gv t T=>show(pB m r c F).2.length=F.length+(0+r.cuts);omega
 | .ite p t T x y r,c,F=>by have e:=zf m r c F;show((pB m x _ (pB m y _ _).2).2++[_]).length=_;rw[Eg,zf m x,zf m y,e];show _+1=F.length+(1+x.cuts+y.cuts+r.cuts);omega
 | .loop p t T x r,c,F=>by have e:=zf m r c F;show((pB m x _ _).2++[_]).length=_;rw[Eg,zf m x,e];show _+1=F.length+(1+x.cuts+r.cuts);omega
theorem Xn(x:Str)(t:Addr)(p:Pc):(gi x t p).sets.length<=p.w.sets.length+1:=by
 unfold gi;split
 ·exact Ee _
 ·exact Fq _
theorem YO(m:Int):∀(b:Bd) (a:Pc) (f:List Ct),(pB m b a f).1.w.sets.length<=a.w.sets.length+b.size
 | .nil,_,_=>Ee _
 | .lf p l r,a,f=>by
  have e:=YO m r a f;show(pL m p l$ pB m r a f).1.w.sets.length<=a.w.sets.length+(r.size+1);cases l with
  |st x t T=>have:=Xn x t (pB m r a f).1;show(gi x t (pB m r a f).1).sets.length<=_;omega
  |_=>exact Ek _
 | .ite p t T x y r,a,f=>Ek _
 | .loop p t T x r,a,f=>Ek _
theorem kA:∀b:Bd,b.cuts<=b.size
 | .nil=>Ee _
 | .lf _ l r=>by
  have:=kA r;have h:l.cut<=1:=by cases l<;>first |exact Ee _ |exact Ek _
  show l.cut+r.cuts<=r.size+1;omega
 | .ite _ _ _ a b r=>by have:=kA a;have:=kA b;have:=kA r;show 1+a.cuts+b.cuts+r.cuts<=a.size+b.size+r.size+1;omega
 | .loop _ _ _ a r=>by have:=kA a;have:=kA r;show 1+a.cuts+r.cuts<=a.size+r.size+1;omega
structure CK(K:Frag)(C:Addr):Prop where
 cl:nM K C
 nm:bE K C "many"
 nf:bE K C "found"
structure Cg(H:Hp)(C ia dx fa:Addr)(m:Int)(cts:List Ct)(cs:List V):Prop where
 ins:H ia=some (.ins C dx [("many",.int m),("found",.ref fa)])
 fd:H fa=some (.lst cs)
 tr:cq H (bo$ cts.map Az) .non cs
theorem Cg.same(h:Cg H C i d f m c a)(s:ae H b):Cg b C i d f m c a:=#[s _ _ h.ins,s _ _ h.fd,h.tr.mono$ ae.tm s]
theorem Cg.len(h:Cg H C i d f m c a):a.length=c.length:=by rw[zj h.tr,Ec]
theorem Cg.tm(h:Cg H C i d f m c g)(k:au f H a):ai H a:=λb x e=>k b _ (jB e h.fd (by intro z;cases z)) e
structure sH(H:Hp)(C ia dx fa:Addr)(m:Int)(cts:List Ct)(cs:List V)(pc:Pc)(bv:V)(g:Addr)(ys:List Str)(b:Bd):Prop where
 c:Cg H C ia dx fa m cts cs
 p:lM H pc bv g ys
 ng:g≠fa
 ok:b.Ok ys
 sz:cts.length+pc.w.sets.length+b.size<=10000000
def nV(H:Hp)(C i d f:Addr)(m:Int)(y:List Str)(q:Pc×List Ct)(Q:VK):Prop:=∀(v:V) (g:Addr) (c:List V) (h:Hp),lM h q.1 v g y->g≠f->Cg h C i d f m q.2 c->au f H h->Q v h
inductive lE(C:Addr)(n:Nat)(l:List V)(H:Hp)(Q:VK)(c:XK):Prop
 |mk(j h i a g:Addr)(m:Int)(d:List Ct)(f o:List V)(k:Pc)(e:V)(p:List Str)(b:Bd)(_:l=[.ref j,.ref a,e])(_:sH H C j h i m d f k e g p b)(_:H a=some (.tup o))(_:c7 H b o)(_:b.dep < n)(_:nV H C j h i m p (pB m b k d) Q)
inductive yO(C:Addr)(n:Nat)(j:List V)(H:Hp)(Q:VK)(a:XK):Prop
 |mk(h e f g:Addr)(m:Int)(b:List Ct)(d:List V)(i:Pc)(v c:V)(k:List Str)(s:Bd)(_:j=[.ref h,v,c])(_:sH H C h e f m b d i c g k s)(_:gp H v s)(_:s.dep < n+1)(_:nV H C h e f m k (pB m s i b) Q)
noncomputable def Bd.isCut:Bd->Bool
 | .lf _ l _=>l.isCut
 | .nil=>false
 |_=>true
inductive u6(C:Addr)(n:Nat)(j:List V)(H:Hp)(Q:VK)(a:XK):Prop
 |mk(h e f g:Addr)(m:Int)(b:List Ct)(d:List V)(i:Pc)(v c:V)(k:List Str)(s:Bd)(_:j=[.ref h,v,c])(_:sH H C h e f m b d i c g k s)(_:gp H v s)(_:s.dep < n+1)(_:s.isCut=true)(_:nV H C h e f m k (pB m s i b) Q)
noncomputable def fo(m:Int)(c:Pc)(p:Pc)(f:List Ct):Bd->List Wy×List Ct
 | .ite _ _ _ a b _=>([(pB m a p (pB m b p f).2).1.w,(pB m b p f).1.w],(pB m a p (pB m b p f).2).2)
 | .loop _ _ _ a _=>([(pB m a c f).1.w,p.w],(pB m a c f).2)
 |_=>([p.w],f)
inductive yP(C:Addr)(n:Nat)(o:List V)(H:Hp)(Q:VK)(a:XK):Prop
 |mk(i e f g h:Addr)(m:Int)(b:List Ct)(d:List V)(j k:Pc)(v c l:V)(p:List Str)(s:Bd)(_:o=[.ref i,v,l,c])(_:sH H C i e f m b d j c g p s)(_:lM H k l h p)(_:h≠f)(_:k.w.sets=[])(_:gp H v s)(_:s.dep < n+1)(_:∀(wv:V) (cs':List V) (H':Hp),cq H' (eZ ((fo m k j b s).1.map fk)) wv []->Cg H' C i e f m (fo m k j b s).2 cs'->au f H H'->Q wv H')
theorem XS(h:gp H v s)(g:s.isCut=true)(m:Int)(c:Pc)(F:List Ct):
  pB m s c F=(#[s.use c.M,#[[],.go$ m - (F.length:Int) - (s.cuts:Int)]],(fo m #[s.use c.M,#[[],.go$ m - (F.length:Int) - (s.cuts:Int)]] c F s).2++[#[s.use c.M,s.deed,(fo m #[s.use c.M,#[[],.go$ m - (F.length:Int) - (s.cuts:Int)]] c F s).1]]):=by
 cases h with
 |lf p l V d e=>
  cases l with
  |rd x t T |wr t u T U |cl x f a k=>rfl
  |st x t T |gv t T=>cases g
 |ite p t T a b q Q A B d i e j n o |loop p t T a q A d i e j=>rfl
theorem sg(h:lM H p v g y):∃(r:Addr) (W:V),v= .ref r/\H r=some (.tup [.ref g,W])/\cq H (fk p.w) W []:=by obtain⟨r,s,W,e,a,c,b⟩:=h;exact#[r,W,e,a,b]
theorem Bw:al ["self","statement","place","behind","other"] z19z (aa uS):=bZ
theorem Be(F:aU K "ways_of" "Cutting.ways_of" uS f fd)(X:CK K C)(GB:aj P w K mg base aC (4*n+31) fB f0 z10z (lE C n))(bB:ax K f0 z10z [])(hB:bG K C "place_of_body" fB):aj P w K mg base aC (4*n+32) f fd z19z (yP C n):=by
 refine F.ok Bw ?_ λc3 A o1 s H vs Q E hr h=>?_
 ·rintro _ _ _ _ ⟨i,D,R,g,g2,m,d,S,y,pl,v,bv,pv,Y,s,rfl,_⟩;rfl
 obtain⟨i,D,R,g,g2,m,d,S,y,pl,v,bv,G,Y,st,rfl,I,h6,n0,h7,hs,hd,q⟩:=h;refine#[_,(jd (ju (jZ$ jx$ pv 1) (jd (jy 4 Bw.nd$ kl (pv 0) X.cl hB GB hr.m bB .nil bu$ ja (jx$ pv 1)$ ja (pv 3) jb)$ jg$ jl$ ji$ ja (jv zU (kl (pv 0) X.cl hB GB hr.m bB .nil bu$ ja (jx$ pv 1)$ ja (pv 3) jb) je (λ_ _=>Z))$ ja (jx$ pv 4) jb) jm)$ jd (ju (jZ$ jx$ pv 1) (jg$ jl$ ji$ ja (jv zU (kl (pv 0) X.cl hB GB hr.m bB .nil bu$ ja (jx$ pv 1)$ ja (pv 2) jb) je (λ_ _=>Z))$ ja (jx$ pv 3) jb) jm)$ jg$ jl$ ji$ ja (jx$ pv 3) jb),?_];have b0:=aQ;obtain⟨br,bw,rfl,J,L⟩:=sg I.p;cases hs with
 |lf p l vs e M=>
  have f2:gj (bV$ ak (eY (i9 K) (bh 3)$ tC$ V.int 1) aP) { nx:=λx H'=>Q V.non H',rt:=Q } [some$ .ref i,some$ .ref p,some G,some$ .ref br,none] H:=by refine(jp J Z #[nL,λr N=>q (.ref r) S _ (jV jc$ jw Z (L.mono$ ae.tm$ jf N) jL) (I.c.same$ jf N) (au.of_same$ jf N)])
  cases l with
  |rd x t T |st x t T |wr t u T U |cl x f q2 ts |gv t T=>obtain⟨rfl,_⟩:=M;refine(jp e Z #[Z,_,Z,aE OE ?_]);refine(jp e Z #[Z,_,Z,aE OE ?_]);exact f2
 |ite p t T a b qa qb as bs e h0 M h3 h4 h5=>refine(jp e Z #[Z,_,Z,bR OE ?_]);have h8:max (max a.dep b.dep+1) 0 < n+1:=hd;have hz:d.length+y.w.sets.length+(a.size+b.size+0+1)<=10000000:=I.sz;have W:=I.ok;refine ah λF1 f1=>#[_,Z,i,D,_,Z,I.c.ins,Z,jp e Z #[_,Z,i,D,R,qb,g,m,d,S,bs,y,.ref br,Y,b,Z,#[I.c,I.p,I.ng,W.2.2.1,OB],h3,h5,OB,λv1 g1 j H1 p1 n1 O z=>f1 _ _ ?_]];clear f1;have B:=I.c.tm z;have lc:=zf m b y d;have cb:=kA b;refine#[_,Z,i,D,_,Z,O.ins,Z,jp (B _ _ e) Z #[_,Z,i,D,R,qa,g,m,_,j,as,y,.ref br,Y,a,Z,#[O,I.p.but z I.c.fd I.ng,I.ng,W.2.1,OB],B _ _ M,h4.mono B,OB,λv2 g2 c0 H2 p2 n2 c2 k2=>?_]];obtain⟨r2,w2,rfl,h9,h'⟩:=sg p2;obtain⟨r1,w1,rfl,k,o⟩:=sg (p1.but k2 O.fd n1);refine#[r2,_,_,_,Z,Z,aD.of h9,Z,jp k Z #[cj,λr N=>q (.ref r) c0 _ (jV jc$ jw Z (h'.mono$ ae.tm$ jf N)$ jw Z (o.mono$ ae.tm$ jf N) jL) (c2.same$ jf N) ((z.trans k2).trans$ au.of_same$ jf N)]]
 |loop p t T a qa as e h0 M h3=>refine(jp e Z #[Z,_,Z,aE OE ?_]);refine(jp e Z #[Z,_,Z,bR OE ?_]);have h8:max (a.dep+1) 0 < n+1:=hd;have hz:d.length+y.w.sets.length+(a.size+0+1)<=10000000:=I.sz;have W:=I.ok;refine#[_,Z,i,D,_,Z,I.c.ins,Z,jp e Z #[_,Z,i,D,R,qa,g2,m,d,S,as,pl,G,Y,a,Z,#[I.c,h6,n0,W.2.1,by rw[h7];show d.length+0+a.size<=_;omega],M,h3,OB,λv1 g1 j H1 p1 n1 O z=>?_]];obtain⟨r1,w1,rfl,k,o⟩:=sg p1;have B:=I.c.tm z;refine#[r1,_,_,_,Z,Z,aD.of k,Z,jp (B _ _ J) Z #[cj,λr N=>q (.ref r) j _ (jV jc$ jw Z (o.mono$ ae.tm$ jf N)$ jw Z ((L.mono B).mono$ ae.tm$ jf N) jL) (O.same$ jf N) (z.trans$ au.of_same$ jf N)]]
theorem re:al ["self","statement","behind","n","names","place","ways"] z8z (aa uM):=bZ
theorem A6(F:aU K "place_of_cut" "Cutting.place_of_cut" uM f fd)(y:CK K C)(h7:n<=7)(GW:aj P w K mg base aC (4*n+32) fW f0 z19z (yP C n))(bW:ax K f0 z19z [])(hW:bG K C "ways_of" fW)(cM:Cl P w K mg base 2 fM f2 ["body"] fj "many_cuts")(cU:Cl P w K mg base 31 fU f3 z4z (eW 7) "used_ahead_of")(cD:Cl P w K mg base 1 fD f4 z5z gR "deed_of")(ml:mg "len"=none)(m0:mg "tuple"=none):aj P w K mg base aC (4*n+33) f fd z8z (u6 C n):=by
 refine F.ok re ?_ λc0 A o1 s H vs Q E Y h=>?_
 ·rintro _ _ _ _ ⟨z,L,l,g,m,a,cs,j,v,bv,ys,s,rfl,_⟩;rfl
 obtain⟨z,L,l,g,m,a,cs,j,v,bv,ys,st,rfl,I,B,hd,hc,q⟩:=h;refine#[_,(jd (jy 3 re.nd$ jq kI (jq kI (kQ (pv 0) Z)$ jP jJ Z ml F'$ ja (kQ (pv 0) Z) jb)$ cM.e Y.m$ ja (ji$ ja (pv 1) jb) jb)$ jd (jy 4 re.nd$ cU.e Y.m$ ja (pv 1)$ ja (jx$ pv 2) jb)$ jd (jy 5 re.nd$ ji$ ja (pv 4)$ ja (ji$ ja (ji jb)$ ja (ji$ ja jj$ ja (pv 3) jb) jb) jb)$ jd (jy 6 re.nd$ kl (pv 0) y.cl hW GW Y.m bW .nil bu$ ja (pv 1)$ ja (pv 5)$ ja (pv 2) jb)$ jd (jS$ kM EH ET ES jY (kQ (pv 0) Z)$ ja (ji$ ja (jC jF Z m0 Gx$ ja (pv 4) jb)$ ja (cD.e Y.m$ ja (pv 1) jb)$ ja (pv 6) jb) jb)$ jg$ jl$ pv 5),?_];have b0:=aQ;obtain⟨br,ss,bw,rfl,h0,hN,h1⟩:=id I.p;have hz:=I.sz;have lc:=I.c.len;refine ah λF1 i=>#[_,Z,z,C,L,_,_,Z,I.c.ins,y.cl,y.nm,Z,_,Z,z,C,L,_,_,Z,I.c.ins,y.cl,y.nf,Z,l,_,Z,.inl$ aF.of I.c.fd,_,_,Z,Z,_,Z,nL,λu nu=>?_];have s1:ae H (af H u$ .tup [v]):=jf nu;refine#[u,st,_,Z,jc,(B.mono$ ae.tm s1).bd,OB,λH1 k1=>#[_,_,Z,Z,i _ _ ?_]];clear i;have S:=s1.trans k1;rw[lc];refine ah λF1 i=>#[_,Z,jp (S _ _ h0) Z #[v,g,st,ss,j.M,ys,Z,B.mono$ ae.tm S,hN.same S,I.ok,OB,OB,λG zs H2 n2 N2 k2=>i _ _ ?_]];clear i;have s3:=S.trans k2;have N:G≠l:=λe=>by rw[e,S _ _ I.c.fd]at n2;cases n2
 refine ah λF1 i=>#[_,Z,rN,λe ne=>#[_,Z,cj,λU O=>#[cj,λx nx=>#[cj,λr nr=>i _ _ ?_]]]];clear i;have s4:ae H2 (af (af (af (af H2 e$ .tup []) U$ .tup [.str "go",.int$ m - (a.length:Int) - (st.cuts:Int)]) x$ .tup [.ref e,.ref U]) r$ .tup [.ref G,.ref x]):=(((jf ne).trans$ jf O).trans$ jf nx).trans (jf nr);have P4:lM (af (af (af (af H2 e$ .tup []) U$ .tup [.str "go",.int$ m - (a.length:Int) - (st.cuts:Int)]) x$ .tup [.ref e,.ref U]) r$ .tup [.ref G,.ref x]) #[st.use j.M,#[[],.go$ m - (a.length:Int) - (st.cuts:Int)]] (.ref r) G ys:=
  #[r,zs,.ref x,Z,jc,N2.same s4,jV (ao jc nr)$ jw Z (jV (ao (ao (ao jc O) nx) nr) jL)$ jw Z (jV (ao (ao jc nx) nr)$ jw Z qE$ jw Z yZ jL) jL]
 generalize af (af (af (af H2 e$ .tup []) U$ .tup [.str "go",.int$ m - (a.length:Int) - (st.cuts:Int)]) x$ .tup [.ref e,.ref U]) r (.tup [.ref G,.ref x])=H4 at s4 P4;have R:=s3.trans s4;have c5:=I.c.same R;refine ah λF1 i=>#[_,Z,z,L,_,Z,c5.ins,Z,_,Z,_,Z,_,Z,z,L,l,g,G,m,a,cs,j,_,v,.ref br,.ref r,ys,st,Z,#[c5,I.p.same R,I.ng,I.ok,I.sz],P4,N,Z,B.mono$ ae.tm R,hd,λwv D H6 w6 c6 k6=>i _ _ ?_];clear i;have t0:=c5.tm k6;have p6:=P4.but k6 c5.fd N;have z6:H6 G=some (.lst$ zs.map V.str):=k6 _ _ N (s4 _ _ N2.at');have ez:=N2.nm.canon;have l6:=c6.len;have lw:(fo m #[st.use j.M,#[[],.go$ m - (a.length:Int) - (st.cuts:Int)]] j a st).2.length+1=a.length+st.cuts:=by have:=zf m st j a;rw[XS B hc m j a,Eg]at this;exact this
 have cl:=kA st;refine ah λF1 i=>#[_,Z,z,C,L,_,_,Z,c6.ins,y.cl,y.nf,Z,.inl #[Z,_,aF.of c6.fd],_,Z,G,_,Z,.inl #[aF.of z6,λnt n0=>?_]];have s7:ae H6 (af H6 nt$ .tup$ zs.map V.str):=jf n0;refine#[_,Z,v,st,Z,((B.mono$ ae.tm R).mono t0).mono$ ae.tm s7,λd H8 d8 k8=>#[_,Z,f8,λW J=>?_]];have X:=(s7.trans k8).trans (jf (o:=.tup [.ref nt,d,wv]) J);have t:=c6.same X;refine#[l,D,_,Z,Z,t.fd,OB,i _ _ ?_];clear i;have T9:cq (af H8 W$ .tup [.ref nt,d,wv]) (Az #[st.use j.M,st.deed,(fo m #[st.use j.M,#[[],.go$ m - (a.length:Int) - (st.cuts:Int)]] j a st).1]) (.ref W) []:=by refine jV jc$ jw Z (jV (ao (k8 _ _ jc) J) ?_)$ jw (AB _) (d8.mono$ ae.tm$ jf J)$ jw Z (w6.mono$ ae.tm X) jL;rw[<- ez];exact Xm zs
 have p9:=p6.same X;generalize af H8 W (.tup [.ref nt,d,wv])=H9 at X t T9 p9;have k:au l H9 (af H9 l$ .lst$ D++[.ref W]):=λb o nb e=>by rw[jh nb];exact e
 have T:=t.tm k;have n1:z≠l:=λe=>by have:=t.ins;rw[e,t.fd]at this;cases this
 refine#[_,Z,q (.ref r) G (D++[.ref W]) _ ?_ N ?_ (λb o nb e=>k b o nb (X _ _$ k6 b o nb$ R _ _ e))]
 ·rw[XS B hc m j a];exact p9.but k t.fd N
 ·rw[XS B hc m j a];refine#[k _ _ n1 t.ins,jc,?_];rw[EF];exact JT (jw Z (T9.mono T) jL)$ t.tr.mono T
inductive BI(C u j t a:Addr)(m:Int)(c:List Ct)(x:Pc)(f:V)(z:List Str)(b:Bd)(y:List V)(H:Hp)(i:Nat)(A:_L.St)(e:Hp):Prop
 |mk(d s:Bd)(v:V)(g:Addr)(h:List V)(w:Option V)(k:A=[some (.ref u),some (.ref a),some f,some v,w])(l:b=d.app s)(n:c7 H d (y.take (y.length - i)))(o:lM e (pB m s x c).1 v g z)(p:g≠t)(q:Cg e C u j t m (pB m s x c).2 h)(r:au t H e)
theorem JU(m:Int):∀(b:Bd) (c:Pc) (F:List Ct),(pB m b c F).2.length+(pB m b c F).1.w.sets.length<=F.length+c.w.sets.length+b.size
 | .nil,_,_=>Ee _
 | .lf p l r,c,F=>by
  have e:=JU m r c F;show(pL m p l$ pB m r c F).2.length+(pL m p l$ pB m r c F).1.w.sets.length<=F.length+c.w.sets.length+(r.size+1);cases l with
  |st x t T=>have:=Xn x t (pB m r c F).1;show(pB m r c F).2.length+(gi x t (pB m r c F).1).sets.length<=_;omega
  |gv t T=>show(pB m r c F).2.length+0<=_;omega
  |rd x t T |wr t u T U |cl x f a d=>show((pB m r c F).2++[_]).length+0<=_;rw[Eg];show _+1+0<=_;omega
 | .ite p t T x y r,c,F=>by have e:=JU m r c F;have h:=kA x;have H:=kA y;show((pB m x _ (pB m y _ _).2).2++[_]).length+0<=F.length+c.w.sets.length+(x.size+y.size+r.size+1);rw[Eg,zf m x,zf m y];show _+1+0<=_;omega
 | .loop p t T x r,c,F=>by have e:=JU m r c F;have h:=kA x;show((pB m x _ _).2++[_]).length+0<=F.length+c.w.sets.length+(x.size+r.size+1);rw[Eg,zf m x];show _+1+0<=_;omega
theorem De:al z8z z8z (aa uP):=bZ
theorem Bc(F:aU K "place_of" "Cutting.place_of" uP f fd)(ck:CK K C)(GC:aj P w K mg base aC (4*n+33) fC D z8z (u6 C n))(bC:ax K D z8z [])(hC:bG K C "place_of_cut" fC)(cG:Cl P w K mg base 8 fG f0 z1z eV "place_of_give")(cS:Cl P w K mg base 11 fS f1 z4z gV "place_of_set"):aj P w K mg base aC (4*n+34) f fd z8z (yO C n):=by
 refine F.ok De ?_ λc0 A O s H vs Q E G h=>?_
 ·rintro _ _ _ _ ⟨r,J,fa,g,m,j,z,L,v,B,y,s,rfl,_⟩;rfl
 obtain⟨r,J,fa,g,m,j,z,L,v,B,y,st,rfl,I,M,hd,q⟩:=h;refine#[_,(jd (ju (jZ$ jx$ pv 1) (jg$ jl$ cG.e G.m$ ja (jx$ pv 1) jb) jm)$ jd (ju (jZ$ jx$ pv 1) (jg$ jl$ cS.e G.m$ ja (pv 1)$ ja (pv 2) jb) jm)$ jg$ jl$ kl (pv 0) ck.cl hC GC G.m bC .nil bu$ ja (pv 1)$ ja (pv 2) jb),?_];have hz:=I.sz;have R:=M;have i:st.isCut=true->gj (rV C "place_of_cut" (u6 C n) [] E0 (bh 0)$ ak (bh 1)$ ak (bh 2) aP) { nx:=λx k=>Q V.non k,rt:=Q } [some$ .ref r,some v,some B] H:=λhc=>
  #[_,Z,r,J,_,Z,I.c.ins,Z,_,Z,_,Z,r,J,fa,g,m,j,z,L,v,B,y,st,Z,I,M,hd,hc,q]
 cases M with
 |lf p l vs d o=>
  cases l with
  |rd x t T |wr t u T U |cl x f q2 ts=>obtain⟨rfl,_⟩:=o;refine(jp d Z #[Z,_,Z,aE OE ?_]);refine(jp d Z #[Z,_,Z,aE OE ?_]);exact i Z
  |gv t T=>
   obtain⟨rfl,hT⟩:=o;refine(jp d Z #[Z,_,Z,bR OE ?_]);clear i;have Y:y.length<=21:=by obtain⟨_,_,_,_,_,hN,_⟩:=I.p;exact hN.y20
   exact(jp d Z #[t,T,y,Z,hT,I.ok.1,Y,λW X k p' N S=>q W X z k p' (λe=>by rw[e,I.c.fd]at N;cases N) (I.c.same S) (au.of_same S)])
  |st x t T=>obtain⟨rfl,hT⟩:=o;refine(jp d Z #[Z,_,Z,aE OE ?_]);refine(jp d Z #[Z,_,Z,bR OE ?_]);clear i;exact#[_,Z,_,Z,.ref p,B,p,t,x,T,L,g,y,Z,R,I.p,I.ok.1.1,I.ok.1.2,OB,λW X k p' N S=>q W X z k p' (λe=>by rw[e,I.c.fd]at N;cases N) (I.c.same S) (au.of_same S)]
 |ite p t T a b qa qb as bs d h0 o h3 h4 h5 |loop p t T a qa as d h0 o h3=>refine(jp d Z #[Z,_,Z,aE OE ?_]);refine(jp d Z #[Z,_,Z,aE OE ?_]);exact i Z
theorem uT:al ["self","body","behind","place","statement"] z10z (aa uL):=bZ
theorem A5(F:aU K "place_of_body" "Cutting.place_of_body" uL f fd)(ck:CK K C)(GO:aj P w K mg base aC (4*n+34) fO T z8z (yO C n))(bO:ax K T z8z [])(hO:bG K C "place_of" fO)(R:mg "reversed"=none):aj P w K mg base aC (4*n+35) f fd z10z (lE C$ n+1):=by
 refine F.ok uT ?_ λc1 A U s H vs Q E hr h=>?_
 ·rintro _ _ _ _ ⟨r,J,V,a,g,m,d,cs,xs,l,L,Y,b,rfl,_⟩;rfl
 obtain⟨r,J,V,a,g,m,d,cs,xs,l,L,Y,b,rfl,I,ha,hb,hd,q⟩:=h;refine#[_,(jd (jy 3 uT.nd$ pv 2)$ jd (ze Fk Z (@Z6 _ _ _ _ _ _ _ Z R Hu (pv 1) OA OA OF OF) (jr (i:=4) uT.nd Z$ Or.inl Z)$ jg$ jy 3 uT.nd$ kl (pv 0) ck.cl hO GO hr.m bO .nil bu$ ja (pv 4)$ ja (pv 3) jb)$ jg$ jl$ pv 3),?_];have b0:=aQ;have hz:=I.sz;have xl:=hb.len;refine ah λF1 u=>#[_,Z,u _ _ ?_];clear u;refine ah λF1 u=>?_;refine gF λF kF=>#[_,Z,a,xs,Z,aD.of ha,kF _ _ ?_];clear kF;refine Xi (K:=K) (xs:=xs) (BI C r J V a m d l L Y b xs H) #[b,.nil,L,g,cs,_,Z,(qr b).symm,by rw[I0,Fd];exact hb,I.p,I.ng,I.c,au.refl] (λi σ H' hi h=>?_) ?_ (λσ H' h=>u _ _ ?_)
 ·obtain⟨_,_,_,_,_,_,_,_,_,_,_,_,k⟩:=h;exact aD.of$ I.c.tm k _ _ ha
 ·clear u;intro E _ i x σ H2 M fE Gq t h;obtain⟨pre,eB,v,W,o,o4,rfl,j,y,X,h4,N,O⟩:=h;have hi:i < xs.length:=by
   rcases Io i xs.length with z |z
   ·exact z
   ·rw[Fy (by simpa using z)]at M;cases M
  rw[Gk hi]at M;have et:xs.take (xs.length - i)=xs.take (xs.length - (i+1))++[x]:=by
   have D:xs.length - i=(xs.length - 1 - i)+1:=by omega
   have e2:xs.length - (i+1)=xs.length - 1 - i:=by omega
   rw[D,e2,GK,M];rfl
  rw[et]at y;rcases y.last with ⟨e,_⟩ | ⟨ws,v',B,S,D,e2,h6,h7⟩
  ·exact absurd e OD
  obtain⟨ew,ev⟩:=MY D Z;cases ev;subst e2;have h0:=zH (j▸I.ok);have G:=zH h0.1;have a1:b.dep=max (B.app S).dep eB.dep:=by rw[j,zi]
  have a2:(B.app S).dep=max B.dep S.dep:=zi ..;have h8:S.dep<=b.dep:=by rw[a1,a2];exact En (M8 ..)$ Ni ..
  clear a1 a2;have h9:b.size=B.size+S.size+eB.size:=by rw[j,jT,jT]
  have hl:=zf m eB l d;have h':=kA eB;have a0:=YO m eB l d;have a3:(pB m eB l d).1.w.sets.length+(pB m eB l d).2.length+S.size<=10000000:=by have:=JU m eB l d;omega
  refine t ?_;clear t;have tm:=I.c.tm O;show dn _ _ E [some$ .ref r,some$ .ref a,some L,some v,some x] H2;refine#[_,Z,r,J,_,Z,N.ins,Z,_,Z,_,Z,r,J,V,W,m,_,o,_,x,v,Y,S,Z,#[N,X,h4,G.2,OB],h7.mono tm,OB,λv3 g3 c0 H3 p3 n3 c3 k3=>fE _ _ #[B,S.app eB,v3,g3,c0,_,Z,by rw[j,zR],?_,by rw[Kh];exact p3,n3,by rw[Kh];exact c3,O.trans k3]];rw[ew];exact h6
 ·obtain⟨pre,eB,v,W,o,o4,rfl,j,y,X,h4,N,O⟩:=h;rw[Hw]at y;have ep:pre= .nil:=by
   rcases y.last with ⟨_,e⟩ | ⟨ws,v,B,S,D,_⟩
   ·exact e
   ·exact absurd D OD
  rw[ep]at j;refine#[_,Z,q v W o H' ?_ h4 ?_ O]
  ·rw[j];exact X
  ·rw[j];exact N
theorem A4:aj P w K mg base aC k f i z10z (lE C 0):=by
 have n:∀v H Q E,¬lE C 0 v H Q E:=λv H Q E h=>by obtain⟨I,D,F,a,g,m,d,j,x,p,B,y,b,_,_,_,_,e,_⟩:=h;exact absurd e$ Hd _
 exact#[λv H Q E h=>absurd h (n v H Q E),λA o s H c u v Q E _ _ _ _ h=>absurd h (n v H Q E)]
theorem DJ(c:CK K C)(FB:aU K "place_of_body" "Cutting.place_of_body" uL g f)(F:aU K "place_of" "Cutting.place_of" uP A a)(i:aU K "place_of_cut" "Cutting.place_of_cut" uM D b)(j:aU K "ways_of" "Cutting.ways_of" uS E d)
  (B:ax K f z10z []) (H:bG K C "place_of_body" g) (k:ax K a z8z []) (l:bG K C "place_of" A) (o:ax K b z8z []) (p:bG K C "place_of_cut" D) (q:ax K d z19z []) (r:bG K C "ways_of" E)
  (s:Cl P w K mg base 2 T G ["body"] fj "many_cuts") (t:Cl P w K mg base 31 U I z4z (eW 7) "used_ahead_of") (u:Cl P w K mg base 1 Y J z5z gR "deed_of") (v:Cl P w K mg base 8 fG L z1z eV "place_of_give") (x:Cl P w K mg base 11 fS N z4z gV "place_of_set") (y:mg "len"=none) (m:mg "tuple"=none) (M:mg "reversed"=none):
  ∀n:Nat,n<=8->aj P w K mg base aC (4*n+31) g f z10z (lE C n)
 |0,_=>A4
 |n+1,h=>by
  have O:=DJ c FB F i j B H k l o p q r s t u v x y m M n OB;have Q:=Be j c O B H;have R:=A6 i c OB Q q r s t u y m;have S:=Bc F c R o p v x;have z:=A5 FB c S k l M;have e:4*n+35=4*(n+1)+31:=by omega
  rw[e]at z;exact z
theorem uy{X:Cx}{K:Frag}{n:Nat}(a:X.K=K)(b:X.calm=true)(h:Af X e t)
  (c:(assignEach e X.env).length=n) (H:(assignEach e X.env).findIdx? (·.1)=none):PG X (.Tuple e k p) (ot K n t):=by
 subst a;exact zT b h c H
abbrev g3(K:Frag)(i j k:Nat):TG:=ot K 3 (dA (bf i)$ dA (bf j)$ dA (bf k) sZ)
theorem C5{t:_L.St}(h:t.length=3):∃a b c,t=[a,b,c]:=by
 cases t with
 |nil=>cases h
 |cons a r=>
  cases r with
  |nil=>cases h
  |cons b R=>
   cases R with
   |nil=>cases h
   |cons c d=>
    cases d with
    |nil=>exact#[a,b,c,Z]
    |cons _ _=>cases h
noncomputable abbrev pS:Stmt:=top 25
noncomputable abbrev mG:Stmt:=top 26
structure Df where
 f:Str
 p:Addr
 pa:Addr
 pb:Addr
 b:Bd
def vt(H:Hp)(d:Df)(v:V):Prop:=∃B,v= .ref d.p/\H d.p=some (.tup [.str d.f,.ref d.pa,.ref d.pb])/\H d.pb=some (.tup B)/\c7 H d.b B
def bX(H:Hp):List Df->List V->Prop
 | [],a=>a=[]
 |d::D,a=>∃v r,a=v::r/\vt H d v/\bX H D r
theorem vt.mono(k:ai H a)(h:vt H d v):vt a d v:=by obtain⟨b,e,c,f,g⟩:=h;exact#[b,e,k _ _ c,k _ _ f,g.mono k]
theorem bX.mono(k:ai H b):∀{a:List V},bX H D a->bX b D a:=by
 induction D with
 |nil=>exactλh=>h
 |cons d D i=>rintro a ⟨v,r,e,c,f⟩;exact#[v,r,e,c.mono k,i f]
theorem bX.snoc{d:Df}(a:vt H d v):∀{D:List Df} {b:List V},bX H D b->bX H (D++[d]) (b++[v])
 | [],_,h=>by have e:_=[]:=h;rw[e];exact#[v,[],Z,a,Z]
 |_::_,_,z=>by obtain⟨u,r,e,c,f⟩:=z;exact #[u,r++[v],by rw[e];rfl,c,bX.snoc a f]
theorem bX.len:∀{d:List Df} {v:List V},bX H d v->v.length=d.length
 | [],_,h=>by have e:_=[]:=h;rw[e];rfl
 |_::_,_,z=>by obtain⟨u,r,e,b,a⟩:=z;rw[e,ED,ED,bX.len a]
theorem bX.at:∀{D:List Df} {b:List V},bX H D b->∀(i:Nat) (v:V),b[i]?=some v->∃d,D[i]?=some d/\vt H d v
 | [],_,h,i,v,a=>by have e:_=[]:=h;rw[e]at a;simp at a
 |d::_,_,q,0,v,a=>by obtain⟨u,r,e,c,f⟩:=q;rw[e]at a;cases a;exact#[d,Z,c]
 |_::D,_,q,i+1,v,a=>by obtain⟨u,r,e,c,f⟩:=q;rw[e]at a;simpa using bX.at f i v (by simpa using a)
def iZ(d:Df):Prop:=(∃y:List Str,y.length<=20/\d.b.Ok y)/\d.b.dep < 8/\d.b.size<=400
noncomputable def DK(n:Addr):Pc:=#[λx=>x∈(Tm.num 0).vars,#[[],.give n]]
noncomputable def pI(n:Addr)(d:Df):Pc×List Ct:=pB (d.b.cuts:Int) d.b (DK n) []
noncomputable def i8(n:Addr)(d:Df):Tr:=eZ [iU d.f,nK d.pa,fk (pI n d).1.w,eZ ((pI n d).2.reverse.map Az)]
def iu(K:Frag)(n:Addr):Prop:=∀H:Hp,aD K H n [.str "num",.int 0]
inductive mW(C:Addr)(f:List V)(H:Hp)(Q:VK)(c:XK):Prop
 |mk(e d a:Addr)(b:Bd)(g:List V)(_:f=[.ref e,.ref a])(_:H e=some (.ins C d []))(_:H a=some (.tup g))(_:c7 H b g)(_:b.size<=10000000)(_:∀(fa:Addr) (H':Hp),H fa=none->Cg H' C e d fa (b.cuts:Int) [] []->au e H H'->Q .non H')
inductive iR(K:Frag)(c:Addr)(e:List V)(H:Hp)(Q:VK)(a:XK):Prop
 |mk(d:Df)(b:List V)(_:e=[.str d.f,.ref d.pa,.ref d.pb])(_:H d.pb=some (.tup b))(_:c7 H d.b b)(_:iZ d)(_:∀(v:V) (H':Hp),cq H' (i8 c d) v []->ae H H'->Q v H')
inductive iP(K:Frag)(e:Addr)(f:List V)(H:Hp)(Q:VK)(b:XK):Prop
 |mk(a:Addr)(c:List Df)(g:List V)(_:f=[.ref a])(_:H a=some (.tup g))(_:bX H c g)(_:c.length<=1000)(_:∀d∈c,iZ d)(_:∀(v:V) (H':Hp),cq H' (eZ (c.map (i8 e))) v []->ae H H'->Q v H')
theorem Zv{K:Frag}{t:TE}{Q:List V->Hp->Prop}{H:Hp}(x:H a=some (.tup g))(u:bX H D g)(R:D.length<=1000)
  (Pv:Nat->List V->Hp->Prop) (z:Pv 0 [] H) (A:∀i Y h,Pv i Y h->ae H h/\Y.length<=i)
  (C:∀i d B Y h,D[i]?=some d->h d.pb=some (.tup B)->c7 h d.b B->Pv i Y h->t (some (.str d.f)::some (.ref d.pa)::some (.ref d.pb)::l) h λy j=>Pv (i+1) (Y++[y]) j)
  (E:∀Y h,Pv D.length Y h->Q Y h):dW (su K a) 3 l (g3 K 0 1 2) lF t Q H:=by
 have F:=aQ;have S:=u.len;refine#[λi m Y h=>m=D.length - i/\i<=D.length/\Pv i Y h,#[D.length,OD,Ek _,z],?_];intro i m Y h c;obtain⟨rfl,T,p⟩:=c;obtain⟨s,U⟩:=A i Y h p;have c:aD K h a g:=aD.of (s _ _ x);by_cases n:i < D.length
 ·have I:i < g.length:=by omega
  refine .inr #[#[g,g[i],c,Ed I],OB,Pv$ i+1,λJ j L=>#[D.length - (i+1),OB,Z,n,L],λv j W o y=>?_];obtain⟨e,y⟩:=y;subst e;have q:=y g c;obtain⟨d,r,B,rfl,M,N,O⟩:=(u.mono$ ae.tm s).at i v q;obtain⟨X,t2,t3,rfl⟩:=C5 o;refine#[d.p,_,Z,aD.of M,Z,_,_,Z,_,_,Z,_,_,Z,Z,#[[some _,some _,some _],Z,Z],?_];exact C i d B Y j r N O p
 ·have e:i=D.length:=by omega
  subst e;exact .inl #[#[g,c,OB],E Y h p]
theorem Bv:al ["self","body"] ["self","body"] (aa pP):=bZ
theorem ya(F:aU K "__init__" "Cutting.__init__" pP f t)(d:CK K C)(u:Cl P w K mg base 2 M v ["body"] fj "many_cuts"):aj P w K mg base aC 3 f t ["self","body"] (mW C):=by
 refine F.ok Bv ?_ λy A O s H V Q E B h=>?_
 ·rintro _ _ _ _ ⟨i,D,a,b,x,rfl,_⟩;rfl
 obtain⟨i,D,a,b,x,rfl,G,I,J,L,q⟩:=h;refine#[_,(jd (@qD _ _ _ _ _ _ _ _ (pv 0) (u.e B.m$ ja (pv 1) jb) Z)$ jg$ @qD _ _ _ _ _ _ _ _ (pv 0) (jD jb) Z),?_];refine ah λS l=>#[_,Z,a,b,x,Z,I,J,L,λT k=>#[_,Z,i,C,D,_,Z,k _ _ G,d.cl,d.nm,OA,l _ _ ?_]];clear l;refine#[rN,λg n=>#[_,Z,i,C,D,_,Z,ao jc n,d.cl,d.nf,(by show 1 < 1000;decide),?_]];have N:g≠i:=λe=>by rw[e,jc]at n;cases n
 have p:H g=none:=by
  cases e:H g with
  |none=>rfl
  |some o=>rw[jh N,k _ _ e]at n;cases n
 refine q g _ p #[jc,by rw[jh N,jc],Z] λc o r e=>?_;rw[jh r,jh (λz=>by rw[z,p]at e;cases e),jh r];exact k _ _ e
theorem lY:al ["name","params","body","cutting","first"] z15z (aa pS):=bZ
theorem t9(F:aU K "part_made" "part_made" pS f fd)(t:CK K C)(mk:Mk K C fI)(GI:aj P w K mg base aC 3 fI u ["self","body"] (mW C))(bI:ax K u ["self","body"] [])(mC:mg "Cutting"=some (.ref C))(M:mg "NOUGHT"=some (.ref n))(no:iu K n)(GB:aj P w K mg base aC 63 fB x z10z (lE C 8))(bB:ax K x z10z [])(hB:bG K C "place_of_body" fB)(cG:Cl P w K mg base 8 fG f0 z1z (mY K) "place_of_give")(y:mg "tuple"=none)(z:mg "reversed"=none):aj P w K mg base aC 64 f fd z15z (iR K n):=by
 refine F.ok lY ?_ λc0 A O s H vs Q E B h=>?_
 ·rintro _ _ _ _ ⟨d,G,rfl,_⟩;rfl
 obtain⟨d,G,rfl,hb,a,I,q⟩:=h;refine#[_,(jd (jy 3 lY.nd$ YC mk GI B.m Z mC bI .nil bu$ ja (pv 2) jb)$ jd (jy 4 lY.nd$ kl (pv 3) t.cl hB GB B.m bB .nil bu$ ja (pv 2)$ ja (cG.e B.m$ ja (qQ (v:=.ref n) Z M Z) jb) jb)$ jg$ jl$ ji$ ja (pv 0)$ ja (pv 1)$ ja (jx$ pv 4)$ ja (@Zn _ _ _ _ _ _ _ _ _ Z Z y Gx Z z Hu (kQ (pv 3) Z) OA OA OA OA OF OF OF OF) jb),?_];have b0:=aQ;obtain⟨⟨ys,y0,ok⟩,J,hz⟩:=I;refine ah λF1 j=>#[_,Z,λi D N L n0=>?_];have S:ae H (af (af H D$ .own i) i$ .ins C D []):=λc o e=>by rw[jh$ jk e N,jh$ jk e L];exact e
 refine#[i,D,d.pb,d.b,G,Z,jc,S _ _ hb,a.mono$ ae.tm S,OB,λp H1 nf R k1=>#[Z,j _ _ ?_]];clear j;have s1:ae H H1:=λc o e=>k1 c o (jk e N) (S _ _ e);have T:H p=none:=S.free nf;refine ah λF1 j=>#[_,Z,i,D,_,Z,R.ins,Z,_,Z,n,ys,Z,no _,OB,λv g H2 p2 n2 k2=>?_];have ng:g≠p:=λe=>by rw[e,R.fd]at n2;cases n2
 have U:=s1.trans k2;refine#[i,D,p,d.pb,g,_,[],[],G,DK n,v,ys,d.b,Z,#[R.same k2,p2,ng,ok,by show 0+0+d.b.size<=_;omega],U _ _ hb,a.mono$ ae.tm U,J,λv3 g3 k V p3 n3 W k3=>j _ _ ?_];clear j;obtain⟨r3,w3,rfl,X,Y⟩:=sg p3;have s3:ae H V:=λc o e=>k3 c o (jk e T) (U _ _ e);refine#[_,Z,_,Z,jp X Z #[_,Z,i,C,D,_,_,Z,W.ins,t.cl,t.nf,Z,p,k,Z,aF.of W.fd,λl nl=>#[sD,λr nr=>?_]]];have s5:ae V (af (af V l$ .tup k.reverse) r$ .tup [.str d.f,.ref d.pa,w3,.ref l]):=(jf nl).trans (jf nr);refine q (.ref r) _ ?_$ s3.trans s5;refine jV jc$ jw Z qE$ jw Z Jn$ jw Z (Y.mono$ ae.tm s5)$ jw Z (jV (ao jc nr) ?_) jL;have e:=YN (W.tr.mono$ ae.tm s5);rw[<- Lb]at e;exact e
theorem yE:al ["program"] ["program"] (aa mG):=bZ
noncomputable def rB:Scope:=#[.function,[(".0",.local),("name",.local),("params",.local),("body",.local),("part_made",.globalImplicit)],false,false,[]]
theorem ZO:(z15z:List Str).Nodup:=by decide+kernel
theorem Ax:a7 ["program"] (aa mG) rB z15z 3 []:=nE
theorem tX(F:aU K "made" "made" mG f p)(C:Cl P w K mg base 64 U t z15z (iR K N) "part_made")(M:mg "tuple"=none):aj P w K mg base aC 65 f p ["program"] (iP K N):=by
 refine F.ok yE ?_ λu A o s H V Q E x h=>?_
 ·rintro _ _ _ _ ⟨a,D,X,rfl,_⟩;rfl
 obtain⟨a,D,X,rfl,g,y,B,O,q⟩:=h;refine#[_,(jg$ jl$ jC jF Z M Gx$ ja (@kn _ _ _ _ _ _ _ (z15z) (3) ([]) _ _ _ _ Z (zq$ pv 0) Ax (λ_ _ _ _ _=>(uy (K:=K) (n:=3) Z Z (jz (jr (i:=0) ZO Z$ Or.inl Z)$ jz (jr (i:=1) ZO Z$ Or.inl Z)$ jz (jr (i:=2) ZO Z$ Or.inl Z) kK) Z Z)) (λ_ _ _ _ _=>(@zr _)) (λ_ _ _ _ _=>(C.e x.m$ ja (pv 0)$ ja (pv 1)$ ja (pv 2) jb)) (by intro _;rfl)) jb),?_];refine#[_,Z,a,Z,#[_,aD.of g],?_];refine Zv g y B (λi V b=>cq b (bo ((D.take i).map$ i8 N)) .non V/\ae H b/\i<=D.length) #[Z,ae.refl _,Ek _] (λi V b h=>#[h.2.1,?_]) (λi d G V b c I J h=>?_) (λV b h l L=>?_)
 ·rw[zj h.1,Ec,EJ];exact Iw ..
 ·have R:i < D.length:=by
   rcases Io i D.length with z |z
   ·exact z
   ·rw[Fy z]at c;cases c
  refine#[_,Z,_,Z,_,Z,d,G,Z,I,J,O d$ Ey c,λv Y T j=>#[?_,h.2.1.trans j,R]];rw[GK,c,EF];exact JT (jw Z T jL)$ h.1.mono$ ae.tm j
 ·refine#[l,V,Z,.inl #[aF.of jc,λr S=>?_]];have s:ae b (af (af b l$ .lst V) r$ .tup V):=(jf L).trans (jf S);refine q (.ref r) _ (jV jc ?_)$ h.2.1.trans s;have e:=h.1;rw[Fd]at e;exact e.mono$ ae.tm s
noncomputable abbrev pV:Stmt:=top 43
noncomputable abbrev pW:Stmt:=top 44
noncomputable abbrev mz:Stmt:=top 45
def aR(p q:Addr)(H h:Hp):Prop:=∀b o,b≠p->b≠q->H b=some o->h b=some o
theorem aR.refl:aR p q H H:=λ_ _ _ _ h=>h
theorem aR.trans(a:aR p q H d)(b:aR p q d e):aR p q H e:=λc o n m h=>b c o n m (a c o n m h)
theorem au.two(a:au p H b):aR p q H b:=λc o n _ h=>a c o n h
theorem aR.of_same(a:ae H b):aR p q H b:=λc o _ _ h=>a c o h
theorem aR.at:aR p q H (af H q o):=λb u _ m e=>by rw[jh m];exact e
def di(H:Hp)(q:Addr):Prop:=∃k:Int,H q=some (.lst [.int k])
theorem di.new{o:HO}(h:di H q)(n:H r=none):di (af H r o) q:=let #[k,e]:=h;#[k,ao e n]
theorem di.ne(h:di H q)(B:aq H p):q≠p:=by obtain⟨k,e⟩:=h;obtain⟨a,b,_,_,_,d⟩:=B.ob;exact jB e d (by intro z;cases z)
theorem di.but(h:di H q)(B:aq H p)(k:au p H a):di a q:=by have n:=h.ne B;obtain⟨z,e⟩:=h;exact#[z,k _ _ n e]
theorem aR.tm(k:aR p q H h)(B:aq H p)(s:di H q):ai H h:=λb x e=>by obtain⟨a,c,_,_,_,f⟩:=B.ob;obtain⟨z,g⟩:=s;exact k b _ (jB e f (by intro w;cases w)) (jB e g (by intro w;cases w)) e
noncomputable def fc(H:Hp)(q:Addr):Int:=match H q with
 |some (.lst [.int k])=>k
 |_=>0
theorem Jo{H:Hp}(e:H q=some (.lst [.int k])):fc H q=k:=by unfold fc;rw[e]
theorem XT{h:Hp}(s:di H q)(k:∀o,H q=some o->h q=some o):fc h q=fc H q:=by obtain⟨z,e⟩:=s;rw[Jo e,Jo$ k _ e]
theorem kf(B:aq H p)(s:di H q)(k:au p H h):fc h q=fc H q:=XT s λo e=>k _ _ (s.ne B) e
theorem j8(s:di H q)(k:ae H h):fc h q=fc H q:=XT s λo e=>k _ _ e
def Cj(H:Hp)(c:Str×List Str)(v:V):Prop:=∃p t,v= .ref p/\H p=some (.tup [.str c.1,.ref t])/\H t=some (.tup$ c.2.map V.str)
def dq(H:Hp):List (Str×List Str)->List V->Prop
 | [],a=>a=[]
 |c::C,a=>∃v r,a=v::r/\Cj H c v/\dq H C r
theorem dq.mono(k:ai H b):∀{c:List (Str×List Str)} {a:List V},dq H c a->dq b c a
 | [],_,h=>h
 |_::_,_,z=>by obtain⟨v,r,e,⟨p,t,E,d,f⟩,g⟩:=z;exact #[v,r,e,#[p,t,E,k _ _ d,k _ _ f],dq.mono k g]
theorem dq.snoc(a:Cj H c v):∀{C:List (Str×List Str)} {b:List V},dq H C b->dq H (C++[c]) (b++[v])
 | [],_,h=>by have e:_=[]:=h;rw[e];exact#[v,[],Z,a,Z]
 |_::_,_,z=>by obtain⟨u,r,e,d,f⟩:=z;exact #[u,r++[v],by rw[e];rfl,d,dq.snoc a f]
theorem dq.len:∀{c:List (Str×List Str)} {v:List V},dq H c v->v.length=c.length
 | [],_,h=>by have e:_=[]:=h;rw[e];rfl
 |_::_,_,z=>by obtain⟨u,r,e,b,a⟩:=z;rw[e,ED,ED,dq.len a]
theorem dq.at:∀{C:List (Str×List Str)} {b:List V},dq H C b->∀(i:Nat) (v:V),b[i]?=some v->∃c,C[i]?=some c/\Cj H c v
 | [],_,h,i,v,a=>by have e:_=[]:=h;rw[e]at a;simp at a
 |c::_,_,q,0,v,a=>by obtain⟨u,r,e,d,f⟩:=q;rw[e]at a;cases a;exact#[c,Z,d]
 |_::C,_,q,i+1,v,a=>by obtain⟨u,r,e,d,f⟩:=q;rw[e]at a;simpa using dq.at f i v (by simpa using a)
theorem yv(h:dq H C a)(i:0<=k)(j:k < (a.length:Int)):∃v c,dF a k=some v/\c∈C/\Cj H c v:=by
 have b:k.toNat < a.length:=by omega
 have d:k=((k.toNat:Nat):Int):=by omega
 have E:a[k.toNat]?=some a[k.toNat]:=Ed b;have e:dF a ((k.toNat:Nat):Int)=some a[k.toNat]:=jW E;rw[<- d]at e;obtain⟨c,f,g⟩:=h.at _ _ E;exact#[_,c,e,Ey f,g]
def Bd.fit(h:List (Str×List Str))(y:List Str)(d:Nat)(b:Bd):Prop:=(b.Ok y/\b.Cs (h.map λc=>(c.1,c.2.length)))/\b.dep<=d
theorem YQ:Bd.fit h y d .nil:=#[#[trivial,trivial],Ek _]
theorem xp{H:List (Str×List Str)}{l:Lf}(h:l.Ok y)(k:l.Cs (H.map λc=>(c.1,c.2.length))):Bd.fit H y d (.lf p l .nil):=#[#[#[h,trivial],k,trivial],Ek _]
theorem YR{a b:Bd}(h:a.fit H y d)(k:b.fit H y d):(a.app b).fit H y d:=#[#[Kf h.1.1 k.1.1,Ke h.1.2 k.1.2],by rw[zi];have:=h.2;have:=k.2;omega]
theorem sW{a b:Bd}(c:dj y T)(h:a.fit H y d)(k:b.fit H y d):Bd.fit H y (d+1) (.ite p t T a b .nil):=#[#[#[c,h.1.1,k.1.1,trivial],h.1.2,k.1.2,trivial],by show max (max a.dep b.dep+1) 0<=d+1;have:=h.2;have:=k.2;omega]
theorem on{a:Bd}(H:dj y T)(h:a.fit b y d):Bd.fit b y (d+1) (.loop p t T a .nil):=#[#[#[H,h.1.1,trivial],h.1.2,trivial],by show max (a.dep+1) 0<=d+1;have:=h.2;omega]
noncomputable def DO:Nat->Nat
 |0=>1
 |d+1=>1+2*(5*DO d)
inductive gY(b:List V)(H:Hp)(Q:VK)(a:XK):Prop
 |mk(p g:Addr)(c:List Str)(_:b=[.ref p,.ref g])(_:aq H p)(_:H g=some (.lst (c.map V.str)))(_:1<=c.length)(_:c.length<=20)(_:∀(r:Addr) (T:Tm) (H':Hp),aO H' T r->dj c T->aq H' p->au p H H'->Q (.ref r) H')
structure lJ(H:Hp)(p g h sp:Addr)(ys:List Str)(hs:List (Str×List Str)):Prop where
 B:aq H p
 g:H g=some (.lst$ ys.map V.str)
 y1:1<=ys.length
 y2:ys.length<=20
 h:∃hv,H h=some (.lst hv)/\dq H hs hv
 h1:1<=hs.length
 h2:hs.length<=20
 h3:∀c∈hs,c.2.length<=6
 s:di H sp
theorem lJ.gsp{H:Hp}{p g h S:Addr}{y:List Str}{b:List (Str×List Str)}(G:lJ H p g h S y b):g≠S:=by
 obtain⟨k,e⟩:=G.s;refine jB G.g e λz=>?_;injection z with z;have c:=G.y1
 match y,c,z with
 |a::r,_,z=>injection z with d _;cases d
theorem lJ.hsp{H:Hp}{p g h S:Addr}{y:List Str}{f:List (Str×List Str)}(G:lJ H p g h S y f):h≠S/\h≠p:=by
 obtain⟨k,e⟩:=G.s;obtain⟨j,E,l⟩:=G.h;obtain⟨a,b,_,_,_,m⟩:=G.B.ob;have n:=G.h1;have:∃q r,j= .ref q::r:=by
  match f,n,l with
  |c::C,_,#[v,r,e,#[q,t,o,_],_]=>exact#[q,r,by rw[e,o]]
 obtain⟨q,r,rfl⟩:=this;refine#[jB E e λz=>?_,jB E m λz=>?_]
 ·injection z with z;injection z with d _;cases d
 ·injection z with z;injection z with d _;cases d
theorem lJ.but2{H a:Hp}{p g h S:Addr}{y:List Str}{b:List (Str×List Str)}(G:lJ H p g h S y b)(B:aq a p)(s:di a S)(k:aR p S H a):lJ a p g h S y b:=by obtain⟨c,e,E⟩:=G.h;exact#[B,k _ _ (qh G.B G.g) G.gsp G.g,G.y1,G.y2,#[c,k _ _ G.hsp.2 G.hsp.1 e,E.mono$ k.tm G.B G.s],G.h1,G.h2,G.h3,s]
theorem lJ.but{H a:Hp}{p g h S:Addr}{y:List Str}{b:List (Str×List Str)}(G:lJ H p g h S y b)(B:aq a p)(k:au p H a):lJ a p g h S y b:=G.but2 B (G.s.but G.B k) k.two
inductive ip(n:Nat)(f:List V)(H:Hp)(Q:VK)(a:XK):Prop
 |mk(p g h e:Addr)(d:Nat)(i:List Str)(c:List (Str×List Str))(_:f=[.ref p,.ref g,.ref h,.ref e,.int (d:Int)])(_:lJ H p g h e i c)(_:d < n)(_:0 < fc H e)(_:∀(r:Addr) (b:Bd) (H':Hp),c7 H' b [.ref r]->(b.size:Int)+fc H' e<=fc H e->0<=fc H' e->b.fit c i d->aq H' p->di H' e->aR p e H H'->Q (.ref r) H')
inductive fh(n:Nat)(f:List V)(H:Hp)(Q:VK)(a:XK):Prop
 |mk(p g h e:Addr)(d:Nat)(i:List Str)(c:List (Str×List Str))(_:f=[.ref p,.ref g,.ref h,.ref e,.int (d:Int)])(_:lJ H p g h e i c)(_:d < n)(_:0<=fc H e)(_:∀(r:Addr) (b:Bd) (bs:List V) (H':Hp),H' r=some (.tup bs)->c7 H' b bs->(b.size:Int)+fc H' e<=fc H e->0<=fc H' e->b.fit c i d->aq H' p->di H' e->aR p e H H'->Q (.ref r) H')
theorem rq:al ["_law_box_here","_law_names_here","_law_kind"] z27z (aa pV):=bZ
theorem ug(F:aU K "_law_spot" "_law_spot" pV f M)(C:Cl P w K mg base 1 Y N z0z aW "_law_take")(O:Cl P w K mg base 6 fM R z9z (cn 4) "_law_term"):aj P w K mg base aC 7 f M z27z gY:=by
 refine F.ok rq ?_ λS A o s H vs Q E a h=>?_
 ·rintro _ _ _ _ ⟨p,g,y,rfl,_⟩;rfl
 obtain⟨p,g,y,rfl,B,I,i,j,q⟩:=h;refine#[_,(jd (jy 2 rq.nd$ C.e a.m$ ja (pv 0)$ ja je jb)$ jd (ju (jA JY (pv 2) je$ aA _) (jg$ jl$ O.e a$ ja (pv 0)$ ja (pv 1)$ ja je jb) jm)$ jd (ju (zb$ pv 2) (jg$ jl$ ji$ ja jj$ ja (jq kI (jq kI (jq Jl je je) je)$ C.e a.m$ ja (pv 0)$ ja je jb) jb) jm)$ jg$ jl$ ji$ ja jj$ ja (C.e a.m$ ja (pv 0)$ ja je jb) jb),?_];have k:g≠p:=qh B I;refine#[_,Z,p,8,Z,B,OA,OA,λkd J k0 k1 l L=>?_];have t:J g=some (.lst$ y.map V.str):=by rw[L g k];exact I
 have u:au p H J:=au.of_eq L;refine#[_,Z,_,_,Z,Z,_,Z,?_];refine bJ (λc=>?_) (λc=>?_)
 ·exact#[_,Z,_,Z,p,g,1,y,Z,l,t,i,j,OA,OA,λr T v U dT W b X=>q r T v U #[W,OB] b (u.trans X)]
 refine#[_,Z,Z,_,Z,?_];refine bJ (λc=>?_) (λc=>?_)
 ·refine#[_,_,Z,Z,#[OA,OA,OA],_,_,Z,Z,_,Z,p,4,Z,l,OA,OA,λD v d x b z=>#[_,_,Z,Z,cj,λr n=>?_]];exact q r (.num (1000000000000000000 - 1 - D)) _ jc #[#[OB,OB],(by show 0 < 6;decide)] (b.upd_new n) ((u.trans$ au.of_eq z).upd_new n)
 ·refine#[_,Z,p,12,Z,l,OA,OA,λD v d x b z=>#[cj,λr n=>?_]];exact q r (.num D) _ jc #[#[d,OB],(by show 0 < 6;decide)] (b.upd_new n) ((u.trans$ au.of_eq z).upd_new n)
theorem io:al z37z z6z (aa pW):=bZ
noncomputable def Zw:Scope:=#[.function,[(".0",.local),("_law_one",.local),("_law_term",.globalImplicit),("_law_box_here",.free),("_law_names_here",.free)],false,false,[]]
theorem xO:(z34z:List Str).Nodup:=by decide+kernel
theorem wP:a7 z37z (aa pW) Zw z34z 1 [0,1]:=nE
def RH(p g h s:Addr)(d:Nat)(k:Int)(y:Str)(H:Hp)(a:_L.St)(b:Hp):Prop:=a=[some$ .ref p,some$ .ref g,some$ .ref h,some$ .ref s,some$ .int (d:Int),some$ .int k,some$ .str y,none,none,none]/\b=H
theorem yf(F:aU K "_law_statement" "_law_statement" pW f fd)(cT:Cl P w K mg base 1 fT f0 z0z aW "_law_take")(cM:Cl P w K mg base 6 fM f3 z9z (cn 4) "_law_term")(cP:Cl P w K mg base 7 fP f4 z27z gY "_law_spot"){L:Nat}(cB:Cl P w K mg base (L+9) fB f5 z6z (fh n) "_law_body")(ml:mg "len"=none)(m0:mg "tuple"=none):aj P w K mg base aC (L+10) f fd z6z (ip$ n+1):=by
 refine F.ok io ?_ λc3 A o2 s H vs Q E U h=>?_
 ·rintro _ _ _ _ ⟨p,g,h,S,d,ys,hs,rfl,_⟩;rfl
 obtain⟨p,g,h,S,d,ys,hs,rfl,G0,hd,b5,q⟩:=h;refine#[_,(jd (jy 5 io.nd$ cT.e U.m$ ja (pv 0)$ ja je jb)$ jd (jy 6 io.nd$ jv jo (pv 1) (cT.e U.m$ ja (pv 0)$ ja (jP jJ Z ml F'$ ja (pv 1) jb) jb) (λ_ _=>Z))$ jd (kH (jq kI (jv jo (pv 3) je (λ_ _=>Z)) je)$ qC (pv 3) je zz)$ jd (ju (jA JY (pv 5) je$ aA _) (jg$ jl$ ji$ ja jj$ ja (pv 6)$ ja (cP.e U.m$ ja (pv 0)$ ja (pv 1) jb) jb) jm)$ jd (ju (PW.pt$ Q2 (zb$ pv 5)$ J9$ zb$ pv 5) (jg$ jl$ ji$ ja jj$ ja (cP.e U.m$ ja (pv 0)$ ja (pv 1) jb)$ ja (cM.e U.m$ ja (pv 0)$ ja (pv 1)$ ja je jb) jb) jm)$ jd (ju (PW.pt$ Q2 (zb$ pv 5)$ J9$ zb$ pv 5) (jd (kH (jv jo (pv 2) (cT.e U.m$ ja (pv 0)$ ja (jP jJ Z ml F'$ ja (pv 2) jb) jb) (λ_ _=>Z))$ zT (n:=2) Z$ jz (jr (i:=7) io.nd Z$ Or.inl Z)$ jz (jr (i:=8) io.nd Z$ Or.inl Z) kK)$ jg$ jl$ ji$ ja jj$ ja (pv 6)$ ja (pv 7)$ ja (jC jF Z m0 Gx$ ja (@kn _ _ _ _ _ _ _ (z34z) (1) ([0,1]) _ _ _ _ Z (zq$ pv 8) wP (λ_ _ _ _ _=>(jr (i:=0) xO Z$ Or.inl Z)) (λ_ _ _ _ _=>(@zr _)) (λ_ _ _ _ _=>(cM.e U.m$ ja (pv 1)$ ja (pv 2)$ ja je jb)) (by intro _;rfl)) jb) jb) jm)$ jd (jX$ ju (PW.pt$ Ka (zb$ pv 5)$ qR$ jA qN (pv 4) je$ aA _) (jd (jy 9 io.nd$ cB.e U$ ja (pv 0)$ ja (pv 1)$ ja (pv 2)$ ja (pv 3)$ ja (jq kI (pv 4) je) jb)$ jg$ jl$ ji$ ja jj$ ja (cM.e U.m$ ja (pv 0)$ ja (pv 1)$ ja je jb)$ ja (pv 9)$ ja (cB.e U$ ja (pv 0)$ ja (pv 1)$ ja (pv 2)$ ja (pv 3)$ ja (jq kI (pv 4) je) jb) jb) jm)$ jd (jX$ ju (PW.pt$ Ka (zb$ pv 5)$ qR$ jA qN (pv 4) je$ aA _) (jg$ jl$ ji$ ja jj$ ja (cM.e U.m$ ja (pv 0)$ ja (pv 1)$ ja je jb)$ ja (cB.e U$ ja (pv 0)$ ja (pv 1)$ ja (pv 2)$ ja (pv 3)$ ja (jq kI (pv 4) je) jb) jb) jm)$ jd (ju (zb$ pv 5) (jg$ jl$ ji$ ja jj$ ja (cM.e U.m$ ja (pv 0)$ ja (pv 1)$ ja je jb) jb) jm)$ jg$ jl$ ji$ ja jj$ ja (pv 6)$ ja (cM.e U.m$ ja (pv 0)$ ja (pv 1)$ ja je jb) jb),?_];have b7:=aQ;have B:=G0.B;have b9:g≠p:=qh B G0.g;refine ah λF1 u=>#[_,Z,p,10,Z,B,OA,OA,λkd H1 k0 k1 B1 e1=>u _ _ ?_];clear u;have G1:=G0.but B1 (au.of_eq e1);have y1:=G0.y1;have y2:=G0.y2;refine ah λF1 u=>#[_,Z,_,Z,_,Z,g,_,Z,.inl$ aF.of G1.g,p,_,Z,B1,by rw[Ec];omega,by rw[Ec];omega,λd2 H2 d1 d0 B2 e2=>?_];rw[Ec]at d0;have G2:=G1.but B2 (au.of_eq e2);obtain⟨y,hy,a1⟩:=Kd (ys:=ys) d1 d0;refine#[g,_,_,_,Z,Z,aF.of G2.g,a1,u _ _ ?_];clear u;obtain⟨k,hk⟩:=G2.s;have ek:fc H S=k:=((kf B1 G1.s$ au.of_eq e2).trans$ kf B G0.s$ au.of_eq e1).symm.trans (Jo hk);refine ah λF1 u=>#[_,Z,S,_,_,_,Z,Z,aF.of hk,Z,_,_,Z,Z,_,Z,S,_,_,0,Z,Z,hk,Z,u _ _ ?_];clear u;have s0:=G2.s.ne B2;have B3:aq (af H2 S$ .lst ([.int k].set 0 (.int$ k - 1))) p:=B2.eq (jh$ EA s0);have s3:di (af H2 S$ .lst ([.int k].set 0 (.int$ k - 1))) S:=#[k - 1,jc];have K3:aR p S H (af H2 S$ .lst ([.int k].set 0 (.int$ k - 1))):=((au.of_eq e1).trans$ au.of_eq e2).two.trans aR.at;have G:=G0.but2 B3 s3 K3;have e3:fc (af H2 S$ .lst ([.int k].set 0 (.int$ k - 1))) S=k - 1:=Jo jc;generalize af H2 S (.lst ([.int k].set 0 (.int$ k - 1)))=H3 at B3 s3 K3 G e3;have l0:∀(l:Lf) (M:List V) (j:Hp) (r:Addr),sI j l M->l.Ok ys->l.Cs (hs.map λc=>(c.1,c.2.length))->lJ j p g h S ys hs->aR p S H j->fc j S=k - 1->j r=none->Q (.ref r) (af j r$ .tup M):=λl M j r hl ok cs C K4 e4 nr=>
  q r (.lf r l .nil) _ #[M,[],Z,jc,hl.mono$ ae.tm$ jf nr,Z] (by rw[j8 C.s$ jf nr];show((0+1:Nat):Int)+_<=_;omega) (by rw[j8 C.s$ jf nr];omega) (xp ok cs) (C.B.upd_new nr) (C.s.new nr) (K4.trans$ aR.of_same$ jf nr)
 refine ah λF1 u=>mn λG' D=>#[_,Z,_,_,Z,Z,_,Z,D _ _ ?_];clear D;refine bJ (λc=>?_) (λc=>u _ _ ?_)
 ·refine#[_,Z,_,Z,_,Z,p,g,ys,Z,G.B,G.g,y1,y2,λr T j W oT B4 J=>#[f8,λt N=>?_]];exact l0 (.rd y r T) _ j t #[Z,W] #[hy,oT] trivial (G.but B4 J) (K3.trans J.two) ((kf G.B G.s J).trans e3) N
 have wr:∀(r:Addr) (T0:Tm) (j:Hp),aO j T0 r->dj ys T0->aq j p->au p H3 j->dB (cn 4) [] E0 (ak (bh 0)$ ak (bh 1)$ ak (tC$ .int 2) aP) [some$ .ref p,some$ .ref g,some$ .ref h,some$ .ref S,some$ .int (d:Int),some$ .int kd,some$ .str y,none,none,none] j (λv o=>3<=sizeLine/\∀t,o t=none->Q (.ref t) (af o t$ .tup [.str "write",.ref r,v])):=λr T0 j h4 o1 B4 J=>by refine#[_,Z,_,Z,p,g,2,ys,Z,B4,(G.but B4 J).g,y1,y2,OA,OA,λX T o W dT gT R a=>#[OA,λt N=>?_]];exact l0 (.wr r X T0 T) _ o t #[Z,h4.but B4 a,W] #[o1,gT,OB] trivial (G.but R$ J.trans a) (K3.trans (J.trans a).two) ((kf G.B G.s$ J.trans a).trans e3) N
 refine ah λF1 u=>mn λG' D=>?_;have Y:G' true H3:=D _ _ (xC #[_,Z,_,Z,p,g,ys,Z,G.B,G.g,y1,y2,λr T0 j h4 o1 B4 J=>wr r T0 j h4 o1 B4 J]);refine#[_,Z,Z,_,Z,bJ (λc=>Y) (λc=>#[_,Z,Z,_,Z,vE Y λc2=>D _ _ (aE c2$ u _ _ ?_)])];clear Y D u;obtain⟨hv,hh,hH⟩:=G.h;have hl:=hH.len;have h1:=G0.h1;have h2:=G0.h2;have c1:∀(f':Str) (ps:List Str) (h9:(f',ps.length)∈hs.map λc=>(c.1,c.2.length)) (t:Addr) (j:Hp),lJ j p g h S ys hs->aR p S H j->fc j S=k - 1->j t=some (.tup$ ps.map V.str)->ps.length<=6->
   dW (su K t) 1 [some$ .ref p,some$ .ref g] (bf 0) lF (dB (cn 4) [] E0$ ak (bh 1)$ ak (bh 2)$ ak (tC$ .int 1) aP) (λM o=>∀l,o l=none->∃p' y0,[V.ref l]=[.ref p']/\((aF K (af o l$ .lst M) p' y0/\∀l2,af o l (.lst M) l2=none->4<=sizeLine/\∀r,af (af o l$ .lst M) l2 (.tup y0) r=none->Q (.ref r) (af (af (af o l$ .lst M) l2$ .tup y0) r$ .tup [.str "call",.str y,.str f',.ref l2]))∨(aD K (af o l$ .lst M) p' y0/\4<=sizeLine/\∀r,af o l (.lst M) r=none->Q (.ref r) (af (af o l$ .lst M) r$ .tup [.str "call",.str y,.str f',.ref p'])))) j:=λf' ps h9 t j C K4 e4 ht c4=>by
  refine zo (K:=K) (xs:=ps.map V.str) (by rw[Ec];omega) (λi M o=>∃ts:List (Addr×Tm),M=ts.map (λc=>V.ref c.1)/\ts.length=i/\(∀c∈ts,aO o c.2 c.1/\dj ys c.2)/\aq o p/\au p j o) #[[],Z,Z,(λ_ h=>absurd h EC),C.B,au.refl] (λi M o h5=>?_) ?_ ?_
  ·obtain⟨ts,rfl,e5,_,_,a⟩:=h5;exact#[aD.of$ a.tm C.B _ _ ht,by rw[Ec,e5];exact Ee _]
  ·intro i x M o hx a2;obtain⟨ts,rfl,e5,h5,R,a⟩:=a2;refine#[_,Z,_,Z,p,g,1,ys,Z,R,(C.but R a).g,y1,y2,OA,OA,λX T H6 W dT gT B6 k6=>#[ts++[(X,T)],by rw[EF];rfl,by rw[Eg,e5];rfl,λc hc=>?_,B6,a.trans k6]];rcases List.mem_append.mp hc with hc |hc
   ·exact#[(h5 c hc).1.but R k6,(h5 c hc).2]
   ·rw[List.mem_singleton.mp hc];exact#[W,gT,(by show T.depth < 6;omega)]
  ·rintro M o ⟨ts,rfl,e5,h5,R,a⟩ l nl;refine#[l,_,Z,.inl #[aF.of jc,λl2 n0=>#[OA,λr nr=>?_]]];have O:=C.but R a;have s6:ae o (af (af o l$ .lst$ ts.map λc=>V.ref c.1) l2$ .tup$ ts.map λc=>V.ref c.1):=(jf nl).trans (jf n0);rw[Ec]at e5;exact l0 (.cl y f' l2 ts) _ _ r #[Z,jc,λc hc=>(h5 c hc).1.same s6] #[hy,OB,λc hc=>(h5 c hc).2] (by show(f',ts.length)∈_;rw[e5];exact h9) (O.but2 ((O.B.upd_new nl).upd_new n0) ((O.s.new nl).new n0)$ aR.of_same s6) ((K4.trans a.two).trans$ aR.of_same s6) ((j8 O.s s6).trans ((kf C.B C.s a).trans e4)) nr
 refine ah λF1 u=>mn λG' D=>?_;have Y:G' true H3:=by refine D _ _$ xC ?_;clear u D;refine ah λF2 f2=>#[_,Z,_,Z,_,Z,h,_,Z,.inl$ aF.of hh,p,_,Z,G.B,OB,OB,λd4 j d3 d5 B4 e4=>?_];have C:=G.but B4 (au.of_eq e4);have J:au p H3 j:=au.of_eq e4;have a3:=hH.mono (J.tm G.B);obtain⟨v,c0,a4,h',p4,t4,rfl,z1,z2⟩:=yv a3 d3 d5;refine#[h,_,_,_,Z,Z,aF.of$ J _ _ G.hsp.2 hh,a4,p4,_,Z,aD.of z1,Z,_,_,Z,_,_,Z,Z,f2 _ _ ?_];clear f2;refine#[_,Z,_,Z,_,Z,t4,Z,#[_,aD.of z2],?_];exact c1 c0.1 c0.2 (List.mem_map.mpr #[c0,h',Z]) t4 j C (K3.trans J.two) ((kf G.B G.s J).trans e3) z2$ G0.h3 c0 h'
 refine#[_,Z,Z,_,Z,bJ (λc=>Y) (λc=>#[_,Z,Z,_,Z,vE Y λc2=>D _ _ (aE c2$ u _ _ ?_)])];clear Y D u;have l1:∀(c:(0:Int) < (d:Int)),∃d':Nat,d=d'+1:=λc=>#[d - 1,OB];refine ah λF1 u=>dk (RH p g h S d kd y H3) (λE6 eR f6=>?_) λσ0 H' z=>?_
 ·clear u;refine mn λG' D=>#[_,Z,Z,_,Z,?_];refine bJ (λc=>?_) (λc=>D _ _ (tF$ f6 _ _ #[Z,Z]));refine#[_,Z,_,_,Z,Z,_,Z,D _ _ ?_];clear D;refine bJ (λc2=>?_) (λc2=>f6 _ _ #[Z,Z]);clear f6;obtain⟨d',rfl⟩:=l1 (Fm c2);have ed:(((d'+1:Nat):Int) - 1)=((d':Nat):Int):=by omega
  refine#[_,Z,_,Z,_,Z,_,Z,_,Z,_,_,Z,Z,p,g,h,S,d',ys,hs,(by show [V.ref p,V.ref g,V.ref h,V.ref S,V.int (((d'+1:Nat):Int) - 1)]=_;rw[ed]),G,OB,OB,λr b bs j a' b1 c5 b2 b4 B4 s4 J=>?_];have C:=G.but2 B4 s4 J;refine#[_,Z,_,Z,p,g,2,ys,Z,C.B,C.g,y1,y2,OA,OA,λX T o W dT gT R a=>?_];have O:=C.but R a;refine#[_,Z,_,Z,_,Z,_,Z,_,Z,_,Z,_,_,Z,Z,p,g,h,S,d',ys,hs,(by show [V.ref p,V.ref g,V.ref h,V.ref S,V.int (((d'+1:Nat):Int) - 1)]=_;rw[ed]),O,OB,(by rw[kf C.B C.s a];exact b2),λr3 b3 b0 H6 h6 h7 a0 h8 h0 B6 s6 k6=>#[sD,λt N=>?_]];have G6:=O.but2 B6 s6 k6;have tm:ai j H6:=λb' xs e=>k6.tm O.B O.s _ _ (a.tm C.B _ _ e);have I:ai H6 (af H6 t$ .tup [.str "if",.ref X,.ref r,.ref r3]):=ae.tm (jf N);rw[eR];refine q t (.ite t X T b b3 .nil) _ #[r,r3,bs,b0,[],Z,jc,(W.mono$ k6.tm O.B O.s).mono I,I _ _$ tm _ _ a',I _ _ h6,(b1.mono tm).mono I,h7.mono I,Z] (by have x1:=kf C.B C.s a;rw[j8 G6.s$ jf N];show((b.size+b3.size+0+1:Nat):Int)+_<=_;omega) (by rw[j8 G6.s$ jf N];exact h8) (sW #[gT,OB] b4 h0) (G6.B.upd_new N) (G6.s.new N) (((K3.trans J).trans$ a.two.trans k6).trans$ aR.of_same$ jf N)
 obtain⟨rfl,e⟩:=z;rw[e];refine u _ _ ?_;clear u;refine ah λF1 u=>dk (RH p g h S d kd y H3) (λE6 eR f6=>?_) λσ0 H' z=>?_
 ·clear u;refine mn λG' D=>#[_,Z,Z,_,Z,?_];refine bJ (λc=>?_) (λc=>D _ _ (tF$ f6 _ _ #[Z,Z]));refine#[_,Z,_,_,Z,Z,_,Z,D _ _ ?_];clear D;refine bJ (λc2=>?_) (λc2=>f6 _ _ #[Z,Z]);clear f6;obtain⟨d',rfl⟩:=l1 (Fm c2);have ed:(((d'+1:Nat):Int) - 1)=((d':Nat):Int):=by omega
  refine#[_,Z,_,Z,p,g,2,ys,Z,G.B,G.g,y1,y2,OA,OA,λX T o W dT gT R a=>?_];have O:=G.but R a;refine#[_,Z,_,Z,_,Z,_,Z,_,Z,_,_,Z,Z,p,g,h,S,d',ys,hs,(by show [V.ref p,V.ref g,V.ref h,V.ref S,V.int (((d'+1:Nat):Int) - 1)]=_;rw[ed]),O,OB,(by rw[kf G.B G.s a];omega),λr3 b3 b0 H6 h6 h7 a0 h8 h0 B6 s6 k6=>#[f8,λt N=>?_]];have G6:=O.but2 B6 s6 k6;have I:ai H6 (af H6 t$ .tup [.str "while",.ref X,.ref r3]):=ae.tm (jf N);rw[eR];refine q t (.loop t X T b3 .nil) _ #[r3,b0,[],Z,jc,(W.mono$ k6.tm O.B O.s).mono I,I _ _ h6,h7.mono I,Z] (by have x1:=kf G.B G.s a;rw[j8 G6.s$ jf N];show((b3.size+0+1:Nat):Int)+_<=_;omega) (by rw[j8 G6.s$ jf N];exact h8) (on #[gT,OB] h0) (G6.B.upd_new N) (G6.s.new N) ((K3.trans$ a.two.trans k6).trans$ aR.of_same$ jf N)
 obtain⟨rfl,e⟩:=z;rw[e];refine u _ _ ?_;clear u;refine ah λF1 u=>mn λG' D=>#[_,Z,Z,_,Z,D _ _ ?_];clear D;refine bJ (λc=>?_) (λc=>u _ _ ?_)
 ·refine#[_,Z,_,Z,p,g,2,ys,Z,G.B,G.g,y1,y2,OA,OA,λX T o W dT gT R a=>#[cj,λt N=>?_]];exact l0 (.gv X T) _ o t #[Z,W] #[gT,OB] trivial (G.but R a) (K3.trans a.two) ((kf G.B G.s a).trans e3) N
 ·refine#[_,Z,_,Z,_,Z,p,g,3,ys,Z,G.B,G.g,y1,y2,OA,OA,λX T o W dT gT R a=>#[f8,λt N=>?_]];exact l0 (.st y X T) _ o t #[Z,W] #[hy,gT,OB] trivial (G.but R a) (K3.trans a.two) ((kf G.B G.s a).trans e3) N
theorem lX:al ["_law_box_here","_law_names_here","_law_heads","_law_spare","_law_deep","_law_body_here","_law_k"] z6z (aa mz):=bZ
theorem YS(F:aU K "_law_body" "_law_body" mz f fd)(cT:Cl P w K mg base 1 fT f0 z0z aW "_law_take"){L:Nat}(cS:Cl P w K mg base (L+8) fS f1 z6z (ip n) "_law_statement")(mr:mg "range"=none)(m2:mg "tuple"=none):aj P w K mg base aC (L+9) f fd z6z (fh n):=by
 refine F.ok lX ?_ λc0 A o1 s H v Q E hr h=>?_
 ·rintro _ _ _ _ ⟨p,g,h,S,d,ys,hs,rfl,_⟩;rfl
 obtain⟨p,g,h,S,d,ys,hs,rfl,G,hd,h0,q⟩:=h;refine#[_,(jd (jy 5 lX.nd$ jD jb)$ jd (ze Fk Z (kS Z mr$ ja (cT.e hr.m$ ja (pv 0)$ ja je jb) jb) (jr (i:=6) lX.nd Z$ Or.inl Z)$ jg$ ju (jA qN (jv jo (pv 3) je (λ_ _=>Z)) je$ aA _) (jg$ jS$ kM EH ET ES jY (pv 5)$ ja (cS.e hr$ ja (pv 0)$ ja (pv 1)$ ja (pv 2)$ ja (pv 3)$ ja (pv 4) jb) jb) jm)$ jg$ jl$ jC jF Z m2 Gx$ ja (pv 5) jb),?_];have b0:=aQ;refine#[Ek _,λl N=>?_];have s0:ae H (af H l$ .lst []):=jf N;have O:lJ (af H l$ .lst []) p g h S ys hs:=G.but2 (G.B.upd_new N) (G.s.new N) (aR.of_same s0);have l1:af H l (.lst []) l=some (.lst []):=jc;have lp:l≠p:=G.B.ne N;have D:l≠S:=λe=>by obtain⟨k,z⟩:=G.s;rw[<- e,N]at z;cases z
 have k1:aR p S H (af H l$ .lst []):=aR.of_same s0;have R:fc (af H l$ .lst []) S=fc H S:=j8 G.s s0;generalize af H l (.lst [])=H1 at O l1 k1 R;refine#[_,Z,p,6,Z,O.B,OA,OA,λm H2 m0 m1 B2 e2=>#[_,Z,OB,OB,?_]];have G2:=O.but B2 (au.of_eq e2);refine Qe (lo:=0) (λi σ I=>∃(o6:Option V) (v:List V) (b:Bd),σ=[some$ .ref p,some$ .ref g,some$ .ref h,some$ .ref S,some$ .int (d:Int),some$ .ref l,o6]/\I l=some (.lst v)/\c7 I b v/\((b.size:Int)+fc I S<=fc H S/\0<=fc I S)/\b.fit hs ys d/\v.length<=i/\aq I p/\di I S/\aR p S H I)
  #[none,[],.nil,Z,by rw[e2 l lp];exact l1,Z,(by rw[kf O.B O.s$ au.of_eq e2,R];exact#[by show((0:Nat):Int)+_<=_;omega,h0]),YQ,Ek _,B2,G2.s,k1.trans (au.of_eq e2).two] ?_ ?_
 ·intro i σ H3 hi J;obtain⟨o6,v,b,rfl,a,u,j,x,h1,T,C,U⟩:=J;have G3:=G.but2 T C U;obtain⟨kk,W⟩:=id C;refine#[_,Z,S,_,_,_,Z,Z,aF.of W,Z,_,_,Z,Z,_,Z,?_];refine bJ (λc=>?_) (λc=>?_)
  ·refine#[_,Z,.inl #[Z,_,aF.of a],_,Z,_,Z,_,Z,_,Z,_,Z,p,g,h,S,d,ys,hs,Z,G3,hd,(by rw[Jo W];exact Fm c),λr b4 H4 h2 h5 h3 h4 B4 s4 k4=>?_];have X:H4 l=some (.lst v):=k4 _ _ lp D a;refine#[l,_,_,Z,Z,X,OB,?_];have tm:ai H4 (af H4 l$ .lst$ v++[.ref r]):=λb' xs e=>by rw[jh$ jB e X (by intro z;cases z)];exact e
   have Y:ai H3 H4:=k4.tm T C;refine#[_,_,b.app b4,Z,jc,(h2.mono tm).app ((u.mono Y).mono tm),?_,YR x h4,by rw[Eg];show v.length+1<=i+1;omega,B4.eq$ jh$ EA lp,?_,λb' o n1 n2 e=>?_]
   ·rw[jT,XT s4 λo e=>by rw[jh$ EA D];exact e];obtain⟨z1,z2⟩:=j;exact#[OB,h3]
   ·obtain⟨z,hz⟩:=s4;exact#[z,by rw[jh$ EA D];exact hz]
   ·rw[jh$ jk e N];exact k4 _ _ n1 n2$ U _ _ n1 n2 e
  ·exact#[_,v,b,Z,a,u,j,x,OB,T,C,U]
 ·intro σ H3 J;obtain⟨o6,v,b,rfl,a,u,j,x,h1,T,C,U⟩:=J;refine#[_,Z,l,v,Z,.inl #[aF.of a,λt M=>?_]];have hm:(m).toNat<=5:=by omega
  refine q t b v _ jc (u.mono$ ae.tm$ jf M) (by rw[j8 C$ jf M];exact j.1) (by rw[j8 C$ jf M];exact j.2) x (T.upd_new M) (C.new M)$ U.trans$ aR.of_same$ jf M
theorem oU:aj P w K mg base aC 8 f c z6z (ip 0):=by
 have n:∀v H Q E,¬ip 0 v H Q E:=λv H Q E h=>by obtain⟨p,g,h,S,d,y,e,_,_,b,_⟩:=h;exact absurd b$ Hd _
 exact#[λv H Q E h=>absurd h (n v H Q E),λA o s H a u v Q E _ _ _ _ h=>absurd h (n v H Q E)]
theorem BG(F:aU K "_law_statement" "_law_statement" pW f e)(FB:aU K "_law_body" "_law_body" mz g a)(c:Cl P w K mg base 1 r k z0z aW "_law_take")(C:Cl P w K mg base 6 s l z9z (cn 4) "_law_term")(h:Cl P w K mg base 7 t o z27z gY "_law_spot")(b:ax K e z6z [])(M:mg "_law_statement"=some (.ref f))(B:ax K a z6z [])(i:mg "_law_body"=some (.ref g))(j:mg "len"=none)(m:mg "tuple"=none)(d:mg "range"=none):
  ∀n:Nat,aj P w K mg base aC (n+n+8) f e z6z (ip n)/\aj P w K mg base aC (n+n+9) g a z6z (fh n)
 |0=>#[oU,YS (L:=0) FB c #[oU,b,F.kp,M] d m]
 |n+1=>by
  have I:=BG F FB c C h b M B i j m d n;have E:n+n+10=n+1+(n+1)+8:=by omega
  have p:n+n+2+9=n+1+(n+1)+9:=by omega
  have H:=yf (L:=n+n) F c C h #[I.2,B,FB.kp,i] j m;have q:=YS (L:=n+n+2) FB c #[H,b,F.kp,M] d m;rw[<- E,<- p];exact#[H,q]
theorem AA{x:List V}(h:k<=x.length):aV x none (some (k:Int))=x.take k:=by
 unfold aV;rw[HT.sIx_nat,HT.sIx_none];have e:min k x.length=k:=by omega
 rw[e];simp
noncomputable abbrev yw:Stmt:=top 46
theorem sS(h:0<=d)(H:d < 4):∃D:Nat,dF [V.int 3,.int 3,.int 3,.int 5] d=some (.int (D:Int))/\D < 6/\DO D<=111111/\D<=5:=by
 rcases(by omega:d=0∨d=1∨d=2∨d=3) with rfl |rfl |rfl |rfl
 ·exact#[3,Z,OA,OA,OA]
 ·exact#[3,Z,OA,OA,OA]
 ·exact#[3,Z,OA,OA,OA]
 ·exact#[5,Z,OA,OA,OA]
theorem oi{ys:List Str}{k:Int}(h:ys.length=20)(H:14<=k)(a:k<=20):1<=(a8 ys (some 8)$ some k).length/\(a8 ys (some 8)$ some k).length<=20:=by
 refine#[?_,by have:=qm ys (some 8) (some k);omega];have e:(8:Int)=((8:Nat):Int):=rfl;have E:k=((k.toNat:Nat):Int):=by omega
 unfold a8;rw[e,E,HT.sIx_nat,HT.sIx_nat,EJ,Gh];omega
theorem sQ{ss:List Str}(h:0<=k):(a8 ss none$ some k).length<=k.toNat:=by
 have e:k=((k.toNat:Nat):Int):=by omega
 unfold a8;rw[e,HT.sIx_nat,HT.sIx_none,EJ];omega
theorem eP{t u:TS}(h:∀E:aJ,(∀a b,u D a b->E.nx a b)->t E c H):dU t u D c H:=h { D with nx:=u D } λ_ _ h=>h
def Am(h:List (Str×List Str)):Prop:=∀c∈h,c.1.length<=20/\c.2.length<=6
def DS(H:Hp)(D:List Df):Prop:=∀d∈D,∃p:List Str,H d.pa=some (.tup$ p.map V.str)/\p.length<=100
theorem Jc{a:Type}{P:a->Prop}{X:List a}{x:a}(h:∀c∈X,P c)(H:P x):∀c∈X++[x],P c:=λc b=>by
 rcases List.mem_append.mp b with h1 |h1
 ·exact h c h1
 ·rw[List.mem_singleton.mp h1];exact H
def lK(H:Hp)(D:List Df)(N:List Nat):Prop:=D.length=N.length/\∀(i:Nat) (d:Df) (n:Nat),D[i]?=some d->N[i]?=some n->∃p:List Str,H d.pa=some (.tup$ p.map V.str)/\p.length=n/\n<=100
theorem lK.mono(h:lK H D N)(k:ai H a):lK a D N:=#[h.1,λi d n b c=>let #[p,e,l]:=h.2 i d n b c;#[p,k _ _ e,l]]
theorem lK.snoc{d:Df}{p:List Str}(h:lK H D N)(e:H d.pa=some (.tup$ p.map V.str))(l:p.length<=100):lK H (D++[d]) (N++[p.length]):=by
 refine#[by rw[Eg,Eg,h.1];rfl,λi c n a b=>?_];by_cases f:i < D.length
 ·rw[Go f]at a;rw[Go (by rw[<- h.1];exact f)]at b;exact h.2 i c n a b
 ·have g:i < (D++[d]).length:=(List.getElem?_eq_some_iff.mp a).1;rw[Eg]at g;have E:i=D.length:=by have:i < D.length+1:=g;omega
  subst E;rw[FR$ Ee _,Hw]at a;rw[h.1,FR$ Ee _,Hw]at b;cases a;cases b;exact#[p,e,Z,l]
theorem lK.v(h:lK H D n):DS H D:=λd b=>by
 obtain⟨i,a,e⟩:=List.mem_iff_getElem.mp b;have c:D[i]?=some d:=by rw[<- e];exact Ed a
 obtain⟨p,e,l,k⟩:=h.2 i d _ c (Ed (by rw[<- h.1];exact a));exact#[p,e,OB]
def nR(D:List Df)(n:List Nat):Prop:=(∀d∈D,iZ d/\d.b.Cs ((D.map Df.f).zip n))/\(D.map Df.f).Nodup/\∀y∈D.map Df.f,y.length<=20
inductive mR(c:List V)(H:Hp)(Q:VK)(a:XK):Prop
 |mk(p:Addr)(T b:Int)(_:c=[.ref p,.int T,.int b])(_:aq H p)(_:1<=T)(_:T<=8)(_:0<=b)(_:b<=40)(_:∀(r:Addr) (ds:List Df) (xs:List V) (H':Hp),H' r=some (.tup xs)->bX H' ds xs->(ds.length:Int)=T->∀ns:List Nat,nR ds ns->lK H' ds ns->aq H' p->au p H H'->Q (.ref r) H')
theorem cr:al ["_law_box_here","_law_total","_law_room","_law_words","_law_most","_law_heads","_law_k","_law_turn","_law_row","_law_some","_law_deep","_law_defs","_law_f","_law_params","_law_spare","_law_body_here"] z35z (aa yw):=bZ
inductive AJ(p k:Addr)(T j:Int)(H:Hp)(b:_L.St)(c:Hp):Prop
 |mk(a:List Str)(d:b=[some (.ref p),some (.int T),some (.int j),some (.ref k),none,none,none,none,none,none,none,none,none,none,none,none])(e:c k=some (.lst (a.map V.str)))(f:a.length=20)(g:(∀y∈a,y.length<=20)/\(a.take 8).Nodup)(h:aq c p)(i:au p H c)
inductive AI(p t k:Addr)(T s m:Int)(u:List Str)(H:Hp)(i:Nat)(v:_L.St)(a:Hp):Prop
 |mk(o q r:Option V)(l:List (Str×List Str))(n:List V)(b:v=[some (.ref p),some (.int T),some (.int s),some (.ref t),some (.int m),some (.ref k),o,q,r,none,none,none,none,none,none,none])(c:a k=some (.lst n))(d:dq a l n)(e:l.length=i)(f:Am l/\l.map (·.1)=u.take i)(g:a t=some (.lst (u.map V.str)))(h:aq a p)(j:au p H a)
inductive AK(p G y F h:Addr)(T E m:Int)(j:Nat)(I:List Str)(z:List (Str×List Str))(A:List V)(H:Hp)(i:Nat)(J:_L.St)(g:Hp):Prop
 |mk(B C D b c e f:Option V)(k:List Df)(l:List V)(n:J=[some (.ref p),some (.int T),some (.int E),some (.ref G),some (.int m),some (.ref y),B,C,D,some (.ref F),some (.int (j:Int)),some (.ref h),b,c,e,f])(o:g h=some (.lst l))(q:bX g k l)(r:k.length=i)(s:(∀d∈k,iZ d/\d.b.Cs (z.map λc=>(c.1,c.2.length)))/\k.map Df.f=(z.map (·.1)).take i)(t:g y=some (.lst A))(u:dq g z A)(v:g F=some (.lst (I.map V.str)))(w:aq g p)(x:au p H g)(a:lK g k ((z.map λc=>c.2.length).take i))
inductive AL(v:List (Str×List Str))(D:List Str)(p C u z h B A:Addr)(T y m:Int)(i:Nat)(w x:Option V)(c:Str×List Str)(e:Hp)(j:Nat)(E:_L.St)(d:Hp):Prop
 |mk(a:Option V)(f:Addr)(b:Bd)(g:List V)(k:E=[some (.ref p),some (.int T),some (.int y),some (.ref C),some (.int m),some (.ref u),a,w,x,some (.ref z),some (.int (i:Int)),some (.ref h),some (.str c.1),some (.ref B),some (.ref A),some (.ref f)])(l:d f=some (.tup g))(n:c7 d b g)(o:(b.size:Int)+fc d A<=y/\0<=fc d A)(q:b.fit v D i)(r:aq d p)(s:di d A)(t:aR p A e d)
theorem xY(F:aU K "_law_any" "_law_any" yw f fd)(cT:Cl P w K mg base 1 fT l4 z0z aW "_law_take")(cA:Cl P w K mg base 2 fA l5 z26z eS "_law_names")(cB:Cl P w K mg base 21 fB l6 z6z (fh 6) "_law_body")(ml:mg "len"=none)(mr:mg "range"=none)(m0:mg "tuple"=none)(mi:mg "int"=none):aj P w K mg base aC 22 f fd z35z mR:=by
 refine F.ok cr ?_ λl8 A o5 s H vs Q E hr h=>?_
 ·rintro _ _ _ _ ⟨p,T,Y,rfl,_⟩;rfl
 obtain⟨p,T,Y,rfl,B,l',m',f9,o',q⟩:=h;refine#[_,(jd (jy 3 cr.nd$ cA.e hr.m$ ja (pv 0)$ ja je jb)$ jd (jX$ ju (zb$ cT.e hr.m$ ja (pv 0)$ ja je jb) (jg$ kH (jK km (pv 3) kX$ jH je)$ @pF _ _ _ _ _ _ _ _ _ (pv 3) je je (by intro _;rfl)) jm)$ jd (jy 4 cr.nd$ jv jo (jD$ ja je$ ja je jb) (jC zP Z mi Mm$ ja (kW zD (cT.e hr.m$ ja (pv 0)$ ja je jb) je$ aA _) jb) (λ_ _=>Z))$ jd (jy 5 cr.nd$ jD jb)$ jd (ze Fk Z (kS Z mr$ ja (pv 1) jb) (jr (i:=6) cr.nd Z$ Or.inl Z)$ jd (jy 7 cr.nd$ jq jO je$ cT.e hr.m$ ja (pv 0)$ ja je jb)$ jd (jy 8 cr.nd$ jq qg (jK km (pv 3) (jH$ pv 7)$ jH je)$ jK km (pv 3) (jH je)$ jH$ pv 7)$ jg$ jS$ kM EH ET ES jY (pv 5)$ ja (ji$ ja (jv jo (pv 3) (pv 6) (λ_ _=>Z))$ ja (jC jF Z m0 Gx$ ja (jK km (pv 8) kX$ jH$ cT.e hr.m$ ja (pv 0)$ ja (pv 4) jb) jb) jb) jb)$ jd (jy 9 cr.nd$ jK km (pv 3) (jH je)$ jH$ jq jO je$ cT.e hr.m$ ja (pv 0)$ ja je jb)$ jd (jy 10 cr.nd$ jv jo (jD$ ja je$ ja je$ ja je$ ja je jb) (cT.e hr.m$ ja (pv 0)$ ja je jb) (λ_ _=>Z))$ jd (jy 11 cr.nd$ jD jb)$ jd (ze Fk Z (JP$ pv 5) (zT (n:=2) Z$ jz (jr (i:=12) cr.nd Z$ Or.inl Z)$ jz (jr (i:=13) cr.nd Z$ Or.inl Z) kK)$ jd (jy 14 cr.nd$ jD$ ja (pv 2) jb)$ jd (jy 15 cr.nd$ ji jb)$ jd (ze Fk Z (kS Z mr$ ja je jb) (jr (i:=6) cr.nd Z$ Or.inl Z)$ jg$ jy 15 cr.nd$ jq kY (pv 15)$ cB.e hr$ ja (pv 0)$ ja (pv 9)$ ja (pv 5)$ ja (pv 14)$ ja (pv 10) jb)$ jg$ jS$ kM EH ET ES jY (pv 11)$ ja (ji$ ja (pv 12)$ ja (pv 13)$ ja (pv 15) jb) jb)$ jg$ jl$ jC jF Z m0 Gx$ ja (pv 11) jb),?_];have p1:=aQ;refine eP λE1 m1=>?_;refine#[_,Z,p,20,Z,B,OA,OA,λW ys H1 c5 f' c6 C B1 k1=>?_];refine m1 _ _ ?_;refine eP λE2 m2=>?_;have wp:W≠p:=B.ne c5;refine dk (AJ p W T Y H) (λE0 _ fm=>?_) λσ0 H2 l=>?_
 ·clear m2;refine mn λG' g'=>#[_,Z,p,2,Z,B1,OA,OA,λd1 H2 p2 p3 B2 e2=>?_];have h0:H2 W=some (.lst$ ys.map V.str):=by rw[e2 W wp];exact f'
  have k2:=k1.trans (au.of_eq e2);refine#[Z,_,Z,g' _ _ ?_];clear g';refine bJ (λc=>?_) (λc=>fm _ _ #[ys,Z,h0,OB,#[C.1,C.2.sublist$ Gp _ _],B2,k2]);refine#[_,Z,_,Z,W,_,Z,aF.of h0,λsl n0=>?_];have g0:W≠sl:=λe=>by rw[<- e,h0]at n0;cases n0
  have p4:=B2.ne n0;refine#[_,Z,W,sl,_,_,_,_,Z,Z,Z,Z,ao h0 n0,jc,g0,OA,OA,by rw[Ec];omega,?_,?_]
  ·have:=zd (ys.map V.str) none (some 2);rw[Ec]at this ⊢;omega
  have e2:aV (ys.map V.str) none (some 2)=(ys.take 2).map V.str:=by rw[show(2:Int)=((2:Nat):Int) from Z,AA (by rw[Ec];omega),HN]
  refine fm _ _ #[ys.take 8++ys.take 2++ys.drop 10,Z,?_,?_,?_,(B2.upd_new n0).eq$ jh$ EA wp,?_]
  ·rw[jc,e2,EF,EF,HN,Ny,HN];rfl
  ·rw[Eg,Eg,EJ,EJ,Gh];omega
  ·refine#[λy hy=>?_,?_]
   ·rcases List.mem_append.mp hy with h |h
    ·rcases List.mem_append.mp h with h |h
     ·exact C.1 y$ Fp h
     ·exact C.1 y$ Fp h
    ·exact C.1 y$ Ms h
   ·rw[HL,List.take_append_of_le_length (by rw[EJ];omega),Nl];exact C.2.sublist$ Gp _ _
  ·exact(k2.upd_new n0).upd_own c5
 obtain⟨ys,rfl,h0,c6,C,B2,k2⟩:=l;refine m2 _ _ ?_;clear m1 m2;refine eP λE3 m3=>?_;refine#[cj,λl1 n'=>?_];refine#[_,Z,p,3,Z,B2.upd_new n',OA,OA,λd2 H3 p6 p8 B3 e3=>?_];have k3:au p H2 H3:=((au.refl).upd_new n').trans (au.of_eq e3);have l0:=B2.ne n';have g1:H3 l1=some (.lst [.int 4,.int 7]):=by rw[e3 l1 l0];exact jc
 refine#[Z,.inr #[_,Z,?_]];have a4:∀c:Bool,∃m:Int,dF [V.int 4,V.int 7] (if c then 1 else 0)=some (.int m)/\4<=m/\m<=7:=λc=>by
  cases c
  ·exact#[4,Z,OA,OA]
  ·exact#[7,Z,OA,OA]
 obtain⟨m,hm,m4,m7⟩:=a4 _;refine#[l1,_,_,_,Z,Z,aF.of g1,hm,?_];refine m3 _ _ ?_;refine eP λE4 m4=>?_;have c9:H3 W=some (.lst$ ys.map V.str):=k3 _ _ wp h0;have k0:=k2.trans k3;refine#[Ek _,λhl n1=>?_];refine m4 _ _ ?_;refine eP λE5 m5=>?_;have h4:=B3.ne n1;have n5:H hl=none:=by
  cases z:H hl with
  |none=>rfl
  |some o=>have:=k0 _ _ h4 z;rw[n1]at this;cases this
 have wh:W≠hl:=λe=>by rw[<- e,c9]at n1;cases n1
 refine gF λJ j=>#[_,Z,T,Z,OB,OB,j _ _ ?_];clear j;refine zC (lo:=0) (AI p W hl T Y m ys H)
  #[none,none,none,[],[],Z,jc,Z,Z,#[(λc hc=>nomatch hc),Z],ao c9 n1,B3.upd_new n1,k0.upd_own n5] ?_ ?_
 ·intro D' _ i σ H4 hi f0 Gq u l;obtain⟨o6,o7,o8,hs,hv,rfl,a',h6,c',h7,b1,B4,k4⟩:=l;refine u ?_;clear u m5 m3 m4;show dU (dn _ _) _ D' _ _;refine eP λF1 f1=>?_;refine#[_,Z,p,6,Z,B4,OA,OA,λD H5 g2 g4 B5 e5=>?_];have k5:au p H4 H5:=au.of_eq e5;have h8:=k5 _ _ wp b1;have b2:=k5 _ _ h4 a';have b3:=h6.mono (k5.tm B4);refine#[_,_,Z,Z,?_];refine f1 _ _ ?_;show dU (dn _ _) _ D' _ _;refine eP λF2 f2=>?_;refine#[_,Z,_,Z,_,Z,_,Z,W,_,Z,aF.of h8,λs1 b4=>?_];refine#[_,Z,_,Z,_,Z,_,Z,W,_,Z,aF.of$ ao h8 b4,λs2 b5=>?_];have L1:=qm ys (some (8+D)) (some 14);have L0:=qm ys (some 8) (some (8+D));have L3:=zd (ys.map V.str) (some (8+D)) (some 14);have L4:=zd (ys.map V.str) (some 8) (some (8+D));rw[Ec]at L3 L4;refine#[s1,s2,_,_,Z,Z,ao jc b5,jc,OB,λrl d4=>?_];refine f2 _ _ ?_;have er:aV (ys.map V.str) (some (8+D)) (some 14)++aV (ys.map V.str) (some 8) (some (8+D))=(a8 ys (some (8+D)) (some 14)++a8 ys (some 8) (some (8+D))).map V.str:=by rw[zA,zA,EF]
  have s6:ae H5 (af (af (af H5 s1$ .lst$ aV (ys.map V.str) (some (8+D))$ some 14) s2$ .lst$ aV (ys.map V.str) (some 8)$ some (8+D)) rl$ .lst$ aV (ys.map V.str) (some (8+D)) (some 14)++aV (ys.map V.str) (some 8) (some (8+D))):=((jf b4).trans$ jf b5).trans (jf d4);have r6:af (af (af H5 s1$ .lst$ aV (ys.map V.str) (some (8+D))$ some 14) s2$ .lst$ aV (ys.map V.str) (some 8)$ some (8+D)) rl (.lst$ aV (ys.map V.str) (some (8+D)) (some 14)++aV (ys.map V.str) (some 8) (some (8+D))) rl=some (.lst ((a8 ys (some (8+D)) (some 14)++a8 ys (some 8) (some (8+D))).map V.str)):=by rw[jc,er]
  have B6:aq (af (af (af H5 s1$ .lst$ aV (ys.map V.str) (some (8+D))$ some 14) s2$ .lst$ aV (ys.map V.str) (some 8)$ some (8+D)) rl$ .lst$ aV (ys.map V.str) (some (8+D)) (some 14)++aV (ys.map V.str) (some 8) (some (8+D))) p:=((B5.upd_new b4).upd_new b5).upd_new d4;generalize af (af (af H5 s1$ .lst$ aV (ys.map V.str) (some (8+D))$ some 14) s2$ .lst$ aV (ys.map V.str) (some 8)$ some (8+D)) rl (.lst$ aV (ys.map V.str) (some (8+D)) (some 14)++aV (ys.map V.str) (some 8) (some (8+D)))=H6 at s6 r6 B6;have LR:(a8 ys (some (8+D)) (some 14)++a8 ys (some 8) (some (8+D))).length<=40:=by rw[Eg];omega
  generalize a8 ys (some (8+D)) (some 14)++a8 ys (some 8) (some (8+D))=r0 at r6 LR;have d6:=s6 _ _ h8;have h9:=s6 _ _ b2;have ei:(0:Int)+(i:Int)=(i:Int):=Int.zero_add _;rw[ei];obtain⟨y,b7⟩:∃y,ys[i]?=some y:=#[_,Ed (by omega:i < ys.length)];have hy:=Ey b7;have a4:dF (ys.map V.str) (i:Int)=some (.str y):=jW (by rw[EB,b7];rfl);have rp:rl≠p:=qh B6 r6;refine#[_,Z,.inl #[Z,_,aF.of h9],_,Z,_,Z,W,_,_,_,Z,Z,aF.of d6,a4,_,Z,_,Z,_,Z,p,m,Z,B6,OB,OB,λd7 H7 d0 d8 B7 e7=>?_];have k7:au p H6 H7:=au.of_eq e7;refine#[_,Z,rl,_,Z,aF.of$ k7 _ _ rp r6,λs3 d'=>?_];refine#[s3,_,Z,.inl #[aF.of jc,λt nt=>#[cj,λr nr=>?_]]];rw[zA]at nt nr ⊢;have L8:=sQ (ss:=r0) d0;generalize a8 r0 none (some d7)=ps at*;have s8:ae H7 (af (af (af H7 s3$ .lst$ ps.map V.str) t$ .tup$ ps.map V.str) r$ .tup [.str y,.ref t]):=((jf d').trans$ jf nt).trans (jf nr);have t8:af (af (af H7 s3$ .lst$ ps.map V.str) t$ .tup$ ps.map V.str) r (.tup [.str y,.ref t]) t=some (.tup$ ps.map V.str):=ao jc nr;have r8:af (af (af H7 s3$ .lst$ ps.map V.str) t$ .tup$ ps.map V.str) r (.tup [.str y,.ref t]) r=some (.tup [.str y,.ref t]):=jc;have B8:aq (af (af (af H7 s3$ .lst$ ps.map V.str) t$ .tup$ ps.map V.str) r$ .tup [.str y,.ref t]) p:=((B7.upd_new d').upd_new nt).upd_new nr;generalize af (af (af H7 s3$ .lst$ ps.map V.str) t$ .tup$ ps.map V.str) r (.tup [.str y,.ref t])=R at s8 t8 r8 B8;have e0:=s8 _ _ (k7 _ _ h4 h9);have g5:=s8 _ _ (k7 _ _ wp d6);have h5:=h6.len;refine#[hl,_,_,Z,Z,e0,OB,?_];have tm:ai R (af R hl$ .lst$ hv++[.ref r]):=λb xs e=>by rw[jh$ jB e e0 (by intro z;cases z)];exact e
  have g6:=((b3.mono$ ae.tm s6).mono$ k7.tm B6).mono (ae.tm s8);refine f0 _ _ #[_,_,_,hs++[(y,ps)],_,Z,jc,(g6.mono tm).snoc #[r,t,Z,tm _ _ r8,tm _ _ t8],by rw[Eg,c'];rfl,#[Jc h7.1 #[C.1 y hy,by show ps.length<=6;omega],by rw[EF,h7.2,Gw,b7];rfl],by rw[jh wh];exact g5,B8.eq$ jh$ EA h4,?_];refine au.upd_own (λb o n e=>?_) n5;exact s8 _ _$ k7 _ _ n$ s6 _ _$ k5 _ _ n$ k4 _ _ n e
 intro σ H4 l;obtain⟨o6,o7,o8,hs,hv,rfl,a',h6,c',⟨h7,e4⟩,b1,B4,k4⟩:=l;refine m5 _ _ ?_;refine eP λE6 m6=>?_;refine#[_,Z,_,Z,_,Z,p,7,Z,B4,OA,OA,λD H5 g2 g4 B5 e5=>?_];have k5:au p H4 H5:=au.of_eq e5;have h8:=k5 _ _ wp b1;have b2:=k5 _ _ h4 a';have b3:=h6.mono (k5.tm B4);refine#[_,_,Z,Z,_,Z,W,_,Z,aF.of h8,λsm n3=>?_];refine m6 _ _ ?_;refine eP λE7 m7=>?_;obtain⟨z1,z2⟩:=oi (ys:=ys) (k:=14+D) c6 OB OB;have m6:af H5 sm (.lst$ aV (ys.map V.str) (some 8)$ some (14+D)) sm=some (.lst ((a8 ys (some 8)$ some (14+D)).map V.str)):=by rw[jc,zA]
 have k6:au p H (af H5 sm$ .lst$ aV (ys.map V.str) (some 8)$ some (14+D)):=(k4.trans k5).upd_new n3;have h9:=ao (o:=.lst (aV (ys.map V.str) (some 8)$ some (14+D))) b2 n3;have e6:=b3.mono (ae.tm$ jf (o:=.lst (aV (ys.map V.str) (some 8)$ some (14+D))) n3);have B6:=B5.upd_new (o:=.lst (aV (ys.map V.str) (some 8)$ some (14+D))) n3;generalize af H5 sm (.lst$ aV (ys.map V.str) (some 8)$ some (14+D))=H6 at m6 k6 h9 e6 B6;generalize a8 ys (some 8) (some (14+D))=zs at m6 z1 z2;have s':=qh B6 m6;refine#[sD,λl2 b'=>?_];refine#[_,Z,p,4,Z,B6.upd_new b',OA,OA,λd7 H7 d0 d8 B7 e7=>?_];have k7:au p H6 H7:=((au.refl).upd_new b').trans (au.of_eq e7);have l3:=B6.ne b';have g7:H7 l2=some (.lst [.int 3,.int 3,.int 3,.int 5]):=by rw[e7 l2 l3];exact jc
 obtain⟨dp,g8,i0,p9,p'⟩:=sS d0 d8;refine#[l2,_,_,_,Z,Z,aF.of g7,g8,?_];refine m7 _ _ ?_;refine eP λE8 m8=>?_;have m7:=k7 _ _ s' m6;have c0:=k7 _ _ h4 h9;have i1:=e6.mono (k7.tm B6);have k9:=k6.trans k7;refine#[Ek _,λdl N=>?_];refine m8 _ _ ?_;refine eP λE9 m9=>?_;have d3:=B7.ne N;have n7:H dl=none:=by
  cases z:H dl with
  |none=>rfl
  |some o=>have:=k9 _ _ d3 z;rw[N]at this;cases this
 have e8:hl≠dl:=λe=>by rw[<- e,c0]at N;cases N
 have s5:sm≠dl:=λe=>by rw[<- e,m7]at N;cases N
 have q1:=h6.len;refine gF λJ j=>#[_,Z,hl,Z,#[_,aF.of$ ao c0 N],j _ _ ?_];clear j;refine Zk (K:=K) (a:=hl) (xs:=hv) (AK p W hl sm dl T Y m dp zs hs hv H)
  #[_,_,_,_,_,_,_,[],[],Z,jc,Z,Z,#[(λc hc=>nomatch hc),Z],ao c0 N,i1.mono$ ae.tm$ jf N,ao m7 N,B7.upd_new N,k9.upd_own n7,#[Z,(λi d n h=>nomatch h)]] ?_ ?_ ?_
 ·intro i σ R _ l;obtain⟨o6,o7,o8,o1,o2,o3,o4,ds,dv,rfl,h5,hD,h',x,hh,hd,c1,B8,k8,p0⟩:=l;exact aF.of hh
 ·intro D' _ i v σ R hx f0 Gq u l;obtain⟨o6,o7,o8,o1,o2,o3,o4,ds,dv,rfl,h5,hD,h',x,hh,hd,c1,B8,k8,p0⟩:=l;have q2:i < hv.length:=(List.getElem?_eq_some_iff.mp hx).1;obtain⟨c,hc,q0,t0,rfl,w1,w2⟩:=hd.at i v hx;refine u ?_;clear u m9;have i2:=Ey hc;have e':=h7 c i2;refine D3 λF6 f6=>#[q0,_,Z,aD.of w1,Z,_,_,Z,_,_,Z,Z,f6 _ _ ?_];clear f6;show dU (dn _ _) _ D' _ _;refine eP λF1 f1=>?_;refine#[_,Z,nL,λM n2=>?_];refine f1 _ _ ?_;show dU (dn _ _) _ D' _ _;refine eP λF2 f2=>?_;refine#[rN,λb0 n4=>?_];refine f2 _ _ ?_;show dU (yW _ _ _) _ D' _ _;refine eP λF3 f3=>?_;have s9:ae R (af (af R M$ .lst [.int Y]) b0$ .tup []):=(jf n2).trans (jf n4);have s4:di (af (af R M$ .lst [.int Y]) b0$ .tup []) M:=#[Y,ao jc n4];have b9:af (af R M$ .lst [.int Y]) b0 (.tup []) b0=some (.tup []):=jc;have B9:aq (af (af R M$ .lst [.int Y]) b0$ .tup []) p:=(B8.upd_new n2).upd_new n4;have e9:fc (af (af R M$ .lst [.int Y]) b0$ .tup []) M=Y:=Jo (ao jc n4);generalize af (af R M$ .lst [.int Y]) b0 (.tup [])=H9 at s9 s4 b9 B9 e9;have f4:H M=none:=by
   cases z:H M with
   |none=>rfl
   |some o=>have:=k8 _ _ (B8.ne n2) z;rw[n2]at this;cases this
  have i3:dl≠M:=λe=>by rw[<- e,h5]at n2;cases n2
  have G9:lJ H9 p sm hl M zs hs:=#[B9,s9 _ _ c1,z1,z2,#[hv,s9 _ _ hh,hd.mono$ ae.tm s9],OB,OB,λc hc=>(h7 c hc).2,s4];refine gF λJ j=>#[_,Z,OA,OA,j _ _ ?_];clear j;refine zC (lo:=0) (AL hs zs p W hl sm dl t0 M T Y m dp o7 o8 c H9)
   #[_,b0,.nil,[],Z,b9,Z,(by rw[e9];exact#[by show((0:Nat):Int)+_<=_;omega,f9]),YQ,B9,s4,aR.refl] ?_ ?_
  ·intro q3 _ j σ G hj fin2 Gq u l;obtain⟨o9,bb,Bb,bs,rfl,c2,a0,a1,I,B',U,L⟩:=l;refine u ?_;clear u f1 f2 f3;have G0:=G9.but2 B' U L;refine#[_,Z,_,Z,_,Z,_,Z,_,Z,_,Z,p,sm,hl,M,dp,zs,hs,Z,G0,i0,a1.2,λr b q4 H0 X a3 i4 c3 c4 a2 S k'=>?_];have tm:=k'.tm B' U;have lb:=a0.len;have q5:=a3.len;obtain⟨i5,j0⟩:=a1;refine#[bb,r,_,_,Z,Z,tm _ _ c2,X,OB,λr2 H' f5 s0=>?_];have j1:aq H' p:=by obtain⟨a,b,h1,h2,h3,h⟩:=a2.ob;exact#[a,b,h1,h2,h3,s0 _ _ h]
   have s7:di H' M:=by obtain⟨z,hz⟩:=S;exact#[z,s0 _ _ hz]
   refine fin2 _ _ #[_,r2,Bb.app b,_,Z,f5,(a3.mono$ ae.tm s0).app ((a0.mono tm).mono$ ae.tm s0),?_,YR I c4,j1,s7,L.trans$ k'.trans$ aR.of_same s0];rw[jT,j8 S s0];exact#[OB,c3]
  ·intro σ G l;obtain⟨o9,bb,Bb,bs,rfl,c2,a0,a1,I,B',U,L⟩:=l;refine f3 _ _ ?_;have O:G dl=some (.lst dv):=L _ _ d3 i3 (s9 _ _ h5);have G0:=G9.but2 B' U L;have t3:ai R G:=λb xs e=>L.tm B9 s4 _ _ (s9 _ _ e);refine#[_,Z,.inl #[Z,_,aF.of O],_,Z,_,Z,_,Z,f8,λr nr=>?_];have S:ae G (af G r$ .tup [.str c.1,.ref t0,.ref bb]):=jf nr;have j2:=hD.len;have f7:Bb.size<=40:=by obtain⟨i5,j0⟩:=a1;omega
   refine#[dl,_,_,Z,Z,S _ _ O,OB,?_];have X:af G r (.tup [.str c.1,.ref t0,.ref bb]) r=some (.tup [.str c.1,.ref t0,.ref bb]):=jc;have a2:=B'.upd_new (o:=.tup [.str c.1,.ref t0,.ref bb]) nr;generalize af G r (.tup [.str c.1,.ref t0,.ref bb])=H0 at S X a2;have tm:ai H0 (af H0 dl$ .lst$ dv++[.ref r]):=λb xs e=>by rw[jh$ jB e (S _ _ O) (by intro z;cases z)];exact e
   have t2:ai G (af H0 dl$ .lst$ dv++[.ref r]):=λb xs e=>tm _ _ (S _ _ e);have t1:ai R (af H0 dl$ .lst$ dv++[.ref r]):=λb xs e=>t2 _ _ (t3 _ _ e);refine f0 _ _ #[_,_,_,_,_,_,_,ds++[#[c.1,r,t0,bb,Bb]],_,Z,jc,(hD.mono t1).snoc #[bs,Z,tm _ _ X,t2 _ _ c2,a0.mono t2],by rw[Eg,h'];rfl,#[Jc x.1 #[#[#[zs,z2,I.1.1],FL I.2 OB,En f7 OA],I.1.2],by rw[EF,x.2,Gw,EB,hc];rfl],?_,hd.mono t1,?_,a2.eq$ jh$ EA d3,?_,(by rw[Gw,EB,hc];exact(p0.mono t1).snoc (d:=#[c.1,r,t0,bb,Bb]) (t1 _ _ w2) (En e'.2 OA))]
   ·obtain⟨q6,e1,e2⟩:=G0.h;rw[jh e8];exact S _ _$ L _ _ G9.hsp.2 G9.hsp.1$ s9 _ _ hh
   ·rw[jh s5];exact S _ _ G0.g
   ·refine au.upd_own (λb o n e=>?_) n7;exact S _ _$ L _ _ n (jk e f4)$ s9 _ _$ k8 _ _ n e
 ·intro σ R l;obtain⟨o6,o7,o8,o1,o2,o3,o4,ds,dv,rfl,h5,hD,h',x,hh,hd,c1,B8,k8,p0⟩:=l;refine m9 _ _ ?_;refine#[_,Z,dl,dv,Z,.inl #[aF.of h5,λt nt=>?_]];have nn:(ds.map Df.f).Nodup:=by
   rw[x.2,e4];refine List.Nodup.sublist (Gp _ _) ?_;have e:∀m,m<=8->ys.take m=(ys.take 8).take m:=λm hm=>by rw[Nl,He hm]
   rw[e _ OB];exact C.2.sublist$ Gp _ _
  exact q t ds dv _ jc (hD.mono$ ae.tm$ jf nt) OB (hs.map λc=>c.2.length) #[λd hd=>#[(x.1 d hd).1,by have e:=x.2;rw[Gg (by rw[Ec];omega)]at e;rw[e];have z:=(x.1 d hd).2;rw[show(hs.map λc=>(c.1,c.2.length))=(hs.map (·.1)).zip (hs.map λc=>c.2.length) by rw[LV]]at z;exact z],nn,λy hy=>by rw[x.2,e4]at hy;exact C.1 y$ Fp$ Fp hy] (by have z:=p0.mono (ae.tm$ jf (o:=.tup dv) nt);rw[Gg (by rw[Ec];omega)]at z;exact z) (B8.upd_new nt) (k8.upd_new nt)
theorem rN:0<=sizeLine:=by decide
theorem nL:1<=sizeLine:=by decide
theorem cj:2<=sizeLine:=by decide
theorem f8:3<=sizeLine:=by decide
theorem sD:4<=sizeLine:=by decide
theorem ai.trans(a:ai H h)(b:ai h d):ai H d:=λc x e=>b c x (a c x e)
theorem ai.refl:ai H H:=λ_ _ e=>e
def fb(H:Hp)(y:List Str)(k:Nat)(a:Addr):Prop:=∃T,aO H T a/\T.Good y/\T.depth<=k
theorem fb.mono(h:fb H y k a)(m:ai H b):fb b y k a:=let #[T,c,d]:=h;#[T,c.mono m,d]
theorem fb.ok(h:fb H y k a)(m:k < 6):∃T,aO H T a/\dj y T:=let #[T,b,c,d]:=h;#[T,b,c,FL d m]
section
variable {Cf:fe}{H:Hp}{ys:List Str}
theorem y7(h:H a=some (.tup [.str "num",.int n]))(b:0<=n)(c:n < 1000000000000000000):fb H ys 0 a:=#[.num n,h,#[b,c],Ek _]
theorem sd(h:H a=some (.tup [.str "var",.str x]))(b:x∈ys):fb H ys 0 a:=#[.var x,h,b,Ek _]
def Sg(s:Str):Prop:=∃i,i < 6/\s=Dg i
theorem wC(h:H a=some (.tup [.str "op",.str s,.ref b,.ref c]))(d:Sg s)(e:fb H ys j b)(f:fb H ys k c)(q:j < n)(r:k < n):fb H ys n a:=by obtain⟨i,g,rfl⟩:=d;obtain⟨B,l,m,t⟩:=e;obtain⟨C,o,p,u⟩:=f;exact#[.op i B C,#[b,c,h,l,o],#[g,m,p],by show max B.depth C.depth+1<=n;omega]
theorem zk:Sg "+":=#[0,OA,OE]
theorem Xo:Sg "-":=#[1,OA,OE]
theorem Xp:Sg "*":=#[2,OA,OE]
theorem uZ:Sg "/":=#[3,OA,OE]
theorem QP:Sg "<":=#[4,OA,OE]
theorem BE:Sg "=":=#[5,OA,OE]
theorem uB(h:0<=d)(a:d < 4):∃s,dF [V.str "+",.str "+",.str "*",.str "-"] d=some (.str s)/\Sg s:=by
 rcases(by omega:d=0∨d=1∨d=2∨d=3) with rfl |rfl |rfl |rfl
 ·exact#[_,Z,zk]
 ·exact#[_,Z,zk]
 ·exact#[_,Z,Xp]
 ·exact#[_,Z,Xo]
theorem uA(h:0<=d)(a:d < 3):∃c,dF (Str.cps "<=*").toList d=some c/\Sg #[(List.toArray [c])]:=by
 rcases(by omega:d=0∨d=1∨d=2) with rfl |rfl |rfl
 ·exact#[_,Z,QP]
 ·exact#[_,Z,BE]
 ·exact#[_,Z,Xp]
theorem Bj{P:Addr->Prop}(e:0<=d)(f:d < 2)(h:P a)(c:P b):∃x,dF [V.ref a,.ref b] d=some (.ref x)/\P x:=by
 rcases(by omega:d=0∨d=1) with rfl |rfl
 ·exact#[_,Z,h]
 ·exact#[_,Z,c]
theorem Bk{P:Addr->Prop}(g:0<=d)(i:d < 3)(h:P a)(e:P b)(f:P c):∃x,dF [V.ref a,.ref b,.ref c] d=some (.ref x)/\P x:=by
 rcases(by omega:d=0∨d=1∨d=2) with rfl |rfl |rfl
 ·exact#[_,Z,h]
 ·exact#[_,Z,e]
 ·exact#[_,Z,f]
theorem Bl{P:Addr->Prop}(h:P a)(d:P b)(c:Bool):∃x,dF [V.ref a,.ref b] (if c then 1 else 0)=some (.ref x)/\P x:=by
 cases c
 ·exact#[_,Z,h]
 ·exact#[_,Z,d]
def cf(Cf:fe)(H:Hp)(ys:List Str)(d:Nat)(v:V):Prop:=∃s,gp H v s/\(s.Ok ys/\s.Cs Cf)/\s.dep<=d/\s.size<=1+20*d
def fq(Cf:fe)(H:Hp)(ys:List Str)(d:Nat)(x:List V):Prop:=∃b,c7 H b x/\(b.Ok ys/\b.Cs Cf)/\b.dep<=d/\b.size<=(1+20*d)*x.length
theorem cf.mono(h:cf Cf H ys d v)(m:ai H a):cf Cf a ys d v:=let #[s,b,c]:=h;#[s,b.mono m,c]
theorem fq.mono(h:fq Cf H ys d x)(m:ai H a):fq Cf a ys d x:=let #[s,b,c]:=h;#[s,b.mono m,c]
theorem cf.up(h:cf Cf H ys 0 v):cf Cf H ys d v:=let #[s,a,b,c,e]:=h;#[s,a,b,OB,OB]
theorem Ki:fq Cf H ys d []:=#[.nil,Z,#[trivial,trivial],Ek _,Ek _]
theorem Jp{xs:List V}(h:fq Cf H ys d xs)(g:fq Cf H ys d z):fq Cf H ys d (xs++z):=by obtain⟨a,c,A,f,i⟩:=h;obtain⟨b,e,B,j,k⟩:=g;refine#[a.app b,e.app c,#[Kf A.1 B.1,Ke A.2 B.2],by rw[zi];omega,?_];rw[jT,Eg,Nat.mul_add];omega
theorem zu(h:cf Cf H ys d v):fq Cf H ys d [v]:=by obtain⟨s,a,b,c,e⟩:=h;exact#[s,a.bd,b,c,by show s.size<=(1+20*d)*1;omega]
theorem jQ(h:cf Cf H ys d v)(g:fq Cf H ys d xs):fq Cf H ys d (v::xs):=Jp (xs:=[v]) (zu h) g
theorem Q4{l:Lf}(h:H p=some (.tup v))(a:sI H l v)(b:l.Ok ys)(c:l.Cs Cf):cf Cf H ys 0 (.ref p):=#[.lf p l .nil,.lf p l v h a,#[#[b,trivial],c,trivial],Ee 0,Ee 1]
theorem BM(h:H p=some (.tup [.str "read",.str x,.ref t]))(a:x∈ys)(b:fb H ys k t)(c:k < 6:=by decide):cf Cf H ys 0 (.ref p):=by obtain⟨T,d,e⟩:=b.ok c;exact Q4 (l:=.rd x t T) h #[Z,d] #[a,e] trivial
theorem BN(h:H p=some (.tup [.str "set",.str x,.ref t]))(a:x∈ys)(b:fb H ys k t)(c:k < 6:=by decide):cf Cf H ys 0 (.ref p):=by obtain⟨T,d,e⟩:=b.ok c;exact Q4 (l:=.st x t T) h #[Z,d] #[a,e] trivial
theorem BK(h:H p=some (.tup [.str "give",.ref t]))(a:fb H ys k t)(b:k < 6:=by decide):cf Cf H ys 0 (.ref p):=by obtain⟨T,c,d⟩:=a.ok b;exact Q4 (l:=.gv t T) h #[Z,c] d trivial
theorem BO(h:H p=some (.tup [.str "write",.ref t,.ref u]))(a:fb H ys k t)(b:fb H ys j u)(c:k < 6:=by decide)(d:j < 6:=by decide):cf Cf H ys 0 (.ref p):=by obtain⟨T,e,f⟩:=a.ok c;obtain⟨U,g,i⟩:=b.ok d;exact Q4 (l:=.wr t u T U) h #[Z,e,g] #[f,i] trivial
theorem BJ{f:Str}(h:H p=some (.tup [.str "call",.str x,.str f,.ref q]))(b:x∈ys)(a:(f,2)∈Cf)(d:H q=some (.tup [.ref t,.ref u]))(e:fb H ys k t)(g:fb H ys j u)(i:k < 6:=by decide)(m:j < 6:=by decide):cf Cf H ys 0 (.ref p):=by
 obtain⟨T,n,o⟩:=e.ok i;obtain⟨U,r,s⟩:=g.ok m;refine Q4 (l:=.cl x f q [(t,T),(u,U)]) h #[Z,d,λc hc=>?_] #[b,(by show 2<=6;decide),λc hc=>?_] a
 ·rcases List.mem_cons.mp hc with rfl |hc
  ·exact n
  ·rw[List.mem_singleton.mp hc];exact r
 ·rcases List.mem_cons.mp hc with rfl |hc
  ·exact o
  ·rw[List.mem_singleton.mp hc];exact s
theorem BL(h:H p=some (.tup [.str "if",.ref t,.ref q,.ref Q]))(e:fb H ys k t)(f:H q=some (.tup A))(g:H Q=some (.tup B))(G:fq Cf H ys 0 A)(i:fq Cf H ys 0 B)(r:A.length+B.length<=20)(j:k < 6:=by decide):cf Cf H ys 1 (.ref p):=by obtain⟨T,l,m⟩:=e.ok j;obtain⟨a,n,c,s,u⟩:=G;obtain⟨b,o,d,v,x⟩:=i;exact#[.ite p t T a b .nil,.ite p t T a b q Q A B h l f g n o,#[#[m,c.1,d.1,trivial],c.2,d.2,trivial],(by show max (max a.dep b.dep+1) 0<=1;omega),(by show a.size+b.size+0+1<=21;omega)]
theorem rM(h:H p=some (.tup [.str "while",.ref t,.ref q]))(c:fb H ys k t)(d:H q=some (.tup A))(g:fq Cf H ys 0 A)(l:A.length<=20)(e:k < 6:=by decide):cf Cf H ys 1 (.ref p):=by obtain⟨T,f,i⟩:=c.ok e;obtain⟨a,j,b,m,n⟩:=g;exact#[.loop p t T a .nil,.loop p t T a q A h f d j,#[#[i,b.1,trivial],b.2,trivial],(by show max (a.dep+1) 0<=1;omega),(by show a.size+0+1<=21;omega)]
def nO(Cf:fe)(n:Nat)(H:Hp)(r:Addr)(f:Str):Prop:=∃d:Df,vt H d (.ref r)/\(iZ d/\d.b.Cs Cf)/\∃p:List Str,H d.pa=some (.tup$ p.map V.str)/\p.length=n/\d.f=f
theorem nO.mono(h:nO Cf n H r f)(m:ai H a):nO Cf n a r f:=let #[d,b,c,p,e,g]:=h;#[d,b.mono m,c,p,m _ _ e,g]
theorem AD{f:Str}{p:List Str}(h:H r=some (.tup [.str f,.ref a,.ref b]))(d:H a=some (.tup$ p.map V.str))(e:p.length=n)(i:H b=some (.tup x))(g:fq Cf H ys 1 x)(l:x.length<=16)(j:ys.length<=20):nO Cf n H r f:=by obtain⟨c,k,C,m,o⟩:=g;exact#[#[f,r,a,b,c],#[x,Z,h,i,k],#[#[#[ys,j,C.1],(by show c.dep < 8;omega),(by show c.size<=400;omega)],C.2],p,d,e,Z]
structure Wd(H0 H:Hp)(p wl:Addr)(ys:List Str):Prop where
 B:aq H p
 K:au p H0 H
 w:H wl=some (.lst$ ys.map V.str)
theorem Wd.np(h:Wd b H p a ys):a≠p:=qh h.B h.w
theorem Wd.same(h:Wd a H p b ys)(s:ae H c):Wd a c p b ys:=#[h.B.same s,h.K.trans$ au.of_same s,s _ _ h.w]
theorem Wd.but(h:Wd b H p c ys)(B:aq a p)(k:au p H a):Wd b a p c ys:=#[B,h.K.trans k,k _ _ h.np h.w]
theorem Wd.own{xs:List V}(h:Wd a H p b ys)(n:a l=none)(L:l≠p)(c:l≠b):Wd a (af H l$ .lst z) p b ys:=#[h.B.eq$ jh$ EA L,h.K.upd_own n,by rw[jh$ EA c];exact h.w]
theorem QF(h:H l=some (.lst x)):ai H (af H l$ .lst a):=λb u e=>by rw[jh$ jB e h (by intro z;cases z)];exact e
end
inductive lB(d:List V)(H:Hp)(Q:VK)(c:XK):Prop
 |mk(p a b:Addr)(e:List Str)(k:Nat)(_:d=[.ref p,.ref a,.ref b])(_:aq H p)(_:fb H e k a)(_:fb H e k b)(_:∀(r:Addr) (H':Hp),fb H' e (k+1) r->aq H' p->au p H H'->Q (.ref r) H')
inductive cH(n:Nat)(b:List V)(H:Hp)(Q:VK)(a:XK):Prop
 |mk(p c:Addr)(f g:Str)(d:List Str)(_:b=[.ref p,.str f,.str g,.ref c])(_:aq H p)(_:H c=some (.lst (d.map V.str)))(_:d.length=6)(_:∀(r:Addr) (H':Hp),nO [(g,2)] n H' r f->aq H' p->au p H H'->Q (.ref r) H')
noncomputable abbrev Db:Stmt:=top 47
noncomputable abbrev lT:Stmt:=top 48
noncomputable abbrev gq:Stmt:=top 49
noncomputable abbrev eM:Stmt:=top 50
noncomputable abbrev pK:Stmt:=top 51
theorem C6{A:List V}(h:A.length=5):∃a b c d e,A=[a,b,c,d,e]:=by
 cases A with
 |nil=>cases h
 |cons a r=>
  cases r with
  |nil=>cases h
  |cons b R=>
   cases R with
   |nil=>cases h
   |cons c f=>
    cases f with
    |nil=>cases h
    |cons d g=>
     cases g with
     |nil=>cases h
     |cons e i=>
      cases i with
      |nil=>exact#[a,b,c,d,e,Z]
      |cons _ _=>cases h
theorem DU{n:Nat}:ms (n+1) 0=some 0:=by unfold ms;rw[Er OA,Er OB];rfl
theorem DV{n:Nat}:ms (n+2) 1=some 1:=by unfold ms;rw[Er OA,Er OB];rfl
theorem nZ:dF (v::u::y) 1=some u:=jW (j:=1) Z
structure Fw(p:Addr)(H H':Hp):Prop where
 t:ai H H'
 b:au p H H'
theorem Fw.refl:Fw p H H:=#[ai.refl,au.refl]
theorem Fw.trans(a:Fw p H h)(b:Fw p h c):Fw p H c:=#[a.t.trans b.t,a.b.trans b.b]
theorem Fw.new{p:Addr}{H:Hp}{o:HO}(n:H r=none):Fw p H (af H r o):=#[ae.tm$ jf n,au.of_same$ jf n]
theorem Fw.same(s:ae H h):Fw p H h:=#[ae.tm s,au.of_same s]
theorem Fw.but(B:aq H p)(c:au p H h):Fw p H h:=#[c.tm B,c]
def mh(P:Hp->V->Prop):Prop:=∀H h v,ai H h->P H v->P h v
def Ev(a:Hp)(p W:Addr)(y:List Str)(b:Hp)(c:_L.St)(t:TE)(P:Hp->V->Prop):Prop:=∀(H:Hp) (Q:VK),Fw p b H->Wd a H p W y->(∀v h,P h v->Wd a h p W y->Fw p H h->Q v h)->t c H Q
def PT(y:List Str)(k:Nat)(H:Hp)(v:V):Prop:=∃a,v= .ref a/\fb H y k a
def PB(C:fe)(y:List Str)(d n:Nat)(H:Hp)(v:V):Prop:=∃a x,v= .ref a/\H a=some (.tup x)/\fq C H y d x/\x.length<=n
def PN(y:List Str)(_:Hp)(v:V):Prop:=∃x,v= .str x/\x∈y
def PG(_:Hp)(v:V):Prop:=∃s,v= .str s/\Sg s
def PP(n:Nat)(H:Hp)(v:V):Prop:=∃(a:Addr) (x:List Str),v= .ref a/\H a=some (.tup$ x.map V.str)/\x.length=n
def sJ(y:Str)(_:Hp)(v:V):Prop:=v= .str y
def PD(C:fe)(n:Nat)(f:Str)(H:Hp)(v:V):Prop:=∃a,v= .ref a/\nO C n H a f
section
variable {Cf:fe}{ys:List Str}{H0 Hb:Hp}{p wl:Addr}{σ:_L.St}
theorem ap:mh (PT ys k):=λ_ _ _ m #[a,e,h]=>#[a,e,h.mono m]
theorem dt:mh (PB Cf ys d n):=λ_ _ _ m #[a,x,e,h,H,b]=>#[a,x,e,m _ _ h,H.mono m,b]
theorem dE:mh λH v=>cf Cf H ys d v:=λ_ _ _ m h=>h.mono m
theorem iy:mh (PD Cf n f):=λ_ _ _ m #[a,e,h]=>#[a,e,h.mono m]
theorem Ev.up{P R:Hp->V->Prop}(h:Ev H0 p wl ys Hb σ t P)(k:∀H v,P H v->R H v):Ev H0 p wl ys Hb σ t R:=λH Q m W q=>h H Q m W λv a x=>q v a (k _ _ x)
theorem jE{P:Hp->V->Prop}(e:σ[i]?=some (some v))(M:mh P)(h:P Hb v):Ev H0 p wl ys Hb σ (bh i) P:=λH Q m W q=>#[v,e,q v H (M _ _ _ m.t h) W .refl]
theorem qf(h:Sg s):Ev H0 p wl ys Hb σ (tC$ .str s) PG:=λH Q m W q=>q _ H #[s,Z,h] W .refl
theorem kB{K:Frag}(e:σ[j]?=some (some$ .ref wl))(a:0<=i)(b:i < (ys.length:Int)):Ev H0 p wl ys Hb σ (eY (ie K) (bh j)$ tC$ .int i) (PN ys):=λH Q m W q=>by obtain⟨y,c,h⟩:=Kd (ys:=ys) a b;exact#[_,e,wl,_,_,_,Z,Z,aF.of W.w,h,q _ H #[y,Z,c] W .refl]
theorem kh{Q:VK}{P:Hp->V->Prop}(W:Wd H0 H p wl ys)(q:∀v h,P h v->Wd H0 h p wl ys->Fw p H h->Q v h)(n:H r=none)(x:ai H (af H r o)->af H r o r=some o->P (af H r o) (.ref r)):Q (.ref r) (af H r o):=
 q _ _ (x (ae.tm$ jf n) jc) (W.same$ jf n) (.new n)
abbrev sE(n:Int):TE:=dB aW [] E0 (ak (bh 0)$ ak (tC$ .int n) aP)
def PK(n:Int)(_:Hp)(v:V):Prop:=∃d:Int,v= .int d/\0<=d/\d < n
theorem kG(e:σ[0]?=some (some$ .ref p))(h:1<=n)(c:n<=1000):Ev H0 p wl ys Hb σ (sE n) (PK n):=λH Q m W q=>
 #[_,e,p,n,Z,W.B,OB,OB,λd f D a b E=>q _ _ #[d,Z,D,a] (W.but b$ au.of_eq E) (.but W.B$ au.of_eq E)]
theorem ki(h:Ev H0 p wl ys Hb σ t (PK n))(g:n<=1000000000000000000):Ev H0 p wl ys Hb σ (bV$ ak (tC$ .str "num")$ ak t aP) (PT ys 0):=λH Q m W q=>
 h H _ m W λv i #[d,e,D,j] a b=>#[cj,λr N=>kh (P:=PT ys 0) a (λV c x f k=>q V c x f (b.trans k)) N λ_ z=>#[r,Z,y7 (by rw[z,e]) D OB]]
theorem QD(h:0<=n)(a:n < m):Ev H0 p wl ys Hb σ (tC$ .int n) (PK m):=λH Q _ W q=>q _ H #[n,Z,h,a] W .refl
theorem QG(h:Ev H0 p wl ys Hb σ t (PK n))(c:0<=m):Ev H0 p wl ys Hb σ (eY (sC λi j=>V.int (i+j)) (tC$ .int m) t) (PK$ m+n):=λH Q M W q=>
 h H _ M W λv a #[d,e,D,f] b k=>#[m,d,Z,e,q _ a #[m+d,Z,OB,OB] b k]
theorem J1(h:Ev H0 p wl ys Hb σ t (PN ys)):Ev H0 p wl ys Hb σ (bV$ ak (tC$ .str "var")$ ak t aP) (PT ys 0):=λH Q m W q=>
 h H _ m W λv i #[d,e,a] b c=>#[cj,λr n=>kh (P:=PT ys 0) b (λV f x g k=>q V f x g (c.trans k)) n λ_ z=>#[r,Z,sd (by rw[z,e]) a]]
theorem qd{n:Nat}(h:Ev H0 p wl ys Hb σ T PG)(f:Ev H0 p wl ys Hb σ g (PT ys j))(i:Ev H0 p wl ys Hb σ l (PT ys k))(o:j < n)(u:k < n):Ev H0 p wl ys Hb σ (bV$ ak (tC$ .str "op")$ ak T$ ak g$ ak l aP) (PT ys n):=λH Q m W q=>
 h H _ m W λM v #[s,E,X] y c=>f v _ (m.trans c) y λO A #[a,B,C] D d=>i A _ ((m.trans c).trans d) D λR S #[b,F,G] I e=>#[sD,λr N=>kh (P:=PT ys n) I (λV J x L k=>q V J x L (((c.trans d).trans e).trans k)) N λt z=>
  #[r,Z,wC (by rw[z,E,B,F]) X ((C.mono e.t).mono t) (G.mono t) o u]]
theorem AO(e:σ[0]?=some (some$ .ref p)):Ev H0 p wl ys Hb σ (eY uJ (tC$ .str "<=*")$ sE 3) PG:=λH Q m W q=>
 kG e OA OA H _ m W λv h #[d,E,D,a] b k=>by obtain⟨g,i,x⟩:=uA D a;exact#["<=*",d,g,Z,E,OE,i,q _ h #[_,Z,x] b k]
theorem Yu{K:Frag}(e:σ[0]?=some (some$ .ref p))(r:Ev H0 p wl ys Hb σ T (PT ys k))(s:Ev H0 p wl ys Hb σ u (PT ys k)):Ev H0 p wl ys Hb σ (eY (ie K) (lG$ ak T$ ak u aP)$ sE 2) (PT ys k):=λH Q m W q=>
 r H _ m W λV y #[a,E,X] z c=>s y _ (m.trans c) z λA C #[b,D,F] h f=>#[cj,λl n=>kG e OA OA _ _ (((m.trans c).trans f).trans$ .new n) (h.same$ jf n) λv G #[d,I,J,L] M j=>by
  obtain⟨g,i,x⟩:=Bj (P:=fb C ys k) J L (X.mono f.t) F;rw[<- E,<- D]at i;have t:=(Fw.new (p:=p) (o:=HO.lst [V,A]) n).trans j;exact#[l,_,d,_,Z,I,aF.of$ j.b _ _ (h.B.ne n) jc,i,q _ G #[g,Z,x.mono t.t] M ((c.trans f).trans t)]]
theorem vK{K:Frag}(e:σ[0]?=some (some$ .ref p))(u:Ev H0 p wl ys Hb σ T (PT ys k))(y:Ev H0 p wl ys Hb σ z (PT ys k))(A:Ev H0 p wl ys Hb σ C (PT ys k)):Ev H0 p wl ys Hb σ (eY (ie K) (lG$ ak T$ ak z$ ak C aP)$ sE 3) (PT ys k):=λH Q m W q=>
 u H _ m W λV D #[a,E,X] F f=>y D _ (m.trans f) F λG I #[b,J,L] M h=>A I _ ((m.trans f).trans h) M λN O #[c,R,S] r j=>#[f8,λl n=>kG e OA OA _ _ ((((m.trans f).trans h).trans j).trans$ .new n) (r.same$ jf n) λv U #[d,Y,d0,d1] W4 s=>by
  obtain⟨g,i,x⟩:=Bk (P:=fb O ys k) d0 d1 (X.mono (h.trans j).t) (L.mono j.t) S;rw[<- E,<- J,<- R]at i;have t:=(Fw.new (p:=p) (o:=HO.lst [V,G,N]) n).trans s;exact#[l,_,d,_,Z,Y,aF.of$ s.b _ _ (r.B.ne n) jc,i,q _ U #[g,Z,x.mono t.t] W4 (((f.trans h).trans j).trans t)]]
theorem AM{K:Frag}(e:σ[0]?=some (some$ .ref p))(r:1<=n)(s:n<=1000)(u:Ev H0 p wl ys Hb σ T (PT ys k))(y:Ev H0 p wl ys Hb σ z (PT ys k)):Ev H0 p wl ys Hb σ (eY (ie K) (lG$ ak T$ ak z aP)$ CC (λX H Q=>(∃i,X=[V.int i]/\Q (V.int i) H)∨∃k,X=[V.bl k]/\Q (V.int (if k=true then 1 else 0)) H)$ ak (eY Bp (sE n)$ tC$ .int 0) aP) (PT ys k):=λH Q m W q=>
 u H _ m W λA C #[a,E,D] F c=>y C _ (m.trans c) F λG I #[b,J,L] h f=>#[cj,λl N=>kG e r s _ _ (((m.trans c).trans f).trans$ .new N) (h.same$ jf N) λv M #[d,O,S,U] R j=>by
  subst O;refine#[Z,.inr #[_,Z,?_]];obtain⟨g,i,x⟩:=Bl (P:=fb I ys k) (D.mono f.t) L _;rw[<- E,<- J]at i;have t:=(Fw.new (p:=p) (o:=HO.lst [A,G]) N).trans j;exact#[l,_,_,_,Z,Z,aF.of$ j.b _ _ (h.B.ne N) jc,i,q _ M #[g,Z,x.mono t.t] R ((c.trans f).trans t)]]
theorem J2(e:σ[0]?=some (some$ .ref p))(h:Ev H0 p wl ys Hb σ T (PT ys k))(g:Ev H0 p wl ys Hb σ i (PT ys k)):Ev H0 p wl ys Hb σ (dB lB [] E0$ ak (bh 0)$ ak T$ ak i aP) (PT ys$ k+1):=λH Q m W q=>
 #[_,e,h H _ m W λv j #[a,E,x] l d=>g j _ (m.trans d) l λV y #[b,n,X] c f=>#[p,a,b,ys,k,by rw[E,n];rfl,c.B,x.mono f.t,X,λr o s u C=>q _ o #[r,Z,s] (c.but u C) ((d.trans f).trans$ .but c.B C)]]
theorem sT{w:Str}{T a:TE}{A B R:Hp->V->Prop}(M:mh A)(d:mh B)(e:Ev H0 p wl ys Hb σ T A)(f:Ev H0 p wl ys Hb σ a B)(h:∀H r u v,H r=some (.tup [.str w,u,v])->A H u->B H v->R H (.ref r)):Ev H0 p wl ys Hb σ (bV$ ak (tC$ .str w)$ ak T$ ak a aP) R:=λH Q m W q=>
 e H _ m W λC g X i b=>f g _ (m.trans b) i λD E j l c=>#[f8,λr n=>kh (P:=R) l (λo s x y k=>q o s x y ((b.trans c).trans k)) n λt z=>h _ _ _ _ z (M _ _ _ t$ M _ _ _ c.t X) (d _ _ _ t j)]
theorem C0{w:Str}{T:TE}{A R:Hp->V->Prop}(M:mh A)(a:Ev H0 p wl ys Hb σ T A)(h:∀H r u,H r=some (.tup [.str w,u])->A H u->R H (.ref r)):Ev H0 p wl ys Hb σ (bV$ ak (tC$ .str w)$ ak T aP) R:=λH Q m W q=>
 a H _ m W λf g X b c=>#[cj,λr n=>kh (P:=R) b (λv d x e k=>q v d x e (c.trans k)) n λt z=>h _ _ _ z (M _ _ _ t X)]
theorem AF{w:Str}{T d e:TE}{A B C R:Hp->V->Prop}(M:mh A)(f:mh B)(g:mh C)(i:Ev H0 p wl ys Hb σ T A)(j:Ev H0 p wl ys Hb σ d B)(l:Ev H0 p wl ys Hb σ e C)(h:∀H r u v x,H r=some (.tup [.str w,u,v,x])->A H u->B H v->C H x->R H (.ref r)):Ev H0 p wl ys Hb σ (bV$ ak (tC$ .str w)$ ak T$ ak d$ ak e aP) R:=λH Q m W q=>
 i H _ m W λL n X o a=>j n _ (m.trans a) o λO s y D b=>l s _ ((m.trans a).trans b) D λS U E F c=>#[sD,λr N=>kh (P:=R) F (λG I x J k=>q G I x J (((a.trans b).trans c).trans k)) N λt z=>h _ _ _ _ _ z (M _ _ _ t$ M _ _ _ (b.trans c).t X) (f _ _ _ t$ f _ _ _ c.t y) (g _ _ _ t E)]
theorem xM:mh (PN ys):=λ_ _ _ _ h=>h
theorem J3{t T:TE}{k:Nat}(h:Ev H0 p wl ys Hb σ t (PN ys))(b:Ev H0 p wl ys Hb σ T (PT ys k))(c:k < 6):Ev H0 p wl ys Hb σ (bV$ ak (tC$ .str "read")$ ak t$ ak T aP) (λH v=>cf Cf H ys 0 v):=sT xM ap h b λH r u v z #[x,e,d] #[a,E,f]=>BM (by rw[z,e,E]) d f c
theorem Jz{t T:TE}{k:Nat}(h:Ev H0 p wl ys Hb σ t (PN ys))(b:Ev H0 p wl ys Hb σ T (PT ys k))(c:k < 6):Ev H0 p wl ys Hb σ (bV$ ak (tC$ .str "set")$ ak t$ ak T aP) (λH v=>cf Cf H ys 0 v):=sT xM ap h b λH r u v z #[x,e,d] #[a,E,f]=>BN (by rw[z,e,E]) d f c
theorem J4{t T:TE}{j k:Nat}(h:Ev H0 p wl ys Hb σ t (PT ys j))(b:Ev H0 p wl ys Hb σ T (PT ys k))(c:j < 6)(d:k < 6):Ev H0 p wl ys Hb σ (bV$ ak (tC$ .str "write")$ ak t$ ak T aP) (λH v=>cf Cf H ys 0 v):=sT ap ap h b λH r u v z #[x,e,f] #[a,E,g]=>BO (by rw[z,e,E]) f g c d
theorem Q5{t:TE}{k:Nat}(h:Ev H0 p wl ys Hb σ t (PT ys k))(b:k < 6):Ev H0 p wl ys Hb σ (bV$ ak (tC$ .str "give")$ ak t aP) (λH v=>cf Cf H ys 0 v):=C0 ap h λH r v z #[a,e,c]=>BK (by rw[z,e]) c b
theorem ZP{n o T c:TE}{j k:Nat}(C:Ev H0 p wl ys Hb σ n (PN ys)){f:Str}(D:Ev H0 p wl ys Hb σ o (sJ f))(d:(f,2)∈Cf)(F:Ev H0 p wl ys Hb σ T (PT ys j))(G:Ev H0 p wl ys Hb σ c (PT ys k))(I:j < 6)(J:k < 6):Ev H0 p wl ys Hb σ (bV$ ak (tC$ .str "call")$ ak n$ ak o$ ak (bV$ ak T$ ak c aP) aP) (λH v=>cf Cf H ys 0 v):=by
 let R:Hp->V->Prop:=λH v=>∃q a b,v= .ref q/\H q=some (.tup [.ref a,.ref b])/\fb H ys j a/\fb H ys k b
 have M:mh R:=λ_ _ _ m #[q,a,b,e,g,L,i]=>#[q,a,b,e,m _ _ g,L.mono m,i.mono m];have N:Ev H0 p wl ys Hb σ (bV$ ak T$ ak c aP) R:=λH Q m W q=>
  F H _ m W λv2 O #[a,E,X] S s=>G O _ (m.trans s) S λv3 H3 #[b,l,U] Y A=>#[cj,λr nr=>kh (P:=R) Y (λv' H' x W' k=>q v' H' x W' ((s.trans A).trans k)) nr λt z=>#[r,a,b,Z,by rw[z,E,l],(X.mono A.t).mono t,U.mono t]]
 exact AF xM (B:=sJ f) (λ_ _ _ _ h=>h) M C D N λH r u v x z #[y,e1,g] (E:v= .str f) #[q,a,b,l,i,h4,h5]=>BJ (f:=f) (by rw[z,e1,E,l]) g d i h4 h5 I J
theorem vJ{t T b:TE}{k n m:Nat}(h:Ev H0 p wl ys Hb σ t (PT ys k))(c:Ev H0 p wl ys Hb σ T (PB Cf ys 0 n))(d:Ev H0 p wl ys Hb σ b (PB Cf ys 0 m))(e:k < 6)(s:n+m<=20):Ev H0 p wl ys Hb σ (bV$ ak (tC$ .str "if")$ ak t$ ak T$ ak b aP) (λH v=>cf Cf H ys 1 v):=
 AF ap dt dt h c d λH r u v x z #[a,E,f] #[Q,X,g,i,j,y] #[A,B,l,o,q,C]=>BL (by rw[z,E,g,l]) f i o j q OB e
theorem vO{t T:TE}{k n:Nat}(h:Ev H0 p wl ys Hb σ t (PT ys k))(b:Ev H0 p wl ys Hb σ T (PB Cf ys 0 n))(c:k < 6)(i:n<=20):Ev H0 p wl ys Hb σ (bV$ ak (tC$ .str "while")$ ak t$ ak T aP) (λH v=>cf Cf H ys 1 v):=
 sT ap dt h b λH r u v z #[a,e,d] #[q,x,E,f,g,j]=>rM (by rw[z,e,E]) d f g OB c
theorem vI{d:Nat}:Ev H0 p wl ys Hb σ (bV aP) (PB Cf ys d 0):=λH Q m W q=>#[rN,λr n=>kh (P:=PB Cf ys d 0) W q n λt z=>#[r,[],Z,z,Ki,Ee 0]]
theorem J5(h:Ev H0 p wl ys Hb σ T (λH v=>cf Cf H ys d v)):Ev H0 p wl ys Hb σ (bV$ ak T aP) (PB Cf ys d 1):=λH Q m W q=>
 h H _ m W λf g X a b=>#[nL,λr n=>kh (P:=PB Cf ys d 1) a (λV c x e k=>q V c x e (b.trans k)) n λt z=>#[r,_,Z,z,zu$ X.mono t,Ee 1]]
theorem Yv(h:Ev H0 p wl ys Hb σ T (λH v=>cf Cf H ys d v))(c:Ev H0 p wl ys Hb σ e (λH v=>cf Cf H ys d v)):Ev H0 p wl ys Hb σ (bV$ ak T$ ak e aP) (PB Cf ys d 2):=λH Q m W q=>
 h H _ m W λs f X g a=>c f _ (m.trans a) g λu y i j b=>#[cj,λr n=>kh (P:=PB Cf ys d 2) j (λV l x o k=>q V l x o ((a.trans b).trans k)) n λt z=>#[r,_,Z,z,jQ ((X.mono b.t).mono t)$ zu$ i.mono t,Ee 2]]
theorem AG(h:Ev H0 p wl ys Hb σ T (λH v=>cf Cf H ys d v))(e:Ev H0 p wl ys Hb σ f (λH v=>cf Cf H ys d v))(g:Ev H0 p wl ys Hb σ i (λH v=>cf Cf H ys d v)):Ev H0 p wl ys Hb σ (bV$ ak T$ ak f$ ak i aP) (PB Cf ys d 3):=λH Q m W q=>
 h H _ m W λC j X l a=>e j _ (m.trans a) l λD n o s b=>g n _ ((m.trans a).trans b) s λE F u y c=>#[f8,λr N=>kh (P:=PB Cf ys d 3) y (λV A x B k=>q V A x B (((a.trans b).trans c).trans k)) N λt z=>#[r,_,Z,z,jQ ((X.mono (b.trans c).t).mono t)$ jQ ((o.mono c.t).mono t)$ zu$ u.mono t,Ee 3]]
theorem qF(h:Ev H0 p wl ys Hb σ T (PB Cf ys d n))(e:Ev H0 p wl ys Hb σ f (PB Cf ys d m))(B:n+m<=100):Ev H0 p wl ys Hb σ (eY pH T f) (PB Cf ys d$ n+m):=λH Q M W q=>
 h H _ M W λV g #[a,x,E,i,X,L] j c=>e g _ (M.trans c) j λC D #[b,z,l,o,u,F] v k=>#[a,b,x,z,E,l,k.t _ _ i,o,En (show x.length+z.length<=100 by omega) OA,λr y A s=>q _ y #[r,_,Z,A,Jp ((X.mono k.t).mono$ ae.tm s)$ u.mono$ ae.tm s,by rw[Eg];omega] (v.same s) ((c.trans k).trans$ .same s)]
theorem Qa(e:σ[i]?=some (some$ .str x)):Ev H0 p wl ys Hb σ (bh i) (sJ x):=jE e (λ_ _ _ _ h=>h) Z
theorem Yw(h:Ev H0 p wl ys Hb σ T (sJ f))(g:Ev H0 p wl ys Hb σ i (PP m))(j:Ev H0 p wl ys Hb σ l (PB Cf ys 1 n))(O:n<=16)(o:ys.length<=20):Ev H0 p wl ys Hb σ (bV$ ak T$ ak i$ ak l aP) (PD Cf m f):=λH Q M W q=>
 h H _ M W λv s (E:v= .str f) u c=>g s _ (M.trans c) u λR y #[a,S,A,B,L] C d=>j y _ ((M.trans c).trans d) C λU Y #[b,xs,D,F,X,l4] G e=>#[f8,λr N=>kh (P:=PD Cf m f) G (λV I x J k=>q V I x J (((c.trans d).trans e).trans k)) N λt z=>
  #[r,Z,AD (f:=f) (by rw[z,E,A,D]) (t _ _$ e.t _ _ B) L (t _ _ F) (X.mono t) OB o]]
theorem vL(h:Ev H0 p wl ys Hb σ T (PN ys)):Ev H0 p wl ys Hb σ (bV$ ak T aP) (PP 1):=λH Q m W q=>
 h H _ m W λV f #[X,e,_] a b=>#[nL,λr n=>kh (P:=PP 1) a (λv c x d k=>q v c x d (b.trans k)) n λt z=>#[r,[X],Z,by rw[z,e];rfl,Z]]
theorem vM(h:Ev H0 p wl ys Hb σ T (PN ys))(b:Ev H0 p wl ys Hb σ c (PN ys)):Ev H0 p wl ys Hb σ (bV$ ak T$ ak c aP) (PP 2):=λH Q m W q=>
 h H _ m W λV d #[X,e,_] f a=>b d _ (m.trans a) f λs u #[g,E,_] i j=>#[cj,λr n=>kh (P:=PP 2) i (λv l x o k=>q v l x o ((a.trans j).trans k)) n λt z=>#[r,[X,g],Z,by rw[z,e,E];rfl,Z]]
theorem cf.lift(h:cf Cf H ys 0 v):cf Cf H ys 1 v:=h.up
theorem PB.lift(h:PB Cf ys 0 n H v):PB Cf ys 1 n H v:=let #[a,x,e,c,#[b,B,d,g,i],f]:=h;#[a,x,e,c,#[b,B,d,OB,OB],f]
theorem PB.more(h:PB Cf ys d n H v)(k:n<=m):PB Cf ys d m H v:=let #[a,x,e,b,c,f]:=h;#[a,x,e,b,c,En f k]
theorem qO{a b:TS}(W:Wd H0 H p wl ys)(e:σ[0]?=some (some$ .ref p))(g:1<=n)(i:n<=1000)(j:∀h,Wd H0 h p wl ys->Fw p H h->a D σ h)(l:∀h,Wd H0 h p wl ys->Fw p H h->b D σ h):rS (nj$ eY Bp (sE n)$ tC$ .int 0) a b D σ H:=
 kG (Hb:=H) e g i H _ .refl W λv c #[d,E,m,o] f k=>by subst E;exact#[Z,_,Z,bJ (λ_=>j c f k) (λ_=>l c f k)]
theorem jM{D:aJ}{P:Hp->V->Prop}(W:Wd H0 H p wl ys)(h:Ev H0 p wl ys H σ t P)(q:∀v a,P a v->Wd H0 a p wl ys->Fw p H a->D.nx (σ.set i$ some v) a):dn t (bf i) D σ H:=h H _ .refl W q
theorem QH{D:aJ}{P:Hp->V->Prop}(W:Wd H0 H p wl ys)(h:Ev H0 p wl ys H σ t P)(q:∀v a,P a v->Wd H0 a p wl ys->D.rt v a):gj t D σ H:=h H _ .refl W λv a x b _=>q v a x b
theorem uW{K:Frag}{D:aJ}(W:Wd H0 H p wl ys)(d:Ev H0 p wl ys H σ T (PT ys 0))(e:Ev H0 p wl ys H σ f (PT ys 0))(g:Ev H0 p wl ys H σ l (PT ys 0))
  (q:∀u v w h,PT ys 0 h u->PT ys 0 h v->PT ys 0 h w->Wd H0 h p wl ys->Fw p H h->D.nx (((σ.set k$ some w).set j$ some v).set i$ some u) h):wo K (bV$ ak T$ ak f$ ak l aP) i j k D σ H:=
 d H _ .refl W λV m x o a=>e m _ a o λs y X z b=>g y _ (a.trans b) z λA E B C c=>#[f8,λr n=>#[r,_,_,_,Z,aD.of jc,q V s A _ (ap _ _ _ (ae.tm$ jf n)$ ap _ _ _ (b.trans c).t x) (ap _ _ _ (ae.tm$ jf n)$ ap _ _ _ c.t X) (ap _ _ _ (ae.tm$ jf n) B) (C.same$ jf n) (((a.trans b).trans c).trans$ .new n)]]
structure Ow(H0 H:Hp)(p wl l:Addr)(xs:List V):Prop where
 hl:H l=some (.lst xs)
 np:l≠p
 lw:l≠wl
 l0:H0 l=none
theorem Ow.fw(o:Ow H0 H p wl l x)(k:Fw p H h):Ow H0 h p wl l x:=#[k.b _ _ o.np o.hl,o.np,o.lw,o.l0]
theorem Ow.new(W:Wd H0 H p wl ys)(n:H l=none):Ow H0 (af H l$ .lst x) p wl l x:=#[jc,W.B.ne n,(λe=>by have z:=W.w;rw[<- e,n]at z;cases z),W.K.none W.B n]
theorem Bg{D:aJ}(W:Wd H0 H p wl ys)(b:Ev H0 p wl ys H σ t (λH v=>cf Cf H ys 0 v))(q:∀l v h,Ow H0 h p wl l [v]->cf Cf h ys 0 v->Wd H0 h p wl ys->Fw p H h->D.nx (σ.set i$ some$ .ref l) h):dn (lG$ ak t aP) (bf i) D σ H:=
 b H _ .refl W λV c x a k=>#[nL,λl n=>q l V _ (.new a n) (x.mono$ ae.tm$ jf n) (a.same$ jf n) (k.trans$ .new n)]
theorem Bh{D:aJ}(W:Wd H0 H p wl ys)(c:Ev H0 p wl ys H σ T (λH v=>cf Cf H ys 0 v))(d:Ev H0 p wl ys H σ e (λH v=>cf Cf H ys 0 v))(q:∀l u v h,Ow H0 h p wl l [u,v]->cf Cf h ys 0 u->cf Cf h ys 0 v->Wd H0 h p wl ys->Fw p H h->D.nx (σ.set i$ some$ .ref l) h):dn (lG$ ak T$ ak e aP) (bf i) D σ H:=
 c H _ .refl W λV f x g k=>d f _ k g λj m X a b=>#[cj,λl n=>q l V j _ (.new a n) ((x.mono b.t).mono$ ae.tm$ jf n) (X.mono$ ae.tm$ jf n) (a.same$ jf n) ((k.trans b).trans$ .new n)]
theorem Jq{K:Frag}{D:aJ}(W:Wd H0 H p wl ys)(a:σ[i]?=some (some$ .ref l))(o:Ow H0 H p wl l xs)(b:xs.length<=100)(c:Ev H0 p wl ys H σ T (λH v=>cf Cf H ys 0 v))
  (q:∀v h,cf Cf h ys 0 v->Ow H0 h p wl l (xs++[v])->Wd H0 h p wl ys->ai H h->D.nx σ h):ni (Dk K "list" iA (bh i)$ ak T aP) D σ H:=
 #[_,a,.inl #[Z,_,aF.of o.hl],c H _ .refl W λv e x d k=>#[l,xs,v,Z,Z,(o.fw k).hl,FL b OA,q v _ (x.mono$ QF (o.fw k).hl) #[jc,o.np,o.lw,o.l0] (d.own (xs:=xs) o.l0 o.np o.lw) (k.t.trans$ QF (o.fw k).hl)]]
theorem vf{K:Frag}{D:aJ}(W:Wd H0 H p wl ys)(h:σ[i]?=some (some$ .ref l))(o:Ow H0 H p wl l (u::v::z))
  (q:∀a,Ow H0 a p wl l (v::u::z)->Wd H0 a p wl ys->ai H a->D.nx σ a):dn (bV$ ak (eY (ie K) (bh i)$ tC$ .int 1)$ ak (eY (ie K) (bh i)$ tC$ .int 0) aP) (ot K 2$ dA (xt (bh i) (tC$ .int 0) my)$ dA (xt (bh i) (tC$ .int 1) my) sZ) D σ H:=
 #[_,h,l,_,_,_,Z,Z,aF.of o.hl,nZ,_,h,l,_,_,_,Z,Z,aF.of o.hl,fg,cj,λt N=>#[t,_,Z,aD.of jc,Z,_,_,Z,_,h,l,_,0,0,Z,Z,ao o.hl N,DU (n:=z.length+1),_,_,Z,_,h,l,_,1,1,Z,Z,jc,DV (n:=z.length),Z,
  q _ #[jc,o.np,o.lw,o.l0] (((W.same$ jf N).own (xs:=u::v::z) o.l0 o.np o.lw).own (xs:=u::v::z) o.l0 o.np o.lw) (((ae.tm$ jf N).trans$ QF$ ao o.hl N).trans$ QF jc)]]
theorem vN{K:Frag}{n:Nat}(e:σ[i]?=some (some$ .ref l))(o:Ow H0 Hb p wl l x)(h:fq Cf Hb ys 0 x)(a:x.length<=n):Ev H0 p wl ys Hb σ (CC (λx H Q=>∃p ys,x=[V.ref p]/\((aF K H p ys/\∀(l:Addr),H l=none->Q (V.ref l) (af H l$ HO.tup ys))∨aD K H p ys/\Q (V.ref p) H))$ ak (bh i) aP) (PB Cf ys 0 n):=λH Q m W q=>
 #[_,e,l,x,Z,.inl #[aF.of (o.fw m).hl,λr N=>kh (P:=PB Cf ys 0 n) W q N λt z=>#[r,x,Z,z,(h.mono m.t).mono t,a]]]
theorem wN{D:aJ}(W:Wd H0 H p wl ys)(u:σ[i]?=some (some$ .ref l))(y:σ[j]?=some (some$ .ref m))(o:Ow H0 H p wl l x)(O:Ow H0 H p wl m z)(C:x.length+z.length<=100)(E:fq Cf H ys 0 x)(F:fq Cf H ys 0 z)
  (G:Ev H0 p wl ys H σ T (λH v=>cf Cf H ys 0 v)) (I:Ev H0 p wl ys H σ J (λH v=>cf Cf H ys 0 v)) (q:∀r U h,Ow H0 h p wl r U->fq Cf h ys 0 U->U.length<=x.length+z.length+2->Wd H0 h p wl ys->Fw p H h->D.nx (σ.set i$ some$ .ref r) h):
  dn (eY uI (eY uI (bh i)$ bh j)$ lG$ ak T$ ak J aP) (bf i) D σ H:=
 #[_,u,_,y,l,m,_,_,Z,Z,o.hl,O.hl,En C OA,λc n=>G _ _ (.new n) (W.same$ jf n) λV L X M k=>I L _ ((Fw.new n).trans k) M λe R Q A s=>#[cj,λd N=>#[c,d,_,_,Z,Z,ao ((k.trans s).b _ _ (W.B.ne n) jc) N,jc,by
  have:=aQ;show(x++z).length+2<=sizeLine;rw[Eg];omega,λr a=>q r _ _ (.new (A.same$ jf N) a) (by
   have f:=(((Fw.new n).trans k).trans s).trans ((Fw.new (p:=p) (o:=HO.lst [V,e]) N).trans$ Fw.new (o:=HO.lst ((x++z)++[V,e])) a);have g:=(Fw.new (p:=p) (o:=HO.lst [V,e]) N).trans (Fw.new (o:=HO.lst ((x++z)++[V,e])) a);exact Jp (Jp (E.mono f.t)$ F.mono f.t)$ jQ ((X.mono s.t).mono g.t)$ zu$ Q.mono g.t) (by rw[Eg,Eg];exact Ee _) ((A.same$ jf N).same$ jf a) ((((Fw.new n).trans k).trans s).trans ((Fw.new N).trans$ Fw.new a))]]]
theorem YT{K:Frag}{D:aJ}(W:Wd H0 H p wl ys)(k:σ[3]?=some (some$ .ref wl))(l:ys.length=6)
  (q:∀a b c d e g,PT ys 0 g a->PT ys 0 g b->PT ys 0 g c->PT ys 0 g d->PT ys 0 g e->Wd H0 g p wl ys->D.nx (((((σ.set 4$ some a).set 5$ some b).set 6$ some c).set 7$ some d).set 8$ some e) g):
  dn (rQ (vS K$ CD (uK K) (bh 3) iV$ lH$ tC$ V.int 5) 1 [] (bf 0) lF$ bV$ ak (tC$ V.str "var")$ ak (bh 0) aP) (C1 K 5$ dA (bf 4)$ dA (bf 5)$ dA (bf 6)$ dA (bf 7)$ dA (bf 8) sZ) D σ H:=by
 have B:=aQ;refine#[_,k,_,Z,wl,_,Z,aF.of W.w,λs n=>?_];have E:aV (ys.map V.str) none (some 5)=(ys.take 5).map V.str:=by rw[show(5:Int)=((5:Nat):Int) from Z,AA (by rw[Ec];omega),HN]
 have t:af H s (.lst$ aV (ys.map V.str) none$ some 5) s=some (.lst ((ys.take 5).map V.str)):=by rw[E];exact jc
 have S:=jf (o:=HO.lst (aV (ys.map V.str) none$ some 5)) n;generalize af H s (.lst$ aV (ys.map V.str) none$ some 5)=A at t S;refine#[s,Z,#[_,aF.of t],?_];refine Zt (K:=K) (a:=s) (xs:=(ys.take 5).map V.str) (by rw[Ec,EJ];omega) (λi j g=>j.length=i/\(∀v∈j,PT ys 0 g v)/\ae A g) #[Z,(λ_ h=>absurd h EC),ae.refl _] (λi j g h=>#[aF.of$ h.2.2 _ _ t,I8 h.1]) (λi x j g C h=>?_) (λj F h L N=>?_)
 ·obtain⟨y,l,rfl⟩:=List.mem_map.mp (Ey C);exact#[_,Z,cj,λr u=>#[by rw[Eg,h.1];rfl,Jc (λa z=>ap _ _ _ (ae.tm$ jf u) (h.2.1 a z)) #[r,Z,sd jc$ Fp l],h.2.2.trans$ jf u]]
 ·have e:=h.1;rw[Ec,EJ]at e;obtain⟨a,b,c,d,f,rfl⟩:=C6 (show j.length=5 by omega);have m:=ae.tm (jf (o:=HO.lst [a,b,c,d,f]) N);exact#[L,_,Z,aF.of jc,Z,_,_,Z,_,_,Z,_,_,Z,_,_,Z,_,_,Z,Z,q a b c d f _ (ap _ _ _ m$ h.2.1 a OD) (ap _ _ _ m$ h.2.1 b OD) (ap _ _ _ m$ h.2.1 c OD) (ap _ _ _ m$ h.2.1 d OD) (ap _ _ _ m$ h.2.1 f OD) (((W.same S).same h.2.2).same$ jf N)]
end
theorem Dc:al z13z z13z (aa Db):=bZ
theorem A9(F:aU K "_law_op" "_law_op" Db f t)(C:Cl P w K mg base 1 T u z0z aW "_law_take"):aj P w K mg base aC 2 f t z13z lB:=by
 refine F.ok Dc ?_ λv A O s H V Q E x h=>?_
 ·rintro _ _ _ _ ⟨p,a,b,y,k,rfl,_⟩;rfl
 obtain⟨p,a,b,y,k,rfl,B,z,D,q⟩:=h;refine#[_,(jg$ jl$ ji$ ja jj$ ja (jv jo (jD$ ja jj$ ja jj$ ja jj$ ja jj jb) (C.e x.m$ ja (pv 0)$ ja je jb) (λ_ _=>Z))$ ja (pv 1)$ ja (pv 2) jb),?_];refine#[sD,λl n=>#[_,Z,p,4,Z,B.upd_new n,OA,OA,λd G I J L j=>?_]];obtain⟨s,c,M⟩:=uB I J;have g:au p H G:=((au.refl).upd_new n).trans (au.of_eq j);refine#[l,_,_,_,Z,Z,aF.of (by rw[j l$ B.ne n];exact jc),c,_,Z,_,Z,sD,λr N=>?_];have S:=jf (o:=HO.tup [.str "op",.str s,.ref a,.ref b]) N;exact q r _ (wC jc M ((z.mono$ g.tm B).mono$ ae.tm S) ((D.mono$ g.tm B).mono$ ae.tm S) (EX _)$ EX _) (L.upd_new N)$ g.trans$ au.of_same S
theorem bL:al ["_law_box_here","_law_f","_law_g","_law_w","_law_x","_law_i","_law_y","_law_spot_here","_law_body_here","_law_deeper","_law_test","_law_early","_law_last"] z36z (aa lT):=bZ
theorem oY(F:aU K "_law_inner" "_law_inner" lT f fd)(I:Cl P w K mg base 1 fT c1 z0z aW "_law_take")(cO:Cl P w K mg base 2 fO c2 z13z lB "_law_op"):aj P w K mg base aC 3 f fd z36z (cH 2):=by
 refine F.ok bL ?_ λc3 A o1 s H vs Q E l h=>?_
 ·rintro _ _ _ _ ⟨p,T,f0,g,Y,rfl,_⟩;rfl
 obtain⟨p,T,f0,g,Y,rfl,B,hw,h2,q⟩:=h;refine#[_,(jd (@uD _ _ _ _ _ _ _ _ (4) (5) (6) Z bL.nd Z Z Z (Or.inl Z) (Or.inl Z) (Or.inl Z) (ji$ ja (ji$ ja jj$ ja (jv jo (pv 3) je (λ_ _=>Z)) jb)$ ja (ji$ ja jj$ ja (jv jo (pv 3) je (λ_ _=>Z)) jb)$ ja (ji$ ja jj$ ja (jv jo (pv 3) je (λ_ _=>Z)) jb) jb) (by first |exact .inl Z |exact .inr Z) (by first |exact .inl Z |exact .inr Z) (by first |exact .inl Z |exact .inr Z) OF OF)$ jd (jy 7 bL.nd$ ji$ ja jj$ ja jj$ ja (jv jo (jD$ ja (pv 4)$ ja (pv 5) jb) (I.e l.m$ ja (pv 0)$ ja je jb) (λ_ _=>Z))$ ja (ji$ ja jj$ ja (I.e l.m$ ja (pv 0)$ ja je jb) jb) jb)$ jd (jy 8 bL.nd$ ji$ ja (ji$ ja jj$ ja (jv jo (pv 3) je (λ_ _=>Z))$ ja (pv 7) jb) jb)$ jd (jX$ ju (zb$ I.e l.m$ ja (pv 0)$ ja je jb) (jd (jy 7 bL.nd$ ji$ ja jj$ ja jj$ ja (pv 5)$ ja (ji$ ja jj$ ja (jq jO je$ I.e l.m$ ja (pv 0)$ ja je jb) jb) jb)$ jg$ jy 8 bL.nd$ jq kY (pv 8)$ ji$ ja (ji$ ja jj$ ja (pv 7)$ ja (cO.e l.m$ ja (pv 0)$ ja (pv 4)$ ja (pv 6) jb) jb) jb) jm)$ jd (jX$ ju (zb$ I.e l.m$ ja (pv 0)$ ja je jb) (jd (jy 9 bL.nd$ ji$ ja jj$ ja (jv jo (pv 3) je (λ_ _=>Z))$ ja (pv 2)$ ja (ji$ ja (ji$ ja jj$ ja jj$ ja (pv 5)$ ja (ji$ ja jj$ ja je jb) jb)$ ja (pv 6) jb) jb)$ jg$ jy 8 bL.nd$ jq kY (pv 8)$ ji$ ja (ji$ ja jj$ ja (pv 5)$ ja (ji$ ja (pv 9) jb)$ ja (ji jb) jb) jb) jm)$ jd (jy 10 bL.nd$ ji$ ja jj$ ja (jv Kb jj (I.e l.m$ ja (pv 0)$ ja je jb) (λ_ _=>Z))$ ja (pv 6)$ ja (ji$ ja jj$ ja (I.e l.m$ ja (pv 0)$ ja je jb) jb) jb)$ jd (jy 11 bL.nd$ ji$ ja jj$ ja (cO.e l.m$ ja (pv 0)$ ja (pv 4)$ ja (pv 6) jb) jb)$ jd (jy 12 bL.nd$ ji$ ja jj$ ja (cO.e l.m$ ja (pv 0)$ ja (pv 6)$ ja (pv 5) jb) jb)$ jd (jy 8 bL.nd$ jq kY (pv 8)$ ji$ ja (ji$ ja jj$ ja (pv 10)$ ja (ji$ ja (pv 11) jb)$ ja (ji jb) jb)$ ja (pv 12) jb)$ jg$ jl$ ji$ ja (pv 1)$ ja (ji$ ja (jv jo (pv 3) je (λ_ _=>Z))$ ja (jv jo (pv 3) je (λ_ _=>Z)) jb)$ ja (pv 8) jb),?_];have W0:Wd H H p T Y:=#[B,au.refl,hw];refine ah λF1 f1=>uW W0 (J1$ kB Z OA OB) (J1$ kB Z OA OB) (J1$ kB Z OA OB) λvx vi vy J xx X U W1 k1=>f1 _ _ ?_;refine ah λF2 f2=>jM W1 (qd (n:=1) (qf zk) (Yu Z (jE Z ap xx)$ jE Z ap X) (ki (kG Z OA OA) OA) OA OA) λv2 H2 x2 W2 k2=>f2 _ _ ?_;refine ah λF3 f3=>jM W2 (J5$ J3 (Cf:=[(g,2)]) (kB Z OA OB) (jE Z ap x2) OA) λv3 H3 x3 W3 k3=>f3 _ _ ?_;refine ah λF4 f4=>dk (λL u=>∃(o:Option V) (b:V),L=[some$ V.ref p,some$ V.str f0,some$ V.str g,some$ V.ref T,some$ vx,some$ vi,some$ vy,o,some b,none,none,none,none]/\PB [(g,2)] Y 1 2 u b/\Wd H u p T Y/\ai H3 u) (λE4 _ f5=>qO W3 Z OA OA (λH6 W6 k6=>?_) (λH6 W6 k6=>?_)) λσ0 H5 h0=>?_
 ·clear f4;have C:ai J H6:=((k2.t.trans k3.t).trans k6.t);refine ah λF7 f7=>jM W6 (qd (n:=1) (qf zk) (jE Z ap$ ap _ _ _ C X) (ki (QG (kG Z OA OA) OA) OA) OA OA) λv7 H7 x7 W7 k7=>f7 _ _ ?_;have D:ai H3 H7:=(k6.t.trans k7.t);have G:ai J H7:=(C.trans k7.t);refine jM W7 (qF (jE Z dt$ dt _ _ _ D x3) (J5$ J4 (Cf:=[(g,2)]) (jE Z ap x7) (J2 Z (jE Z ap$ ap _ _ _ G xx)$ jE Z ap$ ap _ _ _ G U) OA OA) OA) λv8 H8 x8 W8 k8=>f5 _ _ ?_;have m0:ai H3 H8:=(D.trans k8.t);exact#[_,_,Z,(PB.lift x8),W8,m0]
 ·clear f4;exact f5 _ _ #[_,_,Z,(PB.more (PB.lift$ dt _ _ _ k6.t x3) OA),W6,k6.t]
 obtain⟨o5,b5,rfl,x5,W5,k5⟩:=h0;refine f4 _ _ ?_;clear f4;refine ah λF9 f9=>dk (λL u=>∃(o:Option V) (b:V),L=[some$ V.ref p,some$ V.str f0,some$ V.str g,some$ V.ref T,some$ vx,some$ vi,some$ vy,o5,some b,o,none,none,none]/\PB [(g,2)] Y 1 3 u b/\Wd H u p T Y/\ai H5 u) (λE9 _ f6=>qO W5 Z OA OA (λH0 W k=>?_) (λH0 W k=>?_)) λσ1 H4 h1=>?_
 ·clear f9;have M:ai J H0:=(((k2.t.trans k3.t).trans k5).trans k.t);refine ah λF0 f'=>jM W (ZP (Cf:=[(g,2)]) (kB Z OA OB) (Qa Z) Es (qd (n:=1) (qf Xo) (jE Z ap$ ap _ _ _ M X) (ki (QD OA (by decide:(1:Int) < 2)) OA) OA OA) (jE Z ap$ ap _ _ _ M U) OA OA) λv1 H9 x0 W4 k0=>f' _ _ ?_;have c:ai H5 H9:=(k.t.trans k0.t);have N:ai J H9:=(M.trans k0.t);refine jM W4 (qF (jE Z dt$ dt _ _ _ c x5) (J5$ vJ (jE Z ap$ ap _ _ _ N X) (J5$ jE Z dE x0) (vI (Cf:=[(g,2)]) (d:=0)) OA OA) OA) λv4 a2 x1 W9 k9=>f6 _ _ ?_;have O:ai H5 a2:=(c.trans k9.t);exact#[_,_,Z,x1,W9,O]
 ·clear f9;exact f6 _ _ #[_,_,Z,(PB.more (dt _ _ _ k.t x5) OA),W,k.t]
 obtain⟨o2,c4,rfl,x4,a3,k'⟩:=h1;refine f9 _ _ ?_;clear f9;have i:ai J H4:=(((k2.t.trans k3.t).trans k5).trans k');refine ah λF5 a4=>jM a3 (qd (n:=1) (AO Z) (jE Z ap$ ap _ _ _ i U) (ki (kG Z OA OA) OA) OA OA) λv5 a0 x9 a' k4=>a4 _ _ ?_;have a:ai J a0:=(i.trans k4.t);refine ah λF6 b0=>jM a' (Q5 (Cf:=[(g,2)]) (J2 Z (jE Z ap$ ap _ _ _ a xx)$ jE Z ap$ ap _ _ _ a U) OA) λv6 b1 x' b2 R=>b0 _ _ ?_;have j:ai J b1:=(a.trans R.t);refine ah λc5 b3=>jM b2 (Q5 (Cf:=[(g,2)]) (J2 Z (jE Z ap$ ap _ _ _ j U)$ jE Z ap$ ap _ _ _ j X) OA) λv9 a1 b4 b7 S=>b3 _ _ ?_;have y:ai H4 a1:=((k4.t.trans R.t).trans S.t);have z:ai a0 a1:=(R.t.trans S.t);refine ah λc6 b9=>jM b7 (qF (jE Z dt$ dt _ _ _ y x4) (Yv (vJ (jE Z ap$ ap _ _ _ z x9) (J5$ jE Z dE$ dE _ _ _ S.t x') (vI (Cf:=[(g,2)]) (d:=0)) OA OA)$ Ev.up (jE Z dE b4) λ_ _=>cf.lift) OA) λv' c9 b' c0 c'=>b9 _ _ ?_;refine QH c0 (Yw (Qa Z) (vM (kB Z OA OB)$ kB Z OA OB) (jE Z dt b') OA OB) λv u x W'=>?_;obtain⟨r,rfl,x⟩:=x;exact q r u x W'.B W'.K
theorem bg:al z38z z16z (aa gq):=bZ
noncomputable def K8:Scope:=#[.function,[(".0",.local),("_law_one",.local)],false,false,[]]
theorem Yp:(["_law_one"]:List Str).Nodup:=by decide+kernel
theorem Yq:a7 z38z (aa gq) K8 ["_law_one"] 1 []:=nE
theorem Zx(F:aU K "_law_looped" "_law_looped" gq f fd)(C:Cl P w K mg base 1 fT d7 z0z aW "_law_take")(cO:Cl P w K mg base 2 fO d8 z13z lB "_law_op")(mi:mg "int"=none)(m6:mg "tuple"=none):aj P w K mg base aC 3 f fd z16z (cH 1):=by
 refine F.ok bg ?_ λd' A b2 s H vs Q E l h=>?_
 ·rintro _ _ _ _ ⟨p,W,f0,g,Y,rfl,_⟩;rfl
 obtain⟨p,W,f0,g,Y,rfl,B,hw,h2,q⟩:=h;refine#[_,(jd (kH (@kn _ _ _ _ _ _ _ (["_law_one"]) (1) ([]) _ _ _ _ Z (JP$ jK km (pv 3) kX$ jH je) Yq (λ_ _ _ _ _=>(jr (i:=0) Yp Z$ Or.inl Z)) (λ_ _ _ _ _=>(@zr _)) (λ_ _ _ _ _=>(ji$ ja jj$ ja (pv 0) jb)) (by intro _;rfl))$ @YK _ _ _ _ (5) _ Z (jz (jr (i:=4) bg.nd Z$ Or.inl Z)$ jz (jr (i:=5) bg.nd Z$ Or.inl Z)$ jz (jr (i:=6) bg.nd Z$ Or.inl Z)$ jz (jr (i:=7) bg.nd Z$ Or.inl Z)$ jz (jr (i:=8) bg.nd Z$ Or.inl Z) kK) OF OF)$ jd (jy 9 bg.nd$ jD$ ja (ji$ ja jj$ ja (jv jo (pv 3) je (λ_ _=>Z))$ ja (ji$ ja jj$ ja jj$ ja (pv 5)$ ja (ji$ ja jj$ ja (C.e l.m$ ja (pv 0)$ ja je jb) jb) jb) jb) jb)$ jd (jS$ kM EH ET ES jY (pv 9)$ ja (ji$ ja jj$ ja (jv jo (pv 3) je (λ_ _=>Z))$ ja (pv 2)$ ja (ji$ ja (pv 7)$ ja (jv jo (jD$ ja (pv 5)$ ja (pv 6) jb) (jC zP Z mi Mm$ ja (kW zD (C.e l.m$ ja (pv 0)$ ja je jb) je$ aA _) jb) (λ_ _=>Z)) jb) jb) jb)$ jd (jX$ ju (zb$ C.e l.m$ ja (pv 0)$ ja je jb) (jd (jy 10 bg.nd$ ji$ ja jj$ ja jj$ ja (pv 5)$ ja (ji$ ja jj$ ja (jq jO je$ C.e l.m$ ja (pv 0)$ ja je jb) jb) jb)$ jg$ jS$ kM EH ET ES jY (pv 9)$ ja (ji$ ja jj$ ja (pv 10)$ ja (jv jo (jD$ ja (pv 6)$ ja (pv 8)$ ja (pv 7) jb) (C.e l.m$ ja (pv 0)$ ja je jb) (λ_ _=>Z)) jb) jb) jm)$ jd (jS$ kM EH ET ES jY (pv 9)$ ja (ji$ ja jj$ ja (jv jo (pv 3) je (λ_ _=>Z))$ ja (cO.e l.m$ ja (pv 0)$ ja (jv jo (jD$ ja (pv 6)$ ja (pv 6)$ ja (pv 7) jb) (C.e l.m$ ja (pv 0)$ ja je jb) (λ_ _=>Z))$ ja (pv 8) jb) jb) jb)$ jd (jX$ ju (zb$ C.e l.m$ ja (pv 0)$ ja je jb) (jg$ kH (ji$ ja (jv jo (pv 9) je (λ_ _=>Z))$ ja (jv jo (pv 9) je (λ_ _=>Z)) jb)$ zT (n:=2) Z$ jz (qC (pv 9) je zz)$ jz (qC (pv 9) je zz) kK) jm)$ jd (jS$ kM EH ET ES jY (pv 9)$ ja (ji$ ja jj$ ja (jv jo (pv 3) je (λ_ _=>Z))$ ja (ji$ ja jj$ ja jj$ ja (pv 5)$ ja (ji$ ja jj$ ja je jb) jb) jb) jb)$ jd (jy 11 bg.nd$ ji$ ja (ji$ ja jj$ ja (jv jo (pv 3) je (λ_ _=>Z))$ ja (ji$ ja jj$ ja (C.e l.m$ ja (pv 0)$ ja je jb) jb) jb)$ ja (ji$ ja jj$ ja (jv jo (pv 3) je (λ_ _=>Z))$ ja (ji$ ja jj$ ja (C.e l.m$ ja (pv 0)$ ja je jb) jb) jb) jb)$ jd (jX$ ju (zb$ C.e l.m$ ja (pv 0)$ ja je jb) (jd (jy 11 bg.nd$ jq kY (pv 11)$ ji$ ja (ji$ ja jj$ ja (jv jo (pv 3) je (λ_ _=>Z))$ ja (ji$ ja jj$ ja (jq jO je$ C.e l.m$ ja (pv 0)$ ja je jb) jb) jb) jb)$ jg$ jy 11 bg.nd$ jq kY (pv 11)$ ji$ ja (ji$ ja jj$ ja (jv jo (pv 3) je (λ_ _=>Z))$ ja (ji$ ja jj$ ja jj$ ja (pv 4)$ ja (ji$ ja jj$ ja je jb) jb) jb) jb) jm)$ jd (jy 12 bg.nd$ ji$ ja jj$ ja (ji$ ja jj$ ja jj$ ja (pv 5)$ ja (pv 4) jb)$ ja (jC jF Z m6 Gx$ ja (pv 9) jb) jb)$ jg$ jl$ ji$ ja (pv 1)$ ja (ji$ ja (jv jo (pv 3) je (λ_ _=>Z)) jb)$ ja (jq kY (pv 11)$ ji$ ja (pv 12)$ ja (ji$ ja jj$ ja (ji$ ja jj$ ja je jb)$ ja (pv 6) jb)$ ja (ji$ ja jj$ ja (pv 6) jb) jb) jb),?_];have W0:Wd H H p W Y:=#[B,au.refl,hw];refine ah λF1 f1=>YT W0 Z h2 λvn vi vs vx vy U xn xi xs xx xy W1=>f1 _ _ ?_;refine ah λF2 f2=>Bg W1 (J3 (Cf:=[(g,2)]) (kB Z OA OB) (qd (n:=1) (qf zk) (jE Z ap xi) (ki (kG Z OA OA) OA) OA OA) OA) λlb u2 H2 o2 x2 W2 k2=>f2 _ _ ?_;refine ah λF3 f3=>Jq W2 Z o2 (show 1<=100 by decide) (ZP (Cf:=[(g,2)]) (kB Z OA OB) (Qa Z) Es (jE Z ap$ ap _ _ _ k2.t xx) (AM Z OA OA (jE Z ap$ ap _ _ _ k2.t xi)$ jE Z ap$ ap _ _ _ k2.t xs) OA OA) λu3 H3 x3 o3 W3 k3=>f3 _ _ ?_;refine ah λF4 f4=>dk (λu c=>∃(o:Option V) (G:List V),u=[some$ V.ref p,some$ V.str f0,some$ V.str g,some$ V.ref W,some$ vn,some$ vi,some$ vs,some$ vx,some$ vy,some$ V.ref lb,o,none,none]/\Ow H c p W lb (u2::u3::G)/\fq [(g,2)] c Y 0 G/\G.length<=1/\Wd H c p W Y/\ai H3 c) (λE4 _ f5=>qO W3 Z OA OA (λH6 W6 k6=>?_) (λH6 W6 k6=>?_)) λσ2 H5 h3=>?_
 ·clear f4;have o6:=o3.fw k6;have R:ai U H6:=((k2.t.trans k3).trans k6.t);refine ah λF7 f7=>jM W6 (qd (n:=1) (qf zk) (jE Z ap$ ap _ _ _ R xi) (ki (QG (kG Z OA OA) OA) OA) OA OA) λv7 H7 x7 W7 k7=>f7 _ _ ?_;have o7:=o6.fw k7;have y:ai U H7:=(R.trans k7.t);refine Jq W7 Z o7 (show 2<=100 by decide) (J4 (Cf:=[(g,2)]) (jE Z ap x7) (vK Z (jE Z ap$ ap _ _ _ y xs) (jE Z ap$ ap _ _ _ y xy)$ jE Z ap$ ap _ _ _ y xx) OA OA) λu8 H8 x8 o8 W8 k8=>f5 _ _ ?_;have m5:ai H3 H8:=((k6.t.trans k7.t).trans k8);exact#[_,[u8],Z,o8,zu x8,Ee 1,W8,m5]
 ·clear f4;have o6:=o3.fw k6;exact f5 _ _ #[_,[],Z,o6,Ki,OA,W6,k6.t]
 obtain⟨w5,G,rfl,o5,zx,zl,W5,k5⟩:=h3;refine f4 _ _ ?_;clear f4;have M:ai U H5:=((k2.t.trans k3).trans k5);refine ah λF9 f9=>Jq W5 Z o5 (show G.length+1+1<=100 by omega) (Jz (Cf:=[(g,2)]) (kB Z OA OB) (J2 Z (vK Z (jE Z ap$ ap _ _ _ M xs) (jE Z ap$ ap _ _ _ M xs)$ jE Z ap$ ap _ _ _ M xx)$ jE Z ap$ ap _ _ _ M xy) OA) λu9 H9 x9 o9 W9 k9=>f9 _ _ ?_;have zy:fq [(g,2)] H9 Y 0 (G++[u9]):=Jp (zx.mono k9) (zu x9);have zm:(G++[u9]).length<=2:=by rw[Eg];exact FN zl
 refine ah λF0 I=>dk (λu c=>∃(X:List V),u=[some$ V.ref p,some$ V.str f0,some$ V.str g,some$ V.ref W,some$ vn,some$ vi,some$ vs,some$ vx,some$ vy,some$ V.ref lb,w5,none,none]/\Ow H c p W lb X/\fq [(g,2)] c Y 0 X/\X.length<=4/\Wd H c p W Y/\ai H9 c) (λE1 _ S=>qO W9 Z OA OA (λH0 W4 k=>?_) (λH0 W4 k=>?_)) λσ0 b3 h0=>?_
 ·clear I;have o1:=o9.fw k;refine vf W4 Z o1 λH4 b4 b5 k0=>S _ _ ?_;have m0:ai H3 H4:=(((k5.trans k9).trans k.t).trans k0);have m1:ai H2 H4:=((((k3.trans k5).trans k9).trans k.t).trans k0);have z:ai H9 H4:=(k.t.trans k0);exact#[_,Z,b4,jQ ((dE _ _ _ m0 x3))$ jQ ((dE _ _ _ m1 x2))$ zy.mono z,(show(G++[u9]).length+1+1<=4 by omega),b5,z]
 ·clear I;have o1:=o9.fw k;have m2:ai H2 H0:=(((k3.trans k5).trans k9).trans k.t);have m3:ai H3 H0:=((k5.trans k9).trans k.t);exact S _ _ #[_,Z,o1,jQ ((dE _ _ _ m2 x2))$ jQ ((dE _ _ _ m3 x3))$ zy.mono k.t,(show(G++[u9]).length+1+1<=4 by omega),W4,k.t]
 obtain⟨X,rfl,b7,ux,ul,b9,b'⟩:=h0;refine I _ _ ?_;clear I;have d:ai U b3:=((M.trans k9).trans b');refine ah λF5 f6=>Jq b9 Z b7 OB (Jz (Cf:=[(g,2)]) (kB Z OA OB) (qd (n:=1) (qf zk) (jE Z ap$ ap _ _ _ d xi) (ki (QD OA (by decide:(1:Int) < 2)) OA) OA OA) OA) λu0 a1 x1 c0 c1 k1=>f6 _ _ ?_;have b0:fq [(g,2)] a1 Y 0 (X++[u0]):=Jp (ux.mono k1) (zu x1);have bl:(X++[u0]).length<=5:=by rw[Eg];exact FN ul
 refine ah λF6 f'=>jM c1 (Yv (Jz (Cf:=[(g,2)]) (kB Z OA OB) (ki (kG Z OA OA) OA) OA)$ Jz (Cf:=[(g,2)]) (kB Z OA OB) (ki (kG Z OA OA) OA) OA) λv1 a2 x0 c2 J=>f' _ _ ?_;have o':=c0.fw J;refine ah λe0 L=>dk (λu c=>∃(b:V),u=[some$ V.ref p,some$ V.str f0,some$ V.str g,some$ V.ref W,some$ vn,some$ vi,some$ vs,some$ vx,some$ vy,some$ V.ref lb,w5,some b,none]/\Ow H c p W lb (X++[u0])/\PB [(g,2)] Y 0 4 c b/\Wd H c p W Y/\ai a2 c) (λE2 _ T=>qO c2 Z OA OA (λc3 a0 a=>?_) (λc3 a0 a=>?_)) λσ1 a3 h1=>?_
 ·clear L;have o4:=o'.fw a;refine ah λe1 c4=>jM a0 (qF (jE Z dt$ dt _ _ _ a.t x0) (J5$ J3 (Cf:=[(g,2)]) (kB Z OA OB) (ki (QG (kG Z OA OA) OA) OA) OA) OA) λv2 c5 x4 c6 k4=>c4 _ _ ?_;have c9:=o4.fw k4;have m4:ai U c5:=((((d.trans k1).trans J.t).trans a.t).trans k4.t);refine jM c6 (qF (jE Z dt x4) (J5$ Jz (Cf:=[(g,2)]) (kB Z OA OB) (qd (n:=1) (qf uZ) (jE Z ap$ ap _ _ _ m4 xn) (ki (QD OA (by decide:(2:Int) < 3)) OA) OA OA) OA) OA) λv3 c' x5 d0 a4=>T _ _ ?_;have d1:=c9.fw a4;have N:ai a2 c':=((a.t.trans k4.t).trans a4.t);exact#[_,Z,d1,x5,d0,N]
 ·clear L;have o4:=o'.fw a;exact T _ _ #[_,Z,o4,(PB.more (dt _ _ _ a.t x0) OA),a0,a.t]
 obtain⟨e2,rfl,a',x',d2,b1⟩:=h1;refine L _ _ ?_;clear L;have j:ai U a3:=(((d.trans k1).trans J.t).trans b1);have O:ai a1 a3:=(J.t.trans b1);refine ah λe3 d3=>jM d2 (vO (qd (n:=1) (qf QP) (jE Z ap$ ap _ _ _ j xi) (jE Z ap$ ap _ _ _ j xn) OA OA) (vN (n:=5) Z a' (b0.mono O) bl) OA OA) λv4 d4 d5 d6 k'=>d3 _ _ ?_;have e4:=a'.fw k';have D:ai U d4:=(j.trans k'.t);refine QH d6 (Yw (Qa Z) (vL$ kB Z OA OB) (qF (Ev.up (jE Z dt$ dt _ _ _ k'.t x') λ_ _=>PB.lift) (AG (jE Z dE d5) (Ev.up (J4 (Cf:=[(g,2)]) (ki (QD OA (by decide:(30:Int) < 31)) OA) (jE Z ap$ ap _ _ _ D xs) OA OA) λ_ _=>cf.lift)$ Ev.up (Q5 (Cf:=[(g,2)]) (jE Z ap$ ap _ _ _ D xs) OA) λ_ _=>cf.lift) OA) OA OB) λv c x W'=>?_;obtain⟨r,rfl,x⟩:=x;exact q r c x W'.B W'.K
theorem CV(b:0<=d)(c:d < 2)(h:cf C H y 0 u)(a:cf C H y 0 v):fq C H y 0 (aV [u,v] none$ some (1+d))/\(aV [u,v] none$ some (1+d)).length<=2:=by
 rcases(by omega:d=0∨d=1) with rfl |rfl
 ·exact#[zu h,by show 1<=2;decide]
 ·exact#[jQ h$ zu a,by show 2<=2;decide]
def P2(C:fe)(y:List Str)(H:Hp)(w:V):Prop:=∃a u v,w= .ref a/\H a=some (.tup [u,v])/\cf C H y 0 u/\cf C H y 0 v
theorem vX:mh (P2 C y):=λ_ _ _ m #[a,u,v,e,h,H,b]=>#[a,u,v,e,m _ _ h,H.mono m,b.mono m]
section
variable {Cf:fe}{ys:List Str}{H0 Hb:Hp}{p wl:Addr}{σ:_L.St}
theorem xf(h:Ev H0 p wl ys Hb σ T (λH v=>cf Cf H ys 0 v))(c:Ev H0 p wl ys Hb σ d (λH v=>cf Cf H ys 0 v)):Ev H0 p wl ys Hb σ (bV$ ak T$ ak d aP) (P2 Cf ys):=λH Q m W q=>
 h H _ m W λo e X f a=>c e _ (m.trans a) f λs u g i b=>#[cj,λr n=>kh (P:=P2 Cf ys) i (λV j x l k=>q V j x l ((a.trans b).trans k)) n λt z=>#[r,_,_,Z,z,(X.mono b.t).mono t,g.mono t]]
theorem wZ(e:σ[i]?=some (some v))(E:σ[0]?=some (some$ .ref p))(h:P2 Cf ys Hb v):Ev H0 p wl ys Hb σ (CD yu (bh i) iV$ lH$ eY (sC λi j=>V.int (i+j)) (tC$ .int 1)$ sE 2) (PB Cf ys 0 2):=λH Q m W q=>
 #[v,e,kG E OA OA H _ m W λw y #[d,b,D,c] f k=>#[1,d,Z,b,_,Z,by
  obtain⟨a,u,A,rfl,g,l,n⟩:=vX _ _ _ (m.trans k).t h;have z:=CV D c l n;exact#[a,_,Z,g,λr o x s=>q _ o #[r,_,Z,x,z.1.mono$ ae.tm s,z.2] (f.same s) (k.trans$ .same s)]]]
end
theorem aN:al z39z z16z (aa eM):=bZ
noncomputable def KN:Scope:=#[.function,[(".0",.local),("_law_one",.local)],false,false,[]]
theorem XG:(["_law_one"]:List Str).Nodup:=by decide+kernel
theorem XH:a7 z39z (aa eM) KN ["_law_one"] 1 []:=nE
theorem Yr(F:aU K "_law_ticking" "_law_ticking" eM f fd)(C:Cl P w K mg base 1 fT b7 z0z aW "_law_take")(cO:Cl P w K mg base 2 fO b9 z13z lB "_law_op")(mi:mg "int"=none)(m1:mg "tuple"=none):aj P w K mg base aC 3 f fd z16z (cH 1):=by
 refine F.ok aN ?_ λc0 A o5 s H vs Q E c h=>?_
 ·rintro _ _ _ _ ⟨p,W,f0,g,ys,rfl,_⟩;rfl
 obtain⟨p,W,f0,g,ys,rfl,B,hw,h1,q⟩:=h;refine#[_,(jd (kH (@kn _ _ _ _ _ _ _ (["_law_one"]) (1) ([]) _ _ _ _ Z (JP$ jK km (pv 3) kX$ jH je) XH (λ_ _ _ _ _=>(jr (i:=0) XG Z$ Or.inl Z)) (λ_ _ _ _ _=>(@zr _)) (λ_ _ _ _ _=>(ji$ ja jj$ ja (pv 0) jb)) (by intro _;rfl))$ @YK _ _ _ _ (5) _ Z (jz (jr (i:=4) aN.nd Z$ Or.inl Z)$ jz (jr (i:=5) aN.nd Z$ Or.inl Z)$ jz (jr (i:=6) aN.nd Z$ Or.inl Z)$ jz (jr (i:=7) aN.nd Z$ Or.inl Z)$ jz (jr (i:=8) aN.nd Z$ Or.inl Z) kK) OF OF)$ jd (jy 9 aN.nd$ ji$ ja jj$ ja (jq jO je$ C.e c.m$ ja (pv 0)$ ja je jb) jb)$ jd (jy 10 aN.nd$ jD$ ja (ji$ ja jj$ ja (jv jo (pv 3) je (λ_ _=>Z))$ ja (pv 9) jb)$ ja (ji$ ja jj$ ja (jv jo (pv 3) je (λ_ _=>Z))$ ja (jv jo (jD$ ja (pv 5)$ ja (ji$ ja jj$ ja (C.e c.m$ ja (pv 0)$ ja je jb) jb) jb) (C.e c.m$ ja (pv 0)$ ja je jb) (λ_ _=>Z)) jb) jb)$ jd (jS$ kM EH ET ES jY (pv 10)$ ja (ji$ ja jj$ ja (jv jo (pv 3) je (λ_ _=>Z))$ ja (pv 2)$ ja (ji$ ja (jv jo (jD$ ja (pv 7)$ ja (ji$ ja jj$ ja je jb) jb) (C.e c.m$ ja (pv 0)$ ja je jb) (λ_ _=>Z))$ ja (jv jo (jD$ ja (pv 5)$ ja (ji$ ja jj$ ja je jb) jb) (C.e c.m$ ja (pv 0)$ ja je jb) (λ_ _=>Z)) jb) jb) jb)$ jd (jX$ ju (zb$ C.e c.m$ ja (pv 0)$ ja je jb) (jg$ jS$ kM EH ET ES jY (pv 10)$ ja (ji$ ja jj$ ja (ji$ ja jj$ ja jj$ ja (pv 5)$ ja (ji$ ja jj$ ja (C.e c.m$ ja (pv 0)$ ja je jb) jb) jb)$ ja (pv 8) jb) jb) jm)$ jd (jy 11 aN.nd$ ji$ ja jj$ ja je jb)$ jd (jy 12 aN.nd$ jD$ ja (ji$ ja jj$ ja (jv jo (pv 3) je (λ_ _=>Z))$ ja (pv 11) jb)$ ja (ji$ ja jj$ ja (pv 11)$ ja (cO.e c.m$ ja (pv 0)$ ja (pv 6)$ ja (pv 8) jb) jb) jb)$ jd (jX$ ju (zb$ C.e c.m$ ja (pv 0)$ ja je jb) (jg$ jy 12 aN.nd$ jD$ ja (ji$ ja jj$ ja (jv jo (pv 3) je (λ_ _=>Z))$ ja (cO.e c.m$ ja (pv 0)$ ja (pv 6)$ ja (pv 8) jb) jb) jb) jm)$ jd (jy 10 aN.nd$ jq qg (jq qg (pv 10)$ pv 12)$ jD$ ja (ji$ ja jj$ ja (pv 9)$ ja (ji$ ja jj$ ja jj$ ja (pv 5)$ ja (ji$ ja jj$ ja je jb) jb) jb)$ ja (ji$ ja jj$ ja (jv jo (pv 3) je (λ_ _=>Z))$ ja (ji$ ja jj$ ja jj$ ja (pv 5)$ ja (pv 4) jb) jb) jb)$ jd (jy 13 aN.nd$ ji$ ja (ji$ ja jj$ ja (jv jo (pv 3) je (λ_ _=>Z))$ ja (ji$ ja jj$ ja je jb) jb)$ ja (ji$ ja jj$ ja (pv 9)$ ja (ji$ ja jj$ ja (C.e c.m$ ja (pv 0)$ ja je jb) jb) jb) jb)$ jd (jy 14 aN.nd$ ji$ ja jj$ ja (ji$ ja jj$ ja (jv jo (pv 3) je (λ_ _=>Z)) jb)$ ja (jC jF Z m1 Gx$ ja (pv 10) jb) jb)$ jg$ jl$ ji$ ja (pv 1)$ ja (ji$ ja (jv jo (pv 3) je (λ_ _=>Z)) jb)$ ja (jq kY (jK qT (pv 13) kX$ jH$ jq jO je$ C.e c.m$ ja (pv 0)$ ja je jb)$ ji$ ja (pv 14)$ ja (ji$ ja jj$ ja (pv 6) jb) jb) jb),?_];have W0:Wd H H p W ys:=#[B,au.refl,hw];refine ah λF1 f1=>YT W0 Z h1 λvn vi vs vx vy H1 xn xi xs xx xy W1=>f1 _ _ ?_;refine ah λF2 f2=>jM W1 (ki (QG (kG Z OA OA) OA) OA) λv2 H2 x2 W2 k2=>f2 _ _ ?_;refine ah λF3 f3=>Bh W2 (J3 (Cf:=[(g,2)]) (kB Z OA OB) (jE Z ap x2) OA) (J3 (Cf:=[(g,2)]) (kB Z OA OB) (Yu Z (jE Z ap$ ap _ _ _ k2.t xi)$ ki (kG Z OA OA) OA) OA) λlb u3 w3 H3 o3 x3 y3 W3 k3=>f3 _ _ ?_;have a:ai H1 H3:=(k2.t.trans k3.t);refine ah λF4 f4=>Jq W3 Z o3 (show 2<=100 by decide) (ZP (Cf:=[(g,2)]) (kB Z OA OB) (Qa Z) Es (Yu Z (jE Z ap$ ap _ _ _ a xx)$ ki (QD OA (by decide:(3:Int) < 4)) OA) (Yu Z (jE Z ap$ ap _ _ _ a xi)$ ki (QD OA (by decide:(2:Int) < 3)) OA) OA OA) λu4 H4 x4 o4 W4 k4=>f4 _ _ ?_;refine ah λF5 f5=>dk (λN d=>∃(us:List V),N=[some$ V.ref p,some$ V.str f0,some$ V.str g,some$ V.ref W,some$ vn,some$ vi,some$ vs,some$ vx,some$ vy,some$ v2,some$ V.ref lb,none,none,none,none]/\Ow H d p W lb us/\fq [(g,2)] d ys 0 us/\us.length<=4/\Wd H d p W ys/\ai H4 d) (λE5 _ f6=>qO W4 Z OA OA (λH7 W7 u=>?_) (λH7 W7 u=>?_)) λσ1 H6 h2=>?_
 ·clear f5;have o7:=o4.fw u;have D:ai H1 H7:=((a.trans k4).trans u.t);refine Jq W7 Z o7 (show 3<=100 by decide) (J4 (Cf:=[(g,2)]) (qd (n:=1) (qf zk) (jE Z ap$ ap _ _ _ D xi) (ki (kG Z OA OA) OA) OA OA) (jE Z ap$ ap _ _ _ D xy) OA OA) λu8 H8 x8 o8 W8 k8=>f6 _ _ ?_;have G:ai H4 H8:=(u.t.trans k8);have I:ai H3 H8:=((k4.trans u.t).trans k8);exact#[_,Z,o8,(jQ ((dE _ _ _ I x3))$ jQ ((dE _ _ _ I y3))$ jQ ((dE _ _ _ G x4))$ jQ (x8) Ki),(show 4<=4 by decide),W8,G]
 ·clear f5;have o7:=o4.fw u;have J:ai H3 H7:=(k4.trans u.t);exact f6 _ _ #[_,Z,o7,(jQ ((dE _ _ _ J x3))$ jQ ((dE _ _ _ J y3))$ jQ ((dE _ _ _ u.t x4)) Ki),(show 3<=4 by decide),W7,u.t]
 obtain⟨us,rfl,o6,ux,ul,W6,k6⟩:=h2;refine f5 _ _ ?_;clear f5;refine ah λF9 f9=>jM W6 (ki (QD OA (by decide:(30:Int) < 31)) OA) λv9 H9 x9 W9 k9=>f9 _ _ ?_;have o9:=o6.fw k9;have b:ai H1 H9:=(((a.trans k4).trans k6).trans k9.t);refine ah λF0 f7=>Bh W9 (J3 (Cf:=[(g,2)]) (kB Z OA OB) (jE Z ap x9) OA) (J4 (Cf:=[(g,2)]) (jE Z ap x9) (J2 Z (jE Z ap$ ap _ _ _ b xs)$ jE Z ap$ ap _ _ _ b xy) OA OA) λlm u0 w0 H0 z0 x0 y0 W5 j=>f7 _ _ ?_;have o1:=o9.fw j;refine ah λF6 y=>dk (λN d=>∃(m:Addr) (zs:List V),N=[some$ V.ref p,some$ V.str f0,some$ V.str g,some$ V.ref W,some$ vn,some$ vi,some$ vs,some$ vx,some$ vy,some$ v2,some$ V.ref lb,some$ v9,some$ .ref m,none,none]/\Ow H d p W lb us/\Ow H d p W m zs/\fq [(g,2)] d ys 0 zs/\zs.length<=2/\Wd H d p W ys/\ai H0 d) (λE1 _ L=>qO W5 Z OA OA (λH5 O k=>?_) (λH5 O k=>?_)) λσ0 R h0=>?_
 ·clear y;have S:=o1.fw k;have z1:=z0.fw k;have l:ai H1 H5:=((b.trans j.t).trans k.t);refine Bg O (Jz (Cf:=[(g,2)]) (kB Z OA OB) (J2 Z (jE Z ap$ ap _ _ _ l xs)$ jE Z ap$ ap _ _ _ l xy) OA) λlq u1 a0 z2 x1 a1 k1=>L _ _ ?_;have o':=S.fw k1;have z:ai H0 a0:=(k.t.trans k1.t);exact#[_,_,Z,o',z2,zu x1,(show 1<=2 by decide),a1,z]
 ·clear y;have S:=o1.fw k;have z1:=z0.fw k;exact L _ _ #[_,_,Z,S,z1,(jQ ((dE _ _ _ k.t x0))$ jQ ((dE _ _ _ k.t y0)) Ki),(show 2<=2 by decide),O,k.t]
 obtain⟨lm,zs,rfl,a2,z3,zx,zl,a3,T⟩:=h0;refine y _ _ ?_;clear y;have o:ai H2 R:=(((((k3.t.trans k4).trans k6).trans k9.t).trans j.t).trans T);have M:ai H1 R:=((b.trans j.t).trans T);have U:ai H6 R:=((k9.t.trans j.t).trans T);refine ah λF7 f'=>wN a3 Z Z a2 z3 OB (ux.mono U) zx (J4 (Cf:=[(g,2)]) (jE Z ap$ ap _ _ _ o x2) (qd (n:=1) (qf zk) (jE Z ap$ ap _ _ _ M xi) (ki (QD OA (by decide:(1:Int) < 2)) OA) OA OA) OA OA) (Jz (Cf:=[(g,2)]) (kB Z OA OB) (qd (n:=1) (qf QP) (jE Z ap$ ap _ _ _ M xi) (jE Z ap$ ap _ _ _ M xn) OA OA) OA) λlc cs a4 a' cx cl b0 k5=>f' _ _ ?_;have cm:cs.length<=8:=by omega
 have X:ai H2 a4:=(o.trans k5.t);refine ah λb' b1=>jM b0 (xf (Jz (Cf:=[(g,2)]) (kB Z OA OB) (ki (QD OA (by decide:(1:Int) < 2)) OA) OA)$ J4 (Cf:=[(g,2)]) (jE Z ap$ ap _ _ _ X x2) (ki (kG Z OA OA) OA) OA OA) λv1 c1 x5 b2 Y=>b1 _ _ ?_;have o2:=a'.fw Y;refine ah λc2 b3=>jM b2 (vO (J1$ kB Z OA OB) (vN (n:=8) Z o2 (cx.mono Y.t) cm) OA OA) λv3 b4 x7 b5 k0=>b3 _ _ ?_;have c3:=o2.fw k0;have m0:ai H1 b4:=(((M.trans k5.t).trans Y.t).trans k0.t);refine QH b5 (Yw (Qa Z) (vL$ kB Z OA OB) (qF (Ev.up (wZ Z Z$ vX _ _ _ k0.t x5) λ_ _=>PB.lift) (Yv (jE Z dE x7)$ Ev.up (Q5 (Cf:=[(g,2)]) (jE Z ap$ ap _ _ _ m0 xs) OA) λ_ _=>cf.lift) OA) OA OB) λv d x W'=>?_;obtain⟨r,rfl,x⟩:=x;exact q r d x W'.B W'.K
theorem CW{y:List Str}{lo:Nat}(h:y.length=14)(H:lo<=8):(a8 y (some (lo:Int))$ some ((lo+6:Nat):Int)).length=6:=by unfold a8;rw[HT.sIx_nat,HT.sIx_nat,EJ,Gh,h,He$ En H OA,He$ Nat.add_le_add_right H 6,Nat.add_sub_cancel_left];exact He$ Nat.le_sub_of_add_le$ En (Mz H 6) OA
theorem DW{k:Nat}(h:k < n):ms n (k:Int)=some k:=by unfold ms;rw[Er OB,Er OB,FE]
theorem nO.more(h:nO C n H r f)(k:∀y∈C,y∈D):nO D n H r f:=let #[d,b,a,c]:=h;#[d,b,#[a.1,zV k a.2],c]
theorem CZ(r:nO [(l,N),(m,j),(o,k)] N H a l)(s:nO [(l,N),(m,j),(o,k)] j H b m)(t:nO [(l,N),(m,j),(o,k)] k H c o)(p:N<=100/\j<=100/\k<=100):∃D,bX H D [.ref a,.ref b,.ref c]/\D.length=3/\((∀d∈D,iZ d/\d.b.Cs [(l,N),(m,j),(o,k)])/\D.map Df.f=[l,m,o])/\lK H D [N,j,k]:=by
 obtain⟨d,u,v,O,y,z,E⟩:=r;obtain⟨e,A,B,Q,C,F,G⟩:=s;obtain⟨f,I,J,R,g3,L,M⟩:=t;refine#[[d,e,f],#[_,_,Z,u,_,_,Z,A,_,_,Z,I,Z],Z,#[λx q=>?_,by rw[<- E,<- G,<- M];rfl],Z,λi x n h g=>?_]
 ·simp only[Fi,EC,Hi]at q;rcases q with rfl |rfl |rfl
  ·exact v
  ·exact B
  ·exact J
 ·match i,h,g with
  |0,h,g=>cases h;cases g;exact#[_,y,z,p.1]
  |1,h,g=>cases h;cases g;exact#[_,C,F,p.2.1]
  |2,h,g=>cases h;cases g;exact#[_,g3,L,p.2.2]
inductive iN(b:List V)(H:Hp)(Q:VK)(a:XK):Prop
 |mk(p:Addr)(_:b=[.ref p])(_:aq H p)(_:∀(r:Addr) (ds:List Df) (xs:List V) (H':Hp),H' r=some (.tup xs)->bX H' ds xs->ds.length=3->∀ns,nR ds ns->lK H' ds ns->(∃r,ns=1::r)->aq H' p->au p H H'->Q (.ref r) H')
def Aq(L:List Str)(_:Hp)(v:V):Prop:=∃x,v= .str x/\x∈L
section
variable {ys:List Str}{H0 Hb:Hp}{p wl:Addr}{σ:_L.St}
theorem AN{K:Frag}(e:σ[0]?=some (some$ .ref p))(r:Ev H0 p wl ys Hb σ t (sJ a))(s:Ev H0 p wl ys Hb σ T (sJ b))(u:Ev H0 p wl ys Hb σ x (sJ c)):Ev H0 p wl ys Hb σ (eY (ie K) (lG$ ak t$ ak T$ ak x aP)$ sE 3) (Aq [a,b,c]):=λH Q m W q=>
 r H _ m W λy z (E:y= .str a) A k=>s z _ (m.trans k) A λC D (F:C= .str b) G f=>u D _ ((m.trans k).trans f) G λI R (J:I= .str c) h j=>#[f8,λl n=>kG e OA OA _ _ ((((m.trans k).trans f).trans j).trans$ .new n) (h.same$ jf n) λv L #[d,M,S,U] N o=>by
  obtain⟨g,i,O⟩:∃g,dF [V.str a,.str b,.str c] d=some (.str g)/\g∈[a,b,c]:=by
   rcases(by omega:d=0∨d=1∨d=2) with rfl |rfl |rfl
   ·exact#[a,Z,OD]
   ·exact#[b,Z,OD]
   ·exact#[c,Z,OD]
  rw[<- E,<- F,<- J]at i;exact#[l,_,d,_,Z,M,aF.of$ o.b _ _ (h.B.ne n) jc,i,q _ L #[g,Z,O] N (((k.trans f).trans j).trans ((Fw.new n).trans o))]]
theorem ZQ{K:Frag}{lo:Nat}(e:σ[0]?=some (some$ .ref p))(E:σ[1]?=some (some$ .ref wl))(d:Ev H0 p wl ys Hb σ t (sJ f))(l:Ev H0 p wl ys Hb σ T (Aq L))(h:ys.length=14)(o:lo<=8)(s:i=(lo:Int))(u:j=((lo+6:Nat):Int)):
  Ev H0 p wl ys Hb σ (dB (cH n) [] E0$ ak (bh 0)$ ak t$ ak T$ ak (CD (uK K) (bh 1) (lH$ tC$ .int i)$ lH$ tC$ .int j) aP) (PD (L.map λy=>(y,2)) n f):=λH Q m W q=>
 #[_,e,d H _ m W λv x (z:v= .str f) A k=>l x _ (m.trans k) A λV M #[g,D,c] b F=>#[_,E,_,Z,_,Z,wl,_,Z,aF.of b.w,λr N=>#[p,r,f,g,a8 ys (some i)$ some j,by rw[z,D];rfl,b.B.upd_new N,by rw[jc,zA],by rw[s,u];exact CW h o,λa G X I C=>
  q _ G #[a,Z,X.more λy J=>by rw[List.mem_singleton.mp J];exact List.mem_map.mpr #[g,c,Z]] ((b.same$ jf N).but I C) ((k.trans F).trans ((Fw.new N).trans$ .but (b.B.upd_new N) C))]]]
theorem qP{K:Frag}{k:Nat}(e:σ[j]?=some (some$ .ref wl))(a:i=(k:Int))(h:ys[k]?=some y):Ev H0 p wl ys Hb σ (eY (ie K) (bh j)$ tC$ .int i) (sJ y):=λH Q m W q=>
 #[_,e,wl,_,_,_,Z,Z,aF.of W.w,(by rw[a];exact jW (by rw[EB,h];rfl)),q _ H Z W .refl]
theorem AH{n1 n2 n3:Nat}(s:n1<=100/\n2<=100/\n3<=100)(u:Ev H0 p wl ys Hb σ T (PD [(e,n1),(h,n2),(i,n3)] n1 e))(y:Ev H0 p wl ys Hb σ z (PD [(e,n1),(h,n2),(i,n3)] n2 h))(A:Ev H0 p wl ys Hb σ B (PD [(e,n1),(h,n2),(i,n3)] n3 i)):Ev H0 p wl ys Hb σ (bV$ ak T$ ak z$ ak B aP) (λH v=>∃r D x,v= .ref r/\H r=some (.tup x)/\bX H D x/\D.length=3/\((∀d∈D,iZ d/\d.b.Cs [(e,n1),(h,n2),(i,n3)])/\D.map Df.f=[e,h,i])/\lK H D [n1,n2,n3]):=λH Q m W q=>
 u H _ m W λV C X E k=>y C _ (m.trans k) E λF G I J j=>A G _ ((m.trans k).trans j) J λL H4 M N l=>#[f8,λr n=>q _ _ (by
  have t:=ae.tm (jf (o:=HO.tup [V,F,L]) n);obtain⟨a,O,R⟩:=iy _ _ _ t (iy _ _ _ (j.trans l).t X);obtain⟨b,S,U⟩:=iy _ _ _ t (iy _ _ _ l.t I);obtain⟨c,Y,h3⟩:=iy _ _ _ t M;obtain⟨D,g⟩:=CZ R U h3 s;exact#[r,D,_,Z,by rw[jc,O,S,Y],g]) (N.same$ jf n) (((k.trans j).trans l).trans$ .new n)]
end
theorem d9:al ["_law_box_here","_law_w","_law_body_here","_law_deeper","_law_further","_law_first"] z2z (aa pK):=bZ
theorem tR(F:aU K "_law_busy" "_law_busy" pK f fd)(T:Cl P w K mg base 1 fT f0 z0z aW "_law_take")(cO:Cl P w K mg base 2 fO f1 z13z lB "_law_op")(cA:Cl P w K mg base 2 fA f7 z26z eS "_law_names")(cL:Cl P w K mg base 3 fL f9 z16z (cH 1) "_law_looped")(cK:Cl P w K mg base 3 fK f' z16z (cH 1) "_law_ticking")(cI:Cl P w K mg base 3 fI a0 z36z (cH 2) "_law_inner"):aj P w K mg base aC 4 f fd z2z iN:=by
 refine F.ok d9 ?_ λc0 A U s H vs Q E i h=>?_
 ·rintro _ _ _ _ ⟨p,rfl,_⟩;rfl
 obtain⟨p,rfl,B,q⟩:=h;refine#[_,(jd (jy 1 d9.nd$ cA.e i.m$ ja (pv 0)$ ja je jb)$ jd (jX$ ju (zb$ T.e i.m$ ja (pv 0)$ ja je jb) (jg$ kH (jv jo (pv 1) je (λ_ _=>Z))$ qC (pv 1) je zz) jm)$ jd (jy 2 d9.nd$ ji$ ja (ji$ ja jj$ ja (jv jo (pv 1) je (λ_ _=>Z))$ ja (ji$ ja jj$ ja (jv jo (pv 1) je (λ_ _=>Z)) jb) jb)$ ja (ji$ ja jj$ ja (cO.e i.m$ ja (pv 0)$ ja (ji$ ja jj$ ja (jv jo (pv 1) je (λ_ _=>Z)) jb)$ ja (ji$ ja jj$ ja (jv jo (pv 1) je (λ_ _=>Z)) jb) jb) jb) jb)$ jd (jy 3 d9.nd$ ji$ ja (jv jo (pv 1) je (λ_ _=>Z))$ ja (ji$ ja (jv jo (pv 1) je (λ_ _=>Z))$ ja (jv jo (pv 1) je (λ_ _=>Z)) jb)$ ja (pv 2) jb)$ jd (jy 4 d9.nd$ jv jo (jD$ ja (jv jo (pv 1) je (λ_ _=>Z))$ ja (jv jo (pv 1) je (λ_ _=>Z))$ ja (jv jo (pv 1) je (λ_ _=>Z)) jb) (T.e i.m$ ja (pv 0)$ ja je jb) (λ_ _=>Z))$ jd (jy 5 d9.nd$ cL.e i.m$ ja (pv 0)$ ja (jv jo (pv 1) je (λ_ _=>Z))$ ja (jv jo (pv 1) je (λ_ _=>Z))$ ja (jK km (pv 1) (jH je)$ jH je) jb)$ jd (jX$ ju (zb$ T.e i.m$ ja (pv 0)$ ja je jb) (jg$ jy 5 d9.nd$ cK.e i.m$ ja (pv 0)$ ja (jv jo (pv 1) je (λ_ _=>Z))$ ja (jv jo (pv 1) je (λ_ _=>Z))$ ja (jK km (pv 1) (jH je)$ jH je) jb) jm)$ jg$ jl$ ji$ ja (pv 5)$ ja (cI.e i.m$ ja (pv 0)$ ja (jv jo (pv 1) je (λ_ _=>Z))$ ja (pv 4)$ ja (jK km (pv 1) (jH je)$ jH je) jb)$ ja (pv 3) jb),?_];refine ah λFa o=>#[_,Z,p,14,Z,B,OA,OA,λj ys Ha X u c d Ba ka=>o _ _ ?_];clear o;have wp:j≠p:=qh Ba u;refine ah λFa o=>dk (λn g=>∃Y:List Str,n=[some$ V.ref p,some$ V.ref j,none,none,none,none]/\g j=some (.lst$ Y.map V.str)/\(Y.length=14/\(Y.take 3).Nodup/\∀y∈Y.take 3,y.length<=20)/\aq g p/\au p H g) (λE0 _ fm=>qO (W:=#[Ba,ka,u]) Z OA OA (λHb l kb=>?_) (λHb l kb=>fm _ _ #[_,Z,l.w,#[OB,d.2.sublist$ Gp _ _,λy hy=>d.1 y (Fp hy)],l.B,l.K])) λσ1 H0 h3=>?_
 ·clear o;obtain⟨v1,h6,z⟩:=Kd (ys:=ys) (k:=1) OA OB;refine#[_,Z,j,_,_,_,Z,Z,aF.of l.w,z,_,Z,j,_,8,8,Z,Z,l.w,DW (k:=8) (by rw[Ec];omega),fm _ _ #[ys.set 8 v1,Z,?_,#[by rw[Ir];omega,by rw[List.take_set_of_le OA];exact#[d.2.sublist$ Gp _ _,λy hy=>d.1 y (Fp hy)]],l.B.eq$ jh$ EA wp,l.K.upd_own X]];rw[jc,NG]
 obtain⟨ys,rfl,h4,⟨c,C,D⟩,B1,k1⟩:=h3;obtain⟨y0,h0⟩:∃y,ys[0]?=some y:=#[_,Ed (by omega:0 < ys.length)];obtain⟨G,I⟩:∃y,ys[1]?=some y:=#[_,Ed (by omega:1 < ys.length)];obtain⟨y2,N⟩:∃y,ys[2]?=some y:=#[_,Ed (by omega:2 < ys.length)];have e3:ys.take 3=[y0,G,y2]:=by rw[Gw,Gw,Gw,h0,I,N];rfl
 rw[e3]at C D;refine o _ _ ?_;clear o;have W1:Wd H H0 p j ys:=#[B1,k1,h4];generalize H0=H1 at W1;refine ah λF2 f2=>jM W1 (Yv (J3 (Cf:=[]) (kB Z OA OB) (J1$ kB Z OA OB) OA)$ Q5 (Cf:=[]) (J2 Z (J1$ kB Z OA OB)$ J1$ kB Z OA OB) OA) λv2 H2 x2 W2 k2=>f2 _ _ ?_;refine ah λF3 f3=>jM W2 (Yw (Cf:=[]) (qP (k:=2) Z Z N) (vM (kB Z OA OB)$ kB Z OA OB) (Ev.up (jE Z dt x2) λ_ _=>PB.lift) OA OB) λv3 H3 x3 W3 k3=>f3 _ _ ?_;refine ah λF4 f4=>jM W3 (AN Z (qP (k:=1) Z Z I) (qP (k:=2) Z Z N)$ qP (k:=2) Z Z N) λv4 H4 x4 W4 k4=>f4 _ _ ?_;refine ah λF5 f5=>jM W4 (ZQ (lo:=6) Z Z (qP (k:=0) Z Z h0) (Ev.up (R:=Aq [G]) (qP (k:=1) Z Z I) λ_ _ e=>#[_,e,Es]) c OA Z Z) λv5 H5 x5 W5 k5=>f5 _ _ ?_;refine ah λF6 O=>dk (λn g=>∃(b:V),n=[some$ V.ref p,some$ V.ref j,some$ v2,some$ v3,some$ v4,some b]/\PD [(G,2)] 1 y0 g b/\Wd H g p j ys/\ai H5 g) (λE6 _ J=>qO W5 Z OA OA (λH8 W8 S=>?_) (λH8 W8 S=>?_)) λσ2 H7 h5=>?_
 ·clear O;refine jM W8 (ZQ (lo:=6) Z Z (qP (k:=0) Z Z h0) (Ev.up (R:=Aq [G]) (qP (k:=1) Z Z I) λ_ _ e=>#[_,e,Es]) c OA Z Z) λv9 H9 x9 W9 k9=>J _ _ ?_;have M:ai H5 H9:=(S.t.trans k9.t);exact#[_,Z,x9,W9,M]
 ·clear O;exact J _ _ #[_,Z,(iy _ _ _ S.t x5),W8,S.t]
 obtain⟨b7,rfl,x7,W7,k7⟩:=h5;refine O _ _ ?_;clear O;have L:ai H3 H7:=((k4.t.trans k5.t).trans k7);refine QH W7 (AH (n1:=1) (n2:=2) (n3:=2) #[OA,OA,OA] (Ev.up (jE Z iy x7) (λ_ _ #[a,e,h]=>#[a,e,h.more OD])) (Ev.up (ZQ (lo:=7) Z Z (qP (k:=1) Z Z I) (jE (P:=Aq [G,y2,y2]) Z (λ_ _ _ _ h=>h) x4) c OA Z Z) (λ_ _ #[a,e,h]=>#[a,e,h.more OD])) (Ev.up (jE Z iy$ iy _ _ _ L x3) (λ_ _ #[a,e,h]=>#[a,e,h.more OD]))) λv g x W'=>?_;obtain⟨r,ds,xs,rfl,g0,g1,g2,g3,g4⟩:=x;exact q r ds xs g g0 g1 g2 [1,2,2] #[by rw[g3.2];exact g3.1,by rw[g3.2];exact#[C,D]] g4 #[_,Z] W'.B W'.K
noncomputable abbrev mE:Stmt:=top 52
theorem yY(h:0<=d)(H:d < 4):∃m:Int,dF [V.int 3,.int 3,.int 3,.int 8] d=some (.int m)/\3<=m/\m<=8:=by
 rcases(by omega:d=0∨d=1∨d=2∨d=3) with rfl |rfl |rfl |rfl
 ·exact#[3,Z,OA,OA]
 ·exact#[3,Z,OA,OA]
 ·exact#[3,Z,OA,OA]
 ·exact#[8,Z,OA,OA]
theorem wV(h:bX H D v)(f:0<=k)(g:k < (v.length:Int)):∃d,dF v k=some (.ref d.p)/\d∈D/\vt H d (.ref d.p):=by
 have a:k.toNat < v.length:=by omega
 have E:k=((k.toNat:Nat):Int):=by omega
 obtain⟨d,c,b⟩:=h.at k.toNat _ (Ed a);have e:v[k.toNat]= .ref d.p:=b.elim λ_ z=>z.1;refine#[d,?_,Ey c,by rw[<- e];exact b];rw[E];exact jW (by rw[<- e];exact Ed a)
def Ak(H:Hp)(D:List Df)(v a:V):Prop:=∃(d:Df) (p:List Str) (t:Addr) (I:List Int),d∈D/\v= .str d.f/\H d.pa=some (.tup$ p.map V.str)/\a= .ref t/\H t=some (.tup$ I.map V.int)/\I.length=p.length/\I.length<=100/\∀i∈I,0<=i/\i < 1000000000000000000
inductive iO(b:List V)(H:Hp)(Q:VK)(a:XK):Prop
 |mk(p:Addr)(_:b=[.ref p])(_:aq H p)(_:∀(t r:Addr) (v2 v3:V) (ds:List Df) (xs:List V) (H':Hp),H' t=some (.tup [.ref r,v2,v3])->H' r=some (.tup xs)->bX H' ds xs->1<=ds.length->ds.length<=8->∀ns,nR ds ns->lK H' ds ns->Ak H' ds v2 v3->aq H' p->au p H H'->Q (.ref t) H')
theorem eh:al z40z z2z (aa mE):=bZ
noncomputable def XI:Scope:=#[.function,[(".0",.local),("_law_one",.local),("_law_number",.globalImplicit),("_law_box_here",.free)],false,false,[]]
theorem oN:(z17z:List Str).Nodup:=by decide+kernel
theorem n8:a7 z40z (aa mE) XI z17z 1 [0]:=nE
theorem tS(F:aU K "_law_case" "_law_case" mE f fd)(M:Cl P w K mg base 1 fT f0 z0z aW "_law_take")(cN:Cl P w K mg base 2 fN f3 z2z fX "_law_number")(cY:Cl P w K mg base 4 fY f4 z2z iN "_law_busy")(cZ:Cl P w K mg base 22 fZ f5 z35z mR "_law_any")(ml:mg "len"=none)(m0:mg "tuple"=none):aj P w K mg base aC 23 f fd z2z iO:=by
 refine F.ok eh ?_ λc0 A o1 s H vs Q E y h=>?_
 ·rintro _ _ _ _ ⟨p,rfl,_⟩;rfl
 obtain⟨p,rfl,B,q⟩:=h;refine#[_,(jd (ju (jA qN (M.e y.m$ ja (pv 0)$ ja je jb) je$ aA _) (jd (jy 1 eh.nd$ cY.e y.m$ ja (pv 0) jb)$ jg$ jl$ ji$ ja (pv 1)$ ja (jx$ jv zU (pv 1) je (λ_ _=>Z))$ ja (ji$ ja (M.e y.m$ ja (pv 0)$ ja je jb) jb) jb) jm)$ jd (jy 2 eh.nd$ jv jo (jD$ ja je$ ja je$ ja je$ ja je jb) (M.e y.m$ ja (pv 0)$ ja je jb) (λ_ _=>Z))$ jd (jy 1 eh.nd$ cZ.e y.m$ ja (pv 0)$ ja (jq jO je$ M.e y.m$ ja (pv 0)$ ja (pv 2) jb)$ ja je jb)$ jd (kH (jv zU (pv 1) (M.e y.m$ ja (pv 0)$ ja (jP jJ Z ml F'$ ja (pv 1) jb) jb) (λ_ _=>Z))$ zT (n:=3) Z$ jz (jr (i:=3) eh.nd Z$ Or.inl Z)$ jz (jr (i:=4) eh.nd Z$ Or.inl Z)$ jz (jr (i:=5) eh.nd Z$ Or.inl Z) kK)$ jg$ jl$ ji$ ja (pv 1)$ ja (pv 3)$ ja (jC jF Z m0 Gx$ ja (@kn _ _ _ _ _ _ _ (z17z) (1) ([0]) _ _ _ _ Z (zq$ pv 4) n8 (λ_ _ _ _ _=>(jr (i:=0) oN Z$ Or.inl Z)) (λ_ _ _ _ _=>(@zr _)) (λ_ _ _ _ _=>(cN.e y.m$ ja (pv 1) jb)) (by intro _;rfl)) jb) jb),?_];have b0:=aQ;refine ah λF1 a=>mn λG1 g1=>#[_,Z,p,3,Z,B,OA,OA,λd1 H1 a0 a1 B1 e1=>#[_,_,Z,Z,_,Z,g1 _ _ ?_]];clear g1;have k1:au p H H1:=au.of_eq e1;refine bJ (λc=>?_) (λc=>a _ _ ?_)
 ·clear a;refine ah λF2 f2=>#[_,Z,p,Z,B1,λr ds xs H2 N C hl ns D b O B2 k2=>f2 _ _ ?_];clear f2;have ln:=C.len;obtain⟨nr,rfl⟩:=O;cases ds with
  |nil=>cases hl
  |cons d r0=>
  obtain⟨p0,R,S,_⟩:=b.2 0 d 1 Z Z;have h0:=C;obtain⟨u0,rr,rfl,⟨bs,rfl,hp,_⟩,_⟩:=h0;have g:dF (V.ref d.p::rr) 0=some (.ref d.p):=fg;refine#[_,Z,jp N g #[d.p,_,_,_,Z,Z,aD.of hp,fg,_,Z,p,6,Z,B2,OA,OA,λd3 H3 d0 d4 B3 e3=>?_]];have c3:au p H2 H3:=au.of_eq e3;refine#[nL,λu nu=>#[f8,λt U=>?_]];have s4:ae H3 (af (af H3 u$ .tup [.int d3]) t$ .tup [.ref r,.str d.f,.ref u]):=(jf nu).trans (jf U);have T:=(c3.tm B2).trans (ae.tm s4);exact q t r _ _ _ _ _ jc (T _ _ N) (C.mono T) OB OB _ D (b.mono T) #[d,p0,u,[d3],Es,Z,T _ _ R,Z,ao jc U,by rw[S];rfl,(by show 1<=100;decide),λi hi=>by rw[List.mem_singleton.mp hi];omega] (B3.same s4) ((k1.trans k2).trans$ c3.trans$ au.of_same s4)
 clear a;refine ah λF1 a=>#[sD,λl W=>#[_,Z,p,4,Z,B1.upd_new W,OA,OA,λd2 H2 d6 d7 B2 e2=>?_]];have k2:au p H1 H2:=((au.refl).upd_new W).trans (au.of_eq e2);obtain⟨m,g,m3,m8⟩:=yY d6 d7;refine#[l,_,_,_,Z,Z,aF.of (by rw[e2 l$ B1.ne W];exact jc),g,a _ _ ?_];clear a;refine ah λF1 a=>#[_,Z,_,Z,_,Z,p,m,Z,B2,OB,OB,λd3 H3 d0 d4 B3 e3=>#[_,_,Z,Z,p,1+d3,12,Z,B3,OB,OB,OA,OA,λr ds xs H4 G C hl ns D b B4 k4=>a _ _ ?_]];clear a;have ln:=C.len;have K4:au p H H4:=(k1.trans k2).trans ((au.of_eq e3).trans k4);refine ah λF1 a=>#[_,Z,_,Z,_,Z,r,_,Z,.inr$ aD.of G,p,_,Z,B4,OB,OB,λd5 H5 d8 d' B5 e5=>?_];have c5:au p H4 H5:=au.of_eq e5;have o:=c5.tm B4;obtain⟨d,g,hd,bs,e,hp,_⟩:=wV (C.mono o) d8 d';refine#[r,_,_,_,Z,Z,aD.of$ o _ _ G,g,d.p,_,Z,aD.of hp,Z,_,_,Z,_,_,Z,_,_,Z,Z,a _ _ ?_];clear a;obtain⟨pv,X,h4⟩:=b.v d hd;have z:=o _ _ X;refine#[_,Z,_,Z,_,Z,d.pa,Z,#[_,aD.of z],?_];refine zo (K:=K) (xs:=pv.map V.str) (by rw[Ec];omega) (λi L J=>(∃I:List Int,L=I.map V.int/\I.length=i/\∀j∈I,0<=j/\j < 1000000000000000000)/\aq J p/\au p H5 J) #[#[[],Z,Z,(λ_ h=>nomatch h)],B5,au.refl] (λi L J k=>?_) (λi x L J hx k=>?_) (λL J k l W=>?_)
 ·exact#[aD.of$ k.2.2.tm B5 _ _ z,let #[I,e,l,_]:=k.1;by rw[e,Ec,l];exact Ee _]
 ·exact#[_,Z,p,Z,k.2.1,λe H7 e0 e1 B7 e7=>#[let #[I,h1,l,h2]:=k.1;#[I++[e],by rw[h1,EF];rfl,by rw[Eg,l];rfl,Jc h2 #[e0,e1]],B7,k.2.2.trans$ au.of_eq e7]]
 ·refine#[l,_,Z,.inl #[aF.of jc,λl2 n0=>#[f8,λt U=>?_]]];have s7:ae J (af (af (af J l$ .lst L) l2$ .tup L) t$ .tup [.ref r,.str d.f,.ref l2]):=((jf W).trans$ jf n0).trans (jf U);have T:=o.trans ((k.2.2.tm B5).trans$ ae.tm s7);obtain⟨I,hz,Y,h3⟩:=k.1;rw[Ec]at Y;exact q t r _ _ ds xs _ jc (T _ _ G) (C.mono T) OB OB ns D (b.mono T) #[d,pv,l2,I,hd,Z,T _ _ X,Z,by rw[<- hz];exact ao jc U,Y,OB,h3] (k.2.1.same s7) (K4.trans$ c5.trans$ k.2.2.trans$ au.of_same s7)
noncomputable abbrev iE:Stmt:=top 2
noncomputable abbrev iI:Stmt:=top 3
abbrev aG:=List (aY×V)
def dS(x:Int):Prop:=0<=x/\x < 1000000000000000000
def GT(k:aG):Prop:=∀p∈k,∃i,p.2= .int i/\dS i
theorem GT.nil:GT []:=λ_ h=>absurd h EC
theorem GT.put(h:GT a)(k:aY)(H:dS i):GT (aB a k$ .int i):=by
 intro p hp;unfold aB at hp;split at hp
 ·obtain⟨q,b,rfl⟩:=List.mem_map.mp hp;by_cases e:q.1=k
  ·rw[Er e];exact#[i,Z,H]
  ·rw[Eu e];exact h q b
 ·rcases List.mem_append.mp hp with hp |hp
  ·exact h p hp
  ·rw[List.mem_singleton.mp hp];exact#[i,Z,H]
theorem GT.val(h:GT a)(e:bQ a k=some v):∃i,v= .int i/\dS i:=by unfold bQ at e;obtain⟨p,H,rfl⟩:=Option.map_eq_some_iff.mp e;exact h p$ LD H
noncomputable def look(a:aG)(k:aY)(z:Int):Int:=match bQ a k with
 |some (.int i)=>i
 |_=>z
theorem zO(h:GT a)(k:aY)(z:Int):(bQ a k).getD (.int z)= .int (look a k z):=by
 unfold look;cases e:bQ a k with
 |none=>rfl
 |some v=>obtain⟨i,rfl,_⟩:=h.val e;rfl
theorem Zy(h:GT a)(e:bQ a k=some v)(z:Int):v= .int (look a k z):=by unfold look;obtain⟨i,rfl,_⟩:=h.val e;rw[e]
theorem Zz(e:bQ a k=none)(z:Int):look a k z=z:=by unfold look;rw[e]
theorem qt(h:GT a)(H:dS z):dS (look a k z):=by
 unfold look;cases e:bQ a k with
 |none=>exact H
 |some v=>obtain⟨i,rfl,b⟩:=h.val e;exact b
theorem zW:dS 0:=#[OA,OA]
noncomputable def jn(i:Nat)(x y:Int):Int:=match i with
 |0=>(x+y) % 1000000000000000000
 |1=>(x - y) % 1000000000000000000
 |2=>x*y % 1000000000000000000
 |3=>if y=0 then 0 else x / y
 |4=>if x < y then 1 else 0
 |_=>if x=y then 1 else 0
noncomputable def Tm.ev(k:aG):Tm->Int
 | .num n=>n
 | .var x=>look k (.inr x) 0
 | .op i a b=>jn i (a.ev k) (b.ev k)
theorem AZ(H:dS x)(c:dS y):dS (jn i x y):=by
 have a:(1000000000000000000:Int)≠0:=by decide
 have b:(0:Int) < 1000000000000000000:=by decide
 match i with
 |0=>exact#[Ft _ a,EY _ b]
 |1=>exact#[Ft _ a,EY _ b]
 |2=>exact#[Ft _ a,EY _ b]
 |3=>
  show dS (if y=0 then 0 else x / y);by_cases h:y=0
  ·rw[Er h];exact#[OA,OA]
  ·rw[Eu h];have e:=c.1;have d:0 < y:=by omega
   refine#[No H.1 OB,Int.lt_of_le_of_lt ?_ H.2];exact Int.ediv_le_self _ H.1
 |4=>show dS (if x < y then 1 else 0);split<;>exact#[OA,OA]
 |n+5=>show dS (if x=y then 1 else 0);split<;>exact#[OA,OA]
theorem zE(g:GT k):∀{t:Tm},t.Good y->dS (t.ev k)
 | .num _,h=>h
 | .var x,_=>qt g zW
 | .op _ _ _,h=>AZ (zE g h.2.1) (zE g h.2.2)
inductive gU(b:List V)(H:Hp)(Q:VK)(a:XK):Prop
 |mk(i:Nat)(x y:Int)(_:b=[.str (Dg i),.int x,.int y])(_:i < 6)(_:dS x)(_:dS y)(_:Q (.int (jn i x y)) H)
def DC(K:Frag)(H:Hp)(T:Tm)(a:Addr):Prop:=aO H T a∨(T= .num 0/\aD K H a [.str "num",.int 0])
inductive du(K:Frag)(n:Nat)(e:List V)(H:Hp)(Q:VK)(b:XK):Prop
 |mk(a d:Addr)(T:Tm)(f:List Str)(c:aG)(_:e=[.ref a,.ref d])(_:DC K H T a)(_:T.depth < n)(_:T.Good f)(_:H d=some (.dK c))(_:GT c)(_:Q (.int (T.ev c)) H)
theorem rg:al z20z z20z (aa iE):=bZ
theorem ZA(F:aU K "joined" "joined" iE f b)(m:mg "TOP"=some (.int 1000000000000000000 t)):aj P w K mg base aC 1 f b z20z gU:=by
 refine F.ok rg (λd H Q E h=>?_) (λe A o s H d Q E r h=>?_)
 ·obtain⟨i,x,y,rfl,_⟩:=h;rfl
 obtain⟨i,x,y,rfl,u,g,j,q⟩:=h;refine#[_,(jd (ju (jZ$ pv 0) (jg$ jl$ jq kJ (jq jO (pv 1)$ pv 2)$ qQ (v:=.int 1000000000000000000) Z m #[_,Z]) jm)$ jd (ju (jZ$ pv 0) (jg$ jl$ jq kJ (jq kI (pv 1)$ pv 2)$ qQ (v:=.int 1000000000000000000) Z m #[_,Z]) jm)$ jd (ju (jZ$ pv 0) (jg$ jl$ jq kJ (jq kO (pv 1)$ pv 2)$ qQ (v:=.int 1000000000000000000) Z m #[_,Z]) jm)$ jd (ju (jZ$ pv 0) (jg$ jl$ qj (zb$ pv 2) je$ jq q8 (pv 1)$ pv 2) jm)$ jd (ju (jZ$ pv 0) (jg$ jl$ qj (jA JY (pv 1) (pv 2)$ aA _) je je) jm)$ jg$ jl$ qj (jA zD (pv 1) (pv 2)$ aA _) je je),?_];obtain⟨k,l⟩:=g;obtain⟨n,p⟩:=j;rcases(by omega:i=0∨i=1∨i=2∨i=3∨i=4∨i=5) with rfl |rfl |rfl |rfl |rfl |rfl
 ·refine#[_,Z,Z,_,Z,bR OE ?_];exact#[_,Z,_,Z,_,_,Z,Z,_,_,Z,Z,(by show(0:Int) < 1000000000000000000;decide),q]
 ·refine#[_,Z,Z,_,Z,aE OE ?_];refine#[_,Z,Z,_,Z,bR OE ?_];exact#[_,Z,_,Z,_,_,Z,Z,_,_,Z,Z,(by show(0:Int) < 1000000000000000000;decide),q]
 ·refine#[_,Z,Z,_,Z,aE OE ?_];refine#[_,Z,Z,_,Z,aE OE ?_];refine#[_,Z,Z,_,Z,bR OE ?_];exact#[_,Z,_,Z,_,_,Z,Z,.inl #[OB,OB],_,_,Z,Z,(by show(0:Int) < 1000000000000000000;decide),q]
 ·refine#[_,Z,Z,_,Z,aE OE ?_];refine#[_,Z,Z,_,Z,aE OE ?_];refine#[_,Z,Z,_,Z,aE OE ?_];refine#[_,Z,Z,_,Z,bR OE ?_];have a:Q (.int (if y=0 then 0 else x / y)) H:=q;refine#[_,Z,Z,_,Z,?_];refine bJ (λc=>?_) (λc=>?_)
  ·have C:V.int y=V.int 0:=Fm c;injection C with C;rw[Er C]at a;exact a
  ·have C:y≠0:=λz=>c (by rw[z];rfl);rw[Eu C]at a;exact#[_,Z,_,Z,_,_,Z,Z,#[OB,OB],a]
 ·refine#[_,Z,Z,_,Z,aE OE ?_];refine#[_,Z,Z,_,Z,aE OE ?_];refine#[_,Z,Z,_,Z,aE OE ?_];refine#[_,Z,Z,_,Z,aE OE ?_];refine#[_,Z,Z,_,Z,bR OE ?_];have a:Q (.int (if x < y then 1 else 0)) H:=q;refine#[_,Z,_,Z,_,_,Z,Z,_,Z,?_];refine bJ (λc=>?_) (λc=>?_)
  ·rw[Er$ Fm c]at a;exact a
  ·rw[Eu$ Iv$ Bool.eq_false_iff.mpr c]at a;exact a
 ·refine#[_,Z,Z,_,Z,aE OE ?_];refine#[_,Z,Z,_,Z,aE OE ?_];refine#[_,Z,Z,_,Z,aE OE ?_];refine#[_,Z,Z,_,Z,aE OE ?_];refine#[_,Z,Z,_,Z,aE OE ?_];have a:Q (.int (if x=y then 1 else 0)) H:=q;refine#[_,Z,_,Z,Z,_,Z,?_];refine bJ (λc=>?_) (λc=>?_)
  ·have C:V.int x=V.int y:=Fm c;injection C with C;rw[Er C]at a;exact a
  ·have C:x≠y:=λz=>c (by rw[z];exact EI Z);rw[Eu C]at a;exact a
theorem uV:al z3z z3z (aa iI):=bZ
theorem pk(F:aU K "worth" "worth" iI f p)(C:Cl P w K mg base (n+1) f p z3z (du K n) "worth")(v:Cl P w K mg base 1 R B z20z gU "joined"):aj P w K mg base aC (n+2) f p z3z (du K$ n+1):=by
 refine F.ok uV (λV H Q E h=>?_) (λD A o s H V Q E j h=>?_)
 ·obtain⟨a,d,T,y,c,rfl,_⟩:=h;rfl
 obtain⟨a,d,T,y,c,rfl,t,I,g,l,G,q⟩:=h;refine#[_,(jd (ju (jZ$ jx$ pv 0) (jg$ jl$ jx$ pv 0) jm)$ jd (ju (jZ$ jx$ pv 0) (jg$ jl$ @zL _ _ _ _ _ _ _ _ _ (jN j) (pv 1) (jx$ pv 0) je #[OF,OF,OF,OF]) jm)$ jg$ jl$ v.e j.m$ ja (jx$ pv 0)$ ja (C.e j$ ja (jx$ pv 0)$ ja (pv 1) jb)$ ja (C.e j$ ja (jx$ pv 0)$ ja (pv 1) jb) jb),?_];cases T with
 |num m=>
  have b:aD K H a [.str "num",.int m]:=t.elim (λh=>aD.of h) λz=>by cases z.1;exact z.2
  refine#[_,Z,a,_,_,_,Z,Z,b,Z,Z,_,Z,bR OE ?_];exact#[_,Z,a,_,_,_,Z,Z,b,Z,q]
 |var x=>
  have b:H a=some (.tup [.str "var",.str x]):=t.resolve_right λz=>by cases z.1
  refine(jp b Z #[Z,_,Z,aE OE ?_]);refine(jp b Z #[Z,_,Z,bR OE ?_]);refine#[_,Z,d,Z,.inl #[c,.inl l],jp b Z #[_,bp.k (k:=Sum.inr x) l,?_]];rw[zO G];exact q
 |op i r u=>
  obtain⟨J,L,b,M,N⟩:=t.resolve_right λz=>by cases z.1
  have O:max r.depth u.depth+1 < n+1:=I;refine(jp b Z #[Z,_,Z,aE OE ?_]);refine(jp b Z #[Z,_,Z,aE OE ?_]);refine(jp b Z ?_);refine(jp b Z #[_,Z,J,d,r,y,c,Z,.inl M,OB,g.2.1,l,G,?_]);refine(jp b Z #[_,Z,L,d,u,y,c,Z,.inl N,OB,g.2.2,l,G,?_]);exact#[i,_,_,Z,g.1,zE G g.2.1,zE G g.2.2,q]
theorem oV:aj P w K mg base aC 1 f e z3z (du K 0):=by
 have n:∀v H Q E,¬du K 0 v H Q E:=λv H Q E h=>by obtain⟨a,d,T,y,k,_,_,c,_⟩:=h;exact absurd c$ Hd _
 exact#[λv H Q E h=>absurd h (n v H Q E),λA o s H b u v Q E _ _ _ _ h=>absurd h (n v H Q E)]
theorem si(F:aU K "worth" "worth" iI f a)(b:ax K a z3z [])(m:mg "worth"=some (.ref f))(c:Cl P w K mg base 1 e d z20z gU "joined"):
  ∀n:Nat,aj P w K mg base aC (n+1) f a z3z (du K n)
 |0=>oV
 |n+1=>pk F #[(si F b m c n),b,F.kp,m] c
def TV(H:Hp)(y:List Str)(t:Addr)(T:Tm):Prop:=aO H T t/\dj y T
theorem TV.mono(k:ai H a)(h:TV H y t T):TV a y t T:=#[h.1.mono k,h.2]
inductive Gl where
 |give (t:Addr) (T:Tm) |nought |go (n:Nat)
structure WD where
 sets:List (Str×Addr×Tm)
 goal:Gl
noncomputable def Gl.gol(N:Addr):Gl->Ci
 | .give t _=>.give t
 | .nought=>.give N
 | .go n=>.go (n:Int)
noncomputable def WD.wy(n:Addr)(w:WD):Wy:=#[w.sets.map λs=>(s.1,s.2.1),w.goal.gol n]
def Al(H:Hp)(y:List Str)(m:Nat):Gl->Prop
 | .give t T=>TV H y t T
 | .nought=>True
 | .go n=>n < m
structure nP(H:Hp)(ys:List Str)(m N:Nat)(w:WD):Prop where
 sets:∀s∈w.sets,TV H ys s.2.1 s.2.2
 len:w.sets.length<=N
 goal:Al H ys m w.goal
noncomputable def Dd.ways:Dd->Nat
 | .st _=>1
 | .ask _=>2
section
variable {F:fe}{H H':Hp}{ys:List Str}{nA:Addr}{m N N':Nat}
theorem Al.mono(k:ai H H')(h:Al H ys m g):Al H' ys m g:=by
 cases g with
 |give t T=>exact TV.mono k h
 |nought=>trivial
 |go n=>exact h
theorem nP.mono(k:ai H H'){w:WD}(h:nP H ys m N w):nP H' ys m N w:=#[λs a=>(h.sets s a).mono k,h.len,h.goal.mono k]
end
theorem ZB{M:Str->Prop}{y:List Str}(h:∀x,M x->x∈y):(canon M).length<=y.length:=by
 by_cases e:∃s,Nm s M
 ·obtain⟨s,H⟩:=e;rw[<- H.canon];exact H.len h
 ·unfold canon;rw[dif_neg e];exact Ek _
noncomputable def bM:List (Str×Addr×Tm)->aG->aG
 | [],k=>k
 |s::r,k=>bM r (aB k (.inr s.1) (.int (s.2.2.ev k)))
theorem JV{H:Hp}{ys:List Str}:∀{ss:List (Str×Addr×Tm)} {k:aG},(∀s∈ss,TV H ys s.2.1 s.2.2)->GT k->GT (bM ss k)
 | [],_,_,g=>g
 |s::r,k,h,g=>JV (H:=H) (ys:=ys) (ss:=r) (λS a=>h S (Ew _ a)) (g.put _ (zE g (h s Es).2.1))
theorem ZC{S:List (Str×Addr×Tm)}:∀{i:Nat} {s:Str×Addr×Tm} {k:aG},S[i]?=some s->bM (S.take$ i+1) k=aB (bM (S.take i) k) (.inr s.1) (.int$ s.2.2.ev$ bM (S.take i) k):=by
 induction S with
 |nil=>intro i s k h;simp at h
 |cons a r I=>
  intro i s k h;cases i with
  |zero=>cases h;rfl
  |succ i=>exact I (by simpa using h)
theorem Km{kvs:aG}{k:aY}{v:V}:(aB kvs k v).length<=kvs.length+1:=by
 unfold aB;split
 ·rw[Ec];exact Fq _
 ·rw[Eg];exact Ee _
theorem Xq:∀{ss:List (Str×Addr×Tm)} {k:aG},(bM ss k).length<=k.length+ss.length
 | [],_=>Ee _
 |s::r,k=>by have h:=Xq (ss:=r) (k:=aB k (.inr s.1) (.int$ s.2.2.ev k));have H:=Km (kvs:=k) (k:=.inr s.1) (v:=.int (s.2.2.ev k));show(bM r _).length<=k.length+(r.length+1);omega
noncomputable def aw(n:List Str)(i:List Int):aG:=aT [] ((n.map Sum.inr).zip$ i.map V.int)
theorem Xr:∀{m:aG} {k:aG},GT k->GT m->GT (aT k m)
 | [],_,g,_=>g
 |p::r,k,g,h=>by
  obtain⟨i,e,H⟩:=h p Es;have E:aB k p.1 p.2=aB k p.1 (.int i):=by rw[e]
  show GT (aT (aB k p.1 p.2) r);rw[E];exact Xr (g.put _ H) λq a=>h q (Ew _ a)
theorem sk(h:∀i∈I,dS i):GT (aw n I):=by refine Xr GT.nil λp H=>?_;obtain⟨i,a,e⟩:=List.mem_map.mp (Ip H).2;exact#[i,e.symm,h i a]
theorem YU{ns:List Str}{is:List Int}:(aw ns is).length<=ns.length:=by have h:=zI ((ns.map Sum.inr).zip$ is.map V.int) [];rw[Hr,Ec]at h;show(aT [] _).length<=_;have H:(aT [] ((ns.map Sum.inr).zip$ is.map V.int)).length<=0+min ns.length (is.map V.int).length:=h;omega
def hV(T:Tm):Prop:=T.depth < 8/\∃ys,T.Good ys
inductive nW where
 |set (x:Str) (T:Tm)
 |rd (x:Str) (T:Tm)
 |wr (T U:Tm)
 |cl (x f:Str) (ts:List Tm)
 |gv (T:Tm)
inductive bn where
 |nil
 |lf (l:nW) (r:bn)
 |ite (T:Tm) (a b r:bn)
 |loop (T:Tm) (a r:bn)
noncomputable def bn.app:bn->bn->bn
 | .nil,s=>s
 | .lf l r,s=>.lf l (r.app s)
 | .ite T a b r,s=>.ite T a b (r.app s)
 | .loop T a r,s=>.loop T a (r.app s)
noncomputable def bn.size:bn->Nat
 | .nil=>0
 | .lf _ r=>r.size+1
 | .ite _ a b r=>a.size+b.size+r.size+1
 | .loop _ a r=>a.size+r.size+1
noncomputable def bn.top:bn->Nat
 | .nil=>0
 | .lf _ r=>r.top+1
 | .ite _ _ _ r=>r.top+1
 | .loop _ _ r=>r.top+1
def nW.Ok:nW->Prop
 | .set _ T=>hV T
 | .rd _ T=>hV T
 | .wr T U=>hV T/\hV U
 | .cl _ _ ts=>(∀T∈ts,hV T)/\ts.length<=100
 | .gv T=>hV T
def bn.Ok:bn->Prop
 | .nil=>True
 | .lf l r=>l.Ok/\r.Ok
 | .ite T a b r=>(hV T/\a.top<=400/\b.top<=400)/\a.Ok/\b.Ok/\r.Ok
 | .loop T a r=>(hV T/\a.top<=400)/\a.Ok/\r.Ok
theorem bn.Ok.app{s:bn}(hs:s.Ok):∀{b:bn},b.Ok->(b.app s).Ok
 | .nil,_=>hs
 | .lf _ _,h=>#[h.1,bn.Ok.app hs h.2]
 | .ite _ _ _ _,h=>#[h.1,h.2.1,h.2.2.1,bn.Ok.app hs h.2.2.2]
 | .loop _ _ _,h=>#[h.1,h.2.1,bn.Ok.app hs h.2.2]
def hZ(H:Hp):List Tm->List V->Prop
 | [],vs=>vs=[]
 |T::ts,vs=>∃p r,vs= .ref p::r/\aO H T p/\hZ H ts r
theorem hZ.mono{H H':Hp}(k:ai H H'):∀{ts:List Tm} {vs:List V},hZ H ts vs->hZ H' ts vs
 | [],_,h=>h
 |_::_,_,z_z=>by obtain⟨p,r,e,h1,h2⟩:=z_z;exact #[p,r,e,h1.mono k,h2.mono k]
theorem hZ.len{H:Hp}:∀{ts:List Tm} {vs:List V},hZ H ts vs->vs.length=ts.length
 | [],_,h=>by rw[show _=[] from h];rfl
 |_::_,_,z_z=>by obtain⟨p,r,e,h1,h2⟩:=z_z;rw[e,List.length_cons,List.length_cons,h2.len]
theorem hZ.at{H:Hp}:∀{ts:List Tm} {vs:List V},hZ H ts vs->∀(i:Nat) (v:V),vs[i]?=some v->∃T p,ts[i]?=some T/\v= .ref p/\aO H T p
 | [],_,h,i,v,hv=>by rw[show _=[] from h]at hv;simp at hv
 |T::_,_,q_q,0,v,hv=>by obtain⟨p,r,e,h1,h2⟩:=q_q;rw[e]at hv;cases hv;exact#[T,p,rfl,rfl,h1]
 |_::ts,_,q_q,i+1,v,hv=>by obtain⟨p,r,e,h1,h2⟩:=q_q;rw[e]at hv;simpa using h2.at i v (by simpa using hv)
def nq(H:Hp)(v:V):nW->Prop
 | .set x T=>∃p t,v= .ref p/\H p=some (.tup [.str "set",.str x,.ref t])/\aO H T t
 | .rd x T=>∃p t,v= .ref p/\H p=some (.tup [.str "read",.str x,.ref t])/\aO H T t
 | .wr T U=>∃p t u,v= .ref p/\H p=some (.tup [.str "write",.ref t,.ref u])/\aO H T t/\aO H U u
 | .cl x f ts=>∃p q vs,v= .ref p/\H p=some (.tup [.str "call",.str x,.str f,.ref q])/\H q=some (.tup vs)/\hZ H ts vs
 | .gv T=>∃p t,v= .ref p/\H p=some (.tup [.str "give",.ref t])/\aO H T t
theorem nq.mono{H H':Hp}(k:ai H H'){v:V}{s:nW}(h:nq H v s):nq H' v s:=by
 cases s with
 |set x T |rd x T |gv T=>obtain⟨p,t,e,h1,h2⟩:=h;exact#[p,t,e,k _ _ h1,h2.mono k]
 |wr T U=>obtain⟨p,t,u,e,h1,h2,h3⟩:=h;exact#[p,t,u,e,k _ _ h1,h2.mono k,h3.mono k]
 |cl x f ts=>obtain⟨p,q,vs,e,h1,h2,h3⟩:=h;exact#[p,q,vs,e,k _ _ h1,k _ _ h2,h3.mono k]
def b6(H:Hp):bn->List V->Prop
 | .nil,vs=>vs=[]
 | .lf l r,vs=>∃v ws,vs=v::ws/\nq H v l/\b6 H r ws
 | .ite T a b r,vs=>∃p t pa pb as bs ws,vs= .ref p::ws/\H p=some (.tup [.str "if",.ref t,.ref pa,.ref pb])/\aO H T t/\H pa=some (.tup as)/\b6 H a as/\H pb=some (.tup bs)/\b6 H b bs/\b6 H r ws
 | .loop T a r,vs=>∃p t pa as ws,vs= .ref p::ws/\H p=some (.tup [.str "while",.ref t,.ref pa])/\aO H T t/\H pa=some (.tup as)/\b6 H a as/\b6 H r ws
theorem b6.mono{H H':Hp}(k:ai H H'):∀{b:bn} {vs:List V},b6 H b vs->b6 H' b vs
 | .nil,_,h=>h
 | .lf _ _,_,z_z=>by obtain⟨v,ws,e,h1,h2⟩:=z_z;exact #[v,ws,e,h1.mono k,h2.mono k]
 | .ite _ _ _ _,_,z_z=>by obtain⟨p,t,pa,pb,as,bs,ws,e,h1,h2,h3,h4,h5,h6,h7⟩:=z_z;exact #[p,t,pa,pb,as,bs,ws,e,k _ _ h1,h2.mono k,k _ _ h3,h4.mono k,k _ _ h5,h6.mono k,h7.mono k]
 | .loop _ _ _,_,z_z=>by obtain⟨p,t,pa,as,ws,e,h1,h2,h3,h4,h5⟩:=z_z;exact #[p,t,pa,as,ws,e,k _ _ h1,h2.mono k,k _ _ h3,h4.mono k,h5.mono k]
theorem b6.len{H:Hp}:∀{b:bn} {vs:List V},b6 H b vs->vs.length=b.top
 | .nil,_,h=>by rw[show _=[] from h];rfl
 | .lf _ _,_,z_z=>by obtain⟨v,ws,e,h1,h2⟩:=z_z;rw[e,List.length_cons,h2.len];rfl
 | .ite _ _ _ _,_,z_z=>by obtain⟨p,t,pa,pb,as,bs,ws,e,h1,h2,h3,h4,h5,h6,h7⟩:=z_z;rw[e,List.length_cons,h7.len];rfl
 | .loop _ _ _,_,z_z=>by obtain⟨p,t,pa,as,ws,e,h1,h2,h3,h4,h5⟩:=z_z;rw[e,List.length_cons,h5.len];rfl
theorem b6.app{H:Hp}{s:bn}{zs:List V}(hs:b6 H s zs):∀{b:bn} {vs:List V},b6 H b vs->b6 H (b.app s) (vs++zs)
 | .nil,_,h=>by rw[show _=[] from h];exact hs
 | .lf _ _,_,z_z=>by obtain⟨v,ws,e,h1,h2⟩:=z_z;exact #[v,ws++zs,by rw[e];rfl,h1,hs.app h2]
 | .ite _ _ _ _,_,z_z=>by obtain⟨p,t,pa,pb,as,bs,ws,e,h1,h2,h3,h4,h5,h6,h7⟩:=z_z;exact #[p,t,pa,pb,as,bs,ws++zs,by rw[e];rfl,h1,h2,h3,h4,h5,h6,hs.app h7]
 | .loop _ _ _,_,z_z=>by obtain⟨p,t,pa,as,ws,e,h1,h2,h3,h4,h5⟩:=z_z;exact #[p,t,pa,as,ws++zs,by rw[e];rfl,h1,h2,h3,h4,hs.app h5]
structure c8 where
 f:Str
 ps:List Str
 body:bn
def i6(H:Hp)(v:V)(d:c8):Prop:=∃p pa pb bs,v= .ref p/\H p=some (.tup [.str d.f,.ref pa,.ref pb])/\H pa=some (.tup$ d.ps.map V.str)/\H pb=some (.tup bs)/\b6 H d.body bs
theorem i6.mono{H H':Hp}(k:ai H H'){v:V}{d:c8}(h:i6 H v d):i6 H' v d:=by obtain⟨p,pa,pb,bs,e,h1,h2,h3,h4⟩:=h;exact#[p,pa,pb,bs,e,k _ _ h1,k _ _ h2,k _ _ h3,h4.mono k]
def dy(H:Hp):List c8->List V->Prop
 | [],vs=>vs=[]
 |d::ds,vs=>∃v r,vs=v::r/\i6 H v d/\dy H ds r
theorem dy.mono{H H':Hp}(k:ai H H'):∀{ds:List c8} {vs:List V},dy H ds vs->dy H' ds vs
 | [],_,h=>h
 |_::_,_,z_z=>by obtain⟨p,r,e,h1,h2⟩:=z_z;exact #[p,r,e,h1.mono k,h2.mono k]
theorem dy.len{H:Hp}:∀{ds:List c8} {vs:List V},dy H ds vs->vs.length=ds.length
 | [],_,h=>by rw[show _=[] from h];rfl
 |_::_,_,z_z=>by obtain⟨p,r,e,h1,h2⟩:=z_z;rw[e,List.length_cons,List.length_cons,h2.len]
theorem dy.at{H:Hp}:∀{ds:List c8} {vs:List V},dy H ds vs->∀(i:Nat) (v:V),vs[i]?=some v->∃d,ds[i]?=some d/\i6 H v d
 | [],_,h,i,v,hv=>by rw[show _=[] from h]at hv;simp at hv
 |d::_,_,q_q,0,v,hv=>by obtain⟨u,r,e,h1,h4⟩:=q_q;rw[e]at hv;cases hv;exact#[d,rfl,h1]
 |_::ds,_,q_q,i+1,v,hv=>by obtain⟨u,r,e,h1,h4⟩:=q_q;rw[e]at hv;simpa using h4.at i v (by simpa using hv)
noncomputable def bj(P:List c8)(f:Str):Option c8:=P.find? λd=>decide (d.f=f)
noncomputable def ba(ps:List Str)(is:List Int):aG:=aT [] ((ps.map Sum.inr).zip$ is.map V.int)
inductive iX where
 |done (a:Int) (L:aG) (t:Nat)
 |long
 |deep
noncomputable def nW.turn:nW->Bool
 | .set _ _=>false
 | .gv _=>false
 |_=>true
inductive Ex(P:List c8)(C:aG)(m:Int):Nat->Nat->bn->aG->aG->Nat->iX->Prop
 |nil {n h L} {t:Nat}:Ex P C m n 0 .nil h L t (.done 0 L t)
 |gv {n T r h L} {t:Nat}:Ex P C m n 0 (.lf (.gv T) r) h L t (.done (T.ev h) L t)
 |set {n k x T r h L o} {t:Nat} (q:Ex P C m n k r (aB h (.inr x) (.int (T.ev h))) L t o):Ex P C m n (k+1) (.lf (.set x T) r) h L t o
 |longL {n l r h L} {t:Nat} (e:l.turn=true) (g:m<=(t:Int)):Ex P C m n 0 (.lf l r) h L t .long
 |longI {n T a b r h L} {t:Nat} (g:m<=(t:Int)):Ex P C m n 0 (.ite T a b r) h L t .long
 |longW {n T a r h L} {t:Nat} (g:m<=(t:Int)):Ex P C m n 0 (.loop T a r) h L t .long
 |rd {n k x T r h L o} {t:Nat} (g:(t:Int) < m) (q:Ex P C m n k r (aB h (.inr x) (.int (look L (.inl (T.ev h)) (look C (.inl (T.ev h)) 0)))) L (t+1) o):Ex P C m n (k+1) (.lf (.rd x T) r) h L t o
 |wr {n k T U r h L o} {t:Nat} (g:(t:Int) < m) (q:Ex P C m n k r h (aB L (.inl (T.ev h)) (.int (U.ev h))) (t+1) o):Ex P C m n (k+1) (.lf (.wr T U) r) h L t o
 |ite {n k T a b r h L o} {t:Nat} (g:(t:Int) < m) (q:Ex P C m n k ((if T.ev h=0 then b else a).app r) h L (t+1) o):Ex P C m n (k+1) (.ite T a b r) h L t o
 |loop1 {n k T a r h L o} {t:Nat} (g:(t:Int) < m) (e:T.ev h≠0) (q:Ex P C m n k (a.app (.loop T a r)) h L (t+1) o):Ex P C m n (k+1) (.loop T a r) h L t o
 |loop0 {n k T a r h L o} {t:Nat} (g:(t:Int) < m) (e:T.ev h=0) (q:Ex P C m n k r h L (t+1) o):Ex P C m n (k+1) (.loop T a r) h L t o
 |cl {n k1 k x f ts r h L d a L1 t1 o} {t:Nat} (g:(t:Int) < m) (hf:bj P f=some d) (hl:d.ps.length=ts.length) (hk:k1<=30000) (c:Ex P C m n k1 d.body (ba d.ps (ts.map (Tm.ev h))) L (t+1) (.done a L1 t1)) (q:Ex P C m (n+1) k r (aB h (.inr x) (.int a)) L1 t1 o):Ex P C m (n+1) (k+1) (.lf (.cl x f ts) r) h L t o
 |clL {n k1 x f ts r h L d} {t:Nat} (g:(t:Int) < m) (hf:bj P f=some d) (hl:d.ps.length=ts.length) (hk:k1<=30000) (c:Ex P C m n k1 d.body (ba d.ps (ts.map (Tm.ev h))) L (t+1) .long):Ex P C m (n+1) 0 (.lf (.cl x f ts) r) h L t .long
 |clD {n k1 x f ts r h L d} {t:Nat} (g:(t:Int) < m) (hf:bj P f=some d) (hl:d.ps.length=ts.length) (hk:k1<=30000) (c:Ex P C m n k1 d.body (ba d.ps (ts.map (Tm.ev h))) L (t+1) .deep):Ex P C m (n+1) 0 (.lf (.cl x f ts) r) h L t .deep
 |deep {x f ts r h L} {t:Nat} (g:(t:Int) < m):Ex P C m 0 0 (.lf (.cl x f ts) r) h L t .deep
theorem bn.top_app(s:bn):∀b:bn,(b.app s).top=b.top+s.top
 | .nil=>by show s.top=0+s.top;omega
 | .lf _ r=>by show(r.app s).top+1=r.top+1+s.top;rw[bn.top_app s r];omega
 | .ite _ _ _ r=>by show(r.app s).top+1=r.top+1+s.top;rw[bn.top_app s r];omega
 | .loop _ _ r=>by show(r.app s).top+1=r.top+1+s.top;rw[bn.top_app s r];omega
theorem JW(kvs:aG)(k:aY)(v:V):(aB kvs k v).length<=kvs.length+1:=by
 unfold aB;split
 ·rw[List.length_map];exact Nat.le_succ _
 ·rw[List.length_append];exact Nat.le_refl _
inductive ci(n:Nat)(e:List V)(H:Hp)(Q:VK)(b:XK):Prop
 |mk(a d:Addr)(T:Tm)(f:List Str)(c:aG)(_:e=[.ref a,.ref d])(_:aO H T a)(_:T.depth < n)(_:T.Good f)(_:H d=some (.dK c))(_:GT c)(_:Q (.int (T.ev c)) H)
theorem YV{H:Hp}:∀{ss:List Str} {vs:List V},cq H (bo$ ss.map iU) .non vs->vs=ss.map V.str
 | [],vs,h=>h
 |s::ss,vs,h=>by obtain⟨_,_,y,ys,rfl,⟨rfl,_⟩,h2⟩:=h;rw[YV h2];rfl
inductive Wh where
 |rd (a i:Int) |wr (a b:Int) |ask (b:Int) |cl (f:Str) (is:List Int) (i:Int)
inductive DD where
 |st (p:Addr) (l:Lf) |ask (t:Addr) (T:Tm)
noncomputable def DD.dd:DD->Dd
 | .st p _=>.st p
 | .ask t _=>.ask t
def Cd(H:Hp)(ys:List Str):DD->Prop
 | .st p l=>∃vs,H p=some (.tup vs)/\sI H l vs/\l.Ok ys/\l.isCut=true
 | .ask t T=>TV H ys t T
theorem Cd.mono{H H':Hp}(k:ai H H'){ys:List Str}{d:DD}(h:Cd H ys d):Cd H' ys d:=by
 cases d with
 |st p l=>obtain⟨vs,h1,h2,h3⟩:=h;exact#[vs,k _ _ h1,h2.mono k,h3]
 |ask t T=>exact TV.mono k h
def DD.Cs(F:fe):DD->Prop
 | .st _ l=>l.Cs F
 | .ask _ _=>True
noncomputable def CU(d:DD)(w:Wh)(k:aG):aG:=match d,w with
 | .st _ (.rd x _ _),.rd _ i=>aB k (.inr x) (.int i)
 | .st _ (.cl x _ _ _),.cl _ _ i=>aB k (.inr x) (.int i)
 |_,_=>k
noncomputable def Wh.side:Wh->Nat
 | .ask b=>if b=0 then 1 else 0
 |_=>0
inductive Gd where
 |give (a:Int) |go (n:Nat) (hs:List Int)
noncomputable def cX(nms:Nat->List Str)(k:aG):Gl->Gd
 | .give _ T=>.give (T.ev k)
 | .nought=>.give 0
 | .go n=>.go n ((nms n).map λx=>look k (.inr x) 0)
structure Cc where
 nm:List Str
 e:DD
 ws:List WD
structure i7 where
 f:Str
 ps:List Str
 way:WD
 cs:List Cc
noncomputable def mv(pd:i7)(n:Nat):List Str:=match pd.cs[n]? with
 |some c=>c.nm
 |none=>[]
inductive OW where
 |ok (w:Wh) (L:aG) (t:Nat) |long |deep
inductive OC where
 |ok (a:Int) (L:aG) (t:Nat) |long |deep
abbrev sq:=Str->List Int->aG->Nat->OC
noncomputable def OC.cl(f:Str)(is:List Int):OC->OW
 | .ok a L t=>.ok (.cl f is a) L t
 | .long=>.long
 | .deep=>.deep
noncomputable def mj(M:Nat)(call:sq)(Cs:aG)(k L:aG)(t:Nat)(e:DD):OW:=if t < M then match e with
 | .ask _ T=>.ok (.ask (if T.ev k=0 then 0 else 1)) L (t+1)
 | .st _ (.rd _ _ T)=>.ok (.rd (T.ev k) (look L (.inl (T.ev k)) (look Cs (.inl (T.ev k)) 0))) L (t+1)
 | .st _ (.wr _ _ T U)=>.ok (.wr (T.ev k) (U.ev k)) (aB L (.inl (T.ev k)) (.int (U.ev k))) (t+1)
 | .st _ (.cl _ f _ ts)=>(call f (ts.map λc=>c.2.ev k) L (t+1)).cl f (ts.map λc=>c.2.ev k)
 |_=>.long
 else .long
theorem JX{M:Nat}{call:sq}{Cs k L:aG}{t:Nat}{e:DD}(h:¬t < M):mj M call Cs k L t e= .long:=by unfold mj;rw[if_neg h]
theorem QI{M:Nat}{call:sq}{Cs k L:aG}{t:Nat}{p:Addr}{T:Tm}(h:t < M):mj M call Cs k L t (.ask p T)= .ok (.ask (if T.ev k=0 then 0 else 1)) L (t+1):=by unfold mj;rw[if_pos h]
theorem vF{M:Nat}{call:sq}{Cs k L:aG}{t:Nat}{p a:Addr}{x:Str}{T:Tm}(h:t < M):mj M call Cs k L t (.st p$ .rd x a T)= .ok (.rd (T.ev k)$ look L (.inl$ T.ev k)$ look Cs (.inl$ T.ev k) 0) L (t+1):=by unfold mj;rw[if_pos h]
theorem vG{M:Nat}{call:sq}{Cs k L:aG}{t:Nat}{p a b:Addr}{T U:Tm}(h:t < M):mj M call Cs k L t (.st p$ .wr a b T U)= .ok (.wr (T.ev k)$ U.ev k) (aB L (.inl$ T.ev k)$ .int$ U.ev k) (t+1):=by unfold mj;rw[if_pos h]
theorem Q6{M:Nat}{call:sq}{Cs k L:aG}{t:Nat}{p q:Addr}{x f:Str}{ts:List (Addr×Tm)}(h:t < M):mj M call Cs k L t (.st p$ .cl x f q ts)=(call f (ts.map λc=>c.2.ev k) L$ t+1).cl f (ts.map λc=>c.2.ev k):=by unfold mj;rw[if_pos h]
noncomputable def nG(pd:i7)(c:Cc)(hs:List Int)(w:Wh):Gd:=match c.ws[w.side]? with
 |some wd=>cX (mv pd) (bM wd.sets (CU c.e w (aw c.nm hs))) wd.goal
 |none=>.give 0
noncomputable def dY(M:Nat)(call:sq)(Cs:aG)(pd:i7):Nat->Gd->aG->Nat->OC
 |0,_,_,_=>.long
 |_+1,.give a,L,t=>.ok a L t
 |m+1,.go n hs,L,t=>match pd.cs[n]? with
  |none=>.long
  |some c=>match mj M call Cs (aw c.nm hs) L t c.e with
   | .ok w L1 t1=>dY M call Cs pd m (nG pd c hs w) L1 t1
   | .long=>.long
   | .deep=>.deep
noncomputable def gg:List i7->Str->Option i7
 | [],_=>none
 |p::r,f=>if p.f=f then some p else gg r f
noncomputable def cE(M:Nat)(pds:List i7)(Cs:aG):Nat->sq
 |0=>λ_ _ _ _=>.deep
 |j+1=>λf is L t=>match gg pds f with
  |none=>.long
  |some pd=>dY M (cE M pds Cs j) Cs pd (M+2) (cX (mv pd) (bM pd.way.sets (aw pd.ps is)) pd.way.goal) L t
end _K
namespace _K
open PySem PySem.Spec PyProof.Rows _L
variable {P:Program}{w:World}{K:Frag}{mg:Str->Option Value}{base:Heap}
noncomputable def Lf.er:Lf->nW
 | .rd x _ T=>.rd x T
 | .st x _ T=>.set x T
 | .wr _ _ T U=>.wr T U
 | .cl x f _ ts=>.cl x f (ts.map (·.2))
 | .gv _ T=>.gv T
noncomputable def Bd.er:Bd->bn
 | .nil=>.nil
 | .lf _ l r=>.lf l.er r.er
 | .ite _ _ T a b r=>.ite T a.er b.er r.er
 | .loop _ _ T a r=>.loop T a.er r.er
theorem Jr:∀(a b:Bd),(a.app b).er=a.er.app b.er
 | .nil,_=>rfl
 | .lf _ l r,b=>by show bn.lf l.er (r.app b).er=bn.lf l.er (r.er.app b.er);rw[Jr r b]
 | .ite _ _ T x y r,b=>by show bn.ite T x.er y.er (r.app b).er=bn.ite T x.er y.er (r.er.app b.er);rw[Jr r b]
 | .loop _ _ T x r,b=>by show bn.loop T x.er (r.app b).er=bn.loop T x.er (r.er.app b.er);rw[Jr r b]
structure fF where
 M:Str->Prop
 w:WD
structure cp where
 M:Str->Prop
 e:DD
 ws:List WD
noncomputable def cp.cd(c:cp):Cc:={ nm:=canon c.M,e:=c.e,ws:=c.ws }
open Classical in
noncomputable def ls(x:Str)(t:Addr)(T:Tm)(pc:fF):WD:=if pc.M x then #[(x,t,T)::pc.w.sets,pc.w.goal] else pc.w
noncomputable def ym(m:Nat)(p:Addr)(l:Lf)(q:fF×List cp):fF×List cp:=match l with
 | .gv t T=>(#[λx=>x∈T.vars,#[[],.give t T]],q.2)
 | .st x t T=>(#[(Lf.st x t T).use q.1.M,ls x t T q.1],q.2)
 | .rd x t T=>(#[(Lf.rd x t T).use q.1.M,#[[],.go (m - q.2.length - 1)]],q.2++[#[(Lf.rd x t T).use q.1.M,.st p (.rd x t T),[q.1.w]]])
 | .wr t u T U=>(#[(Lf.wr t u T U).use q.1.M,#[[],.go (m - q.2.length - 1)]],q.2++[#[(Lf.wr t u T U).use q.1.M,.st p (.wr t u T U),[q.1.w]]])
 | .cl x f a ts=>(#[(Lf.cl x f a ts).use q.1.M,#[[],.go (m - q.2.length - 1)]],q.2++[#[(Lf.cl x f a ts).use q.1.M,.st p (.cl x f a ts),[q.1.w]]])
noncomputable def aI(m:Nat):Bd->fF->List cp->fF×List cp
 | .nil,pc,fs=>(pc,fs)
 | .lf p l r,pc,fs=>ym m p l (aI m r pc fs)
 | .ite p t T a b r,pc,fs=>
  let q:=aI m r pc fs
  let o:=aI m b q.1 q.2
  let s:=aI m a q.1 o.2
  (#[(Bd.ite p t T a b .nil).use q.1.M,#[[],.go$ m - q.2.length - (Bd.ite p t T a b .nil).cuts]],s.2++[#[(Bd.ite p t T a b .nil).use q.1.M,.ask t T,[s.1.w,o.1.w]]])
 | .loop p t T a r,pc,fs=>
  let q:=aI m r pc fs
  let pl:fF:=#[(Bd.loop p t T a .nil).use q.1.M,#[[],.go$ m - q.2.length - (Bd.loop p t T a .nil).cuts]]
  let s:=aI m a pl q.2
  (pl,s.2++[#[(Bd.loop p t T a .nil).use q.1.M,.ask t T,[s.1.w,q.1.w]]])
theorem jR(m:Nat):∀(b:Bd) (pc:fF) (fs:List cp),(aI m b pc fs).2.length=fs.length+b.cuts
 | .nil,_,_=>rfl
 | .lf p l r,pc,fs=>by have e:=jR m r pc fs;cases l<;>simp [aI,ym,e,Bd.cuts,Lf.cut]<;>omega
 | .ite p t T a b r,pc,fs=>by have e1:=jR m r pc fs;have e2:=jR m b (aI m r pc fs).1 (aI m r pc fs).2;have e3:=jR m a (aI m r pc fs).1 (aI m b (aI m r pc fs).1 (aI m r pc fs).2).2;simp [aI,Bd.cuts,e1,e2,e3];omega
 | .loop p t T a r,pc,fs=>by have e1:=jR m r pc fs;have e3:=λpl=>jR m a pl (aI m r pc fs).2;simp [aI,Bd.cuts,e1,e3];omega
theorem Qb(m:Nat):∀(b:Bd) (pc:fF) (fs:List cp),(aI m b pc fs).1.M=b.use pc.M
 | .nil,_,_=>rfl
 | .lf p l r,pc,fs=>by
  have e:=Qb m r pc fs;cases l with
  |gv t T=>rfl
  |rd x t T=>show(Lf.rd x t T).use (aI m r pc fs).1.M=_;rw[e];rfl
  |st x t T=>show(Lf.st x t T).use (aI m r pc fs).1.M=_;rw[e];rfl
  |wr t u T U=>show(Lf.wr t u T U).use (aI m r pc fs).1.M=_;rw[e];rfl
  |cl x f a ts=>show(Lf.cl x f a ts).use (aI m r pc fs).1.M=_;rw[e];rfl
 | .ite p t T a b r,pc,fs=>by have e:=Qb m r pc fs;simp [aI,e,Bd.use]
 | .loop p t T a r,pc,fs=>by have e:=Qb m r pc fs;simp [aI,e,Bd.use]
theorem Js:∀(b:Bd) {M N:Str->Prop} {y:Str},(M y->N y)->b.use M y->b.use N y
 | .nil,_,_,_,h,z=>h z
 | .lf p l r,M,N,y,h,z=>by
  have ih:=Js r h;cases l with
  |rd x t T |st x t T |cl x f a ts=>exact z.imp (λu=>#[ih u.1,u.2]) id
  |wr t u T U=>exact z.imp ih id
  |gv t T=>exact z
 | .ite p t T a b r,M,N,y,h,z=>by have ih:=Js r h;exact z.imp (λu=>u.imp (Js a ih) (Js b ih)) id
 | .loop p t T a r,M,N,y,h,z=>z.imp (λu=>u.imp id (Js r h)) id
theorem y8(b:Bd){M:Str->Prop}{y:Str}(z:b.use M y):b.use (λ_=>False) y∨M y:=by
 by_cases h:M y
 ·exact .inr h
 ·exact .inl$ Js b (λu=>h u) z
def At(G:List cp)(m:Nat):Nat->Bd->fF->Prop
 |0,_,_=>True
 |k+1,b,pc=>match b with
  | .nil=>pc.w.sets=[]/\pc.w.goal= .nought
  | .lf p l r=>match l with
   | .gv t T=>pc.w=#[[],.give t T]/\∀y∈T.vars,pc.M y
   | .st x t T=>∃q,At G m k r q/\pc.w=ls x t T q/\pc.M=(Lf.st x t T).use q.M
   |l=>∃q i,At G m k r q/\pc.w=#[[],.go (m - i - 1)]/\i < m/\G[i]?=some #[pc.M,.st p l,[q.w]]/\pc.M=l.use q.M
  | .ite p t T a c r=>∃qa qb i,At G m k (a.app r) qa/\At G m k (c.app r) qb/\pc.w=#[[],.go (m - i - 1)]/\i < m/\G[i]?=some #[pc.M,.ask t T,[qa.w,qb.w]]/\(∀y∈T.vars,pc.M y)/\(∀y,qa.M y->pc.M y)/\∀y,qb.M y->pc.M y
  | .loop p t T a r=>∃qa qb i,At G m k (a.app (.loop p t T a r)) qa/\At G m k r qb/\pc.w=#[[],.go (m - i - 1)]/\i < m/\G[i]?=some #[pc.M,.ask t T,[qa.w,qb.w]]/\(∀y∈T.vars,pc.M y)/\(∀y,qa.M y->pc.M y)/\∀y,qb.M y->pc.M y
theorem zn(m:Nat):∀(b:Bd) (pc:fF) (fs:List cp),fs <+:(aI m b pc fs).2
 | .nil,_,_=>List.prefix_rfl
 | .lf p l r,pc,fs=>by
  have e:=zn m r pc fs;cases l with
  |gv t T |st x t T=>exact e
  |rd x t T |wr t u T U |cl x f a ts=>exact e.trans (List.prefix_append _ _)
 | .ite p t T a b r,pc,fs=>((zn m r pc fs).trans (zn m b _ _)).trans ((zn m a _ _).trans (List.prefix_append _ _))
 | .loop p t T a r,pc,fs=>((zn m r pc fs).trans (zn m a _ _)).trans (List.prefix_append _ _)
theorem Kn{fs G:List cp}{c:cp}(h:fs++[c] <+:G):G[fs.length]?=some c:=by obtain⟨r,rfl⟩:=h;rw[List.append_assoc,List.getElem?_append_right$ Nat.le_refl _,Nat.sub_self];rfl
theorem J6{G:List cp}{m:Nat}(hm:G.length=m):∀(b:Bd) (k:Nat) (pc:fF) (fs:List cp) (rest:Bd),(∀j,j<=k->At G m j rest pc)->(aI m b pc fs).2 <+:G->∀j,j<=k->At G m j (b.app rest) (aI m b pc fs).1
 | .nil,k,pc,fs,rest,h,_=>h
 | .lf p l r,k,pc,fs,rest,h,hp=>by
  have key:=λhq=>J6 hm r k pc fs rest h hq;intro j hj;cases j with
  |zero=>exact trivial
  |succ j=>
   cases l with
   |gv t T=>exact#[rfl,λy hy=>hy]
   |st x t T=>exact#[_,key hp j OB,rfl,rfl]
   |rd x t T |wr t u T U |cl x f a ts=>have e:=Kn hp;have hi:(aI m r pc fs).2.length < m:=Nat.lt_of_lt_of_eq (List.getElem?_eq_some_iff.mp e).1 hm;exact#[_,_,key ((List.prefix_append _ _).trans hp) j OB,rfl,hi,e,rfl]
 | .ite p t T a c r,k,pc,fs,rest,h,hp=>by
  have hs:=(List.prefix_append _ _).trans hp;have ho:=(zn m a (aI m r pc fs).1 (aI m c (aI m r pc fs).1 (aI m r pc fs).2).2).trans hs;have hq:=(zn m c (aI m r pc fs).1 (aI m r pc fs).2).trans ho;have kr:=J6 hm r k pc fs rest h hq;have kc:=J6 hm c k (aI m r pc fs).1 (aI m r pc fs).2 (r.app rest) kr ho;have ka:=J6 hm a k (aI m r pc fs).1 (aI m c (aI m r pc fs).1 (aI m r pc fs).2).2 (r.app rest) kr hs;intro j hj;cases j with
  |zero=>exact trivial
  |succ j=>
   have e:=Kn hp;have hi:=(List.getElem?_eq_some_iff.mp e).1;have l1:=jR m a (aI m r pc fs).1 (aI m c (aI m r pc fs).1 (aI m r pc fs).2).2;have l2:=jR m c (aI m r pc fs).1 (aI m r pc fs).2;refine#[_,_,_,ka j OB,kc j OB,?_,Nat.lt_of_lt_of_eq hi hm,e,λy hy=>.inr hy,λy hy=>?_,λy hy=>?_]
   ·show(#[[],.go$ m - (aI m r pc fs).2.length - (1+a.cuts+c.cuts+0)]:WD)=_;rw[l1,l2];congr 2;omega
   ·rw[Qb]at hy;exact .inl (.inl hy)
   ·rw[Qb]at hy;exact .inl (.inr hy)
 | .loop p t T a r,k,pc,fs,rest,h,hp=>by
  have hs:=(List.prefix_append _ _).trans hp;have hq:=(zn m a (#[(Bd.loop p t T a .nil).use (aI m r pc fs).1.M,#[[],.go$ m - (aI m r pc fs).2.length - (Bd.loop p t T a .nil).cuts]]:fF) (aI m r pc fs).2).trans hs;have kr:=J6 hm r k pc fs rest h hq;intro j;induction j using Nat.strongRecOn with
  |ind j ih=>
   intro hj;cases j with
   |zero=>exact trivial
   |succ j=>
    have e:=Kn hp;have hi:=(List.getElem?_eq_some_iff.mp e).1;have l1:=jR m a (#[(Bd.loop p t T a .nil).use (aI m r pc fs).1.M,#[[],.go$ m - (aI m r pc fs).2.length - (Bd.loop p t T a .nil).cuts]]:fF) (aI m r pc fs).2;have ka:=J6 hm a j (#[(Bd.loop p t T a .nil).use (aI m r pc fs).1.M,#[[],.go$ m - (aI m r pc fs).2.length - (Bd.loop p t T a .nil).cuts]]:fF) (aI m r pc fs).2 (.loop p t T a$ r.app rest) (λi hi=>ih i OB OB) hs;refine#[_,_,_,ka j$ Nat.le_refl _,kr j OB,?_,Nat.lt_of_lt_of_eq hi hm,e,λy hy=>.inr hy,λy hy=>?_,λy hy=>.inl (.inr hy)]
    ·show(#[[],.go$ m - (aI m r pc fs).2.length - (1+a.cuts+0)]:WD)=_;rw[l1];congr 2;omega
    ·rw[Qb]at hy;rcases y8 a hy with z |z
     ·exact .inl$ .inl z
     ·exact z
end _K
namespace _K
open PySem PySem.Spec PyProof.Rows _L
variable {P:Program}{w:World}{K:Frag}{mg:Str->Option Value}{base:Heap}
theorem Ko{h:aG}{k:aY}{i z:Int}:look (aB h k$ .int i) k z=i:=by unfold look;rw[Ja,if_pos rfl]
theorem zG{h:aG}{k j:aY}{v:V}{z:Int}(n:j≠k):look (aB h k v) j z=look h j z:=by unfold look;rw[Ja,if_neg n]
def Ac(M:Str->Prop)(h h':aG):Prop:=∀x,M x->look h (.inr x) 0=look h' (.inr x) 0
theorem kR{h h':aG}:∀{T:Tm},(∀y∈T.vars,look h (.inr y) 0=look h' (.inr y) 0)->T.ev h=T.ev h'
 | .num _,_=>rfl
 | .var x,a=>a x (by unfold Tm.vars;exact List.mem_singleton.mpr rfl)
 | .op i t u,a=>by show jn i (t.ev h) (u.ev h)=jn i (t.ev h') (u.ev h');rw[kR (T:=t) λy hy=>a y (by unfold Tm.vars;exact List.mem_append_left _ hy),kR (T:=u) λy hy=>a y (by unfold Tm.vars;exact List.mem_append_right _ hy)]
theorem Ac.put{M N:Str->Prop}{h h':aG}{x:Str}{i:Int}(a:Ac M h h')(k:∀y,N y->y≠x->M y):Ac N (aB h (.inr x)$ .int i) (aB h' (.inr x)$ .int i):=λy hy=>by
 by_cases e:y=x
 ·rw[e,Ko,Ko]
 ·rw[zG (λz=>e (Sum.inr.inj z)),zG (λz=>e (Sum.inr.inj z))];exact a y (k y hy e)
theorem KB{f:Str->Int}{x:Str}:∀(nm:List Str) (k:aG),(x∈nm∨look k (.inr x) 0=f x/\bQ k (.inr x)≠none)->look (aT k ((nm.map Sum.inr).zip ((nm.map f).map V.int))) (.inr x) 0=f x
 | [],k,h=>by
  rcases h with h |h
  ·cases h
  ·exact h.1
 |y::nm,k,h=>by
  show look (aT (aB k (.inr y)$ .int$ f y) ((nm.map Sum.inr).zip ((nm.map f).map V.int))) (.inr x) 0=f x;refine KB nm _ ?_;by_cases e:x=y
  ·refine .inr #[by rw[e,Ko],?_];rw[Ja,if_pos (by rw[e])];intro z;cases z
  ·rcases h with h |h
   ·rcases List.mem_cons.mp h with h |h
    ·exact absurd h e
    ·exact .inl h
   ·refine .inr #[by rw[zG (λz=>e (Sum.inr.inj z))];exact h.1,?_];rw[Ja,if_neg (λz=>e (Sum.inr.inj z))];exact h.2
theorem oJ{f:Str->Int}{nm:List Str}{x:Str}(h:x∈nm):look (aw nm$ nm.map f) (.inr x) 0=f x:=KB nm [] (.inl h)
theorem oR{pd:i7}{n:Nat}{c:Cc}(h:pd.cs[n]?=some c):mv pd n=c.nm:=by unfold mv;rw[h]
structure Ce(G:List cp)(m:Nat)(pd:i7):Prop where
 cs:pd.cs=(G.map cp.cd).reverse
 len:G.length=m
 mem:∀(i:Nat) (c:cp),G[i]?=some c->∀x,c.M x->x∈canon c.M
theorem Ce.at{G:List cp}{m:Nat}{pd:i7}(g:Ce G m pd){i:Nat}{c:cp}(hi:i < m)(h:G[i]?=some c):pd.cs[m - i - 1]?=some c.cd:=by rw[g.cs,List.getElem?_reverse (by rw[List.length_map,g.len];omega),List.length_map,g.len,show m - 1 - (m - i - 1)=i by omega,List.getElem?_map,h];rfl
noncomputable def nJ:fF:=#[λx=>x∈(Tm.num 0).vars,#[[],.nought]]
noncomputable def il(b:Bd):fF×List cp:=aI b.cuts b nJ []
noncomputable def Ah(f:Str)(ps:List Str)(b:Bd):i7:={ f:=f,ps:=ps,way:=(il b).1.w,cs:=((il b).2.map cp.cd).reverse }
def wF(P:List c8)(pds:List i7):Prop:=∀f d,bj P f=some d->∃b:Bd,d.body=b.er/\gg pds f=some (Ah f d.ps b)/\∀(i:Nat) (c:cp),(il b).2[i]?=some c->∀x,c.M x->x∈canon c.M
theorem Jt(b:Bd):(il b).2.length=b.cuts:=by have:=jR b.cuts b nJ [];rw[List.length_nil,Nat.zero_add]at this;exact this
theorem Yx(b:Bd)(k:Nat):At (il b).2 b.cuts k b (il b).1:=by have h:=J6 (Jt b) b k nJ [] .nil (λj _=>by cases j with |zero=>exact trivial |succ j=>exact#[rfl,rfl]) List.prefix_rfl k (Nat.le_refl _);rw[qr]at h;exact h
def eF:OC->iX->Prop
 | .ok a L t,.done a' L' t'=>a=a'/\L=L'/\t=t'
 | .long,.long=>True
 | .deep,.deep=>True
 |_,_=>False
theorem AS{P:List c8}{C:aG}{m:Int}{n k:Nat}{b:bn}{h L:aG}{t:Nat}{o:iX}(e:Ex P C m n k b h L t o):∀{a:Int} {L':aG} {t':Nat},o= .done a L' t'->t<=t'/\((t:Int)<=m->(t':Int)<=m):=by
 induction e with
 |nil |gv=>intro a L' t' e;cases e;exact#[Nat.le_refl _,id]
 |set q ih=>exact ih
 |longL _ _ |longI _ |longW _ |clL _ _ _ _ _ _ |clD _ _ _ _ _ _ |deep _=>intro a L' t' e;cases e
 |rd g q ih |wr g q ih |ite g q ih |loop1 g _ q ih |loop0 g _ q ih=>intro a L' t' e;have:=ih e;exact#[OB,λ_=>this.2 OB]
 |cl g hf hl hk c q ihc ih=>intro a L' t' e;have h1:=ihc rfl;have:=ih e;exact#[OB,λ_=>this.2 (h1.2 OB)]
theorem zg{M:Nat}{call:sq}{Cs:aG}{pd:i7}{G:List cp}{m i:Nat}{c:cp}(g:Ce G m pd)(hi:i < m)(hc:G[i]?=some c){h' L:aG}{t fu:Nat}:
  dY M call Cs pd (fu+1) (cX (mv pd) (bM [] h')$ .go$ m - i - 1) L t=match mj M call Cs (aw (canon c.M) ((canon c.M).map λx=>look h' (.inr x) 0)) L t c.e with
   | .ok w L1 t1=>dY M call Cs pd fu (nG pd c.cd ((canon c.M).map λx=>look h' (.inr x) 0) w) L1 t1
   | .long=>.long
   | .deep=>.deep:=by
 have e:=g.at hi hc;have n:=oR e;show dY M call Cs pd (fu+1) (.go (m - i - 1) ((mv pd$ m - i - 1).map λx=>look h' (.inr x) 0)) L t=_;rw[n];show(match pd.cs[m - i - 1]? with |none=>OC.long |some c=>_)=_;rw[e];rfl
theorem zF{M:Str->Prop}{h h':aG}(a:Ac M h h')(mem:∀x,M x->x∈canon M):Ac M h (aw (canon M) ((canon M).map λx=>look h' (.inr x) 0)):=λx hx=>by rw[oJ$ mem x hx];exact a x hx
theorem JA{pd:i7}{c:cp}{hs:List Int}{w:Wh}{q:WD}(h:c.ws[w.side]?=some q):nG pd c.cd hs w=cX (mv pd) (bM q.sets$ CU c.e w$ aw (canon c.M) hs) q.goal:=by unfold nG;rw[show c.cd.ws[w.side]?=some q from h];rfl
theorem DZ{P:List c8}{pds:List i7}{C:aG}{M:Nat}(hS:wF P pds){n k:Nat}{b':bn}{h L:aG}{t:Nat}{o:iX}(e:Ex P C (M:Int) n k b' h L t o):
  ∀{G:List cp} {m:Nat} {b:Bd} {pc:fF} {h':aG} {fu:Nat} {pd:i7},b'=b.er->At G m (k+1) b pc->Ce G m pd->Ac pc.M h h'->t<=M->M+2<=fu+t->
   eF (dY M (cE M pds C n) C pd fu (cX (mv pd) (bM pc.w.sets h') pc.w.goal) L t) o:=by
 have fs:∀{fu t:Nat},t<=M->M+2<=fu+t->∃f,fu=f+1/\M+2<=f+(t+1):=λ{fu t} a b=>#[fu - 1,OB,OB];induction e with
 |nil=>
  intro G m b pc h' fu pd eb hA g a ht hf;obtain⟨f,rfl,_⟩:=fs ht hf;cases b with
  |nil=>obtain⟨e1,e2⟩:=hA;rw[e1,e2];exact#[rfl,rfl,rfl]
  |lf p l r |ite p t T x y r |loop p t T x r=>cases eb
 | @gv n T r h L t=>
  intro G m b pc h' fu pd eb hA g a ht hf;obtain⟨f,rfl,_⟩:=fs ht hf;cases b with
  |nil |ite p t T x y r |loop p t T x r=>cases eb
  |lf p l r=>
   cases l with
   |gv t T=>cases eb;obtain⟨e1,e2⟩:=hA;rw[e1];refine#[?_,rfl,rfl];exact(kR λy hy=>a y (e2 y hy)).symm
   |rd x t T |st x t T |wr t u T U |cl x f q ts=>cases eb
 | @set n k x T r h L o t q ih=>
  intro G m b pc h' fu pd eb hA g a ht hf;cases b with
  |nil |ite p t T x y r |loop p t T x r=>cases eb
  |lf p l r=>
   cases l with
   |st x t T=>
    cases eb;obtain⟨q,e1,e2,e3⟩:=hA;rw[e2];unfold ls;rw[e3]at a;have ev:T.ev h=T.ev h':=kR λy hy=>a y (.inr hy);by_cases hx:q.M x
    ·rw[if_pos hx];rw[ev]at ih;exact ih rfl e1 g (a.put λy hy n=>.inl #[hy,n]) ht hf
    ·rw[if_neg hx];refine ih rfl e1 g (λy hy=>?_) ht hf;have n:y≠x:=λz=>hx (z▸hy);rw[zG (λz=>n (Sum.inr.inj z))];exact a y$ .inl #[hy,n]
   |gv t T |rd x t T |wr t u T U |cl x f q ts=>cases eb
 | @longL n l r h L t e gm=>
  intro G m b pc h' fu pd eb hA g a ht hf;obtain⟨f,rfl,_⟩:=fs ht hf;cases b with
  |nil |ite p t T x y r |loop p t T x r=>cases eb
  |lf p l r=>
   cases eb;cases l with
   |gv t T |st x t T=>cases e
   |rd x t T |wr t u T U |cl x f q ts=>obtain⟨q,i,e1,e2,hi,e3,e4⟩:=hA;rw[e2];show eF (dY _ _ _ _ _ (cX _ (bM [] h') _) _ _) _;rw[zg g hi e3,JX OB];exact trivial
 | @longI n T x y r h L t gm=>
  intro G m b pc h' fu pd eb hA g a ht hf;obtain⟨f,rfl,_⟩:=fs ht hf;cases b with
  |nil |lf p l r |loop p t T x r=>cases eb
  |ite p t T x y r=>obtain⟨qa,qb,i,e1,e1',e2,hi,e3,_⟩:=hA;rw[e2];show eF (dY _ _ _ _ _ (cX _ (bM [] h') _) _ _) _;rw[zg g hi e3,JX OB];exact trivial
 | @longW n T x r h L t gm=>
  intro G m b pc h' fu pd eb hA g a ht hf;obtain⟨f,rfl,_⟩:=fs ht hf;cases b with
  |nil |lf p l r |ite p t T x y r=>cases eb
  |loop p t T x r=>obtain⟨qa,qb,i,e1,e1',e2,hi,e3,_⟩:=hA;rw[e2];show eF (dY _ _ _ _ _ (cX _ (bM [] h') _) _ _) _;rw[zg g hi e3,JX OB];exact trivial
 | @rd n k x T r h L o t gm q ih=>
  intro G m b pc h' fu pd eb hA g a ht hf;obtain⟨f,rfl,hf⟩:=fs ht hf;cases b with
  |nil |ite p t T x y r |loop p t T x r=>cases eb
  |lf p l r=>
   cases l with
   |rd x ta T=>cases eb;obtain⟨q,i,e1,e2,hi,e3,e4⟩:=hA;rw[e2];show eF (dY _ _ _ _ _ (cX _ (bM [] h') _) _ _) _;have z:=zF a (g.mem i _ e3);rw[zg g hi e3,vF OB];show eF (dY _ _ _ _ _ (nG _ _ _$ Wh.rd _ _) _ _) _;rw[JA (q:=q.w) rfl];generalize aw (canon pc.M) ((canon pc.M).map λx=>look h' (.inr x) 0)=kt at z;rw[e4]at z;have ev:T.ev h=T.ev kt:=kR λy hy=>z y (.inr hy);rw[ev]at ih;exact ih rfl e1 g (z.put λy hy n=>.inl #[hy,n]) OB OB
   |st x t T |gv t T |wr t u T U |cl x f q ts=>cases eb
 | @wr n k T U r h L o t gm q ih=>
  intro G m b pc h' fu pd eb hA g a ht hf;obtain⟨f,rfl,hf⟩:=fs ht hf;cases b with
  |nil |ite p t T x y r |loop p t T x r=>cases eb
  |lf p l r=>
   cases l with
   |wr ta tu T U=>cases eb;obtain⟨q,i,e1,e2,hi,e3,e4⟩:=hA;rw[e2];show eF (dY _ _ _ _ _ (cX _ (bM [] h') _) _ _) _;have z:=zF a (g.mem i _ e3);rw[zg g hi e3,vG OB];show eF (dY _ _ _ _ _ (nG _ _ _$ Wh.wr _ _) _ _) _;rw[JA (q:=q.w) rfl];generalize aw (canon pc.M) ((canon pc.M).map λx=>look h' (.inr x) 0)=kt at z;rw[e4]at z;have ev:T.ev h=T.ev kt:=kR λy hy=>z y (.inr$ .inl hy);have eu:U.ev h=U.ev kt:=kR λy hy=>z y (.inr$ .inr hy);rw[ev,eu]at ih;exact ih rfl e1 g (λy hy=>z y (.inl hy)) OB OB
   |st x t T |gv t T |rd x t T |cl x f q ts=>cases eb
 | @ite n k T x y r h L o t gm q ih=>
  intro G m b pc h' fu pd eb hA g a ht hf;obtain⟨f,rfl,hf⟩:=fs ht hf;cases b with
  |nil |lf p l r |loop p t T x r=>cases eb
  |ite p ta T x y r=>
   cases eb;obtain⟨qa,qb,i,e1,e1',e2,hi,e3,v1,v2,v3⟩:=hA;rw[e2];show eF (dY _ _ _ _ _ (cX _ (bM [] h') _) _ _) _;have z:=zF a (g.mem i _ e3);rw[zg g hi e3,QI OB];show eF (dY _ _ _ _ _ (nG _ _ _$ Wh.ask _) _ _) _;have ev:T.ev h=T.ev (aw (canon pc.M) ((canon pc.M).map λx=>look h' (.inr x) 0)):=kR λy hy=>z y (v1 y hy);rw[<- ev];by_cases h0:T.ev h=0
   ·rw[if_pos h0]at ih ⊢;rw[JA (q:=qb.w) rfl];exact ih (Jr y r).symm e1' g (λy hy=>z y (v3 y hy)) OB OB
   ·rw[if_neg h0]at ih ⊢;rw[JA (q:=qa.w) rfl];exact ih (Jr x r).symm e1 g (λy hy=>z y (v2 y hy)) OB OB
 | @loop1 n k T x r h L o t gm h0 q ih=>
  intro G m b pc h' fu pd eb hA g a ht hf;obtain⟨f,rfl,hf⟩:=fs ht hf;cases b with
  |nil |lf p l r |ite p t T x y r=>cases eb
  |loop p ta T x r=>cases eb;obtain⟨qa,qb,i,e1,e1',e2,hi,e3,v1,v2,v3⟩:=hA;rw[e2];show eF (dY _ _ _ _ _ (cX _ (bM [] h') _) _ _) _;have z:=zF a (g.mem i _ e3);rw[zg g hi e3,QI OB];show eF (dY _ _ _ _ _ (nG _ _ _$ Wh.ask _) _ _) _;have ev:T.ev h=T.ev (aw (canon pc.M) ((canon pc.M).map λx=>look h' (.inr x) 0)):=kR λy hy=>z y (v1 y hy);rw[<- ev,if_neg h0];rw[JA (q:=qa.w) rfl];exact ih (Jr x$ .loop p ta T x r).symm e1 g (λy hy=>z y (v2 y hy)) OB OB
 | @loop0 n k T x r h L o t gm h0 q ih=>
  intro G m b pc h' fu pd eb hA g a ht hf;obtain⟨f,rfl,hf⟩:=fs ht hf;cases b with
  |nil |lf p l r |ite p t T x y r=>cases eb
  |loop p ta T x r=>cases eb;obtain⟨qa,qb,i,e1,e1',e2,hi,e3,v1,v2,v3⟩:=hA;rw[e2];show eF (dY _ _ _ _ _ (cX _ (bM [] h') _) _ _) _;have z:=zF a (g.mem i _ e3);rw[zg g hi e3,QI OB];show eF (dY _ _ _ _ _ (nG _ _ _$ Wh.ask _) _ _) _;have ev:T.ev h=T.ev (aw (canon pc.M) ((canon pc.M).map λx=>look h' (.inr x) 0)):=kR λy hy=>z y (v1 y hy);rw[<- ev,if_pos h0];rw[JA (q:=qb.w) rfl];exact ih rfl e1' g (λy hy=>z y (v3 y hy)) OB OB
 | @cl n k1 k x f ts r h L d v L1 t1 o t gm hfd hl hk c q ihc ih=>
  intro G m b pc h' fu pd eb hA g a ht hf;obtain⟨f',rfl,hf⟩:=fs ht hf;cases b with
  |nil |ite p t T x y r |loop p t T x r=>cases eb
  |lf p l r=>
   cases l with
   |cl x f qa ts=>
    cases eb;obtain⟨q',i,e1,e2,hi,e3,e4⟩:=hA;rw[e2];show eF (dY _ _ _ _ _ (cX _ (bM [] h') _) _ _) _;have z:=zF a (g.mem i _ e3);rw[zg g hi e3,Q6 OB];generalize ek:aw (canon pc.M) ((canon pc.M).map λx=>look h' (.inr x) 0)=kt at z;have z':=z;rw[e4]at z';have ea:(ts.map λc=>c.2.ev kt)=(ts.map (·.2)).map (Tm.ev h):=by rw[List.map_map];exact List.map_congr_left λc hc=>(kR λy hy=>z' y (.inr #[c,hc,hy])).symm
    rw[ea];obtain⟨b0,eb0,hp,hm⟩:=hS f d hfd;have r1:=ihc (h':=aw d.ps ((ts.map (·.2)).map$ Tm.ev h)) (fu:=M+2) (pd:=Ah f d.ps b0) eb0 (Yx b0 _) #[rfl,Jt b0,hm] (λ_ _=>rfl) OB OB;have r2:eF (cE M pds C (n+1) f ((ts.map (·.2)).map$ Tm.ev h) L$ t+1) (.done v L1 t1):=by show eF (match gg pds f with |none=>OC.long |some pd=>_) _;rw[hp];exact r1
    have tt:=AS c rfl;cases er:cE M pds C (n+1) f ((ts.map (·.2)).map$ Tm.ev h) L (t+1) with
    |long |deep=>rw[er]at r2;exact r2.elim
    |ok v' L' t'=>rw[er]at r2;obtain⟨rfl,rfl,rfl⟩:=r2;show eF (dY _ _ _ _ _ (nG _ _ _$ Wh.cl _ _ _) _ _) _;rw[JA (q:=q'.w) rfl];show eF (dY _ _ _ _ _ (cX _ (bM q'.w.sets$ aB (aw (canon pc.M) ((canon pc.M).map λx=>look h' (.inr x) 0)) (.inr x)$ .int v') _) _ _) _;rw[ek];exact ih rfl e1 g (z'.put λy hy n=>.inl #[hy,n]) (by have:=tt.2 OB;omega) OB
   |st x t T |gv t T |rd x t T |wr t u T U=>cases eb
 | @clL n k1 x f ts r h L d t gm hfd hl hk c ihc=>
  intro G m b pc h' fu pd eb hA g a ht hf;obtain⟨f',rfl,hf⟩:=fs ht hf;cases b with
  |nil |ite p t T x y r |loop p t T x r=>cases eb
  |lf p l r=>
   cases l with
   |cl x f qa ts=>
    cases eb;obtain⟨q',i,e1,e2,hi,e3,e4⟩:=hA;rw[e2];show eF (dY _ _ _ _ _ (cX _ (bM [] h') _) _ _) _;have z:=zF a (g.mem i _ e3);rw[zg g hi e3,Q6 OB];generalize ek:aw (canon pc.M) ((canon pc.M).map λx=>look h' (.inr x) 0)=kt at z;rw[e4]at z;have ea:(ts.map λc=>c.2.ev kt)=(ts.map (·.2)).map (Tm.ev h):=by rw[List.map_map];exact List.map_congr_left λc hc=>(kR λy hy=>z y (.inr #[c,hc,hy])).symm
    rw[ea];obtain⟨b0,eb0,hp,hm⟩:=hS f d hfd;have r1:=ihc (h':=aw d.ps ((ts.map (·.2)).map$ Tm.ev h)) (fu:=M+2) (pd:=Ah f d.ps b0) eb0 (Yx b0 _) #[rfl,Jt b0,hm] (λ_ _=>rfl) OB OB;have r2:eF (cE M pds C (n+1) f ((ts.map (·.2)).map$ Tm.ev h) L$ t+1) .long:=by show eF (match gg pds f with |none=>OC.long |some pd=>_) _;rw[hp];exact r1
    cases er:cE M pds C (n+1) f ((ts.map (·.2)).map$ Tm.ev h) L (t+1) with
    |long=>exact trivial
    |deep |ok v' L' t'=>rw[er]at r2;exact r2.elim
   |st x t T |gv t T |rd x t T |wr t u T U=>cases eb
 | @clD n k1 x f ts r h L d t gm hfd hl hk c ihc=>
  intro G m b pc h' fu pd eb hA g a ht hf;obtain⟨f',rfl,hf⟩:=fs ht hf;cases b with
  |nil |ite p t T x y r |loop p t T x r=>cases eb
  |lf p l r=>
   cases l with
   |cl x f qa ts=>
    cases eb;obtain⟨q',i,e1,e2,hi,e3,e4⟩:=hA;rw[e2];show eF (dY _ _ _ _ _ (cX _ (bM [] h') _) _ _) _;have z:=zF a (g.mem i _ e3);rw[zg g hi e3,Q6 OB];generalize ek:aw (canon pc.M) ((canon pc.M).map λx=>look h' (.inr x) 0)=kt at z;rw[e4]at z;have ea:(ts.map λc=>c.2.ev kt)=(ts.map (·.2)).map (Tm.ev h):=by rw[List.map_map];exact List.map_congr_left λc hc=>(kR λy hy=>z y (.inr #[c,hc,hy])).symm
    rw[ea];obtain⟨b0,eb0,hp,hm⟩:=hS f d hfd;have r1:=ihc (h':=aw d.ps ((ts.map (·.2)).map$ Tm.ev h)) (fu:=M+2) (pd:=Ah f d.ps b0) eb0 (Yx b0 _) #[rfl,Jt b0,hm] (λ_ _=>rfl) OB OB;have r2:eF (cE M pds C (n+1) f ((ts.map (·.2)).map$ Tm.ev h) L$ t+1) .deep:=by show eF (match gg pds f with |none=>OC.long |some pd=>_) _;rw[hp];exact r1
    cases er:cE M pds C (n+1) f ((ts.map (·.2)).map$ Tm.ev h) L (t+1) with
    |deep=>exact trivial
    |long |ok v' L' t'=>rw[er]at r2;exact r2.elim
   |st x t T |gv t T |rd x t T |wr t u T U=>cases eb
 | @deep x f ts r h L t gm=>
  intro G m b pc h' fu pd eb hA g a ht hf;obtain⟨f',rfl,hf⟩:=fs ht hf;cases b with
  |nil |ite p t T x y r |loop p t T x r=>cases eb
  |lf p l r=>
   cases l with
   |cl x f qa ts=>cases eb;obtain⟨q',i,e1,e2,hi,e3,e4⟩:=hA;rw[e2];show eF (dY _ _ _ _ _ (cX _ (bM [] h') _) _ _) _;rw[zg g hi e3,Q6 OB];exact trivial
   |st x t T |gv t T |rd x t T |wr t u T U=>cases eb
theorem u5{P:List c8}{pds:List i7}{C:aG}{M:Nat}(hS:wF P pds){n k:Nat}{d:c8}{f:Str}{is:List Int}{L:aG}{t:Nat}{o:iX}(hf:bj P f=some d)(e:Ex P C (M:Int) n k d.body (ba d.ps is) L t o)(ht:t<=M):eF (cE M pds C (n+1) f is L t) o:=by obtain⟨b0,eb0,hp,hm⟩:=hS f d hf;show eF (match gg pds f with |none=>OC.long |some pd=>_) _;rw[hp];exact DZ hS e (h':=aw d.ps is) (fu:=M+2) (pd:=Ah f d.ps b0) eb0 (Yx b0 _) #[rfl,Jt b0,hm] (λ_ _=>rfl) ht OB
noncomputable def fF.pc(nA:Addr)(p:fF):Pc:=#[p.M,p.w.wy nA]
noncomputable def cp.ct(nA:Addr)(c:cp):Ct:=#[c.M,c.e.dd,c.ws.map$ WD.wy nA]
theorem uX{nA:Addr}{x:Str}{t:Addr}{T:Tm}{pc:fF}:(ls x t T pc).wy nA=gi x t (pc.pc nA):=by
 unfold ls gi;by_cases h:pc.M x
 ·rw[if_pos h,if_pos (show(pc.pc nA).M x from h)];rfl
 ·rw[if_neg h,if_neg (show ¬(pc.pc nA).M x from h)];rfl
theorem ZR{nA:Addr}{k:Int}{n:Nat}(h:k=(n:Int)):(#[[],.go k]:Wy)=(#[[],.go n]:WD).wy nA:=by rw[h];rfl
theorem qG(nA:Addr)(m:Nat):∀(b:Bd) (pc:fF) (fs:List cp),fs.length+b.cuts<=m->pB (m:Int) b (pc.pc nA) (fs.map$ cp.ct nA)=((aI m b pc fs).1.pc nA,(aI m b pc fs).2.map$ cp.ct nA)
 | .nil,_,_,_=>rfl
 | .lf p l r,pc,fs,h=>by
  have h':fs.length+(l.cut+r.cuts)<=m:=h;have e:=qG nA m r pc fs OB;have ln:=jR m r pc fs;show pL (m:Int) p l (pB (m:Int) r (pc.pc nA)$ fs.map$ cp.ct nA)=((ym m p l$ aI m r pc fs).1.pc nA,(ym m p l$ aI m r pc fs).2.map$ cp.ct nA);rw[e];have gk:l.cut=1->(#[[],.go ((m:Int) - (((aI m r pc fs).2.map$ cp.ct nA).length:Int) - 1)]:Wy)=(#[[],.go$ m - (aI m r pc fs).2.length - 1]:WD).wy nA:=λhc=>ZR (by rw[List.length_map];omega);cases l with
  |gv t T=>rfl
  |st x t T=>show((#[_,gi x t _]:Pc),_)=((#[_,(ls x t T (aI m r pc fs).1).wy nA]:Pc),_);rw[uX];rfl
  |rd x t T |wr t u T U |cl x f a ts=>show((#[_,_]:Pc),_++[_])=((#[_,_]:Pc),List.map _ (_++[_]));rw[gk rfl,List.map_append];rfl
 | .ite p t T a c r,pc,fs,h=>by
  have h':fs.length+(1+a.cuts+c.cuts+r.cuts)<=m:=h;have e1:=qG nA m r pc fs OB;have l1:=jR m r pc fs;have e2:=qG nA m c (aI m r pc fs).1 (aI m r pc fs).2 OB;have l2:=jR m c (aI m r pc fs).1 (aI m r pc fs).2;have e3:=qG nA m a (aI m r pc fs).1 (aI m c (aI m r pc fs).1 (aI m r pc fs).2).2 OB;unfold pB aI;dsimp only;rw[e1];dsimp only;rw[e2];dsimp only;rw[e3];have gk:(#[[],.go ((m:Int) - (((aI m r pc fs).2.map$ cp.ct nA).length:Int) - ((Bd.ite p t T a c .nil).cuts:Int))]:Wy)=(#[[],.go$ m - (aI m r pc fs).2.length - (Bd.ite p t T a c .nil).cuts]:WD).wy nA:=ZR (by
   rw[List.length_map];have:(Bd.ite p t T a c .nil).cuts=1+a.cuts+c.cuts+0:=rfl;omega)
  rw[gk,List.map_append];rfl
 | .loop p t T a r,pc,fs,h=>by
  have h':fs.length+(1+a.cuts+r.cuts)<=m:=h;have e1:=qG nA m r pc fs OB;have l1:=jR m r pc fs;have gk:(#[[],.go ((m:Int) - (((aI m r pc fs).2.map$ cp.ct nA).length:Int) - ((Bd.loop p t T a .nil).cuts:Int))]:Wy)=(#[[],.go$ m - (aI m r pc fs).2.length - (Bd.loop p t T a .nil).cuts]:WD).wy nA:=ZR (by
   rw[List.length_map];have:(Bd.loop p t T a .nil).cuts=1+a.cuts+0:=rfl;omega)
  have e3:=qG nA m a #[(Bd.loop p t T a .nil).use (aI m r pc fs).1.M,#[[],.go$ m - (aI m r pc fs).2.length - (Bd.loop p t T a .nil).cuts]] (aI m r pc fs).2 OB;unfold pB aI;dsimp only;rw[e1];dsimp only;rw[gk];have e3':pB (m:Int) a #[(Bd.loop p t T a .nil).use (fF.pc nA (aI m r pc fs).1).M,(#[[],.go$ m - (aI m r pc fs).2.length - (Bd.loop p t T a .nil).cuts]:WD).wy nA] ((aI m r pc fs).2.map$ cp.ct nA)=_:=e3;rw[e3',List.map_append];rfl
structure sw(H:Hp)(ys:List Str)(m N:Nat)(pc:fF):Prop where
 mem:∀x,pc.M x->x∈ys
 way:nP H ys m N pc.w
structure sF(F:fe)(H:Hp)(ys:List Str)(m N:Nat)(c:cp):Prop where
 mem:∀x,c.M x->x∈ys
 deed:Cd H ys c.e
 cs:c.e.Cs F
 ways:∀w∈c.ws,nP H ys m N w
section
variable {F:fe}{H H':Hp}{ys:List Str}{m N N':Nat}
theorem nP.up(hn:N<=N'){w:WD}(h:nP H ys m N w):nP H ys m N' w:=#[h.sets,Nat.le_trans h.len hn,h.goal]
theorem sF.up(hn:N<=N'){c:cp}(h:sF F H ys m N c):sF F H ys m N' c:=#[h.mem,h.deed,h.cs,λw hw=>(h.ways w hw).up hn]
theorem sw.up(hn:N<=N'){pc:fF}(h:sw H ys m N pc):sw H ys m N' pc:=#[h.mem,h.way.up hn]
theorem ZS{n:Nat}(hn:n < m):nP H ys m N #[[],.go n]:=#[(λ_ h=>absurd h List.not_mem_nil),Nat.zero_le _,hn]
theorem qH:∀(b:Bd) {xs:List V} {pc:fF} {fs:List cp} {N:Nat},c7 H b xs->b.Ok ys->b.Cs F->sw H ys m N pc->(∀c∈fs,sF F H ys m N c)->fs.length+b.cuts<=m->
  sw H ys m (N+b.size) (aI m b pc fs).1/\∀c∈(aI m b pc fs).2,sF F H ys m (N+b.size) c
 | .nil,_,_,_,_,_,_,_,hp,hf,_=>#[hp,hf]
 | .lf p l r,xs,pc,fs,N,hb,ho,hz,hp,hf,hm=>by
  obtain⟨vs,zs,_,h1,h2,h3⟩:=hb;have hm':fs.length+(l.cut+r.cuts)<=m:=hm;obtain⟨r1,r2⟩:=qH r h3 ho.2 hz.2 hp hf OB;have hl:=jR m r pc fs;have s1:N+r.size<=N+(r.size+1):=by omega
  have hM:=Lf.use_in ho.1 r1.mem;have cut:l.isCut=true->l.cut=1->sw H ys m (N+(r.size+1)) #[l.use (aI m r pc fs).1.M,#[[],.go$ m - (aI m r pc fs).2.length - 1]]/\∀c∈(aI m r pc fs).2++[#[l.use (aI m r pc fs).1.M,.st p l,[(aI m r pc fs).1.w]]],sF F H ys m (N+(r.size+1)) c:=λhc hc1=>
   #[#[hM,ZS (by rw[hl];omega)],λc hc'=>by
    rcases List.mem_append.mp hc' with z |z
    ·exact(r2 c z).up s1
    ·rw[List.mem_singleton.mp z];exact#[hM,#[vs,h1,h2,ho.1,hc],hz.1,λw hw=>by rw[List.mem_singleton.mp hw];exact r1.way.up s1]]
  show sw H ys m (N+(r.size+1)) (ym m p l$ aI m r pc fs).1/\∀c∈(ym m p l$ aI m r pc fs).2,sF F H ys m (N+(r.size+1)) c;cases l with
  |gv t T=>exact#[#[hM,(λ_ h=>absurd h List.not_mem_nil),Nat.zero_le _,h2.2,ho.1],λc hc=>(r2 c hc).up s1]
  |st x t T=>
   refine#[#[hM,?_],λc hc=>(r2 c hc).up s1];show nP H ys m _ (ls x t T (aI m r pc fs).1);unfold ls;split
   ·refine#[λs hs=>?_,Nat.succ_le_succ r1.way.len,r1.way.goal];rcases List.mem_cons.mp hs with rfl |hs
    ·exact#[h2.2,ho.1.2]
    ·exact r1.way.sets s hs
   ·exact r1.way.up s1
  |rd x t T |wr t u T U |cl x f q ts=>exact cut rfl rfl
 | .ite p t T a c r,xs,pc,fs,N,hb,ho,hz,hp,hf,hm=>by
  obtain⟨qa,qb,as,bs,zs,_,g1,g0,g2,g3,g4,g5,g6⟩:=hb;have hm':fs.length+(1+a.cuts+c.cuts+r.cuts)<=m:=hm;obtain⟨r1,r2⟩:=qH r g6 ho.2.2.2 hz.2.2 hp hf OB;have hlr:=jR m r pc fs;obtain⟨c1,c2⟩:=qH c g5 ho.2.2.1 hz.2.1 r1 r2 OB;have hlc:=jR m c (aI m r pc fs).1 (aI m r pc fs).2;obtain⟨a1,a2⟩:=qH a g4 ho.2.1 hz.1 (r1.up$ Nat.le_add_right _ _) c2 OB;have s1:N+r.size+c.size+a.size<=N+(a.size+c.size+r.size+1):=by omega
  have hM:∀x,(Bd.ite p t T a c .nil).use (aI m r pc fs).1.M x->x∈ys:=Bd.use_in #[ho.1,ho.2.1,ho.2.2.1,trivial] r1.mem;have hk:m - (aI m r pc fs).2.length - (Bd.ite p t T a c .nil).cuts < m:=by have:(Bd.ite p t T a c .nil).cuts=1+a.cuts+c.cuts+0:=rfl;omega
  unfold aI;dsimp only;refine#[#[hM,ZS hk],λe he=>?_];rcases List.mem_append.mp he with z |z
  ·exact(a2 e z).up s1
  ·rw[List.mem_singleton.mp z];refine#[hM,#[g0,ho.1],trivial,λw hw=>?_];rcases List.mem_cons.mp hw with rfl |hw
   ·exact a1.way.up s1
   ·rw[List.mem_singleton.mp hw];exact c1.way.up (by show _<=N+(a.size+c.size+r.size+1);omega)
 | .loop p t T a r,xs,pc,fs,N,hb,ho,hz,hp,hf,hm=>by
  obtain⟨qa,as,zs,_,g1,g0,g2,g4,g6⟩:=hb;have hm':fs.length+(1+a.cuts+r.cuts)<=m:=hm;obtain⟨r1,r2⟩:=qH r g6 ho.2.2 hz.2 hp hf OB;have hlr:=jR m r pc fs;have hM:∀x,(Bd.loop p t T a .nil).use (aI m r pc fs).1.M x->x∈ys:=Bd.use_in #[ho.1,ho.2.1,trivial] r1.mem;have hk:m - (aI m r pc fs).2.length - (Bd.loop p t T a .nil).cuts < m:=by have:(Bd.loop p t T a .nil).cuts=1+a.cuts+0:=rfl;omega
  have pl:sw H ys m (N+r.size) #[(Bd.loop p t T a .nil).use (aI m r pc fs).1.M,#[[],.go$ m - (aI m r pc fs).2.length - (Bd.loop p t T a .nil).cuts]]:=#[hM,ZS hk];obtain⟨a1,a2⟩:=qH a g4 ho.2.1 hz.1 pl r2 OB;have s1:N+r.size+a.size<=N+(a.size+r.size+1):=by omega
  unfold aI;dsimp only;refine#[pl.up (by show _<=N+(a.size+r.size+1);omega),λe he=>?_];rcases List.mem_append.mp he with z |z
  ·exact(a2 e z).up s1
  ·rw[List.mem_singleton.mp z];refine#[hM,#[g0,ho.1],trivial,λw hw=>?_];rcases List.mem_cons.mp hw with rfl |hw
   ·exact a1.way.up s1
   ·rw[List.mem_singleton.mp hw];exact r1.way.up (by show _<=N+(a.size+r.size+1);omega)
end
theorem A2{M:Str->Prop}{ys:List Str}(h:∀x,M x->x∈ys):∃ss,Nm ss M:=by
 classical
 have h1:∀(ys:List Str),∃l:List Str,l.Nodup/\∀x,x∈l↔(M x/\x∈ys):=by
  intro ys;induction ys with
  |nil=>exact#[[],.nil,λx=>by simp]
  |cons y ys ih=>
   obtain⟨l,h1,h2⟩:=ih;by_cases hy:M y/\y∉ys
   ·refine#[y::l,List.nodup_cons.mpr #[λz=>hy.2 ((h2 y).mp z).2,h1],λx=>?_];rw[List.mem_cons,h2,List.mem_cons];constructor
    ·rintro (rfl |z)
     ·exact#[hy.1,.inl rfl]
     ·exact#[z.1,.inr z.2]
    ·rintro ⟨z,rfl |w⟩
     ·exact .inl rfl
     ·exact .inr #[z,w]
   ·refine#[l,h1,λx=>?_];rw[h2,List.mem_cons];constructor
    ·exactλz=>#[z.1,.inr z.2]
    ·rintro ⟨z,rfl |w⟩
     ·exact#[z,by by_cases q:x∈ys;exact q;exact absurd #[z,q] hy]
     ·exact#[z,w]
 obtain⟨l,nd,mem⟩:=h1 ys;have pm:=List.mergeSort_perm l (λa b=>decide (a.cps.toList<=b.cps.toList));have pw:=List.pairwise_mergeSort (le:=λa b:Str=>decide (a.cps.toList<=b.cps.toList)) (λa b c x y=>by simpa using List.le_trans (of_decide_eq_true x) (of_decide_eq_true y)) (λa b=>by simpa using List.le_total a.cps.toList b.cps.toList) l;refine#[_,pm.nodup_iff.mpr nd,sortedS_of_pairwise _$ pw.imp λ{a b} z=>?_,λx=>?_]
 ·rw[ltCps_eq];simpa using z
 ·rw[pm.mem_iff,mem];exact#[λz=>z.1,λz=>#[z,h x z]]
theorem ZD{M:Str->Prop}{ys:List Str}(h:∀x,M x->x∈ys)(x:Str)(z:M x):x∈canon M:=by obtain⟨ss,hs⟩:=A2 h;rw[<- hs.canon];exact(hs.mem x).mpr z
noncomputable abbrev CB:Stmt:=top 54
inductive ig(K:Frag)(n:Nat)(e:List V)(H:Hp)(Q:VK)(b:XK):Prop
 |mk(a d:Addr)(T:Tm)(f:List Str)(c:aG)(_:e=[.ref a,.ref d])(_:DC K H T a)(_:T.depth < n)(_:T.Good f)(_:H d=some (.dK c))(_:GT c)(_:∀H',ae H H'->Q (.int (T.ev c)) H')
theorem yD:al ["_law_term_here","_law_held","_law_a","_law_b"] z7z (aa CB):=bZ
theorem A8{f:Addr}{fd:FuncData}(F:aU K "_law_worth" "_law_worth" CB f fd){n:Nat}(cF:Cl P w K mg base (n+1) f fd z7z (ig K n) "_law_worth")(mi:mg "int"=none)(mm:mg "max"=none):aj P w K mg base aC (n+2) f fd z7z (ig K$ n+1):=by
 refine F.ok yD ?_ λcdv A outer s H vs Q E hr h=>?_
 ·rintro _ _ _ _ ⟨a,d,T,ys,kvs,rfl,_⟩;rfl
 obtain⟨a,d,T,ys,kvs,rfl,ta,dp,gd,hd,gk,q⟩:=h;refine#[_,(jd (ju (jZ$ jx$ pv 0) (jg$ jl$ jx$ pv 0) jm)$ jd (ju (jZ$ jx$ pv 0) (jg$ jl$ @zL _ _ _ _ _ _ _ _ _ (jN hr) (pv 1) (jx$ pv 0) je #[OF,OF,OF,OF]) jm)$ jd (jy 2 yD.nd$ cF.e hr$ ja (jx$ pv 0)$ ja (pv 1) jb)$ jd (jy 3 yD.nd$ cF.e hr$ ja (jx$ pv 0)$ ja (pv 1) jb)$ jd (ju (jZ$ jx$ pv 0) (jg$ jl$ jq kO (jq q8 (pv 2)$ jP (Y4 rfl) rfl mm boot_max$ ja (pv 3)$ ja je jb)$ jC zP rfl mi boot_int$ ja (kW qN (pv 3) je$ aA _) jb) jm)$ jd (ju (PW.pt$ Q2 (jZ$ jx$ pv 0)$ J9$ jZ$ jx$ pv 0) (jg$ jl$ jC zP rfl mi boot_int$ ja (Bi (ZX (kW JY (pv 2) (pv 3)$ aA _)$ XO$ kW zD (jx$ pv 0) jj$ aA _)$ XO$ ZX (kW zD (pv 2) (pv 3)$ aA _)$ XO$ kW zD (jx$ pv 0) jj$ aA _) jb) jm)$ jg$ jl$ jq kJ (jv jo (jD$ ja (jq jO (pv 2)$ pv 3)$ ja (jq kI (pv 2)$ pv 3)$ ja (jq kO (pv 2)$ pv 3) jb) (kM PySem.F.plainAttrs_str PySem.F.slot_str_index PySem.F.type_str_index oM jj$ ja (jx$ pv 0) jb) (λ_ _=>rfl))$ jq Jl je je),?_];cases T with
 |num m=>
  have ha:aD K H a [.str "num",.int m]:=ta.elim (λh=>aD.of h) λz=>by cases z.1;exact z.2
  exact ah λF1 f1=>#[_,rfl,a,_,_,_,rfl,rfl,ha,rfl,rfl,_,rfl,bR OE #[_,rfl,a,_,_,_,rfl,rfl,ha,rfl,q H$ ae.refl H]]
 |var x=>
  have ha:H a=some (.tup [.str "var",.str x]):=ta.resolve_right λz=>by cases z.1
  refine ah λF1 f1=>(jp ha rfl #[rfl,_,rfl,aE OE$ f1 _ _ ?_]);refine ah λF1 f1=>(jp ha rfl #[rfl,_,rfl,bR OE #[_,rfl,d,rfl,.inl #[kvs,.inl hd],jp ha rfl #[_,bp.k (k:=Sum.inr x) hd,?_]]]);rw[zO gk];exact q H$ ae.refl H
 |op i t1 t2=>
  obtain⟨p1,p2,ha,h1,h2⟩:=ta.resolve_right λz=>by cases z.1
  have dp':max t1.depth t2.depth+1 < n+1:=dp;refine ah λF1 f1=>(jp ha rfl #[rfl,_,rfl,aE OE$ f1 _ _ ?_]);clear f1;refine ah λF1 f1=>(jp ha rfl #[rfl,_,rfl,aE OE$ f1 _ _ ?_]);clear f1;refine ah λF1 f1=>(jp ha rfl #[_,rfl,p1,d,t1,ys,kvs,rfl,.inl h1,OB,gd.2.1,hd,gk,λH1 s1=>f1 _ _ ?_]);clear f1;refine ah λF1 f1=>(jp (s1 _ _ ha) rfl #[_,rfl,p2,d,t2,ys,kvs,rfl,.inl$ h2.same s1,OB,gd.2.2,s1 _ _ hd,gk,λH2 s2=>f1 _ _ ?_]);clear f1;have s12:ae H H2:=s1.trans s2;replace ha:=s12 _ _ ha;have qq:∀H',ae H2 H'->Q (.int$ jn i (t1.ev kvs)$ t2.ev kvs) H':=λH' s=>q H' (s12.trans s);obtain⟨hx0,hx1⟩:=zE gk gd.2.1;obtain⟨hy0,hy1⟩:=zE gk gd.2.2;have hi:=gd.1;generalize t1.ev kvs=x at*;generalize t2.ev kvs=y at*;rcases(by omega:i=0∨i=1∨i=2∨i=3∨i=4∨i=5) with rfl |rfl |rfl |rfl |rfl |rfl
  ·refine ah λF1 f1=>(jp ha rfl #[rfl,_,rfl,aE OE$ f1 _ _ ?_]);clear f1;refine ah λF1 f1=>(jp ha rfl #[rfl,_,rfl,aE OE$ jp ha rfl #[rfl,_,rfl,aE OE$ f1 _ _ ?_]]);clear f1;refine#[_,rfl,_,rfl,_,_,rfl,rfl,_,rfl,_,rfl,_,_,rfl,rfl,_,rfl,_,rfl,_,_,rfl,rfl,.inl #[OB,OB],f8,λl nl=>?_];have ha':=ao (o:=.lst [.int$ x+y,.int$ x - y,.int$ x*y]) ha nl;refine#[rfl,jp ha' rfl #[_,_,0,[],rfl,rfl,OE,l,_,_,_,rfl,rfl,aF.of jc,rfl,_,_,rfl,rfl,#[OA,OA,OA],_,_,rfl,rfl,(by show(0:Int) < (10:Int) ^ (18:Int).toNat;decide),?_]];rw[hG];exact qq _$ jf nl
  ·refine ah λF1 f1=>(jp ha rfl #[rfl,_,rfl,aE OE$ f1 _ _ ?_]);clear f1;refine ah λF1 f1=>(jp ha rfl #[rfl,_,rfl,aE OE$ jp ha rfl #[rfl,_,rfl,aE OE$ f1 _ _ ?_]]);clear f1;refine#[_,rfl,_,rfl,_,_,rfl,rfl,_,rfl,_,rfl,_,_,rfl,rfl,_,rfl,_,rfl,_,_,rfl,rfl,.inl #[OB,OB],f8,λl nl=>?_];have ha':=ao (o:=.lst [.int$ x+y,.int$ x - y,.int$ x*y]) ha nl;refine#[rfl,jp ha' rfl #[_,_,1,[],rfl,rfl,OE,l,_,_,_,rfl,rfl,aF.of jc,rfl,_,_,rfl,rfl,#[OA,OA,OA],_,_,rfl,rfl,(by show(0:Int) < (10:Int) ^ (18:Int).toNat;decide),?_]];rw[hG];exact qq _$ jf nl
  ·refine ah λF1 f1=>(jp ha rfl #[rfl,_,rfl,aE OE$ f1 _ _ ?_]);clear f1;refine ah λF1 f1=>(jp ha rfl #[rfl,_,rfl,aE OE$ jp ha rfl #[rfl,_,rfl,aE OE$ f1 _ _ ?_]]);clear f1;refine#[_,rfl,_,rfl,_,_,rfl,rfl,_,rfl,_,rfl,_,_,rfl,rfl,_,rfl,_,rfl,_,_,rfl,rfl,.inl #[OB,OB],f8,λl nl=>?_];have ha':=ao (o:=.lst [.int$ x+y,.int$ x - y,.int$ x*y]) ha nl;refine#[rfl,jp ha' rfl #[_,_,2,[],rfl,rfl,OE,l,_,_,_,rfl,rfl,aF.of jc,rfl,_,_,rfl,rfl,#[OA,OA,OA],_,_,rfl,rfl,(by show(0:Int) < (10:Int) ^ (18:Int).toNat;decide),?_]];rw[hG];exact qq _$ jf nl
  ·refine ah λF1 f1=>(jp ha rfl #[rfl,_,rfl,bR OE ?_]);have q':Q (.int (if y=0 then 0 else x / y)) H2:=qq _ (ae.refl H2);refine#[_,rfl,_,rfl,_,_,rfl,_,_,rfl,rfl,#[by split<;>omega,by split<;>omega],_,rfl,_,_,rfl,rfl,.inr #[_,rfl,?_]];by_cases e:y=0
   ·rw[if_pos e]at q';refine#[_,_,rfl,rfl,.inr #[by split<;>decide,by split<;>decide],?_];rw[e];show Q (.int$ x / 1*0) H2;rw[Int.mul_zero];exact q'
   ·rw[if_neg e]at q';have g:¬(1:Int) > y:=by omega
    rw[if_neg g,decide_eq_true (show(0:Int) < y by omega)];refine#[_,_,rfl,rfl,.inr #[OA,OA],?_];show Q (.int$ x / y*1) H2;rw[Int.mul_one];exact q'
  ·refine ah λF1 f1=>(jp ha rfl #[rfl,_,rfl,aE OE$ f1 _ _ ?_]);clear f1;refine ah λF1 f1=>(jp ha rfl #[rfl,_,rfl,bR OE$ bR rfl ?_]);have q':Q (.int (if x < y then 1 else 0)) H2:=qq _ (ae.refl H2);by_cases e:x < y
   ·rw[if_pos e]at q';exact#[_,rfl,_,rfl,_,_,rfl,rfl,_,rfl,bR (decide_eq_true e)$ jp ha rfl #[rfl,_,rfl,bR OE$ .inr #[_,rfl,q']]]
   ·rw[if_neg e]at q';refine#[_,rfl,_,rfl,_,_,rfl,rfl,_,rfl,aE (decide_eq_false e) #[_,rfl,aE rfl #[_,rfl,_,rfl,rfl,_,rfl,?_]]];by_cases e2:x=y
    ·exact bR (decide_eq_true (by rw[e2]))$ jp ha rfl #[rfl,.inr #[_,rfl,(by rw[decide_eq_false OE];exact q')]]
    ·exact aE (decide_eq_false (λz=>e2 (by injection z)))$ .inr #[_,rfl,q']
  ·refine ah λF1 f1=>(jp ha rfl #[rfl,_,rfl,aE OE$ f1 _ _ ?_]);clear f1;refine ah λF1 f1=>(jp ha rfl #[rfl,_,rfl,aE OE$ jp ha rfl #[rfl,_,rfl,bR OE ?_]]);have q':Q (.int (if x=y then 1 else 0)) H2:=qq _ (ae.refl H2);by_cases e:x < y
   ·rw[if_neg OB]at q';exact#[_,rfl,_,rfl,_,_,rfl,rfl,_,rfl,bR (decide_eq_true e)$ jp ha rfl #[rfl,_,rfl,aE OE #[_,rfl,_,rfl,rfl,_,rfl,aE (decide_eq_false (λz=>by injection z;omega))$ .inr #[_,rfl,q']]]]
   ·refine#[_,rfl,_,rfl,_,_,rfl,rfl,_,rfl,aE (decide_eq_false e) #[_,rfl,aE rfl #[_,rfl,_,rfl,rfl,_,rfl,?_]]];by_cases e2:x=y
    ·rw[if_pos e2]at q';exact bR (decide_eq_true (by rw[e2]))$ jp ha rfl #[rfl,.inr #[_,rfl,(by rw[decide_eq_true OE];exact q')]]
    ·rw[if_neg e2]at q';exact aE (decide_eq_false (λz=>e2 (by injection z)))$ .inr #[_,rfl,q']
theorem A3{f:Addr}{fd:FuncData}:aj P w K mg base aC 1 f fd z7z (ig K 0):=by
 have no:∀vs H Q E,¬ig K 0 vs H Q E:=λvs H Q E h=>by obtain⟨a,d,T,ys,kvs,_,_,h1,_⟩:=h;exact absurd h1$ Nat.not_lt_zero _
 exact#[λvs H Q E h=>absurd h (no vs H Q E),λA outer s H args us vs Q E _ _ _ _ h=>absurd h (no vs H Q E)]
theorem DI{f:Addr}{fd:FuncData}(F:aU K "_law_worth" "_law_worth" CB f fd)(bF:ax K fd z7z [])(mF:mg "_law_worth"=some (.ref f))(mi:mg "int"=none)(mm:mg "max"=none):
  ∀n:Nat,aj P w K mg base aC (n+1) f fd z7z (ig K n)
 |0=>A3
 |n+1=>A8 F #[(DI F bF mF mi mm n),bF,F.kp,mF] mi mm
structure wJ(H:Hp)(nA:Addr)(w:WD)(wa sa ga:Addr)(ss:List V)(wd:Str)(u:V):Prop where
 at':H wa=some (.tup [.ref sa,.ref ga])
 sat:H sa=some (.tup ss)
 sets:∀(i:Nat) (x:V),ss[i]?=some x->∃(s:Str×Addr×Tm) (p:Addr),w.sets[i]?=some s/\x= .ref p/\H p=some (.tup [.str s.1,.ref s.2.1])
 len:ss.length=w.sets.length
 gat:H ga=some (.tup [.str wd,u])
 goal:match w.goal with
  | .give t _=>wd="give"/\u= .ref t
  | .nought=>wd="give"/\u= .ref nA
  | .go n=>wd="go"/\u= .int (n:Int)
theorem QQ{H:Hp}{nA:Addr}{w:WD}{v:V}(h:cq H (fk$ w.wy nA) v []):∃(wa sa ga:Addr) (ss:List V) (wd:Str) (u:V),v= .ref wa/\wJ H nA w wa sa ga ss wd u:=by
 obtain⟨_,r,xs,rfl,hr,_,_,y0,ys0,rfl,⟨_,s,cs,rfl,hs,hc⟩,_,_,y1,ys1,rfl,hg,e⟩:=h;have e:ys1=[]:=e;subst e;have lc:=zj hc;have st:∀(i:Nat) (x:V),cs[i]?=some x->∃(s:Str×Addr×Tm) (p:Addr),w.sets[i]?=some s/\x= .ref p/\H p=some (.tup [.str s.1,.ref s.2.1]):=λi x hx=>by obtain⟨tr,ht,tx⟩:=Kg hc i x hx;rw[List.getElem?_map]at ht;obtain⟨q,hq,rfl⟩:=Option.map_eq_some_iff.mp ht;have hq':(w.sets.map λs=>(s.1,s.2.1))[i]?=some q:=hq;rw[List.getElem?_map]at hq';obtain⟨z,hz,rfl⟩:=Option.map_eq_some_iff.mp hq';obtain⟨_,p,xs,rfl,hp,_,_,a0,b0,rfl,⟨rfl,_⟩,_,_,a1,b1,rfl,⟨rfl,_⟩,e⟩:=tx;have e:b1=[]:=e;subst e;exact#[z,p,hz,rfl,hp]
 have ln:cs.length=w.sets.length:=by rw[lc,List.length_map];exact List.length_map ..
 have fin:∀g:Gl,w.goal=g->cq H (tq$ g.gol nA) y1 []->∃(ga:Addr) (wd:Str) (u:V),y1= .ref ga/\H ga=some (.tup [.str wd,u])/\match g with
  | .give t _=>wd="give"/\u= .ref t
  | .nought=>wd="give"/\u= .ref nA
  | .go n=>wd="go"/\u= .int (n:Int):=λg _ hg=>by
  cases g with
  |give t T |nought |go n=>obtain⟨_,gl,xs,rfl,hgl,_,_,a0,b0,rfl,⟨rfl,_⟩,_,_,a1,b1,rfl,⟨rfl,_⟩,e⟩:=hg;have e:b1=[]:=e;subst e;exact#[gl,_,_,rfl,hgl,rfl,rfl]
 obtain⟨ga,wd,u,rfl,hga,hgo⟩:=fin w.goal rfl hg;exact#[r,s,ga,cs,wd,u,rfl,hr,hs,st,ln,hga,hgo]
noncomputable abbrev pO:Stmt:=top 55
noncomputable abbrev pU:Stmt:=top 56
inductive fi(c:Addr)(d:List V)(H:Hp)(Q:VK)(a:XK):Prop
 |mk(f:V)(b:Addr)(g:List Str)(m N:Nat)(e:WD)(k:aG)(_:d=[f,.ref b])(_:cq H (fk (e.wy c)) f [])(_:nP H g m N e)(_:N<=3000)(_:H b=some (.dK k))(_:GT k)(_:k.length<=200)(_:∀(r:Addr) (H':Hp),H r=none->H' r=some (.dK (bM e.sets k))->ae H H'->Q (.ref r) H')
inductive GI(c:Addr)(a:_L.St)(j:List (Str×Addr×Tm))(k:aG)(H:Hp)(i:Nat)(l:_L.St)(b:Hp):Prop
 |mk(g h:Option V)(d:l=a++[g,h])(e:b c=some (.dK (bM (j.take i) k)))(f:au c H b)
noncomputable def stk(wA cA:Addr)(t M:Nat)(w:Str):aG:=[(.inr "wrote",.ref wA),(.inr "cells",.ref cA),(.inr "turns",.int (t:Int)),(.inr "most",.int (M:Int)),(.inr "word",.str w)]
structure Sx(H:Hp)(sA wA cA:Addr)(C L:aG)(t M:Nat)(w:Str):Prop where
 st:H sA=some (.dK$ stk wA cA t M w)
 wr:H wA=some (.dK L)
 ce:H cA=some (.dK C)
 gL:GT L
 lL:L.length<=t
 gC:GT C
 n1:sA≠wA
 n2:sA≠cA
 n3:wA≠cA
def Fr(sA wA:Addr)(H H':Hp):Prop:=∀b o,b≠sA->b≠wA->H b=some o->H' b=some o
theorem Fr.trans{sA wA:Addr}{H H1 H2:Hp}(a:Fr sA wA H H1)(b:Fr sA wA H1 H2):Fr sA wA H H2:=λc o n1 n2 e=>b c o n1 n2 (a c o n1 n2 e)
theorem Fr.of_same{sA wA:Addr}{H H':Hp}(s:ae H H'):Fr sA wA H H':=λb o _ _ e=>s _ _ e
section
variable {H H':Hp}{sA wA cA:Addr}{C L:aG}{t M:Nat}{w:Str}
theorem Fr.tm(f:Fr sA wA H H')(S:Sx H sA wA cA C L t M w):ai H H':=λb xs e=>f b _ (jB e S.st (by intro z;cases z)) (jB e S.wr (by intro z;cases z)) e
theorem Sx.same(S:Sx H sA wA cA C L t M w)(s:ae H H'):Sx H' sA wA cA C L t M w:=#[s _ _ S.st,s _ _ S.wr,s _ _ S.ce,S.gL,S.lL,S.gC,S.n1,S.n2,S.n3]
theorem Sx.put(S:Sx H sA wA cA C L t M w){t2:Nat}(h:t<=t2)(w2:Str):Sx (af H sA$ .dK$ stk wA cA t2 M w2) sA wA cA C L t2 M w2:=#[jc,(jh$ Ne.symm S.n1).trans S.wr,(jh$ Ne.symm S.n2).trans S.ce,S.gL,Nat.le_trans S.lL h,S.gC,S.n1,S.n2,S.n3]
theorem Sx.wrt(S:Sx H sA wA cA C L t M w){c i:Int}(hi:dS i)(hl:L.length < t):Sx (af H wA$ .dK$ aB L (.inl c)$ .int i) sA wA cA C (aB L (.inl c)$ .int i) t M w:=#[(jh S.n1).trans S.st,jc,(jh$ Ne.symm S.n3).trans S.ce,S.gL.put _ hi,Nat.le_trans Km hl,S.gC,S.n1,S.n2,S.n3]
end
inductive gX(e:List V)(H:Hp)(Q:VK)(a:XK):Prop
 |mk(d f b:Addr)(C L:aG)(t M:Nat)(w:Str)(c:Int)(_:e=[.ref d,.int c])(_:Sx H d f b C L t M w)(_:Q (.int (look L (.inl c) (look C (.inl c) 0))) H)
theorem iJ:al ["_law_way","_law_held","_law_x","_law_term_here"] ["_law_way","_law_held"] (aa pO):=bZ
theorem tW{f:Addr}{fd:FuncData}{nA fW:Addr}{fdW:FuncData}(F:aU K "_law_gone" "_law_gone" pO f fd)(cW:Cl P w K mg base 7 fW fdW z7z (ig K 6) "_law_worth")(mdi:mg "dict"=none):aj P w K mg base aC 8 f fd ["_law_way","_law_held"] (fi nA):=by
 refine F.ok iJ ?_ λcdv A outer s H vs Q E hr h=>?_
 ·rintro _ _ _ _ ⟨wv,d0,ys,m,N,w0,k,rfl,_⟩;rfl
 obtain⟨wv,d0,ys,m,N,w0,k,rfl,hw,wv,hN,hd0,gk,lk,q⟩:=h;refine#[_,(jd (jy 1 iJ.nd$ jC Qo rfl mdi boot_dict$ ja (pv 1) jb)$ jd (ze PassesOwn.never rfl (zq$ jx$ pv 0) (zT (n:=2) rfl$ jz (jr (i:=2) iJ.nd rfl$ Or.inl rfl)$ jz (jr (i:=3) iJ.nd rfl$ Or.inl rfl) kK)$ jg$ kx (jN hr) (pv 1) (pv 2) (cW.e hr.m$ ja (pv 3)$ ja (pv 1) jb) rfl)$ jg$ jl$ pv 1),?_];have big:=aQ;obtain⟨wa,sa,ga,ss,wd,u,rfl,wy⟩:=QQ hw;have hwl:=wv.len;refine ah λF1 f1=>#[_,rfl,d0,k,rfl,hd0,λdd ndd=>f1 _ _ ?_];clear f1;have s0:ae H (af H dd$ .dK k):=jf ndd;have hd:af H dd (.dK k) dd=some (.dK k):=jc;generalize af H dd (.dK k)=H0 at s0 hd;have up:∀H',au dd H0 H'->ae H H':=λH' k' c o e=>k' c o (jk e ndd) (s0 _ _ e);refine ah λF1 f1=>gF λJ j=>(jp (s0 _ _ wy.at') fg #[sa,rfl,#[_,aD.of$ s0 _ _ wy.sat],j _ _ ?_]);clear j;refine Kl (K:=K) (xs:=ss) (GI dd [some$ .ref wa,some$ .ref dd] w0.sets k H0) #[_,_,rfl,hd,au.refl] (λi σ H' _ h=>?_) ?_ (λσ H' h=>f1 _ _ ?_)
 ·obtain⟨_,_,_,_,k1⟩:=h;exact aD.of$ up _ k1 _ _ wy.sat
 ·intro E _ i x σ H1 hx fin Gq kq h;obtain⟨o3,o4,rfl,h1,k1⟩:=h;clear f1;obtain⟨s,p,hs,rfl,hp'⟩:=wy.sets i x hx;have s1:=up _ k1;have tv:=(wv.sets s$ List.mem_of_getElem? hs).mono (ae.tm s1);have g1:GT (bM (w0.sets.take i) k):=JV (H:=H) (ys:=ys) (λs hs=>wv.sets s (List.mem_of_mem_take hs)) gk;have l1:=Xq (ss:=w0.sets.take i) (k:=k);rw[List.length_take]at l1;refine kq ?_;clear kq;refine#[p,_,rfl,aD.of$ s1 _ _ hp',rfl,_,_,rfl,_,_,rfl,rfl,?_];refine#[_,rfl,_,rfl,s.2.1,dd,s.2.2,ys,_,rfl,.inl tv.1,tv.2.2,tv.2.1,h1,g1,λH2 s2=>#[_,rfl,_,rfl,dd,_,rfl,.inl #[_,.inr s.1,s2 _ _ h1,rfl,OB,rfl],fin _ _ #[_,_,rfl,?_,λc o nc e=>by rw[jh nc];exact s2 _ _$ k1 c o nc e]]];rw[ZC hs];exact jc
 ·obtain⟨o3,o4,rfl,h1,k1⟩:=h;rw[wy.len,List.take_length]at h1;exact#[_,rfl,q dd H' ndd h1$ up _ k1]
theorem yH:al z21z z21z (aa pU):=bZ
theorem uf{f:Addr}{fd:FuncData}(F:aU K "_law_read" "_law_read" pU f fd):aj P w K mg base aC 1 f fd z21z gX:=by
 refine F.ok yH ?_ λcdv A outer s H vs Q E hr h=>?_
 ·rintro _ _ _ _ ⟨sA,wA,cA,C,L,t,M,w,c,rfl,_⟩;rfl
 obtain⟨sA,wA,cA,C,L,t,M,w,c,rfl,S,q⟩:=h;refine#[_,(jg$ jl$ @zL _ _ _ _ _ _ _ _ _ (jN hr) (kL (jN hr) (pv 0) jj (λ_ _=>rfl)) (pv 1) (@zL _ _ _ _ _ _ _ _ _ (jN hr) (kL (jN hr) (pv 0) jj (λ_ _=>rfl)) (pv 1) je #[OF,OF,OF,OF]) #[OF,OF,OF,OF]),?_];have g1:bp H sA (V.str "wrote") (some$ .ref wA):=bp.k (k:=.inr "wrote") S.st;have g2:bp H sA (V.str "cells") (some$ .ref cA):=bp.k (k:=.inr "cells") S.st;refine#[_,rfl,sA,_,rfl,g1,wA,rfl,.inl #[L,.inl S.wr],_,rfl,_,rfl,sA,_,rfl,g2,cA,rfl,.inl #[C,.inl S.ce],_,rfl,_,bp.k (k:=Sum.inl c) S.ce,_,bp.k (k:=Sum.inl c) S.wr,?_];rw[zO S.gC,zO S.gL];exact q
noncomputable abbrev iF:Stmt:=top 29
noncomputable abbrev lR:Stmt:=top 30
noncomputable abbrev iD:Stmt:=top 31
noncomputable abbrev pX:Stmt:=bK (top 32) 0
noncomputable abbrev lW:Stmt:=bK (top 32) 1
noncomputable abbrev pY:Stmt:=bK (top 32) 2
inductive dm(c:List V)(H:Hp)(Q:VK)(b:XK):Prop
 |mk(a:Addr)(f:Str)(P:List c8)(e:List V)(d:c8)(_:c=[.ref a,.str f])(_:H a=some (.tup e))(_:dy H P e)(_:bj P f=some d)(_:∀v,i6 H v d->Q v H)
inductive eQ(c:List V)(H:Hp)(Q:VK)(b:XK):Prop
 |mk(a g:Addr)(f:Str)(P:List c8)(e h:List V)(d:c8)(_:c=[.ref a,.str f,.ref g])(_:H a=some (.tup e))(_:dy H P e)(_:bj P f=some d)(_:H g=some (.tup h))(_:h.length=d.ps.length)(_:∀v,i6 H v d->Q v H)
noncomputable def aK(cA lA pA:Addr)(m:Int)(t:Nat):List (Str×V):=[("cells",.ref cA),("most",.int m),("left",.ref lA),("turns",.int (t:Int)),("program",.ref pA)]
structure gE(H:Hp)(C r dx cA lA pA:Addr)(m:Int)(t:Nat)(L Cs:aG):Prop where
 ins:H r=some (.ins C dx$ aK cA lA pA m t)
 lf:H lA=some (.dK L)
 ce:H cA=some (.dK Cs)
 iL:GT L
 iC:GT Cs
 cl:cA≠lA
structure sv(K:Frag)(C:Addr):Prop where
 cl:nM K C
 n1:bE K C "cells"
 n2:bE K C "most"
 n3:bE K C "left"
 n4:bE K C "turns"
 n5:bE K C "program"
inductive eU(C:Addr)(h:List V)(H:Hp)(Q:VK)(a:XK):Prop
 |mk(r e d f g:Addr)(m c:Int)(t:Nat)(L b:aG)(_:h=[.ref r,.int c])(_:gE H C r e d f g m t L b)(_:Q (.int (look L (.inl c) (look b (.inl c) 0))) H)
inductive iS(C:Addr)(d:List V)(H:Hp)(Q:VK)(a:XK):Prop
 |mk(r c b:Addr)(m:Int)(_:d=[.ref r,.ref b,.int m])(_:H r=some (.ins C c []))(_:∀lA,H lA=none->Q .non (af (af H lA (.dK [])) r (.ins C c [("cells",.ref b),("most",.int m),("left",.ref lA),("turns",.int 0)])))
structure XM(K:Frag)(mg:Str->Option Value)(x:Str)(L:Addr):Prop where
 ex:excIn K L nC "ValueError.__new__"=true
 kp:keepIn K (.ref L)=true
 xc:nX K L
 ty:typeIn K (.ref L)=some (.type "type")
 m:mg x=some (.ref L)
def NX(o:HO):Prop:=∀φ,o≠ .ext φ
def Kp(H H':Hp):Prop:=∀b o,NX o->H b=some o->H' b=some o
theorem Kp.of_same{H H':Hp}(s:ae H H'):Kp H H':=λb o _ e=>s _ _ e
theorem Kp.trans{H H1 H2:Hp}(a:Kp H H1)(b:Kp H1 H2):Kp H H2:=λc o n e=>b c o n (a c o n e)
def im(E:XK):XK:=λC d H'=>∀x T T' c,C= .ref c->H' x=some (fH c d T x)->H' T=some (eI T)->H' T'=none->E (.ref c) d (af (af H' T'$ eI T') x$ fH c d T' x)
theorem zp{P:Program}{w:World}{K:Frag}{mg:Str->Option Value}{base:Heap}{N:List Str}{qual:Str}{scope:Scope}{f:Addr}{cd:Value}{A:Around}{outer:List Env}{s₀:Shared}{H₀:Hp}{E:XK}:df (dP P w) (eJ (dP P w) P w K mg base N qual scope f cd A outer s₀ H₀ E) (im E):=
 ur λx C d T T' H' hx hT hn h=>h x T T' C rfl hx hT hn
theorem qW{H H':Hp}{x T T' C:Addr}{d:Option Addr}{b:Addr}{o:HO}(e:H' b=some o)(n:NX o)(hx:H' x=some (fH C d T x))(hn:H' T'=none):af (af H' T'$ eI T') x (fH C d T' x) b=some o:=by
 have n1:b≠x:=λz=>by rw[z,hx]at e;injection e with e;exact n _ e.symm
 rw[jh n1,jh$ jk e hn];exact e
def Fl(E:XK)(L:Addr)(R:Hp->Prop):Prop:=∀(_:Unit) H',R H'->E (.ref L) none H'
inductive gZ(C L:Addr)(e:List V)(H:Hp)(Q:VK)(E:XK):Prop
 |mk(r b a c d:Addr)(m:Int)(t:Nat)(_:e=[.ref r])(_:H r=some (.ins C b (aK a c d m t)))(_:(t:Int) < m->Q .non (af H r (.ins C b (aK a c d m (t+1)))))(_:m<=(t:Int)->Fl E L (Kp H))
inductive dN(D:Addr)(a:List V)(H:Hp)(Q:VK)(E:XK):Prop
 |mk(d:Int)(_:a=[.int d])(_:d < 15->Q (.int (d+1)) H)(_:15<=d->Fl E D (Kp H))
theorem Xt{H:Hp}{x T L:Addr}{d:Option Addr}(nx:H x=none)(nT:af H x (vv L none x) T=none):ae H (af (af (af H x$ vv L none x) T$ eI T) x$ fH L d T x):=by intro b o e;have n1:b≠x:=jk e nx;rw[jh n1,jh (λz=>by rw[<- z,jh n1,e]at nT;cases nT),jh n1];exact e
theorem ll:al ["ones","f","one"] ["ones","f"] (aa iF):=bZ
theorem ZE{f:Addr}{fd:FuncData}(F:aU K "named" "named" iF f fd):aj P w K mg base aC 1 f fd ["ones","f"] dm:=by
 refine F.ok ll ?_ λcdv A outer s H vs Q E hr h=>?_
 ·rintro _ _ _ _ ⟨a,f,P,xs,d,rfl,_⟩;rfl
 obtain⟨a,f,P,xs,d,rfl,ha,hD,hf,q⟩:=h;refine#[_,(jd (ze PassesOwn.never rfl (zq$ pv 0) (jr (i:=2) ll.nd rfl$ Or.inl rfl)$ jg$ ju (jA zD (jx$ pv 2) (pv 1)$ aA _) (jg$ jl$ pv 2) jm)$ jg$ @Bm _ _),?_];obtain⟨i,hi,hlt⟩:∃i,P[i]?=some d/\d.f=f/\∀j,j < i->∀(e:c8),P[j]?=some e->e.f≠f:=by
  unfold bj at hf;obtain⟨e1,i,e2,e3,e4⟩:=List.find?_eq_some_iff_getElem.mp hf;refine#[i,by rw[List.getElem?_eq_getElem e2,e3],of_decide_eq_true e1,λj hj e he=>?_];have:=e4 j hj;have hj':j < P.length:=by omega
  rw[List.getElem?_eq_getElem hj']at he;cases he;simpa using this
 have hil:i < xs.length:=by rw[hD.len];exact(List.getElem?_eq_some_iff.mp hi).1
 refine ah λF1 f1=>gF λJ j=>#[_,rfl,a,rfl,#[_,aD.of ha],j _ _ ?_];clear j;refine Kl (K:=K) (xs:=xs) (λk σ H'=>(∃o2,σ=[some$ .ref a,some$ .str f,o2])/\H'=H/\k<=i) #[#[_,rfl],rfl,Nat.zero_le _] (λk σ H' _ h=>by rw[h.2.1];exact aD.of ha) ?_ (λσ H' h=>?_)
 ·intro E2 rt k x σ H2 hx fE Gq kq h;obtain⟨⟨o2,rfl⟩,rfl,hk⟩:=h;refine kq ?_;clear kq;obtain⟨e,he,hv⟩:=hD.at k x hx;obtain⟨p,pa,pb,bs,rfl,h1,_⟩:=id hv;show rS _ _ _ E2 _ _;refine Cz λG1 kT kF=>(jp h1 rfl #[_,rfl,rfl,_,rfl,?_]);by_cases ek:k=i
  ·subst ek;rw[hi]at he;cases he;rw[hlt.1,decide_eq_true (rfl:V.str f=V.str f)];refine kT _ ?_;show gj _ E2 _ _;unfold gj;rw[rt];exact#[_,rfl,q _ hv]
  ·have ne:=hlt.2 k OB e he;rw[decide_eq_false (λz=>ne (by injection z))];exact kF _$ fE _ _ #[#[_,rfl],rfl,OB]
 ·obtain⟨_,_,hk⟩:=h;exact absurd hk OB
theorem mM:al ["ones","f","args","one"] ["ones","f","args"] (aa lR):=bZ
theorem oW{f:Addr}{fd:FuncData}{fN:Addr}{fdN:FuncData}(F:aU K "begun" "begun" lR f fd)(cN:Cl P w K mg base 1 fN fdN ["ones","f"] dm "named")(ml:mg "len"=none):aj P w K mg base aC 2 f fd ["ones","f","args"] eQ:=by
 refine F.ok mM ?_ λcdv A outer s H vs Q E hr h=>?_
 ·rintro _ _ _ _ ⟨a,g,f,Pd,xs,ys,d,rfl,_⟩;rfl
 obtain⟨a,g,f,Pd,xs,ys,d,rfl,ha,hD,hf,hg,hl,q⟩:=h;refine#[_,(jd (jy 3 mM.nd$ cN.e hr.m$ ja (pv 0)$ ja (pv 1) jb)$ jd (ju (jA Q3 (jP jJ rfl ml PySem.boot_len$ ja (pv 2) jb) (jP jJ rfl ml PySem.boot_len$ ja (jx$ pv 3) jb)$ aA _) (@yr _ _) jm)$ jg$ jl$ pv 3),?_];refine ah λF1 f1=>#[_,rfl,_,rfl,a,f,Pd,xs,d,rfl,ha,hD,hf,λv hv=>f1 _ _ ?_];clear f1;obtain⟨p,pa,pb,bs,rfl,h1,h2,_⟩:=id hv;refine ah λF1 f1=>#[_,rfl,g,_,rfl,.inr$ aD.of hg,jp h1 rfl #[pa,_,rfl,.inr$ aD.of h2,rfl,_,rfl,aE (by rw[List.length_map,hl];simp)$ f1 _ _ #[_,rfl,q _ hv]]]
theorem rf:al ["deep"] ["deep"] (aa iD):=bZ
theorem ZF{f:Addr}{fd:FuncData}{D:Addr}(F:aU K "deeper" "deeper" iD f fd){tD:Tok}(mD:mg "DEEPEST"=some (.int 15 tD))(xm:XM K mg "TooDeep" D):aj P w K mg base (dP P w) 1 f fd ["deep"] (dN D):=by
 refine F.ok1 rf ?_ λcdv A outer s H vs Q E hr h=>?_
 ·rintro _ _ _ _ ⟨d,rfl,_⟩;rfl
 obtain⟨d,rfl,q,e⟩:=h;refine#[_,(jd (ju (jA ZN (pv 0) (qQ (v:=.int 15) rfl mD #[tD,rfl])$ aA _) (jg$ @Xe _ _ _ _ _ rfl Qs$ @Qp _ _ _ _ _ xm.ex xm.kp rfl xm.m OA) jm)$ jg$ jl$ jq jO (pv 0) je),?_];refine ah λF1 f1=>#[_,rfl,_,_,rfl,rfl,_,rfl,?_];by_cases c:(15:Int)<=d
 ·refine bR (decide_eq_true c) λx nx=>?_;exact#[x,D,none,rfl,jc,xm.xc,xm.ty,λT nT=>e c () _ (Kp.of_same$ Xt nx nT)]
 ·exact aE (decide_eq_false c)$ f1 _ _ #[_,rfl,_,_,rfl,rfl,q OB]
theorem yI:al z22z z22z (aa pX):=bZ
theorem uj{f:Addr}{fd:FuncData}{C:Addr}(F:aU K "__init__" "Turns.__init__" pX f fd)(ck:sv K C):aj P w K mg base aC 1 f fd z22z (iS C):=by
 refine F.ok yI ?_ λcdv A outer s H vs Q E hr h=>?_
 ·rintro _ _ _ _ ⟨r,dx,cA,m,rfl,_⟩;rfl
 obtain⟨r,dx,cA,m,rfl,hr0,q⟩:=h;refine#[_,(jd (@qD _ _ _ _ _ _ _ _ (pv 0) (pv 1) rfl)$ jd (@qD _ _ _ _ _ _ _ _ (pv 0) (pv 2) rfl)$ jd (@qD _ _ _ _ _ _ _ _ (pv 0) Jb rfl)$ jg$ @qD _ _ _ _ _ _ _ _ (pv 0) je rfl),?_];refine ah λF1 f1=>#[_,rfl,_,rfl,r,C,dx,_,rfl,hr0,ck.cl,ck.n1,OA,f1 _ _ ?_];clear f1;refine ah λF1 f1=>#[_,rfl,_,rfl,r,C,dx,_,rfl,jc,ck.cl,ck.n2,(by show 1 < 1000;decide),f1 _ _ ?_];clear f1;refine ah λF1 f1=>λlA nl=>#[_,rfl,r,C,dx,_,rfl,ao jc nl,ck.cl,ck.n3,(by show 2 < 1000;decide),f1 _ _ ?_];clear f1;refine#[_,rfl,r,C,dx,_,rfl,jc,ck.cl,ck.n4,(by show 3 < 1000;decide),?_];have nr:lA≠r:=λe=>by rw[e,jc]at nl;cases nl
 have n0:H lA=none:=by rw[jh nr,jh nr]at nl;exact nl
 have e:∀o1 o2 o3 o4:HO,af (af (af (af (af H r o1) r o2) lA$ .dK []) r o3) r o4=af (af H lA$ .dK []) r o4:=λo1 o2 o3 o4=>by
  funext b;by_cases hb:b=r
  ·rw[hb,jc,jc]
  ·rw[jh hb,jh hb,jh hb];by_cases hl:b=lA
   ·rw[hl,jc,jc]
   ·rw[jh hl,jh hb,jh hb,jh hl]
 rw[e];exact q lA n0
theorem uU:al ["self"] ["self"] (aa lW):=bZ
theorem ph{f:Addr}{fd:FuncData}{C L:Addr}(F:aU K "take_turn" "Turns.take_turn" lW f fd)(ck:sv K C)(xm:XM K mg "TooLong" L):aj P w K mg base (dP P w) 1 f fd ["self"] (gZ C L):=by
 refine F.ok1 uU ?_ λcdv A outer s H vs Q E hr h=>?_
 ·rintro _ _ _ _ ⟨r,dx,cA,lA,pA,m,t,rfl,_⟩;rfl
 obtain⟨r,dx,cA,lA,pA,m,t,rfl,hr0,q,e⟩:=h;refine#[_,(jd (ju (jA ZN (kQ (pv 0) rfl) (kQ (pv 0) rfl)$ aA _) (jg$ @Xe _ _ _ _ _ rfl Qs$ @Qp _ _ _ _ _ xm.ex xm.kp rfl xm.m OA) jm)$ jg$ @Y7 _ _ _ _ _ _ _ _ _ _ (pv 0) je xz),?_];refine ah λF1 f1=>#[_,rfl,r,C,dx,_,_,rfl,hr0,ck.cl,ck.n4,rfl,_,rfl,r,C,dx,_,_,rfl,hr0,ck.cl,ck.n2,rfl,_,_,rfl,rfl,_,rfl,?_];by_cases c:m<=(t:Int)
 ·refine bR (decide_eq_true c) λx nx=>?_;exact#[x,L,none,rfl,jc,xm.xc,xm.ty,λT nT=>e c () _ (Kp.of_same$ Xt nx nT)]
 ·exact aE (decide_eq_false c)$ f1 _ _ #[_,rfl,r,C,dx,_,_,rfl,hr0,ck.cl,ck.n4,rfl,_,_,rfl,rfl,dx,_,hr0,(by show 5 < 1000;decide),q OB]
theorem yJ:al ["self","cell"] ["self","cell"] (aa pY):=bZ
theorem uk{f:Addr}{fd:FuncData}{C:Addr}(F:aU K "number_in" "Turns.number_in" pY f fd)(ck:sv K C):aj P w K mg base aC 1 f fd ["self","cell"] (eU C):=by
 refine F.ok yJ ?_ λcdv A outer s H vs Q E hr h=>?_
 ·rintro _ _ _ _ ⟨r,dx,cA,lA,pA,m,c,t,L,Cs,rfl,_⟩;rfl
 obtain⟨r,dx,cA,lA,pA,m,c,t,L,Cs,rfl,hR,q⟩:=h;refine#[_,(jg$ jl$ qj (yt$ @yn _ _ _ _ _ (jN hr) (pv 1)$ kQ (pv 0) rfl) (kL (jN hr) (kQ (pv 0) rfl) (pv 1) (λ_ _=>rfl))$ @zL _ _ _ _ _ _ _ _ _ (jN hr) (kQ (pv 0) rfl) (pv 1) je #[OF,OF,OF,OF]),?_];refine#[_,rfl,_,rfl,r,C,dx,_,_,rfl,hR.ins,ck.cl,ck.n3,rfl,lA,_,rfl,bp.k (k:=.inl c) hR.lf,_,rfl,?_];cases e:bQ L (.inl c) with
 |some v=>refine bR rfl #[_,rfl,r,C,dx,_,_,rfl,hR.ins,ck.cl,ck.n3,rfl,_,rfl,lA,v,rfl,by rw[<- e];exact bp.k (k:=.inl c) hR.lf,?_];rw[Zy hR.iL e$ look Cs (.inl c) 0];exact q
 |none=>refine aE rfl #[_,rfl,r,C,dx,_,_,rfl,hR.ins,ck.cl,ck.n1,rfl,cA,rfl,.inl #[_,.inl hR.ce],_,rfl,_,bp.k (k:=.inl c) hR.ce,?_];rw[zO hR.iC];rw[Zz e]at q;exact q
noncomputable abbrev iB:Stmt:=top 34
noncomputable abbrev pR:Stmt:=bK (top 35) 0
noncomputable abbrev mH:Stmt:=bK (top 35) 1
noncomputable abbrev uO:Stmt:=bK (top 35) 2
noncomputable abbrev gI:Stmt:=bK (top 35) 3
noncomputable abbrev lU:Stmt:=top 36
theorem gE.tm{H H':Hp}{C r dx cA lA pA:Addr}{m:Int}{t:Nat}{L Cs:aG}(h:gE H C r dx cA lA pA m t L Cs)(k:aR r lA H H'):ai H H':=λb xs e=>k b _ (jB e h.ins (by intro z;cases z)) (jB e h.lf (by intro z;cases z)) e
theorem gE.same{H H':Hp}{C r dx cA lA pA:Addr}{m:Int}{t:Nat}{L Cs:aG}(h:gE H C r dx cA lA pA m t L Cs)(s:ae H H'):gE H' C r dx cA lA pA m t L Cs:=#[s _ _ h.ins,s _ _ h.lf,s _ _ h.ce,h.iL,h.iC,h.cl]
theorem gE.rl{H:Hp}{C r dx cA lA pA:Addr}{m:Int}{t:Nat}{L Cs:aG}(h:gE H C r dx cA lA pA m t L Cs):r≠lA/\r≠cA:=#[jB h.ins h.lf (by intro z;cases z),jB h.ins h.ce (by intro z;cases z)]
structure sK(H:Hp)(pA:Addr)(P:List c8):Prop where
 at':∃xs,H pA=some (.tup xs)/\dy H P xs
 few:∀d∈P,d.ps.length<=100/\d.body.top<=1000/\d.body.Ok
theorem sK.mono{H H':Hp}{pA:Addr}{P:List c8}(h:sK H pA P)(k:ai H H'):sK H' pA P:=#[let #[xs,h1,h2]:=h.at';#[xs,k _ _ h1,h2.mono k],h.few]
def nk(r l:Addr)(H H':Hp):Prop:=∀b o,b≠r->b≠l->NX o->H b=some o->H' b=some o
theorem nk.of_same{r l:Addr}{H H':Hp}(s:ae H H'):nk r l H H':=λb o _ _ _ e=>s _ _ e
theorem nk.trans{r l:Addr}{H H1 H2:Hp}(a:nk r l H H1)(b:nk r l H1 H2):nk r l H H2:=λc o n1 n2 n e=>b c o n1 n2 n (a c o n1 n2 n e)
def aJ(TL TD:Addr)(E:XK)(o:iX)(R:Hp->Prop):Prop:=(o= .long->Fl E TL R)/\(o= .deep->Fl E TD R)
theorem aJ.mono{TL TD:Addr}{E:XK}{o:iX}{R S:Hp->Prop}(h:aJ TL TD E o R)(k:∀H,S H->R H):aJ TL TD E o S:=#[λe d H r=>h.1 e d H (k H r),λe d H r=>h.2 e d H (k H r)]
inductive fV(C f e:Addr)(j:Nat)(u:List V)(H:Hp)(Q:VK)(E:XK):Prop
 |mk(n:Nat)(r l h q s g:Addr)(m b:Int)(t k:Nat)(L c:aG)(v:V)(d:c8)(P:List c8)(p:List Int)(o:iX)(_:u=[.ref r,v,.ref g,.int b])(_:j=n+1)(_:gE H C r l h q s m t L c)(_:sK H s P)(_:d∈P)(_:i6 H v d)(_:H g=some (.tup (p.map V.int)))(_:∀i∈p,dS i)(_:d.ps.length=p.length)(_:Ex P c m n k d.body (ba d.ps p) L t o)(_:k<=30000)(_:b+(n:Int)=15)(_:L.length<=t)(_:m<=100000)(_:∀a L' t',o= .done a L' t'->∀H',gE H' C r l h q s m t' L' c->L'.length<=t'->dS a->aR r q H H'->Q (.int a) H')(_:aJ f e E o (nk r q H))
inductive gQ(C g e:Addr)(j:Nat)(w:List V)(H:Hp)(Q:VK)(E:XK):Prop
 |mk(n:Nat)(r l i q s p:Addr)(m b:Int)(t k:Nat)(L c h:aG)(v:V)(x f:Str)(u:List Tm)(d:c8)(P:List c8)(o:iX)(_:w=[.ref r,v,.ref p,.int b])(_:j=n+1)(_:gE H C r l i q s m t L c)(_:sK H s P)(_:nq H v (.cl x f u))(_:(nW.cl x f u).Ok)(_:H p=some (.dK h))(_:GT h)(_:bj P f=some d)(_:d.ps.length=u.length)(_:Ex P c m n k d.body (ba d.ps (u.map (Tm.ev h))) L t o)(_:k<=30000)(_:b+(n:Int)=15)(_:L.length<=t)(_:m<=100000)(_:∀a L' t',o= .done a L' t'->∀H',gE H' C r l i q s m t' L' c->L'.length<=t'->dS a->aR r q H H'->Q (.int a) H')(_:aJ g e E o (nk r q H))
inductive iQ(C:Addr)(e:List V)(H:Hp)(Q:VK)(a:XK):Prop
 |mk(r c d b:Addr)(m:Int)(_:e=[.ref r,.ref d,.ref b,.int m])(_:H r=some (.ins C c []))(_:∀lA,H lA=none->Q .non (af (af H lA (.dK [])) r (.ins C c (aK b lA d m 0))))
theorem Kq{P:List c8}{f:Str}{d:c8}(h:bj P f=some d):d∈P:=List.mem_of_find?_eq_some h
theorem oF(h:aG)(ts:List Tm):(ts.map λT=>V.int (T.ev h))=(ts.map$ Tm.ev h).map V.int:=by rw[List.map_map];rfl
theorem Fl.next{E:XK}{L r l:Addr}{H:Hp}(h:Fl E L (nk r l H)):Fl (im E) L (nk r l H):=λd H' k x T T' c e hx hT hn=>by cases e;exact h d _ λb o n1 n2 nx e=>qW (H:=H) (k b o n1 n2 nx e) nx hx hn
theorem aJ.next{E:XK}{TL TD r l:Addr}{H:Hp}{o:iX}(h:aJ TL TD E o (nk r l H)):aJ TL TD (im E) o (nk r l H):=#[λe=>(h.1 e).next,λe=>(h.2 e).next]
theorem yG:al z23z z23z (aa pR):=bZ
theorem ua{f:Addr}{fd:FuncData}{C T fT:Addr}{fdT:FuncData}(F:aU K "__init__" "PlainRun.__init__" pR f fd)(ck:sv K C)(GT:aj P w K mg base aC 1 fT fdT z22z (iS C))(bT:ax K fdT z22z [])(mT:mg "Turns"=some (.ref T))(tm:wE K T "__init__" fT):aj P w K mg base aC 2 f fd z23z (iQ C):=by
 refine F.ok yG ?_ λcdv A outer s H vs Q E hr h=>?_
 ·rintro _ _ _ _ ⟨r,dx,pA,cA,m,rfl,_⟩;rfl
 obtain⟨r,dx,pA,cA,m,rfl,hr0,q⟩:=h;refine#[_,(jd (jS$ @ut _ _ _ _ _ _ _ _ _ _ _ _ _ _ _ _ _ _ _ _ rfl mT tm GT hr.m bT .nil bu (ja (pv 0)$ ja (pv 2)$ ja (pv 3) jb) OA OF OF OF)$ jg$ @qD _ _ _ _ _ _ _ _ (pv 0) (pv 1) rfl),?_];refine ah λF1 f1=>#[_,rfl,_,rfl,_,rfl,r,dx,cA,m,rfl,hr0,λlA nl=>f1 _ _ ?_];clear f1;refine#[_,rfl,_,rfl,r,C,dx,_,rfl,jc,ck.cl,ck.n5,(by show 4 < 1000;decide),?_];have e:∀(H1:Hp) (o1 o2:HO),af (af H1 r o1) r o2=af H1 r o2:=λH1 o1 o2=>by
  funext b;by_cases hb:b=r
  ·rw[hb,jc,jc]
  ·rw[jh hb,jh hb,jh hb]
 rw[e];exact q lA nl
theorem mN:al ["self","statement","held","deep","args"] z24z (aa gI):=bZ
noncomputable def XJ:Scope:=#[.function,[(".0",.local),("term",.local),("worth",.globalImplicit),("held",.free)],false,false,[]]
theorem oO:(z3z:List Str).Nodup:=by decide+kernel
theorem n9:a7 ["self","statement","held","deep","args"] (aa gI) XJ z3z 1 [2]:=nE
theorem ZG{f:Addr}{fd:FuncData}{j:Nat}{C TL TD fW fN fA:Addr}{fdW fdN fdA:FuncData}(F:aU K "called" "PlainRun.called" gI f fd)(ck:sv K C)(cW:Cl P w K mg base 9 fW fdW z3z (ci 8) "worth")(cN:Cl P w K mg base 1 fN fdN ["ones","f"] dm "named")(GA:aj P w K mg base (dP P w) (3*j+10) fA fdA z11z (fV C TL TD j))(bA:ax K fdA z11z [])(meA:bG K C "answer_of" fA)(mtu:mg "tuple"=none):aj P w K mg base (dP P w) (3*j+11) f fd z24z (gQ C TL TD j):=by
 refine F.ok1 mN ?_ λcdv A outer s H vs Q E hr h=>?_
 ·rintro _ _ _ _ ⟨n,r,dx,cA,lA,pA,hA,m,deep,t,k,L,Cs,h,v,x,f,ts,d,Pd,o,rfl,_⟩;rfl
 obtain⟨n,r,dx,cA,lA,pA,hA,m,deep,t,k,L,Cs,h,v,x,f,ts,d,Pd,o,rfl,rfl,hR,hP,hs,hok,hh,hi,hf,hl,hx,hk,hd,hz,hm,q,en⟩:=h;refine#[_,(jd (jy 4 mN.nd$ jC jF rfl mtu boot_tuple$ ja (@kn _ _ _ _ _ _ _ (z3z) (1) ([2]) _ _ _ _ rfl (zq$ jx$ pv 1) n9 (λ_ _ _ _ _=>(jr (i:=0) oO rfl$ Or.inl rfl)) (λ_ _ _ _ _=>(@zr _)) (λ_ _ _ _ _=>(cW.e hr.m$ ja (pv 0)$ ja (pv 1) jb)) (by intro _;rfl)) jb)$ jg$ jl$ kl (pv 0) ck.cl meA GA hr.m bA .nil zp$ ja (cN.e hr.m$ ja (kQ (pv 0) rfl)$ ja (jx$ pv 1) jb)$ ja (pv 4)$ ja (pv 3) jb),?_];have big:=aQ;obtain⟨p,q2,vs,rfl,h1,h2,h3⟩:=hs;obtain⟨okt,okl⟩:=hok;have l3:=h3.len;refine ah λF1 f1=>(jp h1 rfl #[q2,rfl,#[_,aD.of h2],?_]);refine zo (K:=K) (xs:=vs) OB (λi zs H3=>zs=(ts.take i).map (λT=>V.int (T.ev h))/\H3=H) #[rfl,rfl] (λi zs H3 z=>?_) (λi v zs H3 hv z=>?_) (λzs H3 z l nl=>?_)
 ·obtain⟨rfl,rfl⟩:=z;exact#[aD.of h2,by rw[List.length_map,List.length_take];omega]
 ·obtain⟨rfl,rfl⟩:=z;obtain⟨T,pt,e1,rfl,e2⟩:=h3.at i v hv;obtain⟨ok1,ys,ok2⟩:=okt T (List.mem_of_getElem? e1);refine#[_,rfl,_,rfl,pt,hA,T,ys,h,rfl,e2,ok1,ok2,hh,hi,?_,rfl];rw[List.take_add_one,e1,List.map_append];rfl
 ·obtain⟨rfl,rfl⟩:=z;rw[l3,List.take_length,oF];refine#[l,_,rfl,.inl #[aF.of jc,λag nag=>f1 _ _ ?_]];clear f1;have s1:ae H3 (af (af H3 l$ .lst ((ts.map$ Tm.ev h).map V.int)) ag$ .tup ((ts.map$ Tm.ev h).map V.int)):=(jf nl).trans (jf nag);have a1:af (af H3 l$ .lst ((ts.map$ Tm.ev h).map V.int)) ag (.tup ((ts.map$ Tm.ev h).map V.int)) ag=some (.tup ((ts.map$ Tm.ev h).map V.int)):=jc;generalize af (af H3 l$ .lst ((ts.map$ Tm.ev h).map V.int)) ag (.tup ((ts.map$ Tm.ev h).map V.int))=H4 at s1 a1;have R4:=hR.same s1;obtain⟨xs,p1,p2⟩:=(hP.mono$ ae.tm s1).at';have inn:∀i∈ts.map (Tm.ev h),dS i:=λi hi'=>by obtain⟨T,hT,rfl⟩:=List.mem_map.mp hi';obtain⟨_,ys,ok2⟩:=okt T hT;exact zE hi ok2
  refine#[_,rfl,r,dx,_,rfl,R4.ins,rfl,_,rfl,r,C,dx,_,_,rfl,R4.ins,ck.cl,ck.n5,rfl,jp (s1 _ _ h1) rfl #[pA,f,Pd,xs,d,rfl,p1,p2,hf,λv dv=>?_]];refine#[_,rfl,_,rfl,n,r,dx,cA,lA,pA,ag,m,deep,t,k,L,Cs,v,d,Pd,ts.map$ Tm.ev h,o,rfl,rfl,R4,hP.mono$ ae.tm s1,Kq hf,dv,a1,inn,by rw[List.length_map];exact hl,hx,hk,hd,hz,hm,λa L' t' eo H5 R5 l5 i5 k5=>q a L' t' eo H5 R5 l5 i5 ((aR.of_same s1).trans k5),(en.mono λH5 k5=>(nk.of_same s1).trans k5).next]
def CG(H:Hp)(h:aG)(T:Tm)(p:Addr)(xs:List V):Prop:=
 (∃t pa pb as bs,H p=some (.tup [.str "if",.ref t,.ref pa,.ref pb])/\aO H T t/\H pa=some (.tup as)/\H pb=some (.tup bs)/\as.length<=400/\xs=if T.ev h=0 then bs else as)∨
 (∃t pa as,H p=some (.tup [.str "while",.ref t,.ref pa])/\aO H T t/\H pa=some (.tup as)/\as.length<=400/\xs=if T.ev h=0 then [] else as++[.ref p])
inductive dM(c:List V)(H:Hp)(Q:VK)(a:XK):Prop
 |mk(p b:Addr)(T:Tm)(h:aG)(d:List V)(_:c=[.ref p,.ref b])(_:CG H h T p d)(_:hV T)(_:H b=some (.dK h))(_:GT h)(_:∀l H',H l=none->H' l=some (.lst d.reverse)->ae H H'->Q (.ref l) H')
theorem QB{H H1:Hp}{l2 l3:Addr}{o:HO}(s:ae H H1)(n2:H1 l2=none)(n3:af H1 l2 o l3=none):H l3=none:=by
 cases z:H l3 with
 |none=>rfl
 |some u=>have:=ao (o:=o) (s _ _ z) n2;rw[n3]at this;cases this
theorem lg:al ["statement","held","again"] ["statement","held"] (aa iB):=bZ
theorem ZH{f:Addr}{fd:FuncData}{fW:Addr}{fdW:FuncData}(F:aU K "behind_asking" "behind_asking" iB f fd)(cW:Cl P w K mg base 9 fW fdW z3z (ci 8) "worth")(mli:mg "list"=none)(mre:mg "reversed"=none):aj P w K mg base aC 10 f fd ["statement","held"] dM:=by
 refine F.ok lg ?_ λcdv A outer s H vs Q E hr h=>?_
 ·rintro _ _ _ _ ⟨p,hA,T,h,xs,rfl,_⟩;rfl
 obtain⟨p,hA,T,h,xs,rfl,hs,ok,hh,hi,q⟩:=h;refine#[_,(jd (ju (jA Q3 (cW.e hr.m$ ja (jx$ pv 0)$ ja (pv 1) jb) je$ aA _) (jd (jy 2 lg.nd$ qj (jZ$ jx$ pv 0) (jD$ ja (pv 0) jb)$ jD jb)$ jg$ jl$ jq qg (pv 2)$ @qL _ _ _ _ _ _ _ _ _ rfl rfl mli boot_list rfl mre boot_reversed (jx$ pv 0) OA OA OA OA OF OF OF OF) jm)$ jd (ju (jZ$ jx$ pv 0) (jg$ jl$ @qL _ _ _ _ _ _ _ _ _ rfl rfl mli boot_list rfl mre boot_reversed (jx$ pv 0) OA OA OA OA OF OF OF OF) jm)$ jg$ jl$ jD jb),?_];have big:=aQ;obtain⟨ok1,ys,ok2⟩:=ok;have ne0:∀z:Int,(!decide (V.int z=V.int 0))=!decide (z=0):=λz=>by
  by_cases e:z=0
  ·rw[e];rfl
  ·rw[decide_eq_false e,decide_eq_false (λy=>e (by injection y))]
 rcases hs with ⟨t,pa,pb,as,bs,h1,h2,h3,h4,l5,rfl⟩ | ⟨t,pa,as,h1,h2,h3,l5,rfl⟩
 ·refine ah λF1 f1=>(jp h1 rfl #[_,rfl,t,hA,T,ys,h,rfl,h2,ok1,ok2,hh,hi,rfl,_,rfl,?_]);show if (!decide (V.int (T.ev h)=V.int 0))=true then _ else _;rw[ne0];by_cases e:T.ev h=0
  ·rw[if_pos e]at q;refine aE (by rw[decide_eq_true e];rfl)$ f1 _ _ ?_;exact ah λF1 f1=>(jp h1 rfl #[rfl,_,rfl,bR OE$ jp h1 rfl #[pb,_,rfl,aD.of h4,λl nl=>q l _ nl jc (jf nl)]])
  ·rw[if_neg e]at q;refine bR (by rw[decide_eq_false e];rfl) ?_;clear f1;refine ah λF1 f1=>(jp h1 rfl #[rfl,_,rfl,aE OE #[Nat.zero_le _,λl1 n1=>f1 _ _ ?_]]);clear f1;have s1:ae H (af H l1$ .lst []):=jf n1;have e1:af H l1 (.lst []) l1=some (.lst []):=jc;generalize af H l1 (.lst [])=H1 at s1 e1;refine#[_,rfl,jp (s1 _ _ h1) rfl #[pa,_,rfl,aD.of$ s1 _ _ h3,λl2 n2=>#[l1,l2,_,_,rfl,rfl,ao e1 n2,jc,by rw[List.length_reverse];show 0+_<=_;omega,λl3 n3=>?_]]];refine q l3 _ (QB s1 n2 n3) (by rw[jc];rfl) ((s1.trans$ jf n2).trans$ jf n3)
 ·refine ah λF1 f1=>(jp h1 rfl #[_,rfl,t,hA,T,ys,h,rfl,h2,ok1,ok2,hh,hi,rfl,_,rfl,?_]);show if (!decide (V.int (T.ev h)=V.int 0))=true then _ else _;rw[ne0];by_cases e:T.ev h=0
  ·rw[if_pos e]at q;refine aE (by rw[decide_eq_true e];rfl)$ f1 _ _ ?_;exact ah λF1 f1=>(jp h1 rfl #[rfl,_,rfl,aE OE$ f1 _ _ #[Nat.zero_le _,λl nl=>q l _ nl jc (jf nl)]])
  ·rw[if_neg e]at q;refine bR (by rw[decide_eq_false e];rfl) ?_;clear f1;refine ah λF1 f1=>(jp h1 rfl #[rfl,_,rfl,bR OE #[_,rfl,nL,λl1 n1=>f1 _ _ ?_]]);clear f1;have s1:ae H (af H l1$ .lst [.ref p]):=jf n1;have e1:af H l1 (.lst [.ref p]) l1=some (.lst [.ref p]):=jc;generalize af H l1 (.lst [.ref p])=H1 at s1 e1;refine#[_,rfl,jp (s1 _ _ h1) rfl #[pa,_,rfl,aD.of$ s1 _ _ h3,λl2 n2=>#[l1,l2,_,_,rfl,rfl,ao e1 n2,jc,by rw[List.length_reverse];show 1+_<=_;omega,λl3 n3=>?_]]];refine q l3 _ (QB s1 n2 n3) (by rw[jc,List.reverse_append];rfl) ((s1.trans$ jf n2).trans$ jf n3)
def CH(r l h ta:Addr)(H H':Hp):Prop:=∀b o,b≠r->b≠l->b≠h->b≠ta->H b=some o->H' b=some o
def Ae(r l h ta:Addr)(H H':Hp):Prop:=∀b o,b≠r->b≠l->b≠h->b≠ta->NX o->H b=some o->H' b=some o
theorem Fl.nextK{E:XK}{L:Addr}{H:Hp}(h:Fl E L (Kp H)):Fl (im E) L (Kp H):=λd H' k x T T' c e hx hT hn=>by cases e;exact h d _ λb o nx e=>qW (H:=H) (k b o nx e) nx hx hn
theorem Fl.mono{E:XK}{L:Addr}{R S:Hp->Prop}(h:Fl E L R)(k:∀H,S H->R H):Fl E L S:=λd H s=>h d H (k H s)
noncomputable def bn.turn:bn->Bool
 | .nil=>false
 | .lf l _=>l.turn
 | .ite _ _ _ _=>true
 | .loop _ _ _=>true
section
variable {P:List c8}{C:aG}{m:Int}{n k:Nat}{h L:aG}{t:Nat}{o:iX}
theorem qX{b:bn}(x:Ex P C m n k b h L t o)(e:b.turn=true)(g:m<=(t:Int)):o= .long:=by cases x<;>first |rfl | (exfalso;omega) |cases e
theorem xo{x:Str}{T:Tm}{r:bn}(q:Ex P C m n k (.lf (.set x T) r) h L t o):∃k',k=k'+1/\Ex P C m n k' r (aB h (.inr x)$ .int$ T.ev h) L t o:=by
 cases q with
 |set q=>exact#[_,rfl,q]
 |longL e g=>cases e
theorem AR{x:Str}{T:Tm}{r:bn}(q:Ex P C m n k (.lf (.rd x T) r) h L t o)(g:(t:Int) < m):∃k',k=k'+1/\Ex P C m n k' r (aB h (.inr x)$ .int$ look L (.inl$ T.ev h)$ look C (.inl$ T.ev h) 0) L (t+1) o:=by
 cases q with
 |rd _ q=>exact#[_,rfl,q]
 |longL e g=>exfalso;omega
theorem AT{T U:Tm}{r:bn}(q:Ex P C m n k (.lf (.wr T U) r) h L t o)(g:(t:Int) < m):∃k',k=k'+1/\Ex P C m n k' r h (aB L (.inl$ T.ev h)$ .int$ U.ev h) (t+1) o:=by
 cases q with
 |wr _ q=>exact#[_,rfl,q]
 |longL e g=>exfalso;omega
theorem xj{T:Tm}{a b r:bn}(q:Ex P C m n k (.ite T a b r) h L t o)(g:(t:Int) < m):∃k',k=k'+1/\Ex P C m n k' ((if T.ev h=0 then b else a).app r) h L (t+1) o:=by
 cases q with
 |ite _ q=>exact#[_,rfl,q]
 |longI g=>exfalso;omega
theorem sU{T:Tm}{a r:bn}(q:Ex P C m n k (.loop T a r) h L t o)(g:(t:Int) < m):∃k',k=k'+1/\Ex P C m n k' (if T.ev h=0 then r else a.app (.loop T a r)) h L (t+1) o:=by
 cases q with
 |loop1 _ e q=>exact#[_,rfl,by rw[if_neg e];exact q]
 |loop0 _ e q=>exact#[_,rfl,by rw[if_pos e];exact q]
 |longW g=>exfalso;omega
theorem vP{x f:Str}{ts:List Tm}{r:bn}(q:Ex P C m n k (.lf (.cl x f ts) r) h L t o)(g:(t:Int) < m):(n=0/\o= .deep)∨∃n' k1 d o1,n=n'+1/\bj P f=some d/\d.ps.length=ts.length/\k1<=30000/\Ex P C m n' k1 d.body (ba d.ps$ ts.map$ Tm.ev h) L (t+1) o1/\
  ((o1= .long/\o= .long)∨(o1= .deep/\o= .deep)∨∃a L1 t1 k',o1= .done a L1 t1/\k=k'+1/\Ex P C m n k' r (aB h (.inr x)$ .int a) L1 t1 o):=by
 cases q with
 |cl _ hf hl hk c q=>exact .inr #[_,_,_,_,rfl,hf,hl,hk,c,.inr (.inr #[_,_,_,_,rfl,rfl,q])]
 |clL _ hf hl hk c=>exact .inr #[_,_,_,_,rfl,hf,hl,hk,c,.inl #[rfl,rfl]]
 |clD _ hf hl hk c=>exact .inr #[_,_,_,_,rfl,hf,hl,hk,c,.inr (.inl #[rfl,rfl])]
 |deep g=>exact .inl #[rfl,rfl]
 |longL e g=>exfalso;omega
end
inductive yN(C e d:Addr)(j:Nat)(q:List V)(H:Hp)(Q:VK)(E:XK):Prop
 |mk(r g f l n i p:Addr)(m a:Int)(t k:Nat)(L c h:aG)(v:V)(b:bn)(s:List V)(P:List c8)(o:iX)(_:q=[.ref r,v,.ref i,.ref p,.int a])(_:gE H C r g f l n m t L c)(_:sK H n P)(_:b6 H b (v::s))(_:b.Ok)(_:∀T z,b≠ .lf (.gv T) z)(_:H i=some (.dK h))(_:GT h)(_:H p=some (.lst s.reverse))(_:i≠l)(_:i≠f)(_:Ex P c m j k b h L t o)(_:a+(j:Int)=15)(_:L.length<=t)(_:m<=100000)(_:b.top+401*k<=16000000)(_:h.length+k<=1000000)(_:∀k' b' ws' h' L' t' H',k' < k->Ex P c m j k' b' h' L' t' o->b6 H b' ws'->b'.Ok->gE H' C r g f l n m t' L' c->L'.length<=t'->H' i=some (.dK h')->GT h'->H' p=some (.lst ws'.reverse)->b'.top+401*k'<=16000000->h'.length+k'<=1000000->CH r l i p H H'->Q .non H')(_:aJ e d E o (Ae r l i p H))
theorem wk:al ["self","statement","held","todo","deep","word"] z25z (aa uO):=bZ
theorem A7{f:Addr}{fd:FuncData}{j:Nat}{C TL TD fW fT fI fD fC fB:Addr}{fdW fdT fdI fdD fdC fdB:FuncData}(F:aU K "do" "PlainRun.do" uO f fd)(ck:sv K C)(cW:Cl P w K mg base 9 fW fdW z3z (ci 8) "worth")(GT:aj P w K mg base (dP P w) 1 fT fdT ["self"] (gZ C TL))(bT:ax K fdT ["self"] [])(meT:bG K C "take_turn" fT)(GI:aj P w K mg base aC 1 fI fdI ["self","cell"] (eU C))(bI:ax K fdI ["self","cell"] [])(meI:bG K C "number_in" fI)(GD:aj P w K mg base (dP P w) 1 fD fdD ["deep"] (dN TD))(bD:ax K fdD ["deep"] [])(kD:keepIn K (.ref fD)=true)(mD:mg "deeper"=some (.ref fD))(GC:aj P w K mg base (dP P w) (3*j+11) fC fdC z24z (gQ C TL TD j))(bC:ax K fdC z24z [])(meC:bG K C "called" fC)(cB:Cl P w K mg base 10 fB fdB ["statement","held"] dM "behind_asking"):aj P w K mg base (dP P w) (3*j+12) f fd z25z (yN C TL TD j):=by
 refine F.ok1 wk ?_ λcdv A outer s H vs Q E hr h=>?_
 ·rintro _ _ _ _ ⟨r,dx,cA,lA,pA,hA,tA,m,deep,t,k,L,Cs,h,v,b,ws,Pd,o,rfl,_⟩;rfl
 obtain⟨r,dx,cA,lA,pA,hA,tA,m,deep,t,k,L,Cs,h,v,b,ws,Pd,o,rfl,hR,hP,hb,hok,ng,hh,hi,ht,hl,hc,hx,hd,hLt,hm,hz1,hz2,q,en⟩:=h;refine#[_,(jd (jy 5 wk.nd$ jx$ pv 1)$ jd (ju (jZ$ pv 5) (jd (kx (jN hr) (pv 2) (jx$ pv 1) (cW.e hr.m$ ja (jx$ pv 1)$ ja (pv 2) jb) rfl)$ jg$ @uE _ _) jm)$ jd (jS$ px (pv 0) ck.cl meT GT hr.m bT .nil zp)$ jg$ ju (jZ$ pv 5) (jg$ kx (jN hr) (pv 2) (jx$ pv 1) (kl (pv 0) ck.cl meI GI hr.m bI .nil bu$ ja (cW.e hr.m$ ja (jx$ pv 1)$ ja (pv 2) jb) jb) rfl)$ jg$ ju (jZ$ pv 5) (jg$ kx (jN hr) (kQ (pv 0) rfl) (cW.e hr.m$ ja (jx$ pv 1)$ ja (pv 2) jb) (cW.e hr.m$ ja (jx$ pv 1)$ ja (pv 2) jb) rfl)$ jg$ ju (jZ$ pv 5) (jg$ kx (jN hr) (pv 2) (jx$ pv 1) (kl (pv 0) ck.cl meC GC hr.m bC .nil zp$ ja (pv 1)$ ja (pv 2)$ ja (kj GD hr.m rfl mD kD bD .nil zp$ ja (pv 4) jb) jb) rfl)$ jg$ jS$ kM PySem.F.plainAttrs_list PySem.F.slot_list_extend PySem.F.type_list_extend Qk (pv 3)$ ja (cB.e hr.m$ ja (pv 1)$ ja (pv 2) jb) jb),?_];have big:=aQ;have rh:hA≠r:=jB hh hR.ins (by intro z;cases z);have rt:tA≠r:=jB ht hR.ins (by intro z;cases z);have th:tA≠hA:=jB ht hh (by intro z;cases z);have tl:tA≠lA:=jB ht hR.lf (by intro z;cases z);have put:∀(x:Str) (i:Int) (H2:Hp) (_L':aG) (t2 k2:Nat) (rest:bn),k2 < k->Ex Pd Cs m j k2 rest (aB h (.inr x)$ .int i) _L' t2 o->b6 H rest ws->rest.Ok->dS i->gE H2 C r dx cA lA pA m t2 _L' Cs->_L'.length<=t2->H2 hA=some (.dK h)->H2 tA=some (.lst ws.reverse)->rest.top+401*k2<=16000000->aR r lA H H2->Q .non (af H2 hA$ .dK$ aB h (.inr x)$ .int i):=by intro x i H2 _L' t2 k2 rest kk hx2 hb2 ok2 ii R2 l2 d2 e2 z2 B2;have:=JW h (.inr x) (.int i);refine q k2 rest ws (aB h (.inr x)$ .int i) _L' t2 _ kk hx2 hb2 ok2 #[by rw[jh$ Ne.symm rh];exact R2.ins,by rw[jh$ Ne.symm hl];exact R2.lf,by rw[jh$ Ne.symm hc];exact R2.ce,R2.iL,R2.iC,R2.cl] l2 jc (hi.put _ ii) (by rw[jh th];exact e2) z2 OB λb o n1 n2 n3 n4 e=>?_;rw[jh n3];exact B2 b o n1 n2 e
 cases b with
 |nil=>exact absurd hb (by intro z;cases z)
 |ite T a b rest=>
  obtain⟨p,pt,pa,pb,as,bs,ws',ev,h1,h2,h3,h4,h5,h6,h7⟩:=hb;cases ev;obtain⟨⟨okT,oka',okb'⟩,oka,okb,okr⟩:=hok;have z1:rest.top+1+401*k<=16000000:=hz1;refine ah λF1 f1=>(jp h1 rfl$ f1 _ _ ?_);clear f1;refine ah λF1 f1=>#[_,rfl,rfl,_,rfl,aE OE$ f1 _ _ ?_];clear f1;refine ah λF1 f1=>#[_,rfl,r,dx,_,rfl,hR.ins,rfl,r,dx,cA,lA,pA,m,t,rfl,hR.ins,λlt=>f1 _ _ ?_,λge=>(((en.1$ qX hx rfl ge).mono λH' kk=>λb o _ _ _ _ nx e=>kk b o nx e)).nextK];clear f1;have tm1:ai H (af H r$ .ins C dx$ aK cA lA pA m$ t+1):=λb xs e=>by rw[jh$ jB e hR.ins (by intro z;cases z)];exact e
  have R1:gE (af H r$ .ins C dx$ aK cA lA pA m$ t+1) C r dx cA lA pA m (t+1) L Cs:=#[jc,by rw[jh hR.rl.1.symm];exact hR.lf,by rw[jh hR.rl.2.symm];exact hR.ce,hR.iL,hR.iC,hR.cl];have d1:af H r (.ins C dx$ aK cA lA pA m$ t+1) hA=some (.dK h):=by rw[jh$ jB hh hR.ins (by intro z;cases z)];exact hh
  have e1:af H r (.ins C dx$ aK cA lA pA m$ t+1) tA=some (.lst ws.reverse):=by rw[jh$ jB ht hR.ins (by intro z;cases z)];exact ht
  have k1:aR r lA H (af H r$ .ins C dx$ aK cA lA pA m$ t+1):=λb o n1 n2 e=>by rw[jh n1];exact e
  generalize af H r (.ins C dx$ aK cA lA pA m$ t+1)=H1 at tm1 R1 d1 e1 k1;have g1:=tm1 _ _ h1;obtain⟨k',rfl,hx'⟩:=xj hx lt;refine#[_,rfl,rfl,_,rfl,aE OE ?_];refine#[_,rfl,rfl,_,rfl,aE OE ?_];refine#[_,rfl,rfl,_,rfl,aE OE ?_];have la:=h4.len;have lb:=h6.len;have lr:=h7.len;have hsel:b6 H (if T.ev h=0 then b else a) (if T.ev h=0 then bs else as):=by split<;>assumption
  have osel:(if T.ev h=0 then b else a).Ok:=by split<;>assumption
  have tsel:(if T.ev h=0 then b else a).top<=400:=by split<;>assumption
  have lsel:=hsel.len;refine#[_,rfl,.inl #[rfl,_,aF.of e1],_,rfl,_,rfl,p,hA,T,h,(if T.ev h=0 then bs else as),rfl,.inl #[pt,pa,pb,as,bs,g1,h2.mono tm1,tm1 _ _ h3,tm1 _ _ h5,OB,rfl],okT,d1,hi,λl H2 nl hl2 s2=>?_];generalize (if T.ev h=0 then bs else as)=xs at*;generalize (if T.ev h=0 then b else a)=sel at*;have e2:=s2 _ _ e1;have nlt:l≠tA:=λz=>by rw[z,e1]at nl;cases nl
  refine#[tA,l,_,_,rfl,rfl,e2,hl2,by rw[List.length_reverse,List.length_reverse];omega,?_];have R2:=R1.same s2;refine q k' (sel.app rest) (xs++ws) h L (t+1) _ OB hx' (b6.app h7 hsel) (bn.Ok.app okr osel) #[by rw[jh$ Ne.symm rt];exact R2.ins,by rw[jh$ Ne.symm tl];exact R2.lf,by rw[jh$ jB R2.ce e2 (by intro z;cases z)];exact R2.ce,R2.iL,R2.iC,R2.cl] OB (by rw[jh$ Ne.symm th];exact s2 _ _ d1) hi (by rw[jc,List.reverse_append]) (by rw[bn.top_app];omega) OB λb o n1 n2 n3 n4 e=>?_;rw[jh n4];exact s2 _ _$ k1 b o n1 n2 e
 |loop T a rest=>
  obtain⟨p,pt,pa,as,ws',ev,h1,h2,h3,h4,h7⟩:=id hb;cases ev;obtain⟨⟨okT,oka'⟩,oka,okr⟩:=id hok;have z1:rest.top+1+401*k<=16000000:=hz1;refine ah λF1 f1=>(jp h1 rfl$ f1 _ _ ?_);clear f1;refine ah λF1 f1=>#[_,rfl,rfl,_,rfl,aE OE$ f1 _ _ ?_];clear f1;refine ah λF1 f1=>#[_,rfl,r,dx,_,rfl,hR.ins,rfl,r,dx,cA,lA,pA,m,t,rfl,hR.ins,λlt=>f1 _ _ ?_,λge=>(((en.1$ qX hx rfl ge).mono λH' kk=>λb o _ _ _ _ nx e=>kk b o nx e)).nextK];clear f1;have tm1:ai H (af H r$ .ins C dx$ aK cA lA pA m$ t+1):=λb xs e=>by rw[jh$ jB e hR.ins (by intro z;cases z)];exact e
  have R1:gE (af H r$ .ins C dx$ aK cA lA pA m$ t+1) C r dx cA lA pA m (t+1) L Cs:=#[jc,by rw[jh hR.rl.1.symm];exact hR.lf,by rw[jh hR.rl.2.symm];exact hR.ce,hR.iL,hR.iC,hR.cl];have d1:af H r (.ins C dx$ aK cA lA pA m$ t+1) hA=some (.dK h):=by rw[jh$ jB hh hR.ins (by intro z;cases z)];exact hh
  have e1:af H r (.ins C dx$ aK cA lA pA m$ t+1) tA=some (.lst ws.reverse):=by rw[jh$ jB ht hR.ins (by intro z;cases z)];exact ht
  have k1:aR r lA H (af H r$ .ins C dx$ aK cA lA pA m$ t+1):=λb o n1 n2 e=>by rw[jh n1];exact e
  generalize af H r (.ins C dx$ aK cA lA pA m$ t+1)=H1 at tm1 R1 d1 e1 k1;have g1:=tm1 _ _ h1;obtain⟨k',rfl,hx'⟩:=sU hx lt;refine#[_,rfl,rfl,_,rfl,aE OE ?_];refine#[_,rfl,rfl,_,rfl,aE OE ?_];refine#[_,rfl,rfl,_,rfl,aE OE ?_];have la:=h4.len;have lr:=h7.len;have hsel:b6 H (if T.ev h=0 then rest else a.app (.loop T a rest)) ((if T.ev h=0 then [] else as++[.ref p])++ws):=by
   split
   ·exact h7
   ·rw[List.append_assoc];exact b6.app hb h4
  have osel:(if T.ev h=0 then rest else a.app (.loop T a rest)).Ok:=by
   split
   ·exact okr
   ·exact bn.Ok.app hok oka
  have tsel:(if T.ev h=0 then rest else a.app (.loop T a rest)).top<=401+rest.top:=by
   split
   ·omega
   ·rw[bn.top_app];show a.top+(rest.top+1)<=_;omega
  have lxs:(if T.ev h=0 then ([]:List V) else as++[.ref p]).length<=401:=by
   split
   ·exact Nat.zero_le _
   ·rw[List.length_append,List.length_singleton];omega
  refine#[_,rfl,.inl #[rfl,_,aF.of e1],_,rfl,_,rfl,p,hA,T,h,(if T.ev h=0 then [] else as++[.ref p]),rfl,.inr #[pt,pa,as,g1,h2.mono tm1,tm1 _ _ h3,OB,rfl],okT,d1,hi,λl H2 nl hl2 s2=>?_];generalize (if T.ev h=0 then ([]:List V) else as++[.ref p])=xs at*;generalize (if T.ev h=0 then rest else a.app (.loop T a rest))=sel at*;have e2:=s2 _ _ e1;refine#[tA,l,_,_,rfl,rfl,e2,hl2,by rw[List.length_reverse,List.length_reverse];omega,?_];have R2:=R1.same s2;refine q k' sel (xs++ws) h L (t+1) _ OB hx' hsel osel #[by rw[jh$ Ne.symm rt];exact R2.ins,by rw[jh$ Ne.symm tl];exact R2.lf,by rw[jh$ jB R2.ce e2 (by intro z;cases z)];exact R2.ce,R2.iL,R2.iC,R2.cl] OB (by rw[jh$ Ne.symm th];exact s2 _ _ d1) hi (by rw[jc,List.reverse_append]) OB OB λb o n1 n2 n3 n4 e=>?_;rw[jh n4];exact s2 _ _$ k1 b o n1 n2 e
 |lf l rest=>
 obtain⟨v',ws',ev,hs,hb⟩:=hb;cases ev;obtain⟨okl,okr⟩:=hok;have z1:rest.top+1+401*k<=16000000:=hz1;cases l with
 |gv T=>exact absurd rfl (ng T rest)
 |set x T=>obtain⟨p,pt,rfl,h1,h2⟩:=hs;obtain⟨k',rfl,hx'⟩:=xo hx;obtain⟨ok1,ys,ok2⟩:=okl;refine ah λF1 f1=>(jp h1 rfl$ f1 _ _ ?_);clear f1;refine ah λF1 f1=>#[_,rfl,rfl,_,rfl,bR OE ?_];clear f1;refine ah λF1 f1=>(jp h1 rfl #[_,rfl,pt,hA,T,ys,h,rfl,h2,ok1,ok2,hh,hi,_,rfl,jp h1 rfl #[hA,_,rfl,dZ.k (k:=.inr x) hh OB,f1 _ _ ?_]]);exact put x _ H L t k' rest OB hx' hb okr (zE hi ok2) hR hLt hh ht OB aR.refl
 |rd x T=>
  obtain⟨p,pt,rfl,h1,h2⟩:=hs;obtain⟨ok1,ys,ok2⟩:=okl;refine ah λF1 f1=>(jp h1 rfl$ f1 _ _ ?_);clear f1;refine ah λF1 f1=>#[_,rfl,rfl,_,rfl,aE OE$ f1 _ _ ?_];clear f1;refine ah λF1 f1=>#[_,rfl,r,dx,_,rfl,hR.ins,rfl,r,dx,cA,lA,pA,m,t,rfl,hR.ins,λlt=>f1 _ _ ?_,λge=>(((en.1$ qX hx rfl ge).mono λH' kk=>λb o _ _ _ _ nx e=>kk b o nx e)).nextK];clear f1;have tm1:ai H (af H r$ .ins C dx$ aK cA lA pA m$ t+1):=λb xs e=>by rw[jh$ jB e hR.ins (by intro z;cases z)];exact e
  have R1:gE (af H r$ .ins C dx$ aK cA lA pA m$ t+1) C r dx cA lA pA m (t+1) L Cs:=#[jc,by rw[jh hR.rl.1.symm];exact hR.lf,by rw[jh hR.rl.2.symm];exact hR.ce,hR.iL,hR.iC,hR.cl];have d1:af H r (.ins C dx$ aK cA lA pA m$ t+1) hA=some (.dK h):=by rw[jh$ jB hh hR.ins (by intro z;cases z)];exact hh
  have e1:af H r (.ins C dx$ aK cA lA pA m$ t+1) tA=some (.lst ws.reverse):=by rw[jh$ jB ht hR.ins (by intro z;cases z)];exact ht
  have k1:aR r lA H (af H r$ .ins C dx$ aK cA lA pA m$ t+1):=λb o n1 n2 e=>by rw[jh n1];exact e
  generalize af H r (.ins C dx$ aK cA lA pA m$ t+1)=H1 at tm1 R1 d1 e1 k1;have g1:=tm1 _ _ h1;obtain⟨k',rfl,hx'⟩:=AR hx lt;refine#[_,rfl,rfl,_,rfl,bR OE ?_];refine#[_,rfl,r,dx,_,rfl,R1.ins,rfl,jp g1 rfl #[_,rfl,pt,hA,T,ys,h,rfl,h2.mono tm1,ok1,ok2,d1,hi,r,dx,cA,lA,pA,m,_,_,_,_,rfl,R1,?_]];exact#[_,rfl,jp g1 rfl #[hA,_,rfl,dZ.k (k:=.inr x) d1 OB,put x _ H1 L (t+1) k' rest OB hx' hb okr (qt R1.iL$ qt R1.iC zW) R1 OB d1 e1 OB k1]]
 |wr T U=>
  obtain⟨p,pt,pu,rfl,h1,h2,h3⟩:=hs;obtain⟨⟨ok1,ys,ok2⟩,ok3,zs,ok4⟩:=okl;refine ah λF1 f1=>(jp h1 rfl$ f1 _ _ ?_);clear f1;refine ah λF1 f1=>#[_,rfl,rfl,_,rfl,aE OE$ f1 _ _ ?_];clear f1;refine ah λF1 f1=>#[_,rfl,r,dx,_,rfl,hR.ins,rfl,r,dx,cA,lA,pA,m,t,rfl,hR.ins,λlt=>f1 _ _ ?_,λge=>(((en.1$ qX hx rfl ge).mono λH' kk=>λb o _ _ _ _ nx e=>kk b o nx e)).nextK];clear f1;have tm1:ai H (af H r$ .ins C dx$ aK cA lA pA m$ t+1):=λb xs e=>by rw[jh$ jB e hR.ins (by intro z;cases z)];exact e
  have R1:gE (af H r$ .ins C dx$ aK cA lA pA m$ t+1) C r dx cA lA pA m (t+1) L Cs:=#[jc,by rw[jh hR.rl.1.symm];exact hR.lf,by rw[jh hR.rl.2.symm];exact hR.ce,hR.iL,hR.iC,hR.cl];have d1:af H r (.ins C dx$ aK cA lA pA m$ t+1) hA=some (.dK h):=by rw[jh$ jB hh hR.ins (by intro z;cases z)];exact hh
  have e1:af H r (.ins C dx$ aK cA lA pA m$ t+1) tA=some (.lst ws.reverse):=by rw[jh$ jB ht hR.ins (by intro z;cases z)];exact ht
  have k1:aR r lA H (af H r$ .ins C dx$ aK cA lA pA m$ t+1):=λb o n1 n2 e=>by rw[jh n1];exact e
  generalize af H r (.ins C dx$ aK cA lA pA m$ t+1)=H1 at tm1 R1 d1 e1 k1;have g1:=tm1 _ _ h1;obtain⟨k',rfl,hx'⟩:=AT hx lt;refine#[_,rfl,rfl,_,rfl,aE OE ?_];refine#[_,rfl,rfl,_,rfl,bR OE ?_];refine(jp g1 rfl #[_,rfl,pu,hA,U,zs,h,rfl,h3.mono tm1,ok3,ok4,d1,hi,?_]);refine#[_,rfl,r,C,dx,_,_,rfl,R1.ins,ck.cl,ck.n3,rfl,jp g1 rfl #[_,rfl,pt,hA,T,ys,h,rfl,h2.mono tm1,ok1,ok2,d1,hi,lA,_,rfl,dZ.k (k:=.inl (T.ev h)) R1.lf OB,?_]];have pl:=JW L (.inl$ T.ev h) (.int$ U.ev h);refine q k' rest _ h _ (t+1) _ OB hx' hb okr #[by rw[jh hR.rl.1];exact R1.ins,jc,by rw[jh hR.cl];exact R1.ce,R1.iL.put _$ zE hi ok4,R1.iC,R1.cl] OB (by rw[jh hl];exact d1) hi (by rw[jh tl];exact e1) OB OB λb o n1 n2 n3 n4 e=>?_;rw[jh n2];exact k1 b o n1 n2 e
 |cl x f ts=>
  obtain⟨p,q2,vs,rfl,h1,h2,h3⟩:=id hs;refine ah λF1 f1=>(jp h1 rfl$ f1 _ _ ?_);clear f1;refine ah λF1 f1=>#[_,rfl,rfl,_,rfl,aE OE$ f1 _ _ ?_];clear f1;refine ah λF1 f1=>#[_,rfl,r,dx,_,rfl,hR.ins,rfl,r,dx,cA,lA,pA,m,t,rfl,hR.ins,λlt=>f1 _ _ ?_,λge=>(((en.1$ qX hx rfl ge).mono λH' kk=>λb o _ _ _ _ nx e=>kk b o nx e)).nextK];clear f1;have tm1:ai H (af H r$ .ins C dx$ aK cA lA pA m$ t+1):=λb xs e=>by rw[jh$ jB e hR.ins (by intro z;cases z)];exact e
  have R1:gE (af H r$ .ins C dx$ aK cA lA pA m$ t+1) C r dx cA lA pA m (t+1) L Cs:=#[jc,by rw[jh hR.rl.1.symm];exact hR.lf,by rw[jh hR.rl.2.symm];exact hR.ce,hR.iL,hR.iC,hR.cl];have d1:af H r (.ins C dx$ aK cA lA pA m$ t+1) hA=some (.dK h):=by rw[jh$ jB hh hR.ins (by intro z;cases z)];exact hh
  have e1:af H r (.ins C dx$ aK cA lA pA m$ t+1) tA=some (.lst ws.reverse):=by rw[jh$ jB ht hR.ins (by intro z;cases z)];exact ht
  have k1:aR r lA H (af H r$ .ins C dx$ aK cA lA pA m$ t+1):=λb o n1 n2 e=>by rw[jh n1];exact e
  generalize af H r (.ins C dx$ aK cA lA pA m$ t+1)=H1 at tm1 R1 d1 e1 k1;have g1:=tm1 _ _ h1;refine#[_,rfl,rfl,_,rfl,aE OE ?_];refine#[_,rfl,rfl,_,rfl,aE OE ?_];refine#[_,rfl,rfl,_,rfl,bR OE ?_];have K1:Ae r lA hA tA H H1:=λb o n1 n2 n3 n4 nx e=>k1 b o n1 n2 e;refine#[_,rfl,r,dx,_,rfl,R1.ins,rfl,_,rfl,_,rfl,_,rfl,deep,rfl,λdl=>?_,λdg=>?_]
  ·rcases vP hx lt with ⟨rfl,eo⟩ | ⟨n',kc,d,o1,rfl,hf,hll,hkc,hc1,hend⟩
   ·exfalso;omega
   refine#[n',r,dx,cA,lA,pA,hA,m,deep+1,t+1,kc,L,Cs,h,_,x,f,ts,d,Pd,o1,rfl,rfl,R1,hP.mono tm1,hs.mono tm1,okl,d1,hi,hf,hll,hc1,hkc,OB,OB,hm,λa L' t' eo H2 R2 l2 i2 k2=>?_,?_]
   ·subst eo;rcases hend with ⟨z,_⟩ | ⟨z,_⟩ | ⟨a',L1,t1,k',e',rfl,hx'⟩
    ·cases z
    ·cases z
    cases e';have tm2:=R1.tm k2;have d2:=k2 _ _ rh hl d1;exact#[_,rfl,jp (tm2 _ _ g1) rfl #[hA,_,rfl,dZ.k (k:=.inr x) d2 OB,put x a H2 L' t' k' rest OB hx' hb okr i2 R2 l2 d2 (k2 _ _ rt tl e1) OB$ k1.trans k2]]
   ·refine aJ.next #[λeo=>?_,λeo=>?_]
    ·subst eo;rcases hend with ⟨_,e'⟩ | ⟨z,_⟩ | ⟨a',L1,t1,k',z,_⟩
     ·exact(en.1 e').mono λH2 kk=>λb o n1 n2 n3 n4 nx e=>kk b o n1 n2 nx (K1 b o n1 n2 n3 n4 nx e)
     ·cases z
     ·cases z
    ·subst eo;rcases hend with ⟨z,_⟩ | ⟨_,e'⟩ | ⟨a',L1,t1,k',z,_⟩
     ·cases z
     ·exact(en.2 e').mono λH2 kk=>λb o n1 n2 n3 n4 nx e=>kk b o n1 n2 nx (K1 b o n1 n2 n3 n4 nx e)
     ·cases z
  ·rcases vP hx lt with ⟨rfl,eo⟩ | ⟨n',kc,d,o1,rfl,_⟩
   ·exact((en.2 eo).mono λH2 kk=>λb o n1 n2 n3 n4 nx e=>kk b o nx (K1 b o n1 n2 n3 n4 nx e)).nextK
   ·exfalso;omega
theorem QR:∀(ps:List Str) (is:List Int) (acc:aG),(∀i∈is,dS i)->GT acc->GT (((ps.map Sum.inr).zip$ is.map V.int).foldl (λ(acc:aG) kv=>aB acc kv.1 kv.2) acc)/\(((ps.map Sum.inr).zip$ is.map V.int).foldl (λ(acc:aG) kv=>aB acc kv.1 kv.2) acc).length<=acc.length+ps.length
 | [],_,acc,_,h=>#[by simpa using h,OD]
 |p::ps,[],acc,_,h=>#[by simpa using h,OD]
 |p::ps,i::is,acc,hi,h=>by have q:=QR ps is (aB acc (.inr p)$ .int i) (λz hz=>hi z (List.mem_cons_of_mem _ hz)) (h.put _$ hi i List.mem_cons_self);have l:=JW acc (.inr p) (.int i);refine#[by simpa using q.1,?_];have:=q.2;simp only[List.map_cons,List.zip_cons_cons,List.foldl_cons,List.length_cons];omega
inductive DB(C r l j D F B G i:Addr)(m a:Int)(n:Nat)(o:iX)(f:aG)(v:V)(P:List c8)(H:Hp)(k:Nat)(J:_L.St)(g:Hp):Prop
 |mk(E:Option V)(b:bn)(I:List V)(h L:aG)(t:Nat)(p:J=[some (.ref r),some v,some (.ref i),some (.int a),some (.ref B),some (.ref G),E])(q:g G=some (.lst I.reverse))(s:b6 g b I)(u:g B=some (.dK h))(w:GT h)(x:gE g C r l j D F m t L f)(y:Ex P f m n k b h L t o)(z:L.length<=t)(A:b.Ok)(c:b.top+401*k<=16000000)(d:h.length+k<=1000000)(e:aR r D H g)
theorem AQ{P:List c8}{C:aG}{m:Int}{n k:Nat}{h L:aG}{t:Nat}{o:iX}{T:Tm}{r:bn}(q:Ex P C m n k (.lf (.gv T) r) h L t o):o= .done (T.ev h) L t:=by
 cases q with
 |gv=>rfl
 |longL e g=>cases e
theorem xk{P:List c8}{C:aG}{m:Int}{n k:Nat}{h L:aG}{t:Nat}{o:iX}(q:Ex P C m n k .nil h L t o):o= .done 0 L t:=by cases q;rfl
theorem sP{H:Hp}{b:bn}{v:V}{ws:List V}(hb:b6 H b (v::ws))(ng:∀T z,b≠ .lf (.gv T) z):∃pp w' u rest',v= .ref pp/\H pp=some (.tup (.str w'::u::rest'))/\decide (V.str w'=V.str "give")=false:=by
 cases b with
 |nil=>exact absurd hb (by intro z;cases z)
 |ite T a b rest=>obtain⟨p,pt,pa,pb,as,bs,ws',ev,h1,_⟩:=hb;cases ev;exact#[p,_,_,_,rfl,h1,OE]
 |loop T a rest=>obtain⟨p,pt,pa,as,ws',ev,h1,_⟩:=hb;cases ev;exact#[p,_,_,_,rfl,h1,OE]
 |lf l rest=>
  obtain⟨v',ws',ev,hs,_⟩:=hb;cases ev;cases l with
  |gv T=>exact absurd rfl (ng T rest)
  |set x T |rd x T=>obtain⟨p,pt,rfl,h1,_⟩:=hs;exact#[p,_,_,_,rfl,h1,OE]
  |wr T U |cl x f ts=>obtain⟨p,pt,pu,rfl,h1,_⟩:=hs;exact#[p,_,_,_,rfl,h1,OE]
theorem aJ.next4{E:XK}{TL TD r l h ta:Addr}{H:Hp}{o:iX}(x:aJ TL TD E o (Ae r l h ta H)):aJ TL TD (im E) o (Ae r l h ta H):=by
 have one:∀L,Fl E L (Ae r l h ta H)->Fl (im E) L (Ae r l h ta H):=λL z d H' k x T T' c e hx hT hn=>by cases e;exact z d _ λb o n1 n2 n3 n4 nx e=>qW (H:=H) (k b o n1 n2 n3 n4 nx e) nx hx hn
 exact#[λe=>one _ (x.1 e),λe=>one _ (x.2 e)]
theorem iK:al ["self","one","args","deep","held","todo","statement"] z11z (aa mH):=bZ
theorem xX{f:Addr}{fd:FuncData}{j:Nat}{C TL TD fW fO:Addr}{fdW fdO:FuncData}(F:aU K "answer_of" "PlainRun.answer_of" mH f fd)(ck:sv K C)(cW:Cl P w K mg base 9 fW fdW z3z (ci 8) "worth")(GO:aj P w K mg base (dP P w) (3*j+12) fO fdO z25z (yN C TL TD j))(bO:ax K fdO z25z [])(meO:bG K C "do" fO)(mli:mg "list"=none)(mre:mg "reversed"=none)(mdi:mg "dict"=none)(mzi:mg "zip"=none):aj P w K mg base (dP P w) (3*j+13) f fd z11z (fV C TL TD$ j+1):=by
 refine F.ok1 iK ?_ λcdv A outer s H vs Q E hr h=>?_
 ·rintro _ _ _ _ ⟨n,r,dx,cA,lA,pA,ag,m,deep,t,k,L,Cs,v,d,Pd,is,o,rfl,_⟩;rfl
 obtain⟨n,r,dx,cA,lA,pA,ag,m,deep,t,k,L,Cs,v,d,Pd,is,o,rfl,hj,hR,hP,hmem,hv,ha,his,hl,hx,hk,hd,hLt,hm,q,en⟩:=h;refine#[_,(jd (jy 4 iK.nd$ @uw _ _ _ _ _ _ _ _ rfl mdi rfl mzi rfl (ja (jx$ pv 1)$ ja (pv 2) jb) OF OF OF OF)$ jd (jy 5 iK.nd$ @qL _ _ _ _ _ _ _ _ _ rfl rfl mli boot_list rfl mre boot_reversed (jx$ pv 1) OA OA OA OA OF OF OF OF)$ jd (Kk PassesOwn.leaving (@Q9 _ _ _ (pv 5) (λ_=>rfl))$ jd (jy 6 iK.nd$ Z1 PySem.F.plainAttrs_list PySem.F.slot_list_pop PySem.F.type_list_pop Z2$ pv 5)$ jd (ju (jZ$ jx$ pv 6) (jg$ jl$ cW.e hr.m$ ja (jx$ pv 6)$ ja (pv 4) jb) jm)$ jg$ jS$ kl (pv 0) ck.cl meO GO hr.m bO .nil zp$ ja (pv 6)$ ja (pv 4)$ ja (pv 5)$ ja (pv 3) jb)$ jg$ jl je),?_];have big:=aQ;obtain rfl:n=j:=by omega
 obtain⟨p,pa,pb,bs,rfl,h1,h2,h3,h4⟩:=id hv;obtain⟨fw1,fw2,fw3⟩:=hP.few d hmem;have lb:=h4.len;have hk1:GT (ba d.ps is):=(QR d.ps is [] his GT.nil).1;have hk2:(ba d.ps is).length<=0+d.ps.length:=(QR d.ps is [] his GT.nil).2;refine ah λF1 f1=>(jp h1 rfl #[_,rfl,pa,ag,d.ps.map Sum.inr,is.map V.int,rfl,aD.of (by rw[List.map_map];exact h2),aD.of ha,by rw[List.length_map,List.length_map];exact hl,λhA nh=>f1 _ _ ?_]);clear f1;have s1:ae H (af H hA$ .dK$ ba d.ps is):=jf nh;have e1:af H hA (.dK$ ba d.ps is) hA=some (.dK$ ba d.ps is):=jc;show dU _ _ _ _ (af H hA$ .dK$ ba d.ps is);generalize af H hA (.dK$ ba d.ps is)=H1 at s1 e1;refine ah λF1 f1=>(jp (s1 _ _ h1) rfl #[pb,_,rfl,aD.of$ s1 _ _ h3,λtA nt=>f1 _ _ ?_]);clear f1;have s2:ae H1 (af H1 tA$ .lst bs.reverse):=jf nt;have e2:af H1 tA (.lst bs.reverse) tA=some (.lst bs.reverse):=jc;generalize af H1 tA (.lst bs.reverse)=H2 at s2 e2;have S2:=s1.trans s2;have nh2:hA≠lA:=Ne.symm (jk hR.lf nh);have nh3:hA≠cA:=Ne.symm (jk hR.ce nh);have nt2:tA≠lA:=Ne.symm (jk (s1 _ _ hR.lf) nt);have nt3:tA≠r:=Ne.symm (jk (s1 _ _ hR.ins) nt);have nth:tA≠hA:=Ne.symm (jk e1 nt);have ntc:cA≠tA:=jk (s1 _ _ hR.ce) nt;have fresh:∀b o,H b=some o->b≠hA/\b≠tA:=λb o e=>#[jk e nh,jk (s1 _ _ e) nt];refine ah λF1 f1=>?_;refine me (DB C r dx cA lA pA hA tA ag m deep n o Cs (.ref p) Pd H) k #[none,d.body,bs,ba d.ps is,L,t,rfl,e2,h4.mono$ ae.tm S2,s2 _ _ e1,hk1,hR.same S2,hx,hLt,fw3,OB,OB,aR.of_same S2] ?_;intro kk σ H3 E' rt fE F kT kF Gq kq hW;obtain⟨o6,b,vs,h,L1,t1,rfl,w2,w3,w4,w5,w6,w7,w8,w9,w10,w11,w12⟩:=hW;have tmH:=hR.tm w12;refine kq #[_,rfl,!vs.reverse.isEmpty,.inl #[vs.reverse,aF.of w2,rfl],?_];clear kq;cases vs with
 |nil=>
  have eb:b= .nil:=by
   have:=w3.len;cases b with
   |nil=>rfl
   |lf l r |ite T a b r |loop T a r=>exact absurd this (by show ¬0=_+1;omega)
  subst eb;refine kF _$ f1 _ _ ?_;exact q _ _ _ (xk w7) _ w6 w8 zW w12
 |cons v rs=>
  have ne:(!(v::rs).reverse.isEmpty)=true:=by simp
  rw[ne];refine kT _ ?_;clear kT kF f1;rw[List.reverse_cons]at w2;refine ah λF1 f1=>#[_,rfl,.inl #[rfl,_,aF.of w2],tA,_,v,rfl,rfl,w2,OD,f1 _ _ ?_];clear f1;rw[List.dropLast_concat];have k4:au tA H3 (af H3 tA$ .lst rs.reverse):=λb o nb e=>by rw[jh nb];exact e
  have t4:af H3 tA (.lst rs.reverse) tA=some (.lst rs.reverse):=jc;have m4:ai H3 (af H3 tA$ .lst rs.reverse):=λb xs e=>k4 _ _ (jB e w2 (by intro z;cases z)) e;generalize af H3 tA (.lst rs.reverse)=H4 at k4 t4 m4;have R4:gE H4 C r dx cA lA pA m t1 L1 Cs:=#[k4 _ _ nt3.symm w6.ins,k4 _ _ nt2.symm w6.lf,k4 _ _ ntc w6.ce,w6.iL,w6.iC,w6.cl];have d4:=k4 _ _ (Ne.symm nth) w4;have K4:aR r lA H H4:=λb o n1 n2 e=>k4 _ _ (fresh b o e).2 (w12 b o n1 n2 e);have tm4:ai H H4:=hR.tm K4;have sv4:=w3.mono m4;by_cases hg:∃T z,b= .lf (.gv T) z
  ·obtain⟨T,z,rfl⟩:=hg;obtain⟨v',ws',ev,⟨pp,pt,rfl,g1,g2⟩,_⟩:=sv4;cases ev;obtain⟨⟨ok1,ys,ok2⟩,_⟩:=w9;refine ah λF1 f1=>(jp g1 rfl #[rfl,_,rfl,bR OE ?_]);show gj _ _ _ _;unfold gj;show dB _ _ _ _ _ _ E'.rt;rw[rt];exact(jp g1 rfl #[_,rfl,pt,hA,T,ys,h,rfl,g2,ok1,ok2,d4,w5,q _ _ _ (AQ w7) _ R4 w8 (zE w5 ok2) K4])
  ·have hg':∀T z,b≠ .lf (.gv T) z:=λT z e=>hg #[T,z,e];obtain⟨pp,w',u,rest',rfl,g1,gn⟩:=sP sv4 hg';refine ah λF1 f1=>#[_,rfl,pp,_,_,_,rfl,rfl,aD.of g1,jW (j:=0) rfl,rfl,_,rfl,aE gn$ f1 _ _ ?_];clear f1;refine#[_,rfl,r,dx,_,rfl,R4.ins,rfl,_,rfl,_,rfl,_,rfl,_,rfl,r,dx,cA,lA,pA,hA,tA,m,deep,t1,kk,L1,Cs,h,_,b,rs,Pd,o,rfl,R4,hP.mono tm4,sv4,w9,hg',d4,w5,t4,nh2,nh3,w7,hd,w8,hm,w10,w11,λk' b' ws' h' L' t' H5 lk x5 v5 ok5 R5 l5 d5 g5 t5 z5 y5 k5=>?_,?_]
   ·have tm5:ai H4 H5:=λb xs e=>k5 b _ (jB e R4.ins (by intro z;cases z)) (jB e R4.lf (by intro z;cases z)) (jB e d4 (by intro z;cases z)) (jB e t4 (by intro z;cases z)) e;exact fE k' _ _ lk #[_,b',ws',h',L',t',rfl,t5,v5.mono tm5,d5,g5,R5,x5,l5,ok5,z5,y5,λb o n1 n2 e=>k5 b o n1 n2 (fresh b o e).1 (fresh b o e).2 (K4 b o n1 n2 e)]
   ·exact aJ.next4$ en.mono λH' kk=>λb o n1 n2 nx e=>kk b o n1 n2 (fresh b o e).1 (fresh b o e).2 nx (K4 b o n1 n2 e)
inductive gA(C e c:Addr)(n:List V)(H:Hp)(Q:VK)(E:XK):Prop
 |mk(l g h:Addr)(f:Str)(m:Int)(k:Nat)(b:aG)(d:c8)(P:List c8)(j:List Int)(o:iX)(_:n=[.ref l,.str f,.ref g,.ref h,.int m])(_:sK H l P)(_:bj P f=some d)(_:H g=some (.tup (j.map V.int)))(_:∀i∈j,dS i)(_:d.ps.length=j.length)(_:H h=some (.dK b))(_:GT b)(_:Ex P b m 15 k d.body (ba d.ps j) [] 0 o)(_:k<=30000)(_:m<=100000)(_:∀a L' t',o= .done a L' t'->∀rr lA H',H' rr=some (.tup [.int a,.ref lA,.int (t':Int)])->H lA=none->H' lA=some (.dK L')->ae H H'->GT L'->L'.length<=t'->Q (.ref rr) H')(_:aJ e c E o (Kp H))
theorem xT{f:Addr}{fd:FuncData}{k:Nat}{C TL TD:Addr}:aj P w K mg base (dP P w) k f fd z11z (fV C TL TD 0):=by
 have no:∀vs H Q E,¬fV C TL TD 0 vs H Q E:=λvs H Q E h=>by obtain⟨n,r,dx,cA,lA,pA,ag,m,deep,t,k,L,Cs,v,d,Pd,is,o,_,hj,_⟩:=h;omega
 exact#[λvs H Q E h=>absurd h (no vs H Q E),λA outer s H args us vs Q E _ _ _ _ h=>absurd h (no vs H Q E)]
theorem Au{C TL TD fA fC fO fW fN fT fI fD fB:Addr}{fdA fdC fdO fdW fdN fdT fdI fdD fdB:FuncData}(ck:sv K C)(FA:aU K "answer_of" "PlainRun.answer_of" mH fA fdA)(bA:ax K fdA z11z [])(meA:bG K C "answer_of" fA)(FC:aU K "called" "PlainRun.called" gI fC fdC)(bC:ax K fdC z24z [])(meC:bG K C "called" fC)(FO:aU K "do" "PlainRun.do" uO fO fdO)(bO:ax K fdO z25z [])(meO:bG K C "do" fO)(cW:Cl P w K mg base 9 fW fdW z3z (ci 8) "worth")(cN:Cl P w K mg base 1 fN fdN ["ones","f"] dm "named")(GT:aj P w K mg base (dP P w) 1 fT fdT ["self"] (gZ C TL))(bT:ax K fdT ["self"] [])(meT:bG K C "take_turn" fT)(GI:aj P w K mg base aC 1 fI fdI ["self","cell"] (eU C))(bI:ax K fdI ["self","cell"] [])(meI:bG K C "number_in" fI)(GD:aj P w K mg base (dP P w) 1 fD fdD ["deep"] (dN TD))(bD:ax K fdD ["deep"] [])(kD:keepIn K (.ref fD)=true)(mD:mg "deeper"=some (.ref fD))(cB:Cl P w K mg base 10 fB fdB ["statement","held"] dM "behind_asking")(mtu:mg "tuple"=none)(mli:mg "list"=none)(mre:mg "reversed"=none)(mdi:mg "dict"=none)(mzi:mg "zip"=none):
  ∀n:Nat,aj P w K mg base (dP P w) (3*n+10) fA fdA z11z (fV C TL TD n)
 |0=>xT
 |n+1=>xX FA ck cW (A7 FO ck cW GT bT meT GI bI meI GD bD kD mD (ZG FC ck cW cN (Au ck FA bA meA FC bC meC FO bO meO cW cN GT bT meT GI bI meI GD bD kD mD cB mtu mli mre mdi mzi n) bA meA mtu) bC meC cB) bO meO mli mre mdi mzi
theorem gr:al ["program","f","args","cells","most","one","run","answer"] z28z (aa lU):=bZ
theorem pe{f:Addr}{fd:FuncData}{C TL TD fI fB fA:Addr}{fdI fdB fdA:FuncData}(F:aU K "plain" "plain" lU f fd)(ck:sv K C)(mk:Mk K C fI)(GI:aj P w K mg base aC 2 fI fdI z23z (iQ C))(bI:ax K fdI z23z [])(mC:mg "PlainRun"=some (.ref C))(cB:Cl P w K mg base 2 fB fdB ["ones","f","args"] eQ "begun")(GA:aj P w K mg base (dP P w) 58 fA fdA z11z (fV C TL TD 16))(bA:ax K fdA z11z [])(meA:bG K C "answer_of" fA):aj P w K mg base (dP P w) 59 f fd z28z (gA C TL TD):=by
 refine F.ok1 gr ?_ λcdv A outer s H vs Q E hr h=>?_
 ·rintro _ _ _ _ ⟨pA,ag,cA,f,m,k,Cs,d,Pd,is,o,rfl,_⟩;rfl
 obtain⟨pA,ag,cA,f,m,k,Cs,d,Pd,is,o,rfl,hP,hf,ha,his,hl,hce,hiC,hx,hk,hm,q,en⟩:=h;refine#[_,(jd (jy 5 gr.nd$ cB.e hr.m$ ja (pv 0)$ ja (pv 1)$ ja (pv 2) jb)$ jd (jy 6 gr.nd$ YC mk GI hr.m rfl mC bI .nil bu$ ja (pv 0)$ ja (pv 3)$ ja (pv 4) jb)$ jd (jy 7 gr.nd$ kl (pv 6) ck.cl meA GA hr.m bA .nil zp$ ja (pv 5)$ ja (pv 2)$ ja je jb)$ jg$ jl$ ji$ ja (pv 7)$ ja (kQ (pv 6) rfl)$ ja (kQ (pv 6) rfl) jb),?_];obtain⟨xs,p1,p2⟩:=hP.at';refine ah λF1 f1=>#[_,rfl,_,rfl,_,rfl,pA,ag,f,Pd,xs,_,d,rfl,p1,p2,hf,ha,by rw[List.length_map];exact hl.symm,λv dv=>f1 _ _ ?_];clear f1;refine ah λF1 f1=>#[_,rfl,_,rfl,_,rfl,λr dx nr nd ne=>?_];have s0:ae H (af (af H dx$ .own r) r$ .ins C dx []):=λc o e=>by rw[jh$ jk e nr,jh$ jk e nd];exact e
 refine#[r,dx,pA,cA,m,rfl,jc,λlA nl=>#[rfl,f1 _ _ ?_]];clear f1;have nlr:lA≠r:=λe=>by rw[e,jc]at nl;cases nl
 have nlH:H lA=none:=s0.free nl;have s1:ae H (af (af (af (af H dx$ .own r) r$ .ins C dx []) lA$ .dK []) r$ .ins C dx$ aK cA lA pA m 0):=λc o e=>by rw[jh$ jk e nr,jh$ jk e nlH];exact s0 _ _ e
 have R1:gE (af (af (af (af H dx$ .own r) r$ .ins C dx []) lA$ .dK []) r$ .ins C dx$ aK cA lA pA m 0) C r dx cA lA pA m 0 [] Cs:=#[jc,by rw[jh nlr];exact jc,s1 _ _ hce,GT.nil,hiC,jk hce nlH];generalize af (af (af (af H dx$ .own r) r$ .ins C dx []) lA$ .dK []) r (.ins C dx$ aK cA lA pA m 0)=H1 at s1 R1;have tm1:=ae.tm s1;refine ah λF1 f1=>#[_,rfl,r,dx,_,rfl,R1.ins,rfl,_,rfl,_,rfl,15,r,dx,cA,lA,pA,ag,m,0,0,k,[],Cs,v,d,Pd,is,o,rfl,rfl,R1,hP.mono tm1,Kq hf,dv.mono tm1,s1 _ _ ha,his,hl,hx,hk,OA,Nat.le_refl _,hm,λa L' t' eo H2 R2 l2 i2 k2=>f1 _ _ ?_,aJ.next$ en.mono λH' kk=>λb o nx e=>kk b o (jk e nr) (jk e nlH) nx (s1 _ _ e)];clear f1;refine#[_,rfl,_,rfl,r,C,dx,_,_,rfl,R2.ins,ck.cl,ck.n3,rfl,_,rfl,r,C,dx,_,_,rfl,R2.ins,ck.cl,ck.n4,rfl,f8,λrr nrr=>?_];exact q a L' t' eo rr lA _ jc nlH (ao R2.lf nrr) (λc o e=>ao (k2 c o (jk e nr) (jk e nlH)$ s1 _ _ e) nrr) R2.iL l2
def nW.cs(R:Str->Nat->Prop):nW->Prop
 | .cl _ f ts=>R f ts.length
 |_=>True
theorem zS(s:bn):∀b:bn,(b.app s).size=b.size+s.size
 | .nil=>by show s.size=0+s.size;omega
 | .lf _ r=>by show(r.app s).size+1=r.size+1+s.size;rw[zS s r];omega
 | .ite _ a b r=>by show a.size+b.size+(r.app s).size+1=a.size+b.size+r.size+1+s.size;rw[zS s r];omega
 | .loop _ a r=>by show a.size+(r.app s).size+1=a.size+r.size+1+s.size;rw[zS s r];omega
def bn.cs(R:Str->Nat->Prop):bn->Prop
 | .nil=>True
 | .lf l r=>l.cs R/\r.cs R
 | .ite _ a b r=>a.cs R/\b.cs R/\r.cs R
 | .loop _ a r=>a.cs R/\r.cs R
theorem qY{R:Str->Nat->Prop}{s:bn}(hs:s.cs R):∀{b:bn},b.cs R->(b.app s).cs R
 | .nil,_=>hs
 | .lf _ _,h=>#[h.1,qY hs h.2]
 | .ite _ _ _ _,h=>#[h.1,h.2.1,qY hs h.2.2]
 | .loop _ _ _,h=>#[h.1,qY hs h.2]
def bn.sm(S:Nat):bn->Prop
 | .nil=>True
 | .lf _ r=>r.sm S
 | .ite _ a b r=>a.sm S/\b.sm S/\r.sm S
 | .loop _ a r=>a.size<=S/\a.sm S/\r.sm S
theorem JB{S:Nat}:∀{b:bn},b.size<=S->b.sm S
 | .nil,_=>trivial
 | .lf _ r,h=>by have h':r.size+1<=S:=h;exact JB (b:=r) OB
 | .ite _ a b r,h=>by have h':a.size+b.size+r.size+1<=S:=h;exact#[JB OB,JB OB,JB OB]
 | .loop _ a r,h=>by have h':a.size+r.size+1<=S:=h;exact#[OB,JB OB,JB OB]
theorem Kj{S:Nat}{s:bn}(hs:s.sm S):∀{b:bn},b.sm S->(b.app s).sm S
 | .nil,_=>hs
 | .lf _ r,h=>Kj hs (b:=r) h
 | .ite _ _ _ _,h=>#[h.1,h.2.1,Kj hs h.2.2]
 | .loop _ _ _,h=>#[h.1,h.2.1,Kj hs h.2.2]
def CM(ds:List c8)(f:Str)(n:Nat):Prop:=∃e,bj ds f=some e/\e.ps.length=n
theorem YW(P:List c8)(C:aG)(m:Int)(n:Nat)(hc:∀n',n=n'+1->∀(d:c8) (is:List Int) (L:aG) (t D:Nat),d∈P->m=(t:Int)+(D:Int)->∃k o,k<=30000/\Ex P C m n' k d.body (ba d.ps is) L t o):
  ∀(N:Nat) (b:bn) (h L:aG) (t D:Nat),b.cs (CM P)->b.sm 400->m=(t:Int)+(D:Int)->b.size+D*401<=N->∃k o,k<=N/\Ex P C m n k b h L t o:=by
 intro N;induction N with
 |zero=>
  intro b h L t D hn hs hm hN;cases b with
  |nil=>exact#[0,_,Nat.le_refl _,.nil]
  |lf l r=>have:r.size+1+D*401<=0:=hN;omega
  |ite T a b r=>have:a.size+b.size+r.size+1+D*401<=0:=hN;omega
  |loop T a r=>have:a.size+r.size+1+D*401<=0:=hN;omega
 |succ N ih=>
  intro b h L t D hn hs hm hN;cases b with
  |nil=>exact#[0,_,Nat.zero_le _,.nil]
  |lf l r=>
   have hN':r.size+1+D*401<=N+1:=hN;obtain⟨hl,hn'⟩:=hn;cases l with
   |gv T=>exact#[0,_,Nat.zero_le _,.gv]
   |set x T=>obtain⟨k,o,hk,q⟩:=ih r (aB h (.inr x)$ .int$ T.ev h) L t D hn' hs hm OB;exact#[k+1,o,OB,.set q]
   |rd x T=>
    by_cases z:D=0
    ·exact#[0,_,Nat.zero_le _,.longL rfl OB]
    ·obtain⟨k,o,hk,q⟩:=ih r (aB h (.inr x)$ .int$ look L (.inl$ T.ev h)$ look C (.inl$ T.ev h) 0) L (t+1) (D - 1) hn' hs OB OB;exact#[k+1,o,OB,.rd OB q]
   |wr T U=>
    by_cases z:D=0
    ·exact#[0,_,Nat.zero_le _,.longL rfl OB]
    ·obtain⟨k,o,hk,q⟩:=ih r h (aB L (.inl$ T.ev h)$ .int$ U.ev h) (t+1) (D - 1) hn' hs OB OB;exact#[k+1,o,OB,.wr OB q]
   |cl x f ts=>
    by_cases z:D=0
    ·exact#[0,_,Nat.zero_le _,.longL rfl OB]
    ·cases n with
     |zero=>exact#[0,_,Nat.zero_le _,.deep OB]
     |succ n=>
      obtain⟨d,hf,hd⟩:=hl;obtain⟨k1,o1,hk1,q1⟩:=hc n rfl d (ts.map$ Tm.ev h) L (t+1) (D - 1) (Kq hf) OB;cases o1 with
      |long=>exact#[0,_,Nat.zero_le _,.clL OB hf hd hk1 q1]
      |deep=>exact#[0,_,Nat.zero_le _,.clD OB hf hd hk1 q1]
      |done a L1 t1=>obtain⟨e1,e2⟩:=AS q1 rfl;have e3:=e2 OB;obtain⟨k,o,hk,q⟩:=ih r (aB h (.inr x)$ .int a) L1 t1 (m - t1).toNat hn' hs OB OB;exact#[k+1,o,OB,.cl OB hf hd hk1 q1 q]
  |ite T a b r=>
   have hN':a.size+b.size+r.size+1+D*401<=N+1:=hN;by_cases z:D=0
   ·exact#[0,_,Nat.zero_le _,.longI OB]
   ·have hz:((if T.ev h=0 then b else a).app r).size<=a.size+b.size+r.size:=by rw[zS];split<;>omega
    obtain⟨k,o,hk,q⟩:=ih ((if T.ev h=0 then b else a).app r) h L (t+1) (D - 1) (qY hn.2.2 (by split;exact hn.2.1;exact hn.1)) (Kj hs.2.2 (by split;exact hs.2.1;exact hs.1)) OB OB;exact#[k+1,o,OB,.ite OB q]
  |loop T a r=>
   have hN':a.size+r.size+1+D*401<=N+1:=hN;by_cases z:D=0
   ·exact#[0,_,Nat.zero_le _,.longW OB]
   ·by_cases e:T.ev h=0
    ·obtain⟨k,o,hk,q⟩:=ih r h L (t+1) (D - 1) hn.2 hs.2.2 OB OB;exact#[k+1,o,OB,.loop0 OB e q]
    ·have hz:(a.app$ .loop T a r).size=a.size+(a.size+r.size+1):=by rw[zS];rfl
     have:=hs.1;obtain⟨k,o,hk,q⟩:=ih (a.app$ .loop T a r) h L (t+1) (D - 1) (qY hn hn.1) (Kj hs hs.2.1) OB OB;exact#[k+1,o,OB,.loop1 OB e q]
def Sd(ds:List c8):Prop:=∀d∈ds,d.body.size<=400/\d.body.cs (CM ds)
theorem xh{P:List c8}(hP:Sd P)(C:aG){m:Int}(hm:m<=60):∀(n:Nat) (d:c8) (is:List Int) (L:aG) (t D:Nat),d∈P->m=(t:Int)+(D:Int)->∃k o,k<=30000/\Ex P C m n k d.body (ba d.ps is) L t o:=by
 intro n;induction n with
 |zero=>intro d is L t D hd e;obtain⟨h4,h5⟩:=hP d hd;exact YW P C m 0 (λn' z=>by omega) 30000 d.body _ L t D h5 (JB h4) e OB
 |succ n ih=>intro d is L t D hd e;obtain⟨h4,h5⟩:=hP d hd;exact YW P C m (n+1) (λn' z=>by injection z with z;subst z;exact ih) 30000 d.body _ L t D h5 (JB h4) e OB
theorem wB{H:Hp}:∀{ts:List (Addr×Tm)},(∀c∈ts,aO H c.2 c.1)->hZ H (ts.map (·.2)) (ts.map λc=>V.ref c.1)
 | [],_=>rfl
 |c::ts,h=>#[c.1,_,rfl,h c List.mem_cons_self,wB λe he=>h e (List.mem_cons_of_mem _ he)]
theorem AE{H:Hp}{p:Addr}{l:Lf}{vs:List V}(hp:H p=some (.tup vs))(h:sI H l vs):nq H (.ref p) l.er:=by
 cases l with
 |rd x t T |st x t T |gv t T=>obtain⟨rfl,h⟩:=h;exact#[p,t,rfl,hp,h]
 |wr t u T U=>obtain⟨rfl,h,k⟩:=h;exact#[p,t,u,rfl,hp,h,k]
 |cl x f q ts=>obtain⟨rfl,h,k⟩:=h;exact#[p,q,_,rfl,hp,h,wB k]
theorem XL{H:Hp}:∀{b:Bd} {xs:List V},c7 H b xs->b6 H b.er xs
 | .nil,_,h=>h
 | .lf p l r,_,z_z=>by obtain⟨vs,ys,e,h1,h2,h3⟩:=z_z;exact #[.ref p,ys,e,AE h1 h2,XL h3]
 | .ite p t T a b r,_,z_z=>by obtain⟨qa,qb,as,bs,ys,e,h1,h2,h3,h4,h5,h6,h7⟩:=z_z;exact #[p,t,qa,qb,as,bs,ys,e,h1,h2,h3,XL h5,h4,XL h6,XL h7]
 | .loop p t T a r,_,z_z=>by obtain⟨qa,as,ys,e,h1,h2,h3,h4,h5⟩:=z_z;exact #[p,t,qa,as,ys,e,h1,h2,h3,XL h4,XL h5]
theorem za:∀(b:Bd),b.er.size=b.size
 | .nil=>rfl
 | .lf _ _ r=>congrArg (·+1) (za r)
 | .ite _ _ _ a b r=>by show a.er.size+b.er.size+r.er.size+1=a.size+b.size+r.size+1;rw[za a,za b,za r]
 | .loop _ _ _ a r=>by show a.er.size+r.er.size+1=a.size+r.size+1;rw[za a,za r]
theorem qI:∀(b:bn),b.top<=b.size
 | .nil=>Nat.le_refl _
 | .lf _ r=>Nat.succ_le_succ (qI r)
 | .ite _ a b r=>by have:=qI r;show r.top+1<=a.size+b.size+r.size+1;omega
 | .loop _ a r=>by have:=qI r;show r.top+1<=a.size+r.size+1;omega
theorem qi{ys:List Str}{T:Tm}(h:dj ys T):hV T:=#[by have:=h.2;omega,ys,h.1]
theorem wY{ys:List Str}:∀{l:Lf},l.Ok ys->l.er.Ok
 | .rd _ _ _,h=>qi h.2
 | .st _ _ _,h=>qi h.2
 | .wr _ _ _ _,h=>#[qi h.1,qi h.2]
 | .cl _ _ _ ts,h=>#[λT hT=>by obtain⟨c,hc,rfl⟩:=List.mem_map.mp hT;exact qi (h.2.2 c hc),by rw[List.length_map];have:=h.2.1;omega]
 | .gv _ _,h=>qi h
theorem J7{ys:List Str}:∀{b:Bd},b.Ok ys->b.size<=400->b.er.Ok
 | .nil,_,_=>trivial
 | .lf _ l r,h,z=>#[wY h.1,J7 h.2 (by have z':r.size+1<=400:=z;omega)]
 | .ite _ _ _ a b r,h,z=>by have z':a.size+b.size+r.size+1<=400:=z;have h1:=qI a.er;have h2:=qI b.er;rw[za]at h1 h2;exact#[#[qi h.1,OB,OB],J7 h.2.1 OB,J7 h.2.2.1 OB,J7 h.2.2.2 OB]
 | .loop _ _ _ a r,h,z=>by have z':a.size+r.size+1<=400:=z;have h1:=qI a.er;rw[za]at h1;exact#[#[qi h.1,OB],J7 h.2.1 OB,J7 h.2.2 OB]
theorem J8{F:fe}{R:Str->Nat->Prop}(k:∀f n,(f,n)∈F->R f n):∀{b:Bd},b.Cs F->b.er.cs R
 | .nil,_=>trivial
 | .lf _ l r,h=>#[by cases l with
   |cl x f q ts=>show R f (ts.map (·.2)).length;rw[List.length_map];exact k _ _ h.1
   |rd x t T=>trivial
   |st x t T=>trivial
   |wr t u T U=>trivial
   |gv t T=>trivial,J8 k h.2]
 | .ite _ _ _ a b r,h=>#[J8 k h.1,J8 k h.2.1,J8 k h.2.2]
 | .loop _ _ _ a r,h=>#[J8 k h.1,J8 k h.2]
abbrev Qd:=Df×List Str
noncomputable def Qd.pl(q:Qd):c8:=#[q.1.f,q.2,q.1.b.er]
noncomputable def Qd.mk(q:Qd):i7:=Ah q.1.f q.2 q.1.b
theorem YX{f:Str}{d:c8}:∀{qs:List Qd},bj (qs.map Qd.pl) f=some d->∃q∈qs,q.1.f=f/\d=q.pl/\gg (qs.map Qd.mk) f=some q.mk
 | [],h=>by cases h
 |q::qs,h=>by
  by_cases e:q.1.f=f
  ·have h':bj (q.pl::qs.map Qd.pl) f=some d:=h;unfold bj at h';rw[List.find?_cons,decide_eq_true (show q.pl.f=f from e)]at h';cases h';refine#[q,List.mem_cons_self,e,rfl,?_];show(if q.mk.f=f then some q.mk else _)=_;rw[if_pos (show q.mk.f=f from e)]
  ·have h':bj (q.pl::qs.map Qd.pl) f=some d:=h;unfold bj at h';rw[List.find?_cons,decide_eq_false (show ¬q.pl.f=f from e)]at h';obtain⟨r,hr,h1,h2,h3⟩:=YX (qs:=qs) h';refine#[r,List.mem_cons_of_mem _ hr,h1,h2,?_];show(if q.mk.f=f then some q.mk else gg (qs.map Qd.mk) f)=_;rw[if_neg (show ¬q.mk.f=f from e)];exact h3
theorem Yy:∀{qs:List Qd} {q:Qd},q∈qs->(qs.map λq=>q.1.f).Nodup->bj (qs.map Qd.pl) q.1.f=some q.pl/\gg (qs.map Qd.mk) q.1.f=some q.mk
 |r::qs,q,h,nd=>by
  rw[List.map_cons,List.nodup_cons]at nd;rcases List.mem_cons.mp h with rfl |h
  ·refine#[?_,?_]
   ·show bj (q.pl::qs.map Qd.pl) q.1.f=_;unfold bj;rw[List.find?_cons,decide_eq_true (show q.pl.f=q.1.f from rfl)]
   ·show(if q.mk.f=q.1.f then some q.mk else _)=_;rw[if_pos (show q.mk.f=q.1.f from rfl)]
  ·have ne:¬r.1.f=q.1.f:=λe=>nd.1 (by rw[e];exact List.mem_map.mpr #[q,h,rfl]);obtain⟨h1,h2⟩:=Yy h nd.2;refine#[?_,?_]
   ·show bj (r.pl::qs.map Qd.pl) q.1.f=_;unfold bj;rw[List.find?_cons,decide_eq_false (show ¬r.pl.f=q.1.f from ne)];exact h1
   ·show(if r.mk.f=q.1.f then some r.mk else gg (qs.map Qd.mk) q.1.f)=_;rw[if_neg (show ¬r.mk.f=q.1.f from ne)];exact h2
noncomputable def wn(qs:List Qd):fe:=qs.map λq=>(q.1.f,q.2.length)
structure sM(H:Hp)(F:fe)(q:Qd):Prop where
 bd:∃bs,c7 H q.1.b bs
 ok:iZ q.1
 cs:q.1.b.Cs F
 pa:H q.1.pa=some (.tup$ q.2.map V.str)
 l1:q.2.length<=100
theorem sM.mono{H H':Hp}{F:fe}{q:Qd}(h:sM H F q)(k:ai H H'):sM H' F q:=#[let #[bs,b]:=h.bd;#[bs,b.mono k],h.ok,h.cs,k _ _ h.pa,h.l1]
theorem wc{H:Hp}:∀{ds:List Df} {ns:List Nat},lK H ds ns->∃qs:List Qd,qs.map Prod.fst=ds/\(qs.map λq=>q.2.length)=ns/\∀q∈qs,H q.1.pa=some (.tup$ q.2.map V.str)/\q.2.length<=100
 | [],[],_=>#[[],rfl,rfl,λq h=>absurd h List.not_mem_nil]
 | [],_::_,h=>by cases h.1
 |_::_,[],h=>by cases h.1
 |d::ds,n::ns,h=>by
  obtain⟨ps,h1,h2,h3⟩:=h.2 0 d n rfl rfl;obtain⟨qs,e1,e2,e3⟩:=wc (ds:=ds) (ns:=ns) #[by have:=h.1;simpa using this,λi c m a b=>h.2 (i+1) c m (by simpa using a) (by simpa using b)];refine#[(d,ps)::qs,by rw[List.map_cons,e1],by rw[List.map_cons,e2,<- h2],λq hq=>?_];rcases List.mem_cons.mp hq with rfl |hq
  ·exact#[h1,by show ps.length<=100;omega]
  ·exact e3 q hq
theorem om{H:Hp}:∀{ds:List Df} {zs:List V},bX H ds zs->∀{d:Df},d∈ds->∃bs,c7 H d.b bs
 |c::_,_,q_q,d,hd=>by
  obtain⟨u,r,e,⟨bs,_,_,_,h⟩,h4⟩:=q_q;rcases List.mem_cons.mp hd with rfl |hd
  ·exact#[bs,h]
  ·exact om h4 hd
theorem yL{qs:List Qd}:((qs.map Prod.fst).map Df.f).zip (qs.map λq=>q.2.length)=wn qs:=by unfold wn;rw[List.map_map,List.zip_map'];rfl
theorem Bn{H:Hp}{ds:List Df}{ns:List Nat}{zs:List V}(hd:bX H ds zs)(hn:nR ds ns)(hp:lK H ds ns):∃qs:List Qd,qs.map Prod.fst=ds/\(∀q∈qs,sM H (wn qs) q)/\(qs.map λq=>q.1.f).Nodup:=by obtain⟨qs,e1,e2,e3⟩:=wc hp;subst e1;subst e2;rw[nR,yL,List.map_map]at hn;refine#[qs,rfl,λq hq=>?_,hn.2.1];have hm:q.1∈qs.map Prod.fst:=List.mem_map.mpr #[q,hq,rfl];obtain⟨h1,h2⟩:=hn.1 _ hm;exact#[om hd hm,h1,h2,(e3 q hq).1,(e3 q hq).2]
theorem xq{qs:List Qd}(nd:(qs.map λq=>q.1.f).Nodup)(f:Str)(n:Nat)(h:(f,n)∈wn qs):CM (qs.map Qd.pl) f n:=by obtain⟨q,hq,e⟩:=List.mem_map.mp h;cases e;exact#[_,(Yy hq nd).1,rfl]
theorem By{H:Hp}{qs:List Qd}(h:∀q∈qs,sM H (wn qs) q)(nd:(qs.map λq=>q.1.f).Nodup):Sd (qs.map Qd.pl):=λd hd=>by obtain⟨q,hq,rfl⟩:=List.mem_map.mp hd;have z:=h q hq;exact#[by show q.1.b.er.size<=400;rw[za];exact z.ok.2.2,J8 (xq nd) z.cs]
theorem DX{H:Hp}{ys:List Str}{m:Nat}:sw H ys m 0 nJ:=#[λx h=>absurd h List.not_mem_nil,#[λ_ h=>absurd h List.not_mem_nil,Nat.le_refl _,trivial]]
theorem ZT{H:Hp}{F:fe}{ys:List Str}{b:Bd}{bs:List V}(hb:c7 H b bs)(ho:b.Ok ys)(hc:b.Cs F):sw H ys b.cuts b.size (il b).1/\∀c∈(il b).2,sF F H ys b.cuts b.size c:=by have z:=qH (m:=b.cuts) (N:=0) b hb ho hc DX (fs:=[]) (λ_ h=>absurd h List.not_mem_nil) (by show 0+_<=_;omega);rw[Nat.zero_add]at z;exact z
theorem tI{H:Hp}{qs:List Qd}(h:∀q∈qs,sM H (wn qs) q):wF (qs.map Qd.pl) (qs.map Qd.mk):=λf d e=>by obtain⟨q,hq,rfl,rfl,h3⟩:=YX e;refine#[q.1.b,rfl,h3,λi c hc x hx=>?_];obtain⟨bs,hb⟩:=(h q hq).bd;obtain⟨⟨ys,_,ho⟩,_⟩:=(h q hq).ok;exact ZD ((ZT hb ho (h q hq).cs).2 c$ List.mem_of_getElem? hc).mem x hx
theorem wb{H:Hp}{pA:Addr}{xs:List V}:∀{qs:List Qd} {xs:List V} {F:fe},bX H (qs.map Prod.fst) xs->(∀q∈qs,sM H F q)->dy H (qs.map Qd.pl) xs
 | [],_,_,h,_=>h
 |q::qs,xs,F,h,k=>by obtain⟨u,r,e,⟨bs,e1,e2,e3,e4⟩,h4⟩:=h;exact#[u,r,e,#[_,_,_,bs,e1,e2,(k q List.mem_cons_self).pa,e3,XL e4],wb (pA:=pA) (xs:=xs) h4 λc hc=>k c (List.mem_cons_of_mem _ hc)]
structure Ps(H:Hp)(nA pA:Addr)(qs:List Qd)(xs:List V):Prop where
 at':H pA=some (.tup xs)
 tr:cq H (bo ((qs.map Prod.fst).map$ i8 nA)) .non xs
 q:∀q∈qs,sM H (wn qs) q
 nd:(qs.map λq=>q.1.f).Nodup
 l8:qs.length<=1000
theorem Ps.mono{H H':Hp}{nA pA:Addr}{qs:List Qd}{xs:List V}(h:Ps H nA pA qs xs)(k:ai H H'):Ps H' nA pA qs xs:=#[k _ _ h.at',h.tr.mono k,λq hq=>(h.q q hq).mono k,h.nd,h.l8]
structure DR(H:Hp)(nA:Addr)(F:fe)(ys:List Str)(m N:Nat)(c:cp)(ka na wa:Addr)(dv:V)(wvs:List V):Prop where
 at':H ka=some (.tup [.ref na,dv,.ref wa])
 nms:H na=some (.tup ((canon c.M).map V.str))
 deed:cq H (Cy c.e.dd) dv []
 wat:H wa=some (.tup wvs)
 ways:cq H (bo ((c.ws.map$ WD.wy nA).map fk)) .non wvs
 v:sF F H ys m N c
 len:c.ws.length=c.e.dd.ways
theorem xK{nA:Addr}{d:Df}:pI nA d=((il d.b).1.pc nA,(il d.b).2.map$ cp.ct nA):=by have z:=qG nA d.b.cuts d.b nJ [] (by show 0+_<=_;omega);exact z
theorem Ps.part{H:Hp}{nA pA:Addr}{qs:List Qd}{xs:List V}(h:Ps H nA pA qs xs){q:Qd}(hq:q∈qs):∃(i:Nat) (v:V) (a ca:Addr) (wv:V) (cs:List V),xs[i]?=some v/\v= .ref a/\(∀(k:Nat) (x:V),xs[k]?=some x->∃(p:Addr) (r:List V) (g:Str),x= .ref p/\H p=some (.tup (.str g::r))/\(g=q.1.f↔k=i))/\H a=some (.tup [.str q.1.f,.ref q.1.pa,wv,.ref ca])/\cq H (fk ((il q.1.b).1.w.wy nA)) wv []/\H ca=some (.tup cs)/\cq H (bo (((il q.1.b).2.reverse.map$ cp.ct nA).map Az)) .non cs:=by
 obtain⟨i,hi,e⟩:=List.mem_iff_getElem.mp hq;have eq0:qs[i]?=some q:=by rw[<- e];exact List.getElem?_eq_getElem hi
 have lx:=zj h.tr;rw[List.length_map,List.length_map]at lx;have tx:∀(j:Nat) (x:V),xs[j]?=some x->∃c,qs[j]?=some c/\cq H (i8 nA c.1) x []:=λj x hx=>by obtain⟨tr,ht,tx⟩:=Kg h.tr j x hx;rw[List.getElem?_map]at ht;obtain⟨c,hc,rfl⟩:=Option.map_eq_some_iff.mp ht;rw[List.getElem?_map]at hc;obtain⟨z,hz,rfl⟩:=Option.map_eq_some_iff.mp hc;exact#[z,hz,tx]
 have hv:xs[i]?=some (xs[i]'OB):=List.getElem?_eq_getElem OB;obtain⟨c,hc,tv⟩:=tx _ _ hv;rw[eq0]at hc;cases hc;generalize xs[i]'OB=v at hv tv;obtain⟨_,a,zs,rfl,ha,_,_,y0,ys0,rfl,⟨rfl,_⟩,_,_,y1,ys1,rfl,⟨rfl,_⟩,_,_,wv,ys2,rfl,hw,_,_,y3,ys3,rfl,hcc,e⟩:=tv;have e:ys3=[]:=e;subst e;obtain⟨_,ca,cs,rfl,hca,hcs⟩:=hcc;rw[xK]at hw hcs;refine#[i,_,a,ca,wv,cs,hv,rfl,λk x hx=>?_,ha,hw,hca,by rw[List.map_reverse];exact hcs];obtain⟨c,hc,t2⟩:=tx k x hx;obtain⟨_,p,zs,rfl,hp,_,_,y0,ys0,rfl,⟨rfl,_⟩,_⟩:=t2;refine#[p,ys0,c.1.f,rfl,hp,λe=>?_,λe=>?_]
 ·have h1:(qs.map λq=>q.1.f)[k]?=some c.1.f:=by rw[List.getElem?_map,hc];rfl
  have h2:(qs.map λq=>q.1.f)[i]?=some q.1.f:=by rw[List.getElem?_map,eq0];rfl
  rw[<- e]at h2;exact(List.getElem?_inj (List.getElem?_eq_some_iff.mp h1).1 h.nd).mp (h1.trans h2.symm)
 ·subst e;rw[eq0]at hc;cases hc;rfl
theorem XN(m:Nat):∀(b:Bd) (pc:fF) (fs:List cp),(∀c∈fs,c.ws.length=c.e.dd.ways)->∀c∈(aI m b pc fs).2,c.ws.length=c.e.dd.ways
 | .nil,_,_,h=>h
 | .lf p l r,pc,fs,h=>by
  have z:=XN m r pc fs h;show ∀c∈(ym m p l$ aI m r pc fs).2,_;have one:∀(k:cp),k.ws.length=k.e.dd.ways->∀c∈(aI m r pc fs).2++[k],c.ws.length=c.e.dd.ways:=λk hk c hc=>by
   rcases List.mem_append.mp hc with y |y
   ·exact z c y
   ·rw[List.mem_singleton.mp y];exact hk
  cases l with
  |gv t T |st x t T=>exact z
  |rd x t T |wr t u T U |cl x f q ts=>exact one _ rfl
 | .ite p t T a c r,pc,fs,h=>by
  have z1:=XN m r pc fs h;have z2:=XN m c (aI m r pc fs).1 (aI m r pc fs).2 z1;have z3:=XN m a (aI m r pc fs).1 (aI m c (aI m r pc fs).1 (aI m r pc fs).2).2 z2;unfold aI;dsimp only;intro e he;rcases List.mem_append.mp he with y |y
  ·exact z3 e y
  ·rw[List.mem_singleton.mp y];rfl
 | .loop p t T a r,pc,fs,h=>by
  have z1:=XN m r pc fs h;unfold aI;dsimp only;intro e he;rcases List.mem_append.mp he with y |y
  ·exact XN m a _ (aI m r pc fs).2 z1 e y
  ·rw[List.mem_singleton.mp y];rfl
theorem sh{b:Bd}(c:cp)(h:c∈(il b).2):c.ws.length=c.e.dd.ways:=XN _ b nJ [] (λ_ h=>absurd h List.not_mem_nil) c h
theorem wT{H:Hp}{nA:Addr}{F:fe}{ys:List Str}{b:Bd}{bs:List V}{cs:List V}(hb:c7 H b bs)(ho:b.Ok ys)(hc:b.Cs F)(hcs:cq H (bo (((il b).2.reverse.map$ cp.ct nA).map Az)) .non cs){n:Nat}(hn:n < b.cuts):∃(c:cp) (ka na wa:Addr) (dv:V) (wvs:List V),(il b).2.reverse[n]?=some c/\cs[n]?=some (.ref ka)/\DR H nA F ys b.cuts b.size c ka na wa dv wvs:=by have lc:=zj hcs;rw[List.length_map,List.length_map,List.length_reverse,Jt]at lc;have hx:cs[n]?=some (cs[n]'OB):=List.getElem?_eq_getElem OB;obtain⟨tr,ht1,tx⟩:=Kg hcs n _ hx;rw[List.getElem?_map,List.getElem?_map]at ht1;obtain⟨c1,hc1,rfl⟩:=Option.map_eq_some_iff.mp ht1;obtain⟨c,hcc,rfl⟩:=Option.map_eq_some_iff.mp hc1;have hm:c∈(il b).2:=List.mem_reverse.mp (List.mem_of_getElem? hcc);have cv:=(ZT hb ho hc).2 c hm;generalize cs[n]'OB=x at hx tx;obtain⟨_,ka,kv,rfl,hka,_,_,n1,nr,rfl,hn1,_,_,dv,dr,rfl,hdv,_,_,wv,wr,rfl,hwv,e⟩:=tx;have e:wr=[]:=e;subst e;obtain⟨_,na,nv,rfl,hna,hnv⟩:=hn1;obtain⟨_,wa,wvs,rfl,hwa,hws⟩:=hwv;rw[YV hnv]at hna;exact#[c,ka,na,wa,dv,wvs,hcc,hx,hka,hna,hdv,hwa,hws,cv,sh c hm]
theorem ZI{K:Frag}{a:Addr}{xs:List V}{i0:Nat}{v:V}{tt:TT}{te:TE}{Qf:List V->Hp->Prop}{σt:_L.St}{H:Hp}(hq:aD K H a xs)(hz:xs.length<=1000)(hv:xs[i0]?=some v)
  (ht:∀i x (Q:Bool->Hp->Prop),xs[i]?=some x->Q (decide$ i=i0) H->tt (some x::σt) H Q)
  (he:∀x (Q:VK),Q x H->te (some x::σt) H Q) (hd:Qf [v] H):dW (su K a) 1 σt (bf 0) tt te Qf H:=by
 have big:=zc;have hi0:i0 < xs.length:=(List.getElem?_eq_some_iff.mp hv).1;refine#[λi m zs H'=>m=xs.length - i/\i<=xs.length/\zs=(if i<=i0 then [] else [v])/\H'=H,#[xs.length,OD,Nat.zero_le _,by rw[if_pos$ Nat.zero_le _],rfl],?_];rintro i m zs H' ⟨rfl,hi,rfl,rfl⟩;by_cases hlt:i < xs.length
 ·refine .inr #[#[xs,xs[i],hq,List.getElem?_eq_getElem hlt],by split<;>simp<;>omega,λzs' H2=>zs'=(if i+1<=i0 then [] else [v])/\H2=H',λzs' H2 #[p1,p2]=>#[xs.length - (i+1),OB,rfl,hlt,p1,p2],λw H2 ts hts y=>?_];obtain⟨e,y⟩:=y;subst e;have hw:=y xs hq;obtain⟨_,rfl⟩:=oI hts;refine#[#[[some _],rfl,rfl],ht i w _ hw ?_];by_cases z:i=i0
  ·subst z;rw[hv]at hw;cases hw;refine bR (decide_eq_true rfl)$ he _ _ #[?_,rfl];rw[if_pos$ Nat.le_refl _,if_neg OB];rfl
  ·refine aE (decide_eq_false z) #[?_,rfl];by_cases z2:i<=i0
   ·rw[if_pos z2,if_pos OB]
   ·rw[if_neg z2,if_neg OB]
 ·have e:i=xs.length:=by omega
  subst e;refine .inl #[#[xs,hq,Nat.le_refl _],?_];rw[if_neg OB];exact hd
theorem Av{v u w:V}{ys:List V}:dF (v::u::w::ys) 2=some w:=jW (j:=2) rfl
theorem DF{v u w z:V}{ys:List V}:dF (v::u::w::z::ys) 3=some z:=jW (j:=3) rfl
noncomputable def DN(b:Bool)(xs:List V):HO:=match b with
 |true=>.lst xs
 |false=>.tup xs
theorem yQ{K:Frag}{H:Hp}{a:Addr}{xs:List V}:∀{b:Bool},H a=some (DN b xs)->Cr K b H a xs
 |true,h=>aF.of h
 |false,h=>aD.of h
theorem tG:∀(ss:List Str),(ss.map (Sum.inr:Str->aY)).map kV=ss.map V.str:=λss=>by rw[List.map_map];rfl
noncomputable abbrev gJ:Stmt:=top 57
inductive dO(K:Frag)(g:Addr)(n:Nat)(m:List V)(H:Hp)(Q:VK)(b:XK):Prop
 |mk(j:Nat)(d:Bool)(h c l o e:Addr)(k:List Qd)(p:List V)(q:Qd)(f:List Int)(C L:aG)(t M:Nat)(_:n=j+1)(_:m=[.ref h,.str q.1.f,.ref c,.ref l,.int (15 - (j:Int))])(_:Ps H g h k p)(_:q∈k)(_:H c=some (DN d (f.map V.int)))(_:f.length=q.2.length)(_:∀i∈f,dS i)(_:Sx H l o e C L t M "done")(_:t<=M)(_:M<=1000)(_:j<=15)(_:∀(a:Int) (L':aG) (t':Nat) (H':Hp),cE M (k.map Qd.mk) C n q.1.f f L t= .ok a L' t'->Sx H' l o e C L' t' M "done"->t<=t'->t'<=M->dS a->Fr l o H H'->Q (.int a) H')(_:∀(L':aG) (t':Nat) (H':Hp),cE M (k.map Qd.mk) C n q.1.f f L t= .long->Sx H' l o e C L' t' M "long"->Fr l o H H'->Q .non H')(_:∀(L':aG) (t':Nat) (H':Hp),cE M (k.map Qd.mk) C n q.1.f f L t= .deep->Sx H' l o e C L' t' M "deep"->Fr l o H H'->Q .non H')
theorem QC{α:Type}{l:List α}{i:Nat}{x:α}(h:l[i]?=some x):l.take (i+1)=l.take i++[x]:=by rw[List.take_succ,h];rfl
def Du(nA:Addr):Gl->Str->V->Prop
 | .give t _,wd,u=>wd="give"/\u= .ref t
 | .nought,wd,u=>wd="give"/\u= .ref nA
 | .go n,wd,u=>wd="go"/\u= .int (n:Int)
theorem wJ.gow{H:Hp}{nA:Addr}{w:WD}{wa sa ga:Addr}{ss:List V}{wd:Str}{u:V}(h:wJ H nA w wa sa ga ss wd u):Du nA w.goal wd u:=by
 have z:=h.goal
 revert z
 cases w.goal<;>exact id
theorem Fr.none{sA wA cA r:Addr}{H H':Hp}{C L:aG}{t M:Nat}{w:Str}(f:Fr sA wA H H')(S:Sx H' sA wA cA C L t M w)(h:H' r=none):H r=none:=by
 cases e:H r with
 |none=>rfl
 |some o=>
  by_cases n1:r=sA
  ·rw[n1,S.st]at h;cases h
  ·by_cases n2:r=wA
   ·rw[n2,S.wr]at h;cases h
   ·rw[f r o n1 n2 e]at h;cases h
theorem A0{q:Qd}{n:Nat}{c:cp}(h:(il q.1.b).2.reverse[n]?=some c):q.mk.cs[n]?=some c.cd:=by show((il q.1.b).2.map cp.cd).reverse[n]?=some c.cd;rw[<- List.map_reverse,List.getElem?_map,h];rfl
inductive DE(nA pA ag sA wA cA:Addr)(f:Str)(dp:V)(a:Addr)(q:Qd)(C:aG)(M:Nat)(call:sq)(ys:List Str)(R:OC)(H0:Hp)(tb:Nat)(m:Nat)(σ:_L.St)(H':Hp):Prop
 |mk (o8 o9 o10 o11 o12:Option V) (hA ga:Addr) (wd:Str) (u:V) (g:Gl) (k L:aG) (t:Nat) (e0:σ=[some (.ref pA),some (.str f),some (.ref ag),some (.ref sA),some dp,some (.ref a),some (.ref hA),some (.ref ga),o8,o9,o10,o11,o12])
  (e1:Sx H' sA wA cA C L t M "done") (e2:t<=M) (e3:H' hA=some (.dK k)) (e4:GT k) (e5:H' ga=some (.tup [.str wd,u])) (e6:Du nA g wd u) (e7:Al H' ys q.1.b.cuts g) (e8:dY M call C q.mk m (cX (mv q.mk) k g) L t=R) (e9:M+2<=m+t) (e10:Fr sA wA H0 H') (e11:tb<=t):DE nA pA ag sA wA cA f dp a q C M call ys R H0 tb m σ H'
theorem bY:al z29z z14z (aa gJ):=bZ
noncomputable def ZJ:Scope:=#[.function,[(".0",.local),("_law_one",.local),("_law_f",.free)],false,false,[]]
theorem xP:(["_law_one","_law_f"]:List Str).Nodup:=by decide+kernel
theorem wQ:a7 z29z (aa gJ) ZJ ["_law_one","_law_f"] 1 [1]:=nE
noncomputable def ZK:Scope:=#[.function,[(".0",.local),("_law_x",.local),("_law_held",.free)],false,false,[]]
theorem xQ:(["_law_x","_law_held"]:List Str).Nodup:=by decide+kernel
theorem wR:a7 z29z (aa gJ) ZK ["_law_x","_law_held"] 1 [6]:=nE
noncomputable def ZL:Scope:=#[.function,[(".0",.local),("_law_term_here",.local),("_law_worth",.globalImplicit),("_law_held",.free)],false,false,[]]
theorem xR:(z7z:List Str).Nodup:=by decide+kernel
theorem wS:a7 z29z (aa gJ) ZL z7z 1 [6]:=nE
theorem uo{f:Addr}{fd:FuncData}{j0:Nat}{nA fG fW fR fS:Addr}{fdG fdW fdR fdS:FuncData}(F:aU K "_law_went" "_law_went" gJ f fd)(cG:Cl P w K mg base 8 fG fdG ["_law_way","_law_held"] (fi nA) "_law_gone")(cW:Cl P w K mg base 7 fW fdW z7z (ig K 6) "_law_worth")(cR:Cl P w K mg base 1 fR fdR z21z gX "_law_read")(cS:Cl P w K mg base (j0+9) fS fdS z14z (dO K nA j0) "_law_went")(mdi:mg "dict"=none)(mzi:mg "zip"=none)(hnA:iu K nA):aj P w K mg base aC (j0+10) f fd z14z (dO K nA$ j0+1):=by
 refine F.ok bY ?_ λcdv A outer s H vs Q E hr h=>?_
 ·rintro _ _ _ _ ⟨j,b2,pA,ag,sA,wA,cA,qs,xs,q,is,C,L,t,M,hj,rfl,_⟩;rfl
 obtain⟨j,b2,pA,ag,sA,wA,cA,qs,xs,q,is,C,L,t,M,hj,rfl,hP,hq,ha,hl,hi,S,tM,M1,j15,q1,q2,q3⟩:=h;refine#[_,(jd (jy 5 bY.nd$ jv jo (@kn _ _ _ _ _ _ _ (["_law_one","_law_f"]) (1) ([1]) _ _ _ _ rfl (zq$ pv 0) wQ (λ_ _ _ _ _=>(jr (i:=0) xP rfl$ Or.inl rfl)) (λ_ _ _ _ _=>(@Z4 _ _ _$ jA zD (jv (r:=i9 K) zU (pv 0) je (λ_ _=>rfl)) (pv 1)$ aA _)) (λ_ _ _ _ _=>(pv 0)) (by intro _;rfl)) je (λ_ _=>rfl))$ jd (j3 (i:=6) bY.nd rfl (Or.inr rfl)$ cG.e hr.m$ ja (jx$ pv 5)$ ja (@pq _ _ _ _ _ _ _ _ rfl mdi rfl mzi rfl (ja (jx$ pv 5)$ ja (pv 2) jb) OF OF OF OF) jb)$ jd (jy 7 bY.nd$ jx$ jv zU (pv 5) je (λ_ _=>rfl))$ jd (Kk PassesOwn.never (jZ$ jx$ pv 7)$ jd (kH (jv zU (jx$ pv 5) (jx$ pv 7) (λ_ _=>rfl))$ zT (n:=3) rfl$ jz (jr (i:=8) bY.nd rfl$ Or.inl rfl)$ jz (jr (i:=9) bY.nd rfl$ Or.inl rfl)$ jz (jr (i:=10) bY.nd rfl$ Or.inl rfl) kK)$ jd (j3 (i:=6) bY.nd rfl (Or.inr rfl)$ jC (Yi rfl) rfl mdi boot_dict$ ja (@kn _ _ _ _ _ _ _ (["_law_x","_law_held"]) (1) ([6]) _ _ _ _ rfl (zq$ pv 8) wR (λ_ _ _ _ _=>(jr (i:=0) xQ rfl$ Or.inl rfl)) (λ_ _ _ _ _=>(@zr _)) (λ_ _ _ _ _=>(ji$ ja (pv 0)$ ja (@zL _ _ _ _ _ _ _ _ _ (jN hr) (pv 1) (pv 0) je #[OF,OF,OF,OF]) jb)) (by intro _;rfl)) jb)$ jd (ju (jA zD (kL (jN hr) (pv 3) jj (λ_ _=>rfl)) (kL (jN hr) (pv 3) jj (λ_ _=>rfl))$ aA _) (jd (kx (jN hr) (pv 3) jj jj rfl)$ jg$ jl$ @qB _ _ _) jm)$ jd (kx (jN hr) (pv 3) jj (jq jO (kL (jN hr) (pv 3) jj (λ_ _=>rfl)) je) rfl)$ jd (jy 11 bY.nd$ jx$ pv 10)$ jd (ju (PW.pt$ Ka (jZ$ jx$ pv 9)$ qR$ jA zD (cW.e hr.m$ ja (jx$ pv 9)$ ja (pv 6) jb) je$ aA _) (jg$ jy 11 bY.nd$ jx$ pv 10) jm)$ jd (ju (jZ$ jx$ pv 9) (jg$ kx (jN hr) (pv 6) (jx$ pv 9) (cR.e hr.m$ ja (pv 3)$ ja (cW.e hr.m$ ja (jx$ pv 9)$ ja (pv 6) jb) jb) rfl) jm)$ jd (ju (jZ$ jx$ pv 9) (jg$ kx (jN hr) (kL (jN hr) (pv 3) jj (λ_ _=>rfl)) (cW.e hr.m$ ja (jx$ pv 9)$ ja (pv 6) jb) (cW.e hr.m$ ja (jx$ pv 9)$ ja (pv 6) jb) rfl) jm)$ jd (ju (jZ$ jx$ pv 9) (jd (ju (zb$ pv 4) (jd (kx (jN hr) (pv 3) jj jj rfl)$ jg$ jl$ @qB _ _ _) jm)$ jd (jy 12 bY.nd$ cS.e hr.m$ ja (pv 0)$ ja (jx$ pv 9)$ ja (@kn _ _ _ _ _ _ _ (z7z) (1) ([6]) _ _ _ _ rfl (zq$ jx$ pv 9) wS (λ_ _ _ _ _=>(jr (i:=0) xR rfl$ Or.inl rfl)) (λ_ _ _ _ _=>(@zr _)) (λ_ _ _ _ _=>(cW.e hr.m$ ja (pv 0)$ ja (pv 1) jb)) (by intro _;rfl))$ ja (pv 3)$ ja (jq jO (pv 4) je) jb)$ jd (ju (jA yj (pv 12) (@qB _ _ _)$ aA _) (jg$ jl$ @qB _ _ _) jm)$ jg$ kx (jN hr) (pv 6) (jx$ pv 9) (pv 12) rfl) jm)$ jd (j3 (i:=6) bY.nd rfl (Or.inr rfl)$ cG.e hr.m$ ja (pv 11)$ ja (pv 6) jb)$ jg$ jy 7 bY.nd$ jx$ pv 11)$ jg$ jl$ cW.e hr.m$ ja (jx$ pv 7)$ ja (pv 6) jb),?_];have big:=aQ;have ej:j0=j:=by omega
 subst ej;obtain⟨i,v,a,ca,wv,cs,hv,rfl,names,hpa,hw,hca,hcs⟩:=hP.part hq;obtain⟨⟨ys,y20,ok⟩,dep,sz⟩:=(hP.q q hq).ok;obtain⟨bs,hbd⟩:=(hP.q q hq).bd;have hcs':=(hP.q q hq).cs;have mkv:=ZT hbd ok hcs';have hxl:xs.length<=1000:=by have lx:=zj hP.tr;rw[List.length_map,List.length_map]at lx;rw[lx];exact hP.l8
 have hps:=(hP.q q hq).pa;have hpl:=(hP.q q hq).l1;have etot:cE M (qs.map Qd.mk) C (j0+1) q.1.f is L t=dY M (cE M (qs.map Qd.mk) C j0) C q.mk (M+2) (cX (mv q.mk) (bM q.mk.way.sets$ aw q.mk.ps is) q.mk.way.goal) L t:=by show(match gg (qs.map Qd.mk) q.1.f with |none=>OC.long |some pd=>dY M (cE M (qs.map Qd.mk) C j0) C pd (M+2) (cX (mv pd) (bM pd.way.sets$ aw pd.ps is) pd.way.goal) L t)=_;rw[(Yy hq hP.nd).2]
 rw[etot]at q1 q2 q3;generalize hR:dY M (cE M (qs.map Qd.mk) C j0) C q.mk (M+2) (cX (mv q.mk) (bM q.mk.way.sets$ aw q.mk.ps is) q.mk.way.goal) L t=R at q1 q2 q3;clear etot;refine ah λF1 f1=>#[_,rfl,pA,rfl,#[_,aD.of hP.at'],ZI (aD.of hP.at') hxl hv (λk x Q' hx hq'=>?_) (λx Q' hq=>#[_,rfl,hq]) λl nl=>?_]
 ·obtain⟨p',r',g',rfl,hp',iff⟩:=names k x hx;refine(jp hp' fg #[_,rfl,rfl,_,rfl,?_]);by_cases z:k=i
  ·rw[decide_eq_true z]at hq';rw[iff.mpr z,decide_eq_true rfl];exact hq'
  ·rw[decide_eq_false z]at hq';rw[decide_eq_false λe=>z (iff.mp (by injection e))];exact hq'
 have s1:ae H (af H l$ .lst [V.ref a]):=jf nl;refine#[l,_,_,_,rfl,rfl,aF.of jc,fg,f1 _ _ ?_];clear f1;generalize af H l (.lst [V.ref a])=H1 at s1 ⊢;have zl:=YU (ns:=q.2) (is:=is);have gz:GT (aw q.2 is):=sk hi;have ha1:Cr K b2 H1 ag (is.map V.int):=yQ (s1 _ _ ha);refine ah λF1 f1=>(jp (s1 _ _ hpa) Av$ jp (s1 _ _ hpa) nZ #[_,rfl,b2,q.1.pa,ag,q.2.map Sum.inr,_,rfl,by rw[tG];exact aD.of$ s1 _ _ hps,ha1,by rw[List.length_map,List.length_map,hl],λdl ndl=>?_]);have s2:ae H1 (af H1 dl$ .dK$ aw q.2 is):=jf ndl;have d2:af H1 dl (.dK$ aw q.2 is) dl=some (.dK$ aw q.2 is):=jc;have S2:=s1.trans s2;have tm2:=ae.tm S2;refine#[wv,dl,ys,q.1.b.cuts,q.1.b.size,(il q.1.b).1.w,aw q.2 is,rfl,hw.mono tm2,mkv.1.way.mono tm2,OB,d2,gz,OB,λhA H3 nhA hhA s3=>f1 _ _ ?_];clear f1;have S3:=S2.trans s3;have S0:=S;have S3':=S.same S3;obtain⟨w0,sa0,ga0,ss0,wd0,u0,ewv,wy0⟩:=QQ (hw.mono$ ae.tm S3);refine ah λF1 f1=>(jp (S3 _ _ hpa) Av #[w0,_,_,_,ewv,rfl,aD.of wy0.at',nZ,f1 _ _ ?_]);clear f1;refine ah λF1 f1=>me (DE nA pA ag sA wA cA q.1.f (.int (15 - (j0:Int))) a q C M (cE M (qs.map Qd.mk) C j0) ys R H t) (M+2) #[none,none,none,none,none,hA,ga0,wd0,u0,(il q.1.b).1.w.goal,_,L,t,rfl,S3',tM,hhA,JV mkv.1.way.sets gz,wy0.gat,wy0.gow,mkv.1.way.goal.mono$ ae.tm S3,hR,OB,Fr.of_same S3,Nat.le_refl t] λm σ H4 E rt nxt Fc ft ff Gq kq h=>?_;obtain⟨o8,o9,o10,o11,o12,hA,ga,wd,u,g,k,L,tt,rfl,S,tM,hhA,gk,hga,gow,glv,htot,fuel,fr,tb⟩:=h;refine kq$ jp hga fg #[rfl,_,rfl,?_];clear kq;have tm4:ai H H4:=Fr.tm fr S0;cases g with
 |give ta T=>obtain⟨rfl,rfl⟩:=gow;rw[show decide (V.str "give"=V.str "go")=false from by decide+kernel];refine ff _$ f1 _ _ ?_;obtain⟨m',rfl⟩:∃m',m=m'+1:=#[m - 1,OB];have eR:R= .ok (T.ev k) L tt:=htot.symm;refine(jp hga nZ #[_,rfl,ta,hA,T,ys,k,rfl,.inl glv.1,glv.2.2,glv.2.1,hhA,gk,λH5 s5=>q1 _ _ _ _ eR (S.same s5) tb tM (zE gk glv.2.1) (fr.trans$ Fr.of_same s5)])
 |nought=>obtain⟨rfl,rfl⟩:=gow;rw[show decide (V.str "give"=V.str "go")=false from by decide+kernel];refine ff _$ f1 _ _ ?_;obtain⟨m',rfl⟩:∃m',m=m'+1:=#[m - 1,OB];have eR:R= .ok 0 L tt:=htot.symm;refine(jp hga nZ #[_,rfl,nA,hA,.num 0,ys,k,rfl,.inr #[rfl,hnA _],OA,zW,hhA,gk,λH5 s5=>q1 _ _ _ _ eR (S.same s5) tb tM zW (fr.trans$ Fr.of_same s5)])
 |go n=>
  obtain⟨rfl,rfl⟩:=gow;rw[show decide (V.str "go"=V.str "go")=true from by decide+kernel];refine ft _ ?_;clear ff ft f1;obtain⟨m',rfl⟩:∃m',m=m'+1:=#[m - 1,OB];obtain⟨c,ka,na,wa,dv,wvs,hc,hka,cu⟩:=wT (hbd.mono tm4) ok hcs' (hcs.mono tm4) (n:=n) glv;have hcd:=A0 hc;have hpa4:=tm4 _ _ hpa;have hca4:=tm4 _ _ hca;refine ah λF1 f1=>(jp hpa4 DF$ jp hga nZ #[ca,_,_,_,rfl,rfl,aD.of hca4,jW hka,ka,_,rfl,aD.of cu.at',rfl,_,_,rfl,_,_,rfl,_,_,rfl,rfl,f1 _ _ ?_]);clear f1;generalize ehs:((canon c.M).map λx=>look k (.inr x) 0)=hs;have hs20:(canon c.M).length<=20:=Nat.le_trans (ZB cu.v.mem) y20;refine ah λF1 f1=>#[_,rfl,na,rfl,#[_,aD.of cu.nms],zo (xs:=(canon c.M).map V.str) (by rw[List.length_map];exact Nat.le_trans hs20 OA) (λi zs H5=>∃ps:List Addr,zs=ps.map V.ref/\aX H5 ps (((canon c.M).take i).map λx=>(Sum.inr x,V.int$ look k (.inr x) 0))/\ps.length=i/\ae H4 H5) #[[],rfl,trivial,rfl,ae.refl H4] (λi zs H5 h=>?_) (λi x zs H5 hx h=>?_) (λzs H5 h l nl=>?_)]
  ·obtain⟨ps,rfl,_,lps,s5⟩:=h;exact#[aD.of$ s5 _ _ cu.nms,by rw[List.length_map,lps];exact Nat.le_refl _]
  ·obtain⟨ps,rfl,pr,lps,s5⟩:=h;rw[List.getElem?_map]at hx;obtain⟨y,hy,rfl⟩:=Option.map_eq_some_iff.mp hx;have hh5:=s5 _ _ hhA;refine#[_,rfl,_,rfl,hA,rfl,.inl #[_,.inl hh5],_,rfl,_,bp.k (k:=.inr y) hh5,?_];rw[zO gk];refine#[cj,λp np=>#[ps++[p],by rw[List.map_append];rfl,?_,by rw[List.length_append,lps];rfl,s5.trans$ jf np]];rw[QC hy,List.map_append];exact(pr.mono (λb xs e=>jf np _ _ e)).snoc jc
  obtain⟨ps,rfl,pr,lps,s5⟩:=h;rw[List.length_map,List.take_length]at pr;refine#[l,ps,_,rfl,jc,pr.mono (λb xs e=>jf nl _ _ e),λdh ndh=>f1 _ _ ?_];clear f1;have ez:aT [] ((canon c.M).map λx=>((Sum.inr x:aY),V.int$ look k (.inr x) 0))=aw (canon c.M) hs:=by rw[<- ehs];unfold aw;rw[List.map_map,List.zip_map'];rfl
  rw[ez];have s6:ae H4 (af (af H5 l$ .lst$ ps.map V.ref) dh$ .dK$ aw (canon c.M) hs):=(s5.trans$ jf nl).trans (jf ndh);have n4:H4 dh=none:=by
   cases e:H4 dh with
   |none=>rfl
   |some o=>rw[(s5.trans (jf nl)) _ _ e]at ndh;cases ndh
  have hdh:af (af H5 l$ .lst$ ps.map V.ref) dh (.dK$ aw (canon c.M) hs) dh=some (.dK$ aw (canon c.M) hs):=jc;generalize af (af H5 l$ .lst$ ps.map V.ref) dh (.dK$ aw (canon c.M) hs)=H6 at s6 hdh ⊢;clear pr nl s5 ndh ez;have S6:=S.same s6;have fr6:=fr.trans (Fr.of_same s6);have gT:bp H6 sA (V.str "turns") (some$ .int (tt:Int)):=bp.k (k:=.inr "turns") S6.st;have gM:bp H6 sA (V.str "most") (some$ .int (M:Int)):=bp.k (k:=.inr "most") S6.st;have htot':(match mj M (cE M (qs.map Qd.mk) C j0) C (aw (canon c.M) hs) L tt c.e with | .ok w L1 t1=>dY M (cE M (qs.map Qd.mk) C j0) C q.mk m' (nG q.mk c.cd hs w) L1 t1 | .long=>.long | .deep=>.deep)=R:=by
   have z:(match q.mk.cs[n]? with
    |none=>OC.long
    |some c=>match mj M (cE M (qs.map Qd.mk) C j0) C (aw c.nm ((mv q.mk n).map λx=>look k (.inr x) 0)) L tt c.e with
     | .ok w L1 t1=>dY M (cE M (qs.map Qd.mk) C j0) C q.mk m' (nG q.mk c ((mv q.mk n).map λx=>look k (.inr x) 0) w) L1 t1
     | .long=>.long
     | .deep=>.deep)=R:=htot
   rw[oR hcd,hcd,show c.cd.nm=canon c.M from rfl,ehs]at z;exact z
  clear htot;refine ah λF1 f1=>#[_,rfl,sA,_,rfl,gT,_,rfl,sA,_,rfl,gM,rfl,_,rfl,?_];by_cases tl:tt=M
  ·rw[decide_eq_true (by rw[tl])];rw[JX OB]at htot';refine bR rfl #[_,rfl,sA,_,rfl,dZ.k (k:=.inr "word") S6.st (by show 5 < sizeLine;decide),?_];show E.rt .non (af H6 sA$ .dK$ stk wA cA tt M "long");rw[rt];exact q2 _ _ _ htot'.symm (S6.put (Nat.le_refl tt) "long") (fr6.trans λb o n1 _ e=>by rw[jh n1];exact e)
  have tlt:tt < M:=by omega
  rw[decide_eq_false (λz=>tl (by injection z with z;omega))];refine aE rfl$ f1 _ _ ?_;clear f1;refine ah λF1 f1=>#[_,rfl,sA,_,rfl,gT,_,_,rfl,rfl,_,rfl,sA,_,rfl,dZ.k (k:=.inr "turns") S6.st (by show 5 < sizeLine;decide),f1 _ _ ?_];clear f1;show dU _ _ _ _ (af H6 sA$ .dK$ stk wA cA (tt+1) M "done");have S7:=S6.put (Nat.le_succ tt) "done";have f7:Fr sA wA H6 (af H6 sA$ .dK$ stk wA cA (tt+1) M "done"):=λb o n1 _ e=>by rw[jh n1];exact e
  have nds:dh≠sA:=λe=>by rw[e,S.st]at n4;cases n4
  have ndw:dh≠wA:=λe=>by rw[e,S.wr]at n4;cases n4
  have hd7:af H6 sA (.dK$ stk wA cA (tt+1) M "done") dh=some (.dK$ aw (canon c.M) hs):=(jh nds).trans hdh;generalize af H6 sA (.dK$ stk wA cA (tt+1) M "done")=H7 at S7 f7 hd7 ⊢;have fr7:=fr6.trans f7;have tm47:ai H4 H7:=Fr.tm ((Fr.of_same s6).trans f7) S;have lc:(wvs.length=c.ws.length):=by have z:=zj cu.ways;rw[List.length_map,List.length_map]at z;exact z
  have wayx:∀(i:Nat) (w1:WD),c.ws[i]?=some w1->∃x,wvs[i]?=some x/\cq H4 (fk$ w1.wy nA) x []:=λi w1 h1=>by
   have hi:i < wvs.length:=by rw[lc];exact(List.getElem?_eq_some_iff.mp h1).1
   obtain⟨tr,ht1,tx⟩:=Kg cu.ways i _ (List.getElem?_eq_getElem hi);rw[List.getElem?_map,List.getElem?_map,h1]at ht1;cases ht1;exact#[_,List.getElem?_eq_getElem hi,tx]
  have w1p:0 < c.ws.length:=by
   rw[cu.len];cases c.e.dd with
   |st p=>exact Nat.one_pos
   |ask t=>exact Nat.two_pos
  obtain⟨wd0,hwd0⟩:∃wd0,c.ws[0]?=some wd0:=#[_,List.getElem?_eq_getElem w1p];obtain⟨x0,hx0,tx0⟩:=wayx 0 wd0 hwd0;refine ah λF1 f1=>#[_,rfl,wa,_,_,_,rfl,rfl,aD.of$ tm47 _ _ cu.wat,jW (j:=0) hx0,f1 _ _ ?_];clear f1;have hd20:(aw (canon c.M) hs).length<=20:=Nat.le_trans (by rw[<- ehs];exact YU) hs20;have his:∀i∈hs,dS i:=λi hi=>by rw[<- ehs]at hi;obtain⟨x,_,rfl⟩:=List.mem_map.mp hi;exact qt gk zW
  have gz':GT (aw (canon c.M) hs):=sk his;have nH:H dh=none:=Fr.none fr S n4;have ndc:dh≠cA:=λe=>by rw[e,S.ce]at n4;cases n4
  have frD:∀(HX:Hp) (v:HO),Fr sA wA H HX->Fr sA wA H (af HX dh v):=λHX v f b o n1 n2 e=>by rw[jh (λz=>by rw[z,nH]at e;cases e)];exact f b o n1 n2 e
  have tmD:∀(HX:Hp) (v:HO),ai H4 HX->ai H4 (af HX dh v):=λHX v f b o e=>by rw[jh (λz=>by rw[z,n4]at e;cases e)];exact f b o e
  have SD:∀{HX:Hp} {L1:aG} {t1:Nat} (v:HO),Sx HX sA wA cA C L1 t1 M "done"->Sx (af HX dh v) sA wA cA C L1 t1 M "done":=λv S=>#[(jh$ Ne.symm nds).trans S.st,(jh$ Ne.symm ndw).trans S.wr,(jh$ Ne.symm ndc).trans S.ce,S.gL,S.lL,S.gC,S.n1,S.n2,S.n3];have pl:∀(x:Str) (v:V),(aB (aw (canon c.M) hs) (.inr x) v).length<=21:=λx v=>Nat.le_trans Km OB;have onw:∀(w:Wh) (L1:aG) (t1:Nat) (HX:Hp) (k2:aG) (wd':WD) (xv:V) (o12':Option V),dY M (cE M (qs.map Qd.mk) C j0) C q.mk m' (nG q.mk c.cd hs w) L1 t1=R->c.ws[w.side]?=some wd'->cq HX (fk$ wd'.wy nA) xv []->nP HX ys q.1.b.cuts q.1.b.size wd'->Sx HX sA wA cA C L1 t1 M "done"->t1<=M->tt < t1->HX dh=some (.dK k2)->k2=CU c.e w (aw (canon c.M) hs)->GT k2->k2.length<=21->Fr sA wA H HX->
    dU (dn (dB (fi nA) [] E0$ ak (bh 11)$ ak (bh 6) aP)$ bf 6) (dn (eY (i9 K) (bh 11)$ tC$ V.int 1)$ bf 7) E [some$ .ref pA,some$ .str q.1.f,some$ .ref ag,some$ .ref sA,some$ .int (15 - (j0:Int)),some$ .ref a,some$ .ref dh,some$ .ref ga,some$ .ref na,some dv,some$ .ref wa,some xv,o12'] HX:=λw L1 t1 HX k2 wd' xv o12' hg hw' tw wdv SX t1M tt hX ek g2 l2 frX=>by
   subst ek;refine ah λF1 f1=>#[_,rfl,_,rfl,xv,dh,ys,_,_,wd',_,rfl,tw,wdv,OB,hX,g2,OB,λhA2 HY nhA2 hhA2 sY=>f1 _ _ ?_];clear f1;obtain⟨w2,sa2,ga2,ss2,wd2,u2,rfl,wy2⟩:=QQ (tw.mono$ ae.tm sY);refine(jp wy2.at' nZ$ nxt m' _ _ (Nat.lt_succ_self m') ?_);refine#[_,_,_,_,_,hA2,ga2,wd2,u2,wd'.goal,_,L1,t1,rfl,SX.same sY,t1M,hhA2,JV wdv.sets g2,wy2.gat,wy2.gow,wdv.goal.mono$ ae.tm sY,?_,OB,frX.trans$ Fr.of_same sY,OB];rw[<- hg,JA hw']
  have dd:=cu.deed.mono tm47;have dv':=cu.v.deed.mono tm47;cases hce:c.e with
  |ask ta T=>
   rw[hce]at dd dv' htot';rw[QI tlt]at htot';obtain⟨_,p,zs,rfl,hp,_,_,y0,ys0,rfl,⟨rfl,_⟩,_,_,y1,ys1,rfl,⟨rfl,_⟩,e⟩:=dd;have e:ys1=[]:=e;subst e;have hp:H7 p=some (.tup [.str "ask",.ref ta]):=hp;have l2:1 < c.ws.length:=by rw[cu.len,hce];exact Nat.lt_succ_self 1
   obtain⟨wd1,hwd1⟩:∃wd1,c.ws[1]?=some wd1:=#[_,List.getElem?_eq_getElem l2];obtain⟨x1,hx1,tx1⟩:=wayx 1 wd1 hwd1;refine ah λF1 f1=>(jp hp fg #[rfl,_,rfl,bR OE$ jp hp nZ #[_,rfl,ta,dh,T,ys,_,rfl,.inl dv'.1,dv'.2.2,dv'.2.1,hd7,gz',λH8 s8=>#[rfl,_,rfl,?_]]]);have tm48:ai H4 H8:=tm47.trans (ae.tm s8);have hp8:=s8 _ _ hp;by_cases ez:T.ev (aw (canon c.M) hs)=0
   ·rw[decide_eq_true (by rw[ez])];rw[if_pos ez]at htot';refine bR rfl #[_,rfl,wa,_,_,_,rfl,rfl,aD.of$ tm48 _ _ cu.wat,jW (j:=1) hx1,f1 _ _ ?_];clear f1;refine ah λF1 f1=>(jp hp8 fg #[rfl,_,rfl,aE OE$ f1 _ _ ?_]);clear f1;refine ah λF1 f1=>(jp hp8 fg #[rfl,_,rfl,aE OE$ f1 _ _ ?_]);clear f1;refine ah λF1 f1=>(jp hp8 fg #[rfl,_,rfl,aE OE$ f1 _ _ ?_]);clear f1;exact onw (.ask 0) _ _ _ _ wd1 _ _ htot' hwd1 (tx1.mono tm48) ((cu.v.ways _$ List.mem_of_getElem? hwd1).mono tm48) (S7.same s8) tlt (Nat.lt_succ_self tt) (s8 _ _ hd7) (by rw[hce];rfl) gz' OB$ fr7.trans$ Fr.of_same s8
   ·rw[decide_eq_false (λz=>ez (by injection z))];rw[if_neg ez]at htot';refine aE rfl$ f1 _ _ ?_;clear f1;refine ah λF1 f1=>(jp hp8 fg #[rfl,_,rfl,aE OE$ f1 _ _ ?_]);clear f1;refine ah λF1 f1=>(jp hp8 fg #[rfl,_,rfl,aE OE$ f1 _ _ ?_]);clear f1;refine ah λF1 f1=>(jp hp8 fg #[rfl,_,rfl,aE OE$ f1 _ _ ?_]);clear f1;exact onw (.ask 1) _ _ _ _ wd0 _ _ htot' hwd0 (tx0.mono tm48) ((cu.v.ways _$ List.mem_of_getElem? hwd0).mono tm48) (S7.same s8) tlt (Nat.lt_succ_self tt) (s8 _ _ hd7) (by rw[hce];rfl) gz' OB$ fr7.trans$ Fr.of_same s8
  |st p lf=>
   rw[hce]at dd dv' htot';obtain⟨rfl,_⟩:=dd;obtain⟨vs0,hp,hlv,okl,cut⟩:=dv';have wv0:=(cu.v.ways _$ List.mem_of_getElem? hwd0).mono tm47;cases lf with
   |gv ta T |st x ta T=>cases cut
   |rd x ta T=>rw[vF tlt]at htot';obtain⟨rfl,tT⟩:=hlv;refine ah λF1 f1=>(jp hp fg #[rfl,_,rfl,aE OE$ f1 _ _ ?_]);clear f1;refine ah λF1 f1=>(jp hp fg #[rfl,_,rfl,bR OE #[_,rfl,jp hp Av #[_,rfl,ta,dh,T,ys,_,rfl,.inl tT,okl.2.2,okl.2.1,hd7,gz',λH8 s8=>#[sA,wA,cA,C,L,tt+1,M,"done",_,rfl,S7.same s8,_,rfl,jp (s8 _ _ hp) nZ #[dh,_,rfl,dZ.k (k:=.inr x) (s8 _ _ hd7) OB,f1 _ _ ?_]]]]]);clear f1;have inI:dS (look L (.inl$ T.ev$ aw (canon c.M) hs)$ look C (.inl$ T.ev$ aw (canon c.M) hs) 0):=qt S7.gL (qt S7.gC zW);have tm9:=tmD _ (.dK$ aB (aw (canon c.M) hs) (.inr x)$ .int$ look L (.inl$ T.ev$ aw (canon c.M) hs)$ look C (.inl$ T.ev$ aw (canon c.M) hs) 0) (tm47.trans$ ae.tm s8);have fr9:=frD _ (.dK$ aB (aw (canon c.M) hs) (.inr x)$ .int$ look L (.inl$ T.ev$ aw (canon c.M) hs)$ look C (.inl$ T.ev$ aw (canon c.M) hs) 0) (fr7.trans$ Fr.of_same s8);have S9:=SD (.dK$ aB (aw (canon c.M) hs) (.inr x)$ .int$ look L (.inl$ T.ev$ aw (canon c.M) hs)$ look C (.inl$ T.ev$ aw (canon c.M) hs) 0) (S7.same s8);have hp9:af H8 dh (.dK$ aB (aw (canon c.M) hs) (.inr x)$ .int$ look L (.inl$ T.ev$ aw (canon c.M) hs)$ look C (.inl$ T.ev$ aw (canon c.M) hs) 0) p=some (.tup [.str "read",.str x,.ref ta]):=(jh$ jB hp hd7 (by intro z;cases z)).trans (s8 _ _ hp);have hd9:af H8 dh (.dK$ aB (aw (canon c.M) hs) (.inr x)$ .int$ look L (.inl$ T.ev$ aw (canon c.M) hs)$ look C (.inl$ T.ev$ aw (canon c.M) hs) 0) dh=_:=jc;generalize af H8 dh (.dK$ aB (aw (canon c.M) hs) (.inr x)$ .int$ look L (.inl$ T.ev$ aw (canon c.M) hs)$ look C (.inl$ T.ev$ aw (canon c.M) hs) 0)=H9 at tm9 fr9 S9 hp9 hd9 ⊢;refine ah λF1 f1=>(jp hp9 fg #[rfl,_,rfl,aE OE$ f1 _ _ ?_]);clear f1;refine ah λF1 f1=>(jp hp9 fg #[rfl,_,rfl,aE OE$ f1 _ _ ?_]);clear f1;exact onw (.rd _ _) _ _ _ _ wd0 _ _ htot' hwd0 (tx0.mono tm9) ((cu.v.ways _$ List.mem_of_getElem? hwd0).mono tm9) S9 tlt (Nat.lt_succ_self tt) hd9 (by rw[hce];rfl) (gz'.put _ inI) (pl _ _) fr9
   |wr ta ub T U=>
    rw[vG tlt]at htot';obtain⟨rfl,tT,tU⟩:=hlv;refine ah λF1 f1=>(jp hp fg #[rfl,_,rfl,aE OE$ f1 _ _ ?_]);clear f1;refine ah λF1 f1=>(jp hp fg #[rfl,_,rfl,aE OE$ f1 _ _ ?_]);clear f1;have gW:bp H7 sA (V.str "wrote") (some$ .ref wA):=bp.k (k:=.inr "wrote") S7.st;refine ah λF1 f1=>(jp hp fg #[rfl,_,rfl,bR OE$ jp hp Av #[_,rfl,ub,dh,U,ys,_,rfl,.inl tU,okl.2.2,okl.2.1,hd7,gz',λH8 s8=>#[_,rfl,sA,_,rfl,bp.k (k:=.inr "wrote")$ s8 _ _ S7.st,jp (s8 _ _ hp) nZ #[_,rfl,ta,dh,T,ys,_,rfl,.inl$ tT.mono$ ae.tm s8,okl.1.2,okl.1.1,s8 _ _ hd7,gz',λH9 s9=>#[wA,_,rfl,dZ.k (k:=.inl (T.ev$ aw (canon c.M) hs)) (s9 _ _$ s8 _ _ S7.wr) (by have:=S7.lL;omega),f1 _ _ ?_]]]]]);clear f1;have S8:=(S7.same$ s8.trans s9).wrt (c:=(T.ev$ aw (canon c.M) hs)) (zE gz' okl.2.1) (Nat.lt_succ_of_le S.lL);have s79:=s8.trans s9;have f10:Fr sA wA H9 (af H9 wA$ .dK$ aB L (.inl$ T.ev$ aw (canon c.M) hs)$ .int$ U.ev$ aw (canon c.M) hs):=λb o _ n2 e=>by rw[jh n2];exact e
    have hd9:af H9 wA (.dK$ aB L (.inl$ T.ev$ aw (canon c.M) hs)$ .int$ U.ev$ aw (canon c.M) hs) dh=_:=(jh ndw).trans (s79 _ _ hd7);have hp9:af H9 wA (.dK$ aB L (.inl$ T.ev$ aw (canon c.M) hs)$ .int$ U.ev$ aw (canon c.M) hs) p=some (.tup [.str "write",.ref ta,.ref ub]):=(jh$ jB hp S7.wr (by intro z;cases z)).trans (s79 _ _ hp);generalize af H9 wA (.dK$ aB L (.inl$ T.ev$ aw (canon c.M) hs)$ .int$ U.ev$ aw (canon c.M) hs)=HX at S8 f10 hd9 hp9 ⊢;have fr9:=(fr7.trans$ Fr.of_same s79).trans f10;have tm9:ai H4 HX:=tm47.trans (Fr.tm ((Fr.of_same s79).trans f10) S7);refine ah λF1 f1=>(jp hp9 fg #[rfl,_,rfl,aE OE$ f1 _ _ ?_]);clear f1;exact onw (.wr _ _) _ _ _ _ wd0 _ _ htot' hwd0 (tx0.mono tm9) ((cu.v.ways _$ List.mem_of_getElem? hwd0).mono tm9) S8 tlt (Nat.lt_succ_self tt) hd9 (by rw[hce];rfl) gz' OB fr9
   |cl x f' q' ts=>
    rw[Q6 tlt]at htot';obtain⟨rfl,hq',tT⟩:=hlv;refine ah λF1 f1=>(jp hp fg #[rfl,_,rfl,aE OE$ f1 _ _ ?_]);clear f1;refine ah λF1 f1=>(jp hp fg #[rfl,_,rfl,aE OE$ f1 _ _ ?_]);clear f1;refine ah λF1 f1=>(jp hp fg #[rfl,_,rfl,aE OE$ f1 _ _ ?_]);clear f1;refine ah λF1 f1=>(jp hp fg #[rfl,_,rfl,bR OE ?_]);have edp:decide (V.int (15 - (j0:Int))=V.int 15)=decide (j0=0):=by
     by_cases z:j0=0
     ·rw[decide_eq_true z,z];rfl
     ·rw[decide_eq_false z,decide_eq_false λe=>z (by injection e;omega)]
    refine ah λF2 f2=>#[_,rfl,rfl,_,rfl,?_];rw[edp];by_cases z0:j0=0
    ·subst z0;have eR:R= .deep:=htot'.symm;refine bR rfl #[_,rfl,sA,_,rfl,dZ.k (k:=.inr "word") S7.st (by show 5 < sizeLine;decide),?_];show E.rt .non (af H7 sA$ .dK$ stk wA cA (tt+1) M "deep");rw[rt];exact q3 _ _ _ eR (S7.put (Nat.le_refl _) "deep") (fr7.trans λb o n1 _ e=>by rw[jh n1];exact e)
    obtain⟨j1,rfl⟩:∃j1,j0=j1+1:=#[j0 - 1,OB];rw[decide_eq_false z0];refine aE rfl$ f2 _ _ ?_;clear f2;have hcs2:=cu.v.cs;rw[hce]at hcs2;obtain⟨q2',hq2',eq2⟩:=List.mem_map.mp hcs2;injection eq2 with eq2 el2;subst eq2;have ts6:ts.length<=6:=okl.2.1;have is2:∀i∈ts.map (λc0=>c0.2.ev (aw (canon c.M) hs)),dS i:=λi hi=>by obtain⟨c0,hc0,rfl⟩:=List.mem_map.mp hi;exact zE gz' (okl.2.2 c0 hc0).1
    refine ah λF2 f2=>#[_,rfl,jp hp Av$ jp hp DF #[q',rfl,#[_,aD.of hq'],zo (xs:=ts.map λc0=>V.ref c0.1) (by rw[List.length_map];omega) (λi zs H8=>zs=(ts.take i).map (λc0=>V.int (c0.2.ev$ aw (canon c.M) hs))/\ae H7 H8) #[rfl,ae.refl H7] (λi zs H8 h=>?_) (λi x zs H8 hx h=>?_) (λzs H8 h l nl=>?_)]]
    ·obtain⟨rfl,s8⟩:=h;exact#[aD.of$ s8 _ _ hq',by rw[List.length_map,List.length_take];exact Nat.min_le_left _ _]
    ·obtain⟨rfl,s8⟩:=h;rw[List.getElem?_map]at hx;obtain⟨c0,hc0,rfl⟩:=Option.map_eq_some_iff.mp hx;have mc0:=List.mem_of_getElem? hc0;refine#[_,rfl,_,rfl,c0.1,dh,c0.2,ys,_,rfl,.inl ((tT c0 mc0).mono$ ae.tm s8),(okl.2.2 c0 mc0).2,(okl.2.2 c0 mc0).1,s8 _ _ hd7,gz',λH9 s9=>#[?_,s8.trans s9]];rw[QC hc0,List.map_append];rfl
    obtain⟨rfl,s8⟩:=h;rw[List.length_map,List.take_length];have el:(ts.map λc0=>V.int (c0.2.ev$ aw (canon c.M) hs))=(ts.map λc0=>c0.2.ev (aw (canon c.M) hs)).map V.int:=by rw[List.map_map];rfl
    rw[el];have s9:=s8.trans (jf (o:=.lst ((ts.map λc0=>c0.2.ev (aw (canon c.M) hs)).map V.int)) nl);have hl9:af H8 l (.lst ((ts.map λc0=>c0.2.ev (aw (canon c.M) hs)).map V.int)) l=_:=jc;generalize af H8 l (.lst ((ts.map λc0=>c0.2.ev (aw (canon c.M) hs)).map V.int))=H9 at s9 hl9 ⊢;have fr9:=fr7.trans (Fr.of_same s9);have tm9:=tm47.trans (ae.tm s9);have S9:=S7.same s9;have edp2:(15:Int) - ((j1+1:Nat):Int)+1=15 - (j1:Int):=by omega
    refine#[_,rfl,_,rfl,_,_,rfl,rfl,?_];rw[edp2];refine#[j1,true,pA,l,sA,wA,cA,qs,xs,q2',_,C,L,tt+1,M,rfl,rfl,hP.mono$ tm4.trans tm9,hq2',hl9,by rw[List.length_map];exact el2.symm,is2,S9,tlt,M1,OB,λa2 _L t2 HA hrun SA tt2 t2M ia fA=>f2 _ _ ?_,λL2 t2 HA hrun SA fA=>f2 _ _ ?_,λL2 t2 HA hrun SA fA=>f2 _ _ ?_]
    ·clear f2;rw[hrun]at htot';have hpA:=fA _ _ (jB (s9 _ _ hp) S9.st (by intro z;cases z)) (jB (s9 _ _ hp) S9.wr (by intro z;cases z)) (s9 _ _ hp);have hdA:=fA _ _ nds ndw (s9 _ _ hd7);refine ah λF2 f2=>#[_,rfl,rfl,_,rfl,aE (decide_eq_false (by intro z;cases z))$ f2 _ _ ?_];clear f2;refine#[_,rfl,_,rfl,jp hpA nZ #[dh,_,rfl,dZ.k (k:=.inr x) hdA OB,f1 _ _ ?_]];clear f1;have tmX:=tmD HA (.dK$ aB (aw (canon c.M) hs) (.inr x)$ .int a2) (tm9.trans$ Fr.tm fA S9);exact onw (.cl _ _ a2) _ _ _ _ wd0 _ _ htot' hwd0 (tx0.mono tmX) ((cu.v.ways _$ List.mem_of_getElem? hwd0).mono tmX) (SD _ SA) t2M OB jc (by rw[hce];rfl) (gz'.put _ ia) (pl _ _)$ frD _ _$ fr9.trans fA
    ·clear f2;rw[hrun]at htot';refine ah λF2 f2=>#[_,rfl,rfl,_,rfl,bR rfl ?_];show E.rt .non HA;rw[rt];exact q2 _ _ _ htot'.symm SA$ fr9.trans fA
    ·clear f2;rw[hrun]at htot';refine ah λF2 f2=>#[_,rfl,rfl,_,rfl,bR rfl ?_];show E.rt .non HA;rw[rt];exact q3 _ _ _ htot'.symm SA$ fr9.trans fA
structure Xs(K:Frag)(mg:Str->Option Value)(TL TD:Addr):Prop where
 gL:mg "TooLong"=some (.ref TL)
 hL:clsIn K TL≠none
 tL:typeIn K (.ref TL)=some (.type "type")
 mL:mroIn K TL (.type "BaseException")=some true
 gD:mg "TooDeep"=some (.ref TD)
 hD:clsIn K TD≠none
 tD:typeIn K (.ref TD)=some (.type "type")
 mD:mroIn K TD (.type "BaseException")=some true
 LL:mroIn K TL (.ref TL)=some true
 DL:mroIn K TD (.ref TL)=some false
 DD:mroIn K TD (.ref TD)=some true
noncomputable abbrev p5:Stmt:=top 58
noncomputable abbrev lV:Stmt:=top 59
theorem oQ{H:Hp}{a b:Addr}{o:HO}(n:af H a o b=none):b≠a:=λe=>by rw[e,jc]at n;cases n
inductive iT(j:List V)(H:Hp)(Q:VK)(b:XK):Prop
 |mk(h c e:Addr)(f:Str)(m:Int)(k:Nat)(C:aG)(d:c8)(P:List c8)(g:List Int)(o:iX)(_:j=[.ref h,.str f,.ref c,.ref e,.int m])(_:sK H h P)(_:bj P f=some d)(_:H c=some (.tup (g.map V.int)))(_:∀i∈g,dS i)(_:d.ps.length=g.length)(_:H e=some (.dK C))(_:GT C)(_:Ex P C m 15 k d.body (ba d.ps g) [] 0 o)(_:k<=30000)(_:m<=100000)(_:∀a L' t' (r rr lA:Addr) (H':Hp),o= .done a L' t'->H' r=some (.tup [.str "done",.ref rr])->H' rr=some (.tup [.int a,.ref lA,.int (t':Int)])->H' lA=some (.dK L')->GT L'->Kp H H'->Q (.ref r) H')(_:∀(w:Str) (r:Addr) (H':Hp),(o= .long/\w="long"∨o= .deep/\w="deep")->H' r=some (.tup [.str w,.non])->Kp H H'->Q (.ref r) H')
structure Pg(H:Hp)(pA:Addr)(qs:List Qd)(zs:List V):Prop where
 at':H pA=some (.tup zs)
 dv:bX H (qs.map Prod.fst) zs
 q:∀q∈qs,sM H (wn qs) q
 nd:(qs.map λq=>q.1.f).Nodup
 l8:qs.length<=8
theorem ZU{kvs:aG}:NX (.dK kvs):=λφ z=>by cases z
theorem xW{xs:List V}:NX (.tup xs):=λφ z=>by cases z
theorem Kp.tm{H H':Hp}(k:Kp H H'):ai H H':=λb xs e=>k _ _ xW e
theorem Pg.mono{H H':Hp}{pA:Addr}{qs:List Qd}{zs:List V}(h:Pg H pA qs zs)(k:ai H H'):Pg H' pA qs zs:=#[k _ _ h.at',h.dv.mono k,λq hq=>(h.q q hq).mono k,h.nd,h.l8]
theorem Pg.pr{H:Hp}{pA:Addr}{qs:List Qd}{zs:List V}(h:Pg H pA qs zs):sK H pA (qs.map Qd.pl):=#[#[zs,h.at',wb (pA:=pA) (xs:=zs) h.dv h.q],λd hd=>by
 obtain⟨q,hq,rfl⟩:=List.mem_map.mp hd;have z:=h.q q hq;obtain⟨⟨ys,_,ok⟩,_,sz⟩:=z.ok;have t:=qI q.1.b.er;rw[za]at t;exact#[z.l1,Nat.le_trans t OB,J7 ok sz]]
inductive gB(g:List V)(H:Hp)(Q:VK)(a:XK):Prop
 |mk(e b c:Addr)(f:List Qd)(h:List V)(q:Qd)(d:List Int)(C:aG)(M:Nat)(_:g=[.ref e,.str q.1.f,.ref b,.ref c,.int (M:Int)])(_:Pg H e f h)(_:q∈f)(_:H b=some (.tup (d.map V.int)))(_:d.length=q.2.length)(_:∀i∈d,dS i)(_:H c=some (.dK C))(_:GT C)(_:M<=60)(_:∀H',Kp H H'->Q (.bl true) H')
theorem Sx.kp{H H':Hp}{sA wA cA:Addr}{C L:aG}{t M:Nat}{w:Str}(S:Sx H sA wA cA C L t M w)(s:Kp H H'):Sx H' sA wA cA C L t M w:=#[s _ _ ZU S.st,s _ _ ZU S.wr,s _ _ ZU S.ce,S.gL,S.lL,S.gC,S.n1,S.n2,S.n3]
theorem gO:al ["_law_program","_law_f","_law_args","_law_cells_here","_law_most","_law_told_here"] z18z (aa p5):=bZ
theorem um{f:Addr}{fd:FuncData}{PC TL TD fP:Addr}{fdP:FuncData}(F:aU K "_law_told" "_law_told" p5 f fd)(GP:aj P w K mg base (dP P w) 59 fP fdP z28z (gA PC TL TD))(bP:ax K fdP z28z [])(kP:keepIn K (.ref fP)=true)(mP:mg "plain"=some (.ref fP))(xc:Xs K mg TL TD):aj P w K mg base aC 60 f fd z18z iT:=by
 refine F.ok gO ?_ λcdv A outer s H vs Q E hr h=>?_
 ·rintro _ _ _ _ ⟨pA,ag,cA,f,m,k,C,d,Pd,is,o,rfl,_⟩;rfl
 obtain⟨pA,ag,cA,f,m,k,C,d,Pd,is,o,rfl,hP,hf,hag,his,hl,hcA,gC,hx,hk,hm,q1,q2⟩:=h;refine#[_,(jd (jy 5 gO.nd$ ji$ ja jj$ ja (@qB _ _ _) jb)$ jd (@uG _ _ _ _ _ _ _ _ _ _ _ _ _ _ _ _ _ _ rfl rfl (@uH _ _ _ _ (5) _ _ gO.nd rfl (Or.inl rfl) (@pE _ _ _ _ _ _ _ jj (@pC _ _ _ _ _ _ _ _ _ _ _ _ _ _ GP hr.m rfl mP kP bP .nil (ja (pv 0)$ ja (pv 1)$ ja (pv 2)$ ja (pv 3)$ ja (pv 4) jb) OA OF OF) OF) OF (by first |exact .inl rfl |exact .inr rfl)) rfl xc.gL xc.hL xc.tL xc.mL rfl xc.gD xc.hD xc.tD xc.mD (λ_=>(jg$ jy 5 gO.nd$ ji$ ja jj$ ja (@qB _ _ _) jb)) (λ_=>(jg$ jy 5 gO.nd$ ji$ ja jj$ ja (@qB _ _ _) jb)) OA OA)$ jg$ jl$ pv 5),?_];refine ah λF1 f1=>#[cj,λp0 np0=>f1 _ _ ?_];clear f1;have s0:ae H (af H p0$ .tup [.str "done",.non]):=jf np0;refine ah λF1 f1=>?_;show wx _ _ _ _ _ _ _ [some$ .ref pA,some$ .str f,some$ .ref ag,some$ .ref cA,some$ .int m,some$ .ref p0] (af H p0$ .tup [.str "done",.non]);generalize af H p0 (.tup [.str "done",.non])=H0 at s0 ⊢;have k0:=Kp.of_same s0;refine#[_,rfl,_,rfl,_,rfl,_,rfl,_,rfl,pA,ag,cA,f,m,k,C,d,Pd,is,o,rfl,hP.mono$ ae.tm s0,hf,s0 _ _ hag,his,hl,s0 _ _ hcA,gC,hx,hk,hm,λa L' t' eo rr lA H2 hrr nl hlA s2 gL lL=>?_,λeo=>?_,λeo=>?_]
 ·intro p np;have s3:ae H2 (af H2 p$ .tup [.str "done",.ref rr]):=jf np;exact f1 _ _ #[_,rfl,q1 a L' t' p rr lA _ eo jc (s3 _ _ hrr) (s3 _ _ hlA) gL$ k0.trans$ Kp.of_same$ s2.trans s3]
 ·intro _ H7 k7 x C T eC hx hT hTx;cases eC;refine .inl #[xc.LL,λT' nT'=>#[cj,λp np=>f1 _ _ #[_,rfl,q2 "long" p _ (.inl #[eo,rfl]) jc ?_]]];exact(k0.trans λb o nx e=>qW (H:=H0) (k7 _ _ nx e) nx hx nT').trans (Kp.of_same$ jf np)
 ·intro _ H7 k7 x C T eC hx hT hTx;cases eC;refine .inr #[xc.DL,xc.DD,λT' nT'=>#[cj,λp np=>f1 _ _ #[_,rfl,q2 "deep" p _ (.inr #[eo,rfl]) jc ?_]]];exact(k0.trans λb o nx e=>qW (H:=H0) (k7 _ _ nx e) nx hx nT').trans (Kp.of_same$ jf np)
theorem eO:al ["_law_program","_law_f","_law_args","_law_cells_here","_law_most","_law_state","_law_answer","_law_word","_law_told_here"] z18z (aa lV):=bZ
theorem pf{f:Addr}{fd:FuncData}{nA fW fM fT:Addr}{fdW fdM fdT:FuncData}(F:aU K "_law_right" "_law_right" lV f fd)(cW:Cl P w K mg base 25 fW fdW z14z (dO K nA 16) "_law_went")(cM:Cl P w K mg base 65 fM fdM ["program"] (iP K nA) "made")(cT:Cl P w K mg base 60 fT fdT z18z iT "_law_told")(mdi:mg "dict"=none):aj P w K mg base aC 66 f fd z18z gB:=by
 refine F.ok eO ?_ λcdv A outer s H vs Q E hr h=>?_
 ·rintro _ _ _ _ ⟨pA,ag,cA,qs,zs,q,is,C,M,rfl,_⟩;rfl
 obtain⟨pA,ag,cA,qs,zs,q,is,C,M,rfl,hP,hq,hag,hl,his,hcA,gC,hM,qq⟩:=h;refine#[_,(jd (jy 5 eO.nd$ @uu _ _ _ _ _ (@ql _ _ _ _ _ _ _ _ _ jj Jb$ @ql _ _ _ _ _ _ _ _ _ jj (jC Qo rfl mdi boot_dict$ ja (pv 3) jb)$ @ql _ _ _ _ _ _ _ _ _ jj je$ @ql _ _ _ _ _ _ _ _ _ jj (pv 4)$ @ql _ _ _ _ _ _ _ _ _ jj jj$ @uC _ _) OF OF OA OA)$ jd (jy 6 eO.nd$ cW.e hr.m$ ja (cM.e hr.m$ ja (pv 0) jb)$ ja (pv 1)$ ja (pv 2)$ ja (pv 5)$ ja je jb)$ jd (kH (cT.e hr.m$ ja (pv 0)$ ja (pv 1)$ ja (pv 2)$ ja (pv 3)$ ja (pv 4) jb)$ zT (n:=2) rfl$ jz (jr (i:=7) eO.nd rfl$ Or.inl rfl)$ jz (jr (i:=8) eO.nd rfl$ Or.inl rfl) kK)$ jd (ju (PW.pt$ Q2 (jA Q3 (pv 7) (kL (jN hr) (pv 5) jj (λ_ _=>rfl))$ aA _)$ J9$ jA Q3 (pv 7) jj$ aA _) (jg$ jl$ kW zD (pv 7) (kL (jN hr) (pv 5) jj (λ_ _=>rfl))$ aA _) jm)$ jg$ jl$ kW (yi$ jN hr) (pv 8) (ji$ ja (pv 6)$ ja (kL (jN hr) (pv 5) jj (λ_ _=>rfl))$ ja (kL (jN hr) (pv 5) jj (λ_ _=>rfl)) jb)$ aA _),?_];have big:=aQ;refine ah λF1 f1=>λsA nsA wA nwA=>#[_,rfl,cA,C,rfl,ao (ao hcA nsA) nwA,λhA nhA=>#[_,rfl,?_]];have d1:=oQ nwA;have d2:=oQ nhA;have d3:hA≠sA:=λe=>by rw[e,jh$ Ne.symm d1,jc]at nhA;cases nhA
 have s0:ae H (af (af (af (af H sA$ .dK []) wA$ .dK []) hA$ .dK C) sA$ .dK$ stk wA hA 0 M "done"):=λb o e=>by rw[jh$ jk e nsA];exact ao (ao (ao e nsA) nwA) nhA
 have S0:Sx (af (af (af (af H sA$ .dK []) wA$ .dK []) hA$ .dK C) sA$ .dK$ stk wA hA 0 M "done") sA wA hA C [] 0 M "done":=
  #[jc,by rw[jh d1,jh$ Ne.symm d2,jc],by rw[jh d3,jc],_K.GT.nil,Nat.le_refl _,gC,Ne.symm d1,Ne.symm d3,Ne.symm d2]
 have nh:H hA=none:=by rw[jh d2,jh d3]at nhA;exact nhA
 have nw:H wA=none:=by rw[jh d1]at nwA;exact nwA
 refine#[by rw[jh$ Ne.symm d3,jh$ Ne.symm d1,jc],[(.inr "wrote",.ref wA),(.inr "cells",.ref hA),(.inr "turns",.int 0),(.inr "most",.int M),(.inr "word",.str "done")],rfl,(show 5<=15 by decide),?_];show F1 [some$ .ref pA,some$ .str q.1.f,some$ .ref ag,some$ .ref cA,some$ .int M,some$ .ref sA,none,none,none] (af (af (af (af H sA$ .dK []) wA$ .dK []) hA$ .dK C) sA$ .dK$ stk wA hA 0 M "done");generalize af (af (af (af H sA$ .dK []) wA$ .dK []) hA$ .dK C) sA (.dK$ stk wA hA 0 M "done")=H1 at s0 S0;clear nhA nwA;refine f1 _ _ ?_;clear f1;have FS:∀{H3:Hp},Fr sA wA H1 H3->ae H H3:=λf b o e=>f b o (jk e nsA) (jk e nw) (s0 _ _ e);obtain⟨kk,o,hkk,hx⟩:=xh (By hP.q hP.nd) C (m:=(M:Int)) OB 15 q.pl is [] 0 M (List.mem_map.mpr #[q,hq,rfl]) OB;obtain⟨hfind,_⟩:=Yy hq hP.nd;have res:eF (cE M (qs.map Qd.mk) C 16 q.1.f is [] 0) o:=u5 (tI hP.q) hfind hx (Nat.zero_le _);have P1:=hP.mono (ae.tm s0);refine ah λF1 f1=>#[_,rfl,pA,qs.map Prod.fst,zs,rfl,P1.at',P1.dv,by rw[List.length_map];have:=P1.l8;omega,λd hd=>?_,λv H2 tr s2=>?_]
 ·obtain⟨c,hc,rfl⟩:=List.mem_map.mp hd;exact(P1.q c hc).ok
 obtain⟨_,p2,xs,rfl,hp2,htr⟩:=tr;have S2:=S0.same s2;have P2:=P1.mono (ae.tm s2);have s02:=s0.trans s2;have tail:∀(v6:V) (H3:Hp) (L':aG) (t':Nat) (w':Str),Sx H3 sA wA hA C L' t' M w'->Fr sA wA H2 H3->(∀a L1 t1,o= .done a L1 t1->w'="done"/\v6= .int a/\L1=L'/\t1=t')->(o= .long->w'="long")->(o= .deep->w'="deep")->
   F1 [some$ .ref pA,some$ .str q.1.f,some$ .ref ag,some$ .ref cA,some$ .int M,some$ .ref sA,some v6,none,none] H3:=λv6 H3 L' t' w' S3 f3 od ol oe=>by
  refine f1 _ _ ?_;clear f1;have s03:ae H H3:=FS ((Fr.of_same s2).trans f3);have P3:=hP.mono (ae.tm s03);refine ah λF1 f1=>#[_,rfl,_,rfl,_,rfl,_,rfl,_,rfl,pA,ag,cA,q.1.f,(M:Int),kk,C,q.pl,qs.map Qd.pl,is,o,rfl,P3.pr,hfind,s03 _ _ hag,his,hl.symm,s03 _ _ hcA,gC,hx,hkk,OB,λa L1 t1 r rr lA H4 eo hr' hrr hlA gL k4=>?_,λw4 r H4 eo hr' k4=>?_]
  ·refine#[r,_,rfl,aD.of hr',rfl,_,_,rfl,_,_,rfl,rfl,f1 _ _ ?_];clear f1;obtain⟨rfl,rfl,rfl,rfl⟩:=od a L1 t1 eo;have S4:=S3.kp k4;have gw:bp H4 sA (V.str "word") (some$ .str "done"):=bp.k (k:=.inr "word") S4.st;refine ah λF1 f1=>#[_,rfl,_,rfl,sA,_,rfl,gw,rfl,_,rfl,aE OE #[_,rfl,rfl,_,rfl,aE OE$ f1 _ _ ?_]];clear f1;refine#[_,rfl,_,rfl,_,rfl,sA,_,rfl,bp.k (k:=.inr "wrote") S4.st,_,rfl,sA,_,rfl,bp.k (k:=.inr "turns") S4.st,f8,λp np=>?_];have s5:ae H4 (af H4 p$ .tup [.int a,.ref wA,.int (t1:Int)]):=jf np;refine#[rr,p,_,_,rfl,rfl,aD.of$ s5 _ _ hrr,aD.of jc,rfl,λz hz=>?_,qq _ ((Kp.of_same s03).trans$ k4.trans$ Kp.of_same s5)];rcases List.mem_cons.mp hz with rfl |hz
   ·exact .inl #[rfl,rfl]
   ·rcases List.mem_cons.mp hz with rfl |hz
    ·exact .inr #[lA,wA,_,rfl,rfl,s5 _ _ hlA,s5 _ _ S4.wr,λp hp=>let #[i,e,_]:=gL p hp;#[i,e]]
    ·rcases List.mem_cons.mp hz with rfl |hz
     ·exact .inl #[rfl,rfl]
     ·cases hz
  ·refine#[r,_,rfl,aD.of hr',rfl,_,_,rfl,_,_,rfl,rfl,f1 _ _ ?_];clear f1;have S4:=S3.kp k4;have ew:w'=w4/\decide (V.str w4=V.str "done")=false:=by
    rcases eo with ⟨e1,e2⟩ | ⟨e1,e2⟩
    ·rw[e2];exact#[ol e1,OE]
    ·rw[e2];exact#[oe e1,OE]
   obtain⟨rfl,ew⟩:=ew;have gw:bp H4 sA (V.str "word") (some$ .str w'):=bp.k (k:=.inr "word") S4.st;refine ah λF1 f1=>#[_,rfl,_,rfl,sA,_,rfl,gw,rfl,_,rfl,aE OD #[_,rfl,rfl,_,rfl,bR (by rw[ew];rfl) ?_]];refine#[_,rfl,_,rfl,sA,_,rfl,gw,rfl,?_];rw[decide_eq_true rfl];exact qq _ ((Kp.of_same s03).trans k4)
 refine#[_,rfl,_,rfl,_,rfl,15,false,p2,ag,sA,wA,hA,qs,xs,q,is,C,[],0,M,rfl,rfl,#[hp2,htr,P2.q,P2.nd,by have:=P2.l8;omega],hq,s02 _ _ hag,hl,his,S2,Nat.zero_le _,OB,Nat.le_refl _,λa L' t' H3 er S3 _ _ _ f3=>tail _ _ _ _ _ S3 f3 (λa1 L1 t1 eo=>?_) (λeo=>?_) (λeo=>?_),λL' t' H3 er S3 f3=>tail _ _ _ _ _ S3 f3 (λa1 L1 t1 eo=>?_) (λ_=>rfl) (λeo=>?_),λL' t' H3 er S3 f3=>tail _ _ _ _ _ S3 f3 (λa1 L1 t1 eo=>?_) (λeo=>?_) (λ_=>rfl)]
 ·rw[er,eo]at res;obtain⟨rfl,rfl,rfl⟩:=res;exact#[rfl,rfl,rfl,rfl]
 ·rw[er,eo]at res;exact res.elim
 ·rw[er,eo]at res;exact res.elim
 ·rw[er,eo]at res;exact res.elim
 ·rw[er,eo]at res;exact res.elim
 ·rw[er,eo]at res;exact res.elim
 ·rw[er,eo]at res;exact res.elim
noncomputable abbrev lS:Stmt:=top 53
noncomputable abbrev j':Stmt:=top 60
inductive gu(b:List V)(H:Hp)(Q:VK)(a:XK):Prop
 |mk(p:Addr)(_:b=[.ref p])(_:aq H p)(_:∀(l:Addr) (C:aG) (H':Hp),H l=none->H' l=some (.dK C)->GT C->C.length<=13->aq H' p->au p H H'->Q (.ref l) H')
inductive CL(p l:Addr)(H:Hp)(i:Nat)(k:_L.St)(a:Hp):Prop
 |mk(h j:Option V)(C:aG)(b:k=[some (.ref p),some (.ref l),h,j])(c:a l=some (.dK C))(d:GT C)(e:C.length<=i)(f:aq a p)(g:au p H a)
theorem xV{xs:List V}:NX (.lst xs):=λφ z=>by cases z
theorem Kp.seq{K:Frag}{H H':Hp}{a:Addr}{xs:List V}(e:Kp H H')(h:aF K H a xs):aF K H' a xs:=by
 rcases h with (h | ⟨o,h⟩) |h
 ·exact .inl$ .inl$ e _ _ xV h
 ·exact .inl$ .inr #[o,e _ _ (by intro φ z;cases z) h]
 ·exact .inr h
inductive lv(K:Frag)(d:List V)(H:Hp)(Q:VK)(b:XK):Prop
 |mk(a:Addr)(c:List Int)(_:d=[.ref a])(_:aF K H a (c.map V.int))(_:c.length<=63)(_:∀H',Q (.bl true) H')
inductive Dw(a i j:Addr)(f:Str)(H:Hp)(k:_L.St)(b:Hp):Prop
 |mk(e g h:Option V)(c:k=[some (.ref a),e,some (.ref i),some (.str f),some (.ref j),g,h])(d:Kp H b)
theorem eN:al ["_law_box_here","_law_cells_here","_law_k","_law_cell"] z2z (aa lS):=bZ
theorem oX{f:Addr}{fd:FuncData}{fT fU:Addr}{fdT fdU:FuncData}(F:aU K "_law_cells" "_law_cells" lS f fd)(cT:Cl P w K mg base 1 fT fdT z0z aW "_law_take")(cU:Cl P w K mg base 2 fU fdU z2z fX "_law_number")(mr:mg "range"=none):aj P w K mg base aC 3 f fd z2z gu:=by
 refine F.ok eN ?_ λcdv A outer s H vs Q E hr h=>?_
 ·rintro _ _ _ _ ⟨p,rfl,_⟩;rfl
 obtain⟨p,rfl,B,q⟩:=h;refine#[_,(jd (jy 1 eN.nd Jb)$ jd (ze PassesOwn.never rfl (kS rfl mr$ ja (cT.e hr.m$ ja (pv 0)$ ja je jb) jb) (jr (i:=2) eN.nd rfl$ Or.inl rfl)$ jd (jy 3 eN.nd$ cT.e hr.m$ ja (pv 0)$ ja je jb)$ jd (ju (zb$ cT.e hr.m$ ja (pv 0)$ ja je jb) (jg$ jy 3 eN.nd$ jq kI (jq kI (jq Jl je je) je)$ cT.e hr.m$ ja (pv 0)$ ja je jb) jm)$ jg$ kx (jN hr) (pv 1) (pv 3) (cU.e hr.m$ ja (pv 0) jb) rfl)$ jg$ jl$ pv 1),?_];have big:=aQ;have t18:=hG;refine ah λF1 f1=>λl nl=>f1 _ _ ?_;clear f1;have s1:ae H (af H l$ .dK []):=jf nl;have e1:af H l (.dK []) l=some (.dK []):=jc;generalize af H l (.dK [])=H1 at s1 e1;have lp:l≠p:=B.ne nl;have B1:=B.same s1;refine ah λF1 f1=>gF λJ j=>#[_,rfl,p,14,rfl,B1,OA,OA,λd H2 d0 d1 B2 e2=>#[_,rfl,OB,OB,j _ _ ?_]];clear j;refine zC (lo:=0) (CL p l H) #[none,none,[],rfl,by rw[e2 l lp];exact e1,_K.GT.nil,Nat.le_refl _,B2,(au.of_same s1).trans$ au.of_eq e2] ?_ (λσ H' h=>f1 _ _ ?_)
 ·clear f1;intro E0 _ i σ H3 hi fE Gq kq h;obtain⟨o2,o3,C,rfl,hl,gC,lC,B3,k3⟩:=h;refine kq ?_;clear kq;show dU (dn _ _) _ E0 _ _;refine ah λF1 f1=>#[_,rfl,p,14,rfl,B3,OA,OA,λc4 H4 d40 d41 B4 e4=>f1 _ _ ?_];clear f1;refine ah λF1 f1=>?_;have cont:∀(cc:Int) (HH:Hp),aq HH p->(∀b,b≠p->HH b=H3 b)->F1 [some$ .ref p,some$ .ref l,some$ .int (0+(i:Int)),some$ .int cc] HH:=λcc HH BH eH=>f1 _ _ (by
   refine#[_,rfl,p,rfl,BH,λm H7 m0 m1 B7 e7=>?_];have h7:H7 l=some (.dK C):=by rw[e7 l lp,eH l lp];exact hl
   have pl:=JW C (.inl cc) (.int m);exact#[_,rfl,_,rfl,l,_,rfl,dZ.k (k:=.inl cc) h7 OB,fE _ _ #[_,_,_,rfl,jc,gC.put _ #[m0,m1],OB,B7.eq$ jh$ Ne.symm lp,(k3.trans ((au.of_eq eH).trans$ au.of_eq e7)).upd_own nl]])
  refine Cz λG1 yT yF=>#[_,rfl,p,8,rfl,B4,OA,OA,λd5 H5 d50 d51 B5 e5=>#[rfl,_,rfl,?_]];by_cases h3:d5=0
  ·rw[h3,decide_eq_true (rfl:V.int 0=V.int 0)];refine yT _ #[_,_,rfl,rfl,#[OA,OA,OA],_,_,rfl,rfl,_,rfl,p,4,rfl,B5,OA,OA,λd6 H6 d60 d61 B6 e6=>#[_,_,rfl,rfl,cont _ H6 B6 λb nb=>(e6 b nb).trans ((e5 b nb).trans$ e4 b nb)]]
  ·rw[decide_eq_false (λz=>h3 (by injection z))];exact yF _$ cont _ H5 B5 λb nb=>(e5 b nb).trans (e4 b nb)
 ·obtain⟨o2,o3,C,rfl,hl,gC,lC,B3,k3⟩:=h;exact#[_,rfl,q l C H' nl hl gC OB B3 k3]
theorem fQ:al z41z ["_law_script"] (aa j'):=bZ
noncomputable def ZM:Scope:=#[.function,[(".0",.local),("_law_one",.local),("_law_number",.globalImplicit),("_law_box_here",.free)],false,false,[]]
theorem xN:(z17z:List Str).Nodup:=by decide+kernel
theorem wO:a7 z41z (aa j') ZM z17z 1 [1]:=nE
theorem yb{f:Addr}{fd:FuncData}{fB fT fN fK fC fR:Addr}{fdB fdT fdN fdK fdC fdR:FuncData}(F:aU K "law" "law" j' f fd)(cB:Cl P w K mg base 1 fB fdB ["_law_script","_law_k"] (mV K) "_law_box")(cT:Cl P w K mg base 1 fT fdT z0z aW "_law_take")(cN:Cl P w K mg base 2 fN fdN z2z fX "_law_number")(cK:Cl P w K mg base 23 fK fdK z2z iO "_law_case")(cC:Cl P w K mg base 3 fC fdC z2z gu "_law_cells")(cR:Cl P w K mg base 66 fR fdR z18z gB "_law_right")(mr:mg "range"=none)(mtu:mg "tuple"=none):aj P w K mg base aC 67 f fd ["_law_script"] (lv K):=by
 refine F.ok fQ ?_ λcdv A outer s H vs Q E hr h=>?_
 ·rintro _ _ _ _ ⟨a,ns,rfl,_⟩;rfl
 obtain⟨a,ns,rfl,hS,hn,qq⟩:=h;refine#[_,(jd (j3 (i:=1) fQ.nd rfl (Or.inr rfl)$ cB.e hr.m$ ja (pv 0)$ ja je jb)$ jd (kH (cK.e hr.m$ ja (pv 1) jb)$ zT (n:=3) rfl$ jz (jr (i:=2) fQ.nd rfl$ Or.inl rfl)$ jz (jr (i:=3) fQ.nd rfl$ Or.inl rfl)$ jz (jr (i:=4) fQ.nd rfl$ Or.inl rfl) kK)$ jd (ju (ZW$ ZV$ cR.e hr.m$ ja (pv 2)$ ja (pv 3)$ ja (pv 4)$ ja (cC.e hr.m$ ja (pv 1) jb)$ ja (cT.e hr.m$ ja (pv 1)$ ja je jb) jb) (jg$ jl$ @v0 _ _ _ _) jm)$ jd (ze PassesOwn.never rfl (Y2 rfl mr$ ja je$ ja je jb) (jr (i:=5) fQ.nd rfl$ Or.inl rfl)$ jd (j3 (i:=1) fQ.nd rfl (Or.inr rfl)$ cB.e hr.m$ ja (pv 0)$ ja (pv 5) jb)$ jd (jy 6 fQ.nd$ jC jF rfl mtu boot_tuple$ ja (@kn _ _ _ _ _ _ _ (z17z) (1) ([1]) _ _ _ _ rfl (zq$ pv 4) wO (λ_ _ _ _ _=>(jr (i:=0) xN rfl$ Or.inl rfl)) (λ_ _ _ _ _=>(@zr _)) (λ_ _ _ _ _=>(cN.e hr.m$ ja (pv 1) jb)) (by intro _;rfl)) jb)$ jg$ ju (ZW$ ZV$ cR.e hr.m$ ja (pv 2)$ ja (pv 3)$ ja (pv 6)$ ja (cC.e hr.m$ ja (pv 1) jb)$ ja (cT.e hr.m$ ja (pv 1)$ ja je jb) jb) (jg$ jl$ @v0 _ _ _ _) jm)$ jg$ jl$ cR.e hr.m$ ja (pv 2)$ ja (pv 3)$ ja (pv 4)$ ja Jb$ ja je jb),?_];have big:=aQ;have t18:=hG;refine ah λF1 f1=>#[_,rfl,a,ns,1,rfl,hS,OA,OA,λp H1 np B1 e1=>f1 _ _ ?_];clear f1;have s1:ae H H1:=λb o e=>by rw[e1 b$ jk e np];exact e
 refine ah λF1 f1=>#[_,rfl,p,rfl,B1,λt r v2 v3 ds zs H3 ht hr hD h1 h8 nl hN hPa hCa B3 k3=>#[t,_,rfl,aD.of ht,rfl,_,_,rfl,_,_,rfl,_,_,rfl,rfl,f1 _ _ ?_]];clear f1;have s3:ae H H3:=λb o e=>k3 _ _ (jk e np) (s1 _ _ e);obtain⟨d,ps,ta,is,hd,rfl,hps,rfl,hta,hil,hi100,his⟩:=hCa;obtain⟨qs,rfl,hqv,nd⟩:=Bn hD hN hPa;obtain⟨q,hq,rfl⟩:=List.mem_map.mp hd;have P3:Pg H3 r qs zs:=#[hr,hD,hqv,nd,by rw[List.length_map]at h8;exact h8];have eps:ps=q.2:=by have z:=hps.symm.trans (hqv q hq).pa;injection z with z;injection z with z;exact(List.map_inj_right λa b e=>by injection e).mp z
 subst eps;have hisI:∀i∈is,dS i:=his;refine ah λF1 f1=>#[_,rfl,_,rfl,_,rfl,_,rfl,p,rfl,B3,λcA C H4 ncA hcA gC lC B4 k4=>#[_,rfl,p,61,rfl,B4,OA,OA,λm H5 m0 m1 B5 e5=>?_]];obtain⟨M,rfl⟩:∃M:Nat,m=(M:Int):=#[m.toNat,OB];have lc:cA≠p:=B3.ne ncA;have k35:au p H3 H5:=k4.trans (au.of_eq e5);have tm35:ai H3 H5:=k35.tm B3;have s5:ae H H5:=λb o e=>k35 _ _ (jk e np) (s3 _ _ e);have hcA5:H5 cA=some (.dK C):=by rw[e5 cA lc];exact hcA
 refine#[r,ta,cA,qs,zs,q,is,C,M,rfl,P3.mono tm35,hq,tm35 _ _ hta,hil,hisI,hcA5,gC,OB,λH6 k6=>#[_,rfl,aE rfl$ f1 _ _ ?_]];clear f1;have P6:=(P3.mono tm35).mono k6.tm;have hta6:=k6.tm _ _ (tm35 _ _ hta);have kH6:Kp H H6:=(Kp.of_same s5).trans k6;show dU _ _ _ [some$ .ref a,some$ .ref p,some$ .ref r,some$ .str q.1.f,some$ .ref ta,none,none] H6;refine ah λF1 f1=>gF λJ j=>#[_,_,rfl,#[OA,OA,OA,OA],j _ _ ?_];clear j;refine zC (lo:=2) (λi σ H'=>Dw a r ta q.1.f H6 σ H') #[_,_,_,rfl,Kp.of_same$ ae.refl H6] ?_ (λσ H' h=>f1 _ _ ?_)
 ·clear f1;intro E rt i σ H7 hi fE Gq kq h;obtain⟨o1,o5,o6,rfl,k7⟩:=h;refine kq ?_;clear kq;have hi3:i < 3:=hi;show dU (dn _ _) _ E [some$ .ref a,o1,some$ .ref r,some$ .str q.1.f,some$ .ref ta,some$ .int (2+(i:Int)),o6] H7;refine ah λF1 f1=>#[_,rfl,_,rfl,a,ns,2+(i:Int),rfl,(kH6.trans k7).seq hS,OB,OB,λp8 H8 np8 B8 e8=>f1 _ _ ?_];clear f1;have s8:ae H7 H8:=λb o e=>by rw[e8 b$ jk e np8];exact e
  have hta8:=s8 _ _ (k7.tm _ _ hta6);refine ah λF1 f1=>#[_,rfl,ta,rfl,#[_,aD.of hta8],zo (K:=K) (xs:=is.map V.int) (by rw[List.length_map];omega) (λi zs H9=>(∃js:List Int,zs=js.map V.int/\js.length=i/\∀y∈js,dS y)/\aq H9 p8/\au p8 H8 H9) #[#[[],rfl,rfl,λ_ h=>absurd h List.not_mem_nil],B8,au.refl] (λi zs H9 h9=>?_) (λi x zs H9 hx h9=>?_) (λzs H9 h9 l nl=>?_)]
  ·obtain⟨⟨js,rfl,lj,_⟩,_,k9⟩:=h9;exact#[aD.of$ k9.tm B8 _ _ hta8,by rw[List.length_map,lj];exact Nat.le_refl _]
  ·obtain⟨⟨js,rfl,lj,hj⟩,B9,k9⟩:=h9;refine#[_,rfl,p8,rfl,B9,λe HA e0 e1 BA eA=>#[#[js++[e],by rw[List.map_append];rfl,by rw[List.length_append,lj];rfl,λy hy=>?_],BA,k9.trans$ au.of_eq eA]];rcases List.mem_append.mp hy with z |z
   ·exact hj y z
   ·rw[List.mem_singleton.mp z];exact#[e0,e1]
  obtain⟨⟨js,rfl,lj,hj⟩,B9,k9⟩:=h9;rw[List.length_map]at lj;refine#[l,_,rfl,.inl #[aF.of jc,λl2 nl2=>f1 _ _ ?_]];clear f1;have sB:ae H9 (af (af H9 l$ .lst$ js.map V.int) l2$ .tup$ js.map V.int):=(jf nl).trans (jf nl2);have hl2:af (af H9 l$ .lst$ js.map V.int) l2 (.tup$ js.map V.int) l2=some (.tup$ js.map V.int):=jc;generalize af (af H9 l$ .lst$ js.map V.int) l2 (.tup$ js.map V.int)=HB at sB hl2;have k8B:au p8 H8 HB:=k9.trans (au.of_same sB);have tm8B:ai H8 HB:=k8B.tm B8;have BB:=B9.same sB;refine#[_,rfl,_,rfl,_,rfl,_,rfl,p8,rfl,BB,λcA C HC ncA hcA gC lC BC kZ=>#[_,rfl,p8,61,rfl,BC,OA,OA,λm HD m0 m1 BD eD=>?_]];obtain⟨M,rfl⟩:∃M:Nat,m=(M:Int):=#[m.toNat,OB];have lc:cA≠p8:=BB.ne ncA;have kBD:au p8 HB HD:=kZ.trans (au.of_eq eD);have tmBD:ai HB HD:=kBD.tm BB;have s7D:ae H7 HD:=λb o e=>kBD _ _ (jk e np8) (k8B _ _ (jk e np8)$ s8 _ _ e);refine#[r,l2,cA,qs,zs,q,js,C,M,rfl,(P6.mono k7.tm).mono$ ae.tm s7D,hq,tmBD _ _ hl2,by rw[lj];exact hil,hj,by rw[eD cA lc];exact hcA,gC,OB,λHE kE=>#[_,rfl,aE rfl$ fE _ _ #[_,_,_,rfl,k7.trans ((Kp.of_same s7D).trans kE)]]]
 ·obtain⟨o1,o5,o6,rfl,k7⟩:=h;refine#[_,rfl,_,rfl,_,rfl,λcA ncA=>#[r,ta,cA,qs,zs,q,is,[],60,rfl,(P6.mono k7.tm).mono$ ae.tm$ jf ncA,hq,jf ncA _ _$ k7.tm _ _ hta6,hil,hisI,jc,_K.GT.nil,Nat.le_refl _,λH' _=>qq H']]
theorem tO{f:Addr}{fd:FuncData}{k:Nat}{nA:Addr}:aj P w K mg base aC k f fd z14z (dO K nA 0):=by
 have no:∀{vs H Q E},¬dO K nA 0 vs H Q E:=by rintro vs H Q E ⟨j,b2,pA,ag,sA,wA,cA,qs,xs,q,is,C,L,t,M,z,_⟩;cases z
 exact#[λvs H Q E h=>(no h).elim,λA outer s H args us vs Q E hr he hb hv h=>(no h).elim]
theorem wD{nA fG fW fR f:Addr}{fdG fdW fdR fd:FuncData}(F:aU K "_law_went" "_law_went" gJ f fd)(bS:ax K fd z14z [])(mS:mg "_law_went"=some (.ref f))(cG:Cl P w K mg base 8 fG fdG ["_law_way","_law_held"] (fi nA) "_law_gone")(cW:Cl P w K mg base 7 fW fdW z7z (ig K 6) "_law_worth")(cR:Cl P w K mg base 1 fR fdR z21z gX "_law_read")(mdi:mg "dict"=none)(mzi:mg "zip"=none)(hnA:iu K nA):∀j,aj P w K mg base aC (j+9) f fd z14z (dO K nA j)
 |0=>tO
 |j+1=>uo F cG cW cR #[(wD F bS mS cG cW cR mdi mzi hnA j),bS,F.kp,mS] mdi mzi hnA
theorem y'{f:Addr}{fd:FuncData}{k n:Nat}(G:aj P w K mg base aC k f fd z3z (du K n)):aj P w K mg base aC k f fd z3z (ci n):=
 G.imp λvs H Q E h=>by obtain⟨a,d,T,ys,kvs,rfl,h1,h2,h3,h4,h5,h6⟩:=h;exact#[a,d,T,ys,kvs,rfl,.inl h1,h2,h3,h4,h5,h6]
@[elab_as_elim] theorem D4{P:List Value->Prop}(u:List Value)(h:u.length=1)(q:∀a,P [a]):P u:=by
 cases u with
 |nil=>cases h
 |cons a r=>
  cases r with
  |nil=>exact q a
  |cons _ _=>cases h
theorem _root_._L.aU.b1{K:Frag}{st:Stmt}{p:List Str}(F:aU K x q st f g)(h:∀(kV d b:Value) (A:Option Addr) (c C a:Value),bindArgs (fnOf x q (bq st) (a9 st) (aa st) .none kV d b A c C) #[[a],[]]=pure (p.zip [a]):=by intros;rfl)(e:p.length=1:=by rfl):ax K g p []:=F.binds λkV d b A c C u H=>D4 u (H.trans e) λa=>h kV d b A c C a
@[elab_as_elim] theorem D5{P:List Value->Prop}(u:List Value)(h:u.length=2)(q:∀a b,P [a,b]):P u:=by
 cases u with
 |nil=>cases h
 |cons a r=>
  cases r with
  |nil=>cases h
  |cons b R=>
   cases R with
   |nil=>exact q a b
   |cons _ _=>cases h
theorem _root_._L.aU.b2{K:Frag}{st:Stmt}{p:List Str}(F:aU K x q st f i)(h:∀(kV d g:Value) (A:Option Addr) (c C a b:Value),bindArgs (fnOf x q (bq st) (a9 st) (aa st) .none kV d g A c C) #[[a,b],[]]=pure (p.zip [a,b]):=by intros;rfl)(e:p.length=2:=by rfl):ax K i p []:=F.binds λkV d g A c C u H=>D5 u (H.trans e) λa b=>h kV d g A c C a b
@[elab_as_elim] theorem D6{P:List Value->Prop}(u:List Value)(h:u.length=3)(q:∀a b c,P [a,b,c]):P u:=by
 cases u with
 |nil=>cases h
 |cons a r=>
  cases r with
  |nil=>cases h
  |cons b R=>
   cases R with
   |nil=>cases h
   |cons c d=>
    cases d with
    |nil=>exact q a b c
    |cons _ _=>cases h
theorem _root_._L.aU.b3{K:Frag}{st:Stmt}{p:List Str}(F:aU K x q st f j)(h:∀(kV d g:Value) (A:Option Addr) (C i a b c:Value),bindArgs (fnOf x q (bq st) (a9 st) (aa st) .none kV d g A C i) #[[a,b,c],[]]=pure (p.zip [a,b,c]):=by intros;rfl)(e:p.length=3:=by rfl):ax K j p []:=F.binds λkV d g A C i u H=>D6 u (H.trans e) λa b c=>h kV d g A C i a b c
@[elab_as_elim] theorem D7{P:List Value->Prop}(u:List Value)(h:u.length=4)(q:∀a b c d,P [a,b,c,d]):P u:=by
 cases u with
 |nil=>cases h
 |cons a r=>
  cases r with
  |nil=>cases h
  |cons b R=>
   cases R with
   |nil=>cases h
   |cons c e=>
    cases e with
    |nil=>cases h
    |cons d f=>
     cases f with
     |nil=>exact q a b c d
     |cons _ _=>cases h
theorem _root_._L.aU.b4{K:Frag}{st:Stmt}{p:List Str}(F:aU K x q st f j)(h:∀(kV D g:Value) (A:Option Addr) (C i a b c d:Value),bindArgs (fnOf x q (bq st) (a9 st) (aa st) .none kV D g A C i) #[[a,b,c,d],[]]=pure (p.zip [a,b,c,d]):=by intros;rfl)(e:p.length=4:=by rfl):ax K j p []:=F.binds λkV D g A C i u H=>D7 u (H.trans e) λa b c d=>h kV D g A C i a b c d
@[elab_as_elim] theorem D8{P:List Value->Prop}(u:List Value)(h:u.length=5)(q:∀a b c d e,P [a,b,c,d,e]):P u:=by
 cases u with
 |nil=>cases h
 |cons a r=>
  cases r with
  |nil=>cases h
  |cons b R=>
   cases R with
   |nil=>cases h
   |cons c f=>
    cases f with
    |nil=>cases h
    |cons d g=>
     cases g with
     |nil=>cases h
     |cons e i=>
      cases i with
      |nil=>exact q a b c d e
      |cons _ _=>cases h
theorem _root_._L.aU.b5{K:Frag}{st:Stmt}{p:List Str}(F:aU K x q st f j)(h:∀(kV D g:Value) (A:Option Addr) (C i a b c d e:Value),bindArgs (fnOf x q (bq st) (a9 st) (aa st) .none kV D g A C i) #[[a,b,c,d,e],[]]=pure (p.zip [a,b,c,d,e]):=by intros;rfl)(e:p.length=5:=by rfl):ax K j p []:=F.binds λkV D g A C i u H=>D8 u (H.trans e) λa b c d e=>h kV D g A C i a b c d e
def dQ(K:Frag)(p q:Str)(st:Stmt)(f:Addr):Prop:=∃(o:Value) (O:Option Addr) (kV d a:Value) (A:Option Addr) (c C:Value) (s:Array (Option Value)),K.lookup f=some #[o,O,.func$ fnOf p q (bq st) (a9 st) (aa st) .none kV d a A c C,s]/\codeIn K c q=true/\keepIn K (.ref f)=true
def cV(K:Frag)(p:Str)(st:Stmt)(f:Addr):Prop:=nsIn K mainGlobals p=some (some$ .ref f)/\dQ K p p st f
section
variable {K:Frag}{py q:Str}{st:Stmt}{f:Addr}{oc:Value}{od:Option Addr}{kV dc pm:Value}{an:Option Addr}{cd ct:Value}{sl:Array (Option Value)}
theorem DG(l:K.lookup f=some #[oc,od,.func$ fnOf py q (bq st) (a9 st) (aa st) .none kV dc pm an cd ct,sl])(c:codeIn K cd q=true)(k:keepIn K (.ref f)=true):dQ K py q st f:=#[_,_,_,_,_,_,_,_,_,l,c,k]
theorem Dr(a:nsIn K mainGlobals py=some (some$ .ref f))(l:K.lookup f=some #[oc,od,.func$ fnOf py py (bq st) (a9 st) (aa st) .none kV dc pm an cd ct,sl])(c:codeIn K cd py=true)(k:keepIn K (.ref f)=true):cV K py st f:=#[a,DG l c k]
theorem dQ.go(h:dQ K py q st f):∃F,aU K py q st f F/\keepIn K (.ref f)=true:=by obtain⟨oc,od,kV,dc,pm,an,cd,ct,sl,l,c,k⟩:=h;exact#[_,Z3 l c k,k]
theorem cV.go{mg:Str->Option Value}(t:cV K py st f)(X:K.In h)(G:h.Ns mainGlobals mg):∃a,aU K py py st f a/\keepIn K (.ref f)=true/\mg py=some (.ref f):=by obtain⟨a,F,k⟩:=t.2.go;exact#[a,F,k,LI X G t.1]
end
theorem wL{l:PySem.W.OpenLaw}{w:World}{K:Frag}{mg:Str->Option Value}(X:K.In h)(G:h.Ns mainGlobals mg)(h1:mg "law"=some (.ref fa))
             
  (t1:cV K "names_in" dJ f0)
  (t2:cV K "own_terms" yA g')
  (t3:cV K "used_behind_terms" p7 P7)
  (t4:cV K "used_ahead_of" uR f1)
  (t5:cV K "used_ahead" uQ P8)
  (t7:cV K "bodies_in" yx h2)
  (t8:cV K "many_cuts" pQ h3)
  (t':cV K "deed_of" pN h4)
  (h5:cV K "place_of_give" iH f2)
  (h6:cV K "place_of_set" pT h7)
  (h8:cV K "part_made" pS h9)
  (h':cV K "made" mG i0)
  (i1:cV K "_law_box" yy i2)
  (sE:cV K "_law_take" pZ i3)
  (i4:cV K "_law_number" iG i5)
  (j0:cV K "_law_names" gH j1)
  (j2:cV K "_law_term" mK k')
  (l0:cV K "_law_spot" pV l1)
  (l2:cV K "_law_statement" pW P9)
  (l3:cV K "_law_body" mz l4)
  (l5:cV K "_law_any" yw l6)
  (eY:cV K "_law_op" Db l8)
  (l':cV K "_law_inner" lT n2)
  (n3:cV K "_law_looped" gq n4)
  (n5:cV K "_law_ticking" eM n7)
  (n':cV K "_law_busy" pK o1)
  (o2:cV K "_law_case" mE o3)
  (o4:cV K "joined" iE o5)
  (o6:cV K "worth" iI o7)
  (o8:cV K "named" iF o9)
  (o':cV K "begun" lR p0)
  (p1:cV K "deeper" iD p2)
  (p3:cV K "behind_asking" iB p4)
  (p6:cV K "plain" lU p8)
  (p9:cV K "_law_cells" lS p')
  (q0:cV K "_law_worth" CB q1)
  (q2:cV K "_law_gone" pO q3)
  (q4:cV K "_law_read" pU q5)
  (q6:cV K "_law_went" gJ q7)
  (q':cV K "_law_told" p5 r0)
  (r1:cV K "_law_right" lV r2)
  (tZ:cV K "law" j' fZ)
  (r3:nsIn K mainGlobals "NOUGHT"=some (some$ .ref nA)) (r4:K.lookup nA=some #[.type "tuple",P',.seq (List.toArray [.str "num" Q',.int 0 R0]) nN,R1]) (r5:nsIn K mainGlobals "Cutting"=some (some$ .ref C)) (v1:nsIn K mainGlobals "TOP"=some (some$ .int 1000000000000000000 O7)) (vD:nsIn K mainGlobals "DEEPEST"=some (some$ .int 15 tD)) (vR:nsIn K mainGlobals "PlainRun"=some (some$ .ref c)) (vT:nsIn K mainGlobals "Turns"=some (some$ .ref c0))
  (v2:nsIn K mainGlobals "TooLong"=some (some$ .ref x))
  (v3:nsIn K mainGlobals "TooDeep"=some (some$ .ref q))
  (r6:K.lookup x=some #[O8,O9,.cls O',P0]) (Y:typeIn K (.ref x)=some (.type "type")) (m5:mroIn K x (.type "BaseException")=some true) (k0:keepIn K (.ref x)=true)
  (r7:K.lookup q=some #[P1,P4,.cls P5,P6]) (t0:typeIn K (.ref q)=some (.type "type")) (m6:mroIn K q (.type "BaseException")=some true) (k1:keepIn K (.ref q)=true)
  (r8:mroIn K x (.ref x)=some true) (r':mroIn K q (.ref x)=some false) (s0:mroIn K q (.ref q)=some true)
  (e0:excIn K x nC "ValueError.__new__"=true) (e1:excIn K q nC "ValueError.__new__"=true)
  (X':nX K x) (a0:nX K q)
  (rk:sv K c) (s1:Mk K c f3) (tm:wE K c0 "__init__" f4) (m7:bG K c "take_turn" f5) (m8:bG K c "number_in" f6) (m0:bG K c "answer_of" f7) (m9:bG K c "called" s2) (m':bG K c "do" s3)
  (ck:CK K C) (mk:Mk K C f9) (a1:bG K C "place_of_body" f') (s4:bG K C "place_of" s5) (s6:bG K C "place_of_cut" s7) (s8:bG K C "ways_of" s9)
  (s':dQ K "__init__" "Cutting.__init__" pP f9)
  (u0:dQ K "place_of_body" "Cutting.place_of_body" uL f')
  (u1:dQ K "place_of" "Cutting.place_of" uP s5)
  (u2:dQ K "place_of_cut" "Cutting.place_of_cut" uM s7)
  (u3:dQ K "ways_of" "Cutting.ways_of" uS s9)
  (u4:dQ K "__init__" "Turns.__init__" pX f4)
  (u8:dQ K "take_turn" "Turns.take_turn" lW f5)
  (u9:dQ K "number_in" "Turns.number_in" pY f6)
  (u':dQ K "__init__" "PlainRun.__init__" pR f3)
  (v4:dQ K "answer_of" "PlainRun.answer_of" mH f7)
  (v5:dQ K "called" "PlainRun.called" gI s2)
  (v6:dQ K "do" "PlainRun.do" uO s3)
  (z2:nsIn K mainGlobals "len"=some none)
  (z3:nsIn K mainGlobals "int"=some none)
  (A:nsIn K mainGlobals "range"=some none)
  (z0:nsIn K mainGlobals "list"=some none)
  (o:nsIn K mainGlobals "reversed"=some none)
  (B:nsIn K mainGlobals "tuple"=some none)
  (r:nsIn K mainGlobals "sorted"=some none)
  (z4:nsIn K mainGlobals "set"=some none)
  (z5:nsIn K mainGlobals "zip"=some none)
  (z1:nsIn K mainGlobals "dict"=some none)
  (z6:nsIn K mainGlobals "max"=some none)
  :∃fd:FuncData,(∀(s:Shared) (v:Value),BindsTo s fd #[[v],[]] [("_law_script",v)])/\∀base:Heap,K.In base->base.Ns mainGlobals mg->aj l.prog w K mg base aC 67 fa fd ["_law_script"] (lv K):=by
 have e:=h1.symm.trans (LI X G tZ.1);cases e;obtain⟨v7,p,D,M⟩:=t1.go X G;obtain⟨R3,F7,v8,v9⟩:=t2.go X G;obtain⟨R4,F9,R5,v'⟩:=t3.go X G;obtain⟨R6,E,k2,m1⟩:=t4.go X G;obtain⟨R7,a2,R8,w0⟩:=t5.go X G;obtain⟨R9,a3,w1,w2⟩:=t7.go X G;obtain⟨R',F0,k3,a4⟩:=t8.go X G;obtain⟨S0,a',w3,w4⟩:=t'.go X G;obtain⟨S1,I,k4,b0⟩:=h5.go X G;obtain⟨S2,b7,w5,w6⟩:=h6.go X G;obtain⟨S3,b9,w7,w8⟩:=h8.go X G;obtain⟨S4,b',w9,w'⟩:=h'.go X G;obtain⟨S5,c1,x0,x1⟩:=i1.go X G;obtain⟨S6,F,k,m⟩:=sE.go X G;obtain⟨S7,t,J,L⟩:=i4.go X G;obtain⟨S8,F1,k5,c2⟩:=j0.go X G;obtain⟨S9,O,k6,m2⟩:=j2.go X G;obtain⟨S',c3,x2,x3⟩:=l0.go X G;obtain⟨T0,c4,T1,x4⟩:=l2.go X G;obtain⟨T2,F2,x5,c5⟩:=l3.go X G;obtain⟨T3,c6,x7,x8⟩:=l5.go X G;obtain⟨T4,u,Q,R⟩:=eY.go X G;obtain⟨T5,c9,x9,x'⟩:=l'.go X G;obtain⟨T6,c',y0,y1⟩:=n3.go X G;obtain⟨T7,d0,y2,y3⟩:=n5.go X G;obtain⟨T8,d1,y5,z7⟩:=n'.go X G;obtain⟨T9,d2,z8,z'⟩:=o2.go X G;obtain⟨T',d3,A',B1⟩:=o4.go X G;obtain⟨U0,S,k7,m3⟩:=o6.go X G;obtain⟨U1,F3,k8,d4⟩:=o8.go X G;obtain⟨U2,d5,B2,B3⟩:=o'.go X G;obtain⟨U3,d6,B4,B5⟩:=p1.go X G;obtain⟨U4,d7,B6,B7⟩:=p3.go X G;obtain⟨U5,d8,B8,B9⟩:=p6.go X G;obtain⟨U6,d',B',C'⟩:=p9.go X G;obtain⟨U7,T,k9,m4⟩:=q0.go X G;obtain⟨U8,e2,D',E1⟩:=q2.go X G;obtain⟨U9,e3,E2,E3⟩:=q4.go X G;obtain⟨U',F4,E4,e4⟩:=q6.go X G;obtain⟨V0,e5,E5,E6⟩:=q'.go X G;obtain⟨V1,e6,E7,E8⟩:=r1.go X G;obtain⟨V2,e7,V3⟩:=s'.go;obtain⟨V4,F5,V5⟩:=u0.go;obtain⟨V6,e8,V7⟩:=u1.go;obtain⟨V8,e9,V9⟩:=u2.go;obtain⟨V',e',W0⟩:=u3.go;obtain⟨W1,g0,W2⟩:=u4.go;obtain⟨W3,g1,W4⟩:=u8.go;obtain⟨W5,g2,W6⟩:=u9.go;obtain⟨W7,g4,W8⟩:=u'.go;obtain⟨W9,F6,W'⟩:=v4.go;obtain⟨Y',g5,Z'⟩:=v5.go;obtain⟨dPD,g6,kPD⟩:=v6.go;obtain⟨ocZ,odZ,E9,E',G9,G',H0,H1,slZ,lZ,cZ,kZ⟩:=tZ.2;have FZ:=Z3 (st:=j') lZ cZ kZ;have b:=GJ X G z2;have j:=GJ X G z3;have a:=GJ X G A;have f:=GJ X G z0;have N:=GJ X G o;have n:=GJ X G B;have d:=GJ X G r;have y:=GJ X G z4;have n0:=GJ X G z5;have i:=GJ X G z1;have n1:=GJ X G z6;have h0:iu K nA:=λH=>.inr #[_,_,_,r4,Z,Z,cj,(.cons #[_,Z] (.cons #[_,Z] .nil))];refine#[fnOf "law" "law" (bq j') (a9 j') (aa j') .none E9 E' G9 G' H0 H1,λs v=>.of_eq Z,λbase _ _=>?_];have g:aj l.prog w K mg base aC 1 i3 _ _ aW:=uh F;have H2:aj l.prog w K mg base aC 1 i2 _ _ (mV K):=x6 c1 b j;have U:aj l.prog w K mg base aC 2 i5 _ _ fX:=Zu t #[g,F.b2,k,m];have G0:aj l.prog w K mg base aC 2 j1 _ _ eS:=oZ F1 g F.b2 k m a;have G1:aj l.prog w K mg base aC 6 k' _ _ (cn 4):=wz (P:=l.prog) (w:=w) (base:=base) O O.b3 m2 #[g,F.b2,k,m] #[U,t.b1,J,L] b 4;have H3:aj l.prog w K mg base aC 7 l1 _ _ gY:=ug c3 #[g,F.b2,k,m] #[G1,O.b3,k6,m2];have SS:=BG (P:=l.prog) (w:=w) (base:=base) c4 F2 #[g,F.b2,k,m] #[G1,O.b3,k6,m2] #[H3,c3.b2,x2,x3] c4.b5 x4 F2.b5 c5 b n a;have H4:aj l.prog w K mg base aC 21 l4 _ _ (fh 6):=(SS 6).2;have H5:aj l.prog w K mg base aC 22 l6 _ _ mR:=xY c6 #[g,F.b2,k,m] #[G0,F1.b2,k5,c2] #[H4,F2.b5,x5,c5] b a n j;have V:aj l.prog w K mg base aC 2 l8 _ _ lB:=A9 u #[g,F.b2,k,m];have H6:aj l.prog w K mg base aC 3 n2 _ _ (cH 2):=oY c9 #[g,F.b2,k,m] #[V,u.b3,Q,R];have H7:aj l.prog w K mg base aC 3 n4 _ _ (cH 1):=Zx c' #[g,F.b2,k,m] #[V,u.b3,Q,R] j n;have H8:aj l.prog w K mg base aC 3 n7 _ _ (cH 1):=Yr d0 #[g,F.b2,k,m] #[V,u.b3,Q,R] j n;have H9:aj l.prog w K mg base aC 4 o1 _ _ iN:=tR d1 #[g,F.b2,k,m] #[V,u.b3,Q,R] #[G0,F1.b2,k5,c2] #[H7,c'.b4,y0,y1] #[H8,d0.b4,y2,y3] #[H6,c9.b4,x9,x'];have H':aj l.prog w K mg base aC 23 o3 _ _ iO:=tS d2 #[g,F.b2,k,m] #[U,t.b1,J,L] #[H9,d1.b1,y5,z7] #[H5,c6.b3,x7,x8] b n;have NS:=vZ (P:=l.prog) (w:=w) (base:=base) p p.b1 M y d;have G2:aj l.prog w K mg base aC 7 f0 _ _ (cQ 6):=NS 6;have I1:aj l.prog w K mg base aC 7 f0 _ _ (mX K):=yc (fN:=f0) (fdN:=v7) p #[NS 5,p.b1,D,M] y d;have I2:aj l.prog w K mg base aC 1 g' _ _ lD:=yd F7;have US:=BZ (P:=l.prog) (w:=w) (base:=base) a2 F9 E a2.b2 w0 F9.b2 v' E.b2 m1 #[I2,F7.b1,v8,v9] #[G2,p.b1,D,M] f y d N;have I3:aj l.prog w K mg base aC 31 f1 _ _ (eW 7):=(US 7).2;have I4:aj l.prog w K mg base aC 10 f1 _ _ (eW 0):=(US 0).2;have I5:aj l.prog w K mg base aC 1 h2 _ _ lu:=xZ a3;have G3:aj l.prog w K mg base aC 2 h3 _ _ fj:=tY F0 #[I5,a3.b1,w1,w2] f;have I6:aj l.prog w K mg base aC 1 h4 _ _ gR:=tV a';have I7:aj l.prog w K mg base aC 8 f2 _ _ eV:=o0 I #[G2,p.b1,D,M];have I':aj l.prog w K mg base aC 8 f2 _ _ (mY K):=ye I #[I1,p.b1,D,M];have J0:aj l.prog w K mg base aC 11 h7 _ _ gV:=ue b7 #[I4,E.b2,k2,m1];have K1:aj l.prog w K mg base aC 63 f' _ _ (lE C 8):=DJ (P:=l.prog) (w:=w) (base:=base) ck F5 e8 e9 e' F5.b3 a1 e8.b3 s4 e9.b3 s6 e'.b4 s8 #[G3,F0.b1,k3,a4] #[I3,E.b2,k2,m1] #[I6,a'.b1,w3,w4] #[I7,I.b1,k4,b0] #[J0,b7.b2,w5,w6] b n N 8 (Ee _);have K3:aj l.prog w K mg base aC 3 f9 _ _ (mW C):=ya e7 ck #[G3,F0.b1,k3,a4];have K4:aj l.prog w K mg base aC 64 h9 _ _ (iR K nA):=t9 b9 ck mk K3 e7.b2 (LI X G r5) (LI X G r3) h0 K1 F5.b3 a1 #[I',I.b1,k4,b0] n N;have L0:aj l.prog w K mg base aC 65 i0 _ _ (iP K nA):=tX b' #[K4,b9.b3,w7,w8] n;have L1:aj l.prog w K mg base aC 1 o5 _ _ gU:=ZA d3 (LI X G v1);have G4:aj l.prog w K mg base aC 9 o7 _ _ (ci 8):=y' (si (P:=l.prog) (w:=w) (base:=base) S S.b2 m3 #[L1,d3.b3,A',B1] 8);have L3:clsIn K x≠none:=by
  unfold clsIn;rw[r6];intro z;cases z
 have L4:clsIn K q≠none:=by unfold clsIn;rw[r7];intro z;cases z
 have g7:=LI X G v2;have g8:=LI X G v3;have L5:XM K mg "TooLong" x:=#[e0,k0,X',Y,g7];have L6:XM K mg "TooDeep" q:=#[e1,k1,a0,t0,g8];have G5:aj l.prog w K mg base aC 1 o9 _ _ dm:=ZE F3;have L7:aj l.prog w K mg base aC 2 p0 _ _ eQ:=oW d5 #[G5,F3.b2,k8,d4] b;have L8:aj l.prog w K mg base (dP l.prog w) 1 p2 _ _ (dN q):=ZF d6 (LI X G vD) L6;have L':aj l.prog w K mg base aC 1 f4 _ _ (iS c):=uj g0 rk;have M1:aj l.prog w K mg base (dP l.prog w) 1 f5 _ _ (gZ c x):=ph g1 rk L5;have N1:aj l.prog w K mg base aC 1 f6 _ _ (eU c):=uk g2 rk;have N2:aj l.prog w K mg base aC 2 f3 _ _ (iQ c):=ua g4 rk L' g0.b3 (LI X G vT) tm;have N3:aj l.prog w K mg base aC 10 p4 _ _ dM:=ZH d7 #[G4,S.b2,k7,m3] f N;have N':aj l.prog w K mg base (dP l.prog w) 58 f7 _ _ (fV c x q 16):=Au (P:=l.prog) (w:=w) (base:=base) rk F6 F6.b4 m0 g5 g5.b4 m9 g6 g6.b5 m' #[G4,S.b2,k7,m3] #[G5,F3.b2,k8,d4] M1 g1.b1 m7 N1 g2.b2 m8 (L8) d6.b1 B4 B5 #[N3,d7.b2,B6,B7] n f N i n0 16;have O0:aj l.prog w K mg base (dP l.prog w) 59 p8 _ _ (gA c x q):=pe d8 rk s1 N2 g4.b4 (LI X G vR) #[L7,d5.b3,B2,B3] N' F6.b4 m0;have O1:aj l.prog w K mg base aC 3 p' _ _ gu:=oX d' #[g,F.b2,k,m] #[U,t.b1,J,L] a;have G6:aj l.prog w K mg base aC 7 q1 _ _ (ig K 6):=DI (P:=l.prog) (w:=w) (base:=base) T T.b2 m4 j n1 6;have O2:aj l.prog w K mg base aC 8 q3 _ _ (fi nA):=tW e2 #[G6,T.b2,k9,m4] i;have O3:aj l.prog w K mg base aC 1 q5 _ _ gX:=uf e3;have O4:aj l.prog w K mg base aC 25 q7 _ _ (dO K nA 16):=wD (P:=l.prog) (w:=w) (base:=base) F4 F4.b5 e4 #[O2,e2.b2,D',E1] #[G6,T.b2,k9,m4] #[O3,e3.b2,E2,E3] i n0 h0 16;have O5:aj l.prog w K mg base aC 60 r0 _ _ iT:=um e5 (O0) d8.b5 B8 B9 #[g7,L3,Y,m5,g8,L4,t0,m6,r8,r',s0];have O6:aj l.prog w K mg base aC 66 r2 _ _ gB:=pf e6 #[O4,F4.b5,E4,e4] #[L0,b'.b1,w9,w'] #[O5,e5.b5,E5,E6] i;exact yb FZ #[H2,c1.b2,x0,x1] #[g,F.b2,k,m] #[U,t.b1,J,L] #[H',d2.b1,z8,z'] #[O1,d'.b1,B',C'] #[O6,e6.b5,E7,E8] a n
theorem Dt{l:PySem.W.OpenLaw}{Y:World->Heap->Prop}{d:DefRec}{K:Params->Frag}(e:l.most=some 63)(H:d.params.defaults=[])
  (g:∀(w:World) (h:Heap),Y w h->(K w.params).In h)
  (F:∀(w:World) (mg:Str->Option Value) (b:Addr) (h:Heap),(K w.params).In h->h.Ns mainGlobals mg->mg d.name=some (.ref b)->
   ∃c:FuncData,(∀(s:Shared) (u:Value),BindsTo s c #[[u],[]] [("_law_script",u)])/\∀base:Heap,(K w.params).In base->base.Ns mainGlobals mg->aj l.prog w (K w.params) mg base aC 67 b c ["_law_script"] (lv$ K w.params)):
  PySem.W.WalkO q L m Y l.row.toRowW d [] (λf v=>PySem.call f v):=
 _L.vk (n:=63) (k:=67) (x:="_law_script") (CX:=λ_=>aC) (sp:=λw=>lv (K w.params)) e OA H #[Z,OA,OA] g F (λ_ _ a N i _ j=>#[a,N,Z,j,i,λ_=>Z]) λ_ _ _ _ _ z=>z
end _K
structure PySem.W.Fast:Prop where(tw3027228600636597120 tw11543878484403470618 tw2200893051597510543 tw17563610063718049521 tw11704325636673062358 tw18121726439388901411 tw12830747852086383453 tw4771782975428880152 tw7706904180132102780 tw14203223991376019692 tw11146550307629630062 tw8284086077577453140 tw18434474412918846284 tw5625341717357187516 tw11161468329624414128 tw9206640607513140650 tw12176902677029701248 tw12061131671668748219 tw15749744324181592426 tw2591062357961203862 tw4947517220762425965 tw1074659103941836429 tw17851867894129321862 tw1860525778169013660 tw11590842541176270799 tw13481597448789682003 tw4292067711114060119 tw10983831175327156791 tw5771864340844388672 tw12034583094389958657 tw3520023524157298242 tw8621343136499485539 tw8440277963509486294 tw13367779177486587112 tw422950944682168139 tw6089650748682603242 tw12601209626568121173 tw16655388063634289909 tw11198761801315227243 tw10493835406936991103 tw9678372686746279300 tw669545724366234857 tw8005091491653764660 tw6709160637586728112 tw1449578849276468914 tw4304801527821317304 tw17725468298493184778 tw1806582706767288635 tw7543018094486604835 tw4448527383019962905 tw17342156408456493848 tw16669052439019104415 tw2533292043076110691 tw12779101611068816380 tw2039305896414772357 tw13037538623822105767 tw12913144322115918843 tw1271168507771960051 tw18323942894058192392 tw326488865334702154 tw18329969631679894778 tw9453112464174960185 tw7544305217657455539 tw13926469139992812685 tw4183154462982384273 tw9611425289747339611 tw16304163178704084966 tw2421772513668548195 tw17216229797037857222 tw6874863788585449704 tw7913132737884001167 tw11261834790076147455 tw16611962454425153093 tw18355210528453320375 tw8593726090224723448 tw12277192346494197856 tw11275922179838025710 tw13680698961725200722 tw16565855172422643292 tw14451584514693942381 tw6810520488071552458 tw8126408946982002060 tw9254481750706754377 tw14272388360953868160 tw13332173858981942569 tw18390513364259942733 tw2983302047397744890 tw14203839463243465213 tw5951040730365836037 tw1730850315717415005 tw4369118864474210883 tw2806534939913386935 tw8943391613835424300 tw10479752556397061415 tw5155330529321576104 tw12962767121332322597 tw12957290515349262793 tw8812702008600604067 tw2401944629294944716 tw290186743333248856 tw5653439450089328792 tw17358787115435789512 tw7990704779680737577 tw3815224219305438996 tw2541128131340432078 tw6508091940919356161 tw16189193583787768549 tw10271286444654484383 tw893970261709648414 tw9093743328113868290 tw8415169944624317358 tw8503452968576283746 tw13345082235781646370 tw16209131966962181812 tw17201332309940814570 tw17750815783607778957 tw17925166583597679660 tw9786789746933876330 tw10310662921373507185 tw16198505982847845666 tw13415929151170157694 tw17102955588743951512 tw14209234779874295698 tw14147788391536330406 tw6878402388603560906 tw998615883281418758 tw8881004122233830018 tw14320077022682437431 tw18365722457317483078 tw6276646829646427531 tw18425118265858220197 tw12145631337845402862 tw3278854686369619120 tw16861148021655814138 tw14240039203192842273 tw5232639125510685445 tw14008804460747042734 tw1712694045523226833 tw6118981765661363836 tw7603353440683150608 tw10588595745521162782 tw18236799201498973805 tw3366889445947587781 tw13837054793525432849 tw1282150447199997067 tw13011489110046827291 tw16024480362515152359 tw11177439960038759866 tw1651488994179490839 tw17002799282560223516 tw723792226944818499 tw2257112463145655419 tw2929734734633544010 tw16770732014748128725 tw15989899549487340642 tw5744612591874299840 tw6693618336226174768 tw17879988249334102459 tw7712686138544779405 tw11438535546384444389 tw15030691638254376747 tw12380505472256450462 tw8685460950100850900 tw5921784235517133862 tw15506641112258633329 tw15043541712171748988 tw2972138539536593486 tw11749672088914881569 tw8621498616612428864 tw255132558761834560 tw3709525825342371869 tw16108336889831113988 tw2444042320862660021 tw1750221381892528331 tw13969985965090978038 tw1252220464968854633 tw6841618901328999770 tw3350430578312162463 tw15427366630394761820 tw2688029374662941808 tw9393141055670973334 tw4473927592788611244 tw5382578239860250431 tw13182442440650057858 tw3774916515775753872 tw13400949409030579706 tw18126896856385777489 tw2719585209282689383 tw16601132587868132162 tw14386408025010876677 tw7237569164771799314 tw14084049501484574968 tw17696216444155966503 tw18316108445486461761 tw2106009581685567464 tw1875925369633004713 tw17436456723121854427 tw11479975549189302270 tw12328404361927293430 tw12419600502656803352 tw7438076136650419564 tw6451421152712339484 tw15367464849583019968 tw15301139078376029982 tw2438613261077698776 tw5677100307510880295 tw5178783976973512708 tw15048499003623838271 tw14485835581429965655 tw12592945176865523709 tw3241217279513918995 tw11285700458670280223 tw823690057995703129 tw17178693081189186528 tw766821561105222773 tw5357293902789618690 tw336536972589516145 tw12133218593864668251 tw15500845408431846151 tw636719368178841336 tw3335522384336713932 tw9170088407359491232 tw7830874053316597752 tw2988262175026612980 tw10408326522359734705 tw9855980570659998683 tw3149551991358721781 tw2884382874518613604 tw2327574612553184906 tw17142248093267365951 tw15095661734145533442 tw14197253490836968431 tw12437022520911390060 tw7727554442846204378 tw1156063422588972757 tw8420309679236577923 tw4026589600663656192 tw3873428836182901962 tw1658502847577076257 tw14687928335763374834 tw18331382356433278610 tw11098508327106256501 tw6763376696901659784 tw9576162900957097441 tw7599296881298261907 tw5880458603147650068 tw5750949483232802909 tw4863547211719233144 tw352702017512250581 tw18376885220058204088 tw18371734110867440481 tw18174235331550020156 tw16508248954582704270 tw15789334404388611611 tw13841537056662474487 tw1275164340714732632 tw12594210061057669469 tw11275021894538133633 tw10588013312673120046 tw4112449065976275459 tw2777429144775650308 tw13920262634403227544 tw9852646644472044317 tw9653667938398669459 tw9160408007741128675 tw8739840113744203357 tw8414920201378896567 tw800506304531105519 tw7540842241651577566 tw7402589453209970404 tw6851299159271110047 tw6846173085534616664 tw4663837959048977139 tw4375008906734972524 tw386549848722473486 tw3251029087593076280 tw2596638975717740423 tw2118326770700210171 tw210668639196500912 tw17808195096370274618 tw15153633310475629704 tw13215281161395854646 tw18318068126924532686 tw11379949892710820433 tw78392976644335218 tw4373630174527474063 tw5302174527620592859 tw4193181887927650615 tw18406003663082397660 tw17443159572928902181 tw8637546643814598911 tw6998918879391609442 tw3639243815796940851 tw1155634820417648003 tw2873394482197665049 tw15571900299777468952 tw2908850587449426676 tw12128276940221762622 tw3517315153234213141 tw12669778935828893495 tw141220847795491670 tw4166600339519085468 tw16731562568602540546 tw1462593779197502629 tw14451557086692405814 tw1436806037942941385 tw1413659554248136420 tw13790996207123981860 tw13682232148266230796 tw13600506177553778500 tw7653304910899530251 tw3621045468909024171 tw18291530112244743979 tw16191149044889906705 tw9111442776793571789 tw7972824472406385634 tw4937672489604768437 tw3750492170205662744 tw18304447069470638543 tw15880610680704715154 tw12387823416397136917 tw4956746425326208376 tw1507449737979466806 tw13021723602793761293 tw10057282937483830833:True)
open PySem PySem.W PyProof.Rows PySem.W.X
theorem _K.Cb {q : Program} {loose : List PySem.Str} {XP : (PySem.Str → Option Value) → Heap → Prop} {K : Params → Frag} {as : List Addr} {n t : Nat} {r : RowW} {d : DefRec} {kwd : List (PySem.Str × PySem.Expr)} {run : Value → List Value → Sem Value}
    (e : ∀ P, as = (K P).map (·.1)) (h : WalkO q loose XP (InK K) r d kwd run) : WalkX q loose XP (obsZ as) (valZ K n t) r d kwd run :=
  fun w s₀ s₁ mg mb G Y a o pm cd doc dV kV h1 h2 h3 h4 h5 h6 args vals as' L => h w s₀ s₁ mg mb G (InK.keeps w _ _ (z_facts e Y).2.1 L.keeps) a o pm cd doc dV kV h1 h2 h3 h4 h5 h6 args vals as'
set_option maxRecDepth 100000 in
set_option maxHeartbeats 0 in
theorem PySem.Challenge.cw_againbook_k19_whole_cuts_run_by_hand_holds : PySem.Challenge.rw_againbook_k19_whole_cuts_run_by_hand.Holds := by
  w_on; o_law; z_head; (case hw => w_witness2)
  refine _K.Cb (fun _ => by rfl)$ _K.Dt (l := PySem.Challenge.rw_againbook_k19_whole_cuts_run_by_hand) rfl rfl (fun w h Y => Y) ?F
  case F =>
    intro w mg fa h KX G hmg
    apply _K.wL KX G hmg
    iterate 42 (apply _K.Dr;iterate 4 k_is)
    iterate 20 k_is
    iterate 2 k_exc
    iterate 2 (constructor<;>k_is)
    refine ⟨⟨?_,?_,?_,?_⟩,?_,?_,?_,?_,?_⟩;iterate 4 k_is
    iterate 5 (unfold _L.bE;k_is)
    iterate 2 (constructor;iterate 4 k_is)
    iterate 5 (constructor;iterate 3 k_is)
    refine ⟨⟨?_,?_,?_,?_⟩,?_,?_⟩;iterate 4 k_is
    iterate 2 (unfold _L.bE;k_is)
    constructor;iterate 4 k_is
    iterate 4 (constructor;iterate 3 k_is)
    iterate 12 (apply _K.DG;iterate 3 k_is)
    iterate 11 k_is
