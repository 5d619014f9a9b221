import PyProof.Rows.All
import Wide.All
import OpenK.AllK
import Wide.FinOn
import Lean
import PyProof.EqAt
import PyProof.EqKinds
import PyProof.TupleCall
import PySem.Challenge.RW_againbook_k33_lent_chains
set_option Elab.async false
set_option linter.all false
set_option maxRecDepth 100000
set_option genSizeOf false
theorem fg:0≤PySem.sizeLine:=by decide
theorem iE:1≤PySem.sizeLine:=by decide
theorem ci:2≤PySem.sizeLine:=by decide
theorem i8:3≤PySem.sizeLine:=by decide
theorem xW:4≤PySem.sizeLine:=by decide
set_option Elab.async false
set_option linter.all false
set_option maxRecDepth 100000
set_option maxHeartbeats 4000000
open PySem.W (keepIn Frag nsIn kitOne fnOf mg_of codeIn findIn mroIn isFn mg_none_of kia_one typeIn emptyDict clsIn instObj hasDictIn kitAny specialIn callWith_K excIn lookIn plainGet notCls tailIn)
theorem UN{p:Prop}(h:p:=by decide):p:=h
theorem UO{p:Prop}(h:p:=by omega):p:=h
theorem UP{p:Prop}(h:p:=by simp):p:=h
theorem UQ{p:Prop}(h:p:=by decide +kernel):p:=h
theorem UR{p:Prop}(h:p:=by rfl):p:=h
theorem Z{α:Sort u}{a:α}:a=a:=rfl
open PySem renaming wpAny_bind->LO,wpAny_pure->LR,wpAny_holding->Ms,wpAny_field->My,wpAny_call_entry->MG,wpAny_newObj_type->MJ,wpAny_callSpecial?_slot->ML,builtinLookup_eq_fast->MP,wpAny_setField->MS,wpAny_Call_Name_kw->MT,wpAny_mono->MZ,wpAny_seqItems->M',boot_len->Nh,typeLookup_type->Nl,codeAny_builtin->No,mem_of_lookup->Nr,isSubtype_type->Nz,wpAny_setState_of->NA,wpAny_specialOf->NN,wpAny_rule->NP,plainId_quiet->NQ,wpAny_isInstance->NT,sizeLine_eq->NY,wpAny_typeOf->N5,wpAny_setField_rec->N6,wpAny_passesOwn->N7,wpAny_askSetting->Og,codeAny_mono->Oh,wpAny_setEntries_of->Oo,wpAny_standAt->Oq,wpAny_newList->Ot,wpAny_attempt->Ou,wpAny_execs_nil->Ov,wpAny_pyIter_tuple->Oy,wpAny_truthy_bool->OF,wpAny_newTuple->OG,tupleKind_room_in1->O2,wpAny_pyIter_list->Pk,fits_of_scanBound->Pm,entryFor_of_tree->Py,wpAny_of_eq->PZ,wpAny_fieldsOf->P0,isSubtype_stop->P6,entryFor_alias->P7,call_meets->Rl,wpAny_pyIter_slot->Rr,wpAny_execs_cons->RE,noFill_tuple_add->RF,wpAny_updateSeq->RV,codeAny_of_tree->RY,wpAny_runValue->R4,wpAny_loadPart->R6,wpAny_call->R8,wpAny_bindName->R9,wpAny_onRaise->Sf,wpAny_comprehension_free->Si,seq_tuple_add->Sj,wpAny_pyNext_list_item->SA,seqIndex_neg->SG,concat_meets->SI,call_meetsIn->SK,callType_new->SM,wpAny_pyNext_list_end->SV,wpAny_isTrue_Compare1->SW,wpAny_updateSeq_pair->Td,wpAny_loadName_local->Te,seqIndex_of->Tf,codeAny_extend_loopS->Th,wpAny_loadName_cell->Tp,wpAny_load->TF,wpAny_Name->TH,wpAny_storeSet_of->TK,wpAny_sequenceKey->TM,wpAny_pyIter_enum->TN,wpAny_assign_Name->TQ,wpAny_Assign_Name->TR,merged_length_le->T2,callType_codes->UF
open List renaming getElem?_eq_getElem->LP,length_append->LS,length_map->LU,size_toArray->LY,mem_cons_self->Mm,mem_append_right->Mo,getElem?_map->Mp,mem_of_getElem?->Mr,mem_cons_of_mem->Mt,length_cons->Mu,append_nil->Mv,length_take->Mw,not_mem_nil->Mx,map_append->Mz,take_length->MN,take_add_one->MW,lookup_cons->M1,getElem?_eq_none->M4,getD_eq_getElem?_getD->M7,length_drop->M8,map_cons->Ni,mem_append_left->Nk,getElem_cons_drop->Nt,mem_of_mem_take->Ny,mem_cons->NB,mem_append->NF,getElem?_set_ne->NH,append_assoc->NJ,drop_zero->NO,forIn_cons->NW,take_append_drop->NZ,length_singleton->N0,map_map->N8,find?_cons->Oj,mem_singleton->Om,filter_append->On,getElem?_set_self->Ox,length_filter_le->OB,getElem?_reverse->OD,getElem_mem->OE,any_cons->OJ,getElem?_drop->OP,getElem?_append_right->OQ,forIn_nil->OR,getElem?_append_left->OT,reverse_cons->OX,length_range->OY,append_cancel_right->O1,filter_cons_of_pos->O5,filter_cons_of_neg->O6,ext_getElem->O7,append_cancel_left->O8,all_eq_true->O9,take_of_length_le->Pn,of_mem_zip->Pr,length_set->Pt,length_replicate->Px,take_succ->PJ,nodup_nil->PL,getElem?_of_mem->PM,filterMap_cons->PV,map_take->PX,take_sublist->P',getElem?_inj->Ra,eraseIdx_eq_take_drop_succ->Rc,length_zip->Rp,length_nil->Rq,length_eraseIdx_of_lt->RD,getElem?_zip_eq_some->RI,drop_nil->RS,all_cons->RT,getElem?_replicate->RZ,drop_eq_nil_of_le->R0,length_reverse->Sn,map_inj_right->Su,forIn_toArray->Sv,any_eq_false->SO,zipIdx_cons->SY,filter_cons->S0,drop_length->S4,append_inj'->Ta,any_eq_true->Tb,zipIdx_nil->Ti,nodup_cons->Tj,nil_append->Tk,mem_filter->Tl,drop_drop->Tv,map_set->TX,map_nil->TY
open PySem.Heap renaming get?_push_of_some->LQ,lt_size->LW,get?_push_size->LX,get?_update_other->Mn,get?_update_self->MH,size_push->MQ,size_update->Rk,get?_update_ne->So
open Nat renaming le_refl->LV,zero_le->Ma,ne_of_lt->Me,le_trans->Mg,lt_of_lt_of_le->Mi,le_succ->MU,ne_of_gt->MV,lt_irrefl->MX,lt_succ_self->Na,lt_of_le_of_lt->Nj,succ_le_succ->Nq,min_eq_left->NG,lt_succ_of_lt->NK,le_of_lt->NM,zero_add->Oa,le_max_right->Ob,le_max_left->Ol,lt_of_succ_lt->OA,le_add_right->OH,le_of_not_lt->Pg,sub_zero->Po,lt_or_ge->Pp,le_of_eq->Pq,not_lt_zero->Pw,sub_self->Rb,min_le_left->Rv,add_sub_cancel'->Sr,add_le_add_left->Ss,le_add_left->Tt,max_assoc->TU,add_zero->Ue,mod_lt->UK
open PySem.F renaming plainAttrs_list->L9,type_list_append->Mj,slot_list_append->Ml,slot_tuple_iterator_next->M3,slot_zip_next->Nb,type_list_extend->Nc,slot_list_extend->Nf,args_tuple_iterator_next_1->Od,plain_list_iadd->Oe,args_zip_next_1->Of,entry_tuple_iterator_next->Oi,entry_zip_next->Op,args_object_init_2->OM,args_tuple_add_2->OS,entry_tuple_add->OV,slot_tuple_add->O3,plainAttrs_str->O4,type_str_join->Pb,slot_str_join->Pd,slot_dict_get->Pe,plain_proto_collect->Ri,entry_proto_collect->Rj,plain_extend_loop->Ro,plain_tuple_new->Ry,plainAttrs_dict->Rz,entry_list_iadd->RB,args_dict_get_3->RC,entry_dict_get->RH,slot_set_iter->RO,slot_dict_pop->RP,plain_set_new->RQ,args_list_extend_2->SR,entry_list_extend->Tc,slot_list_extend->Tn
open Bool renaming false_ne_true->Md,false_eq_true->Mh,and_eq_true->M9,not_true->OK,eq_iff_iff->Pu,and_false->PQ,or_false->RU,not_eq_true'->SS,eq_false_iff->SU,false_and->TC
open Array renaming length_toList->Mq,getElem?_toList->Nv,getElem?_eq_getElem->NE,getElem?_eq_none->Pj,toList_push->Sx,size_append->Sz,size_map->To
open PySem.Obj renaming data_mapFields->MD,isFreed_of_fields->M5,cls_mapFields->Oz
open PySem.PassesOwn renaming never->MF
open PyProof.Rows renaming callWith_type1->MK,slot_tuple_getitem->ND,boot_tuple->Oc,listUpdate_at->ON,seqEpoch_at->Pl,entry_list_sort->PU,slot_list_sort->P5,boot_sorted->P8,args_list_sort->P9,plain_sorted->Rs,entry_sorted->Rt,args_sorted1->Ru,kind_sorted->RL,list_sort_plain->RW,get?_update_seq->RX,size_push'->Sa,boot_reversed->Sl,subscriptTail_builtinR->SE,listItems_at->SH,collect_list->SJ,Subscript_->TJ,boot_list->T3,boot_isinstance->Uf,tupleItemsOf_->Uw,iadd_int->Ux,entry_tuple_getitem->Uy,callWith_builtin1->Uz,boot_zip->UA,boot_enumerate->UB,boot_dict->UC,args_tuple_getitem->UD,slicePart_none->UE,boot_set->UG,boot_int->UH
open Option.some renaming inj->MM
open Int renaming emod_lt_of_pos->MO,emod_nonneg->M0,toNat_natCast->M6,toNat_of_nonneg->Sw,ediv_nonneg->Tx
open PySem.Around renaming under_plainId->MY
open PySem.AutoSeq1 renaming wpAny_loadPart'->Nw
open PySem.Heap.SameBut renaming update->Nx,refl->RJ
open PySem.Calls renaming spliced_cons->NC,spliced_nil->N4,call_function_entry->N9,callWith_builtin->Ph,Name_function_global->Rx,evalArgs_plain->Sb
open PySem.W renaming mg_none_of->NR,kia_one->OU,methodCall_KW->Pa,plainGet_of->Pz,callWith_K0->PH,mg_of->Rh,callWith_K->Rm,cellsFrom_some->RG,kitx_list->Sc,kitx_dict->Sd,looks_mroIn->Tg
open PyProof.Rows.F renaming plain_set_update_loop->NV,entry_set_update_loop->O0
open PySem.Value renaming isStrOf_shape->OL
open Option renaming map_some->Pf,isNone_some->Se,isSome_map->Sm,getD_none->Sq
open PySem.SeqAt.EqAt renaming str_int->RM,int_str->RN,tuple_int->TB,str_str->T0,int_int->T1
open PySem.Heap.DictOf renaming new->R3
open StateT renaming run_pure->SN
open PyProof.Rows.IsTup renaming new->SQ
open PySem.SeqAt.RcNeAt renaming lists->SX
open PySem.SeqAt.RcAt renaming lists_lengths->Tq,lists->Ts
open PySem.W.Looks renaming of_pure->Tu,here->T4,ld->UL
open PySem.ItemsOf renaming nil->Tw
open PySem.Meets renaming of_wp->TW
open PySem.Heap.IsSliceOf renaming new->TZ
open PySem.EqMixed renaming ne_str_int->T5,ne_str_bool->T6,ne_int_str->T7,ne_bool_str->T8,eq_str_int->Ua,eq_str_bool->Ub,eq_int_str->Uc,eq_bool_str->Ud
open PySem.Within renaming cons->Ug
open PySem.EqNone renaming ne_str_none->Uh,ne_none_str->Ui,ne_none_none->Uj,ne_none_int->Uk,ne_none_bool->Ul,ne_int_none->Um,ne_bool_none->Uo,eq_str_none->Up,eq_none_str->Uq,eq_none_none->Ur,eq_none_int->Us,eq_none_bool->Ut,eq_int_none->Uu,eq_bool_none->Uv
open PySem.SeqAt renaming notIn_listAt->UJ
def LZ:=@decide_eq_false
def Mb:=@if_pos
def Mc:=@decide_eq_true
def Mf:=@if_neg
def ME:=@Ne.symm
def Ng:=@congrArg
def Nn:=@of_decide_eq_true
def Np:=@bne_self_eq_false
def Nu:=@if_false
def OZ:=@or_false
def PR:=@if_true
def PY:=@beq_self_eq_true
def Rg:=@Iff.rfl
def Tz:=@PySem.Heap.IsTupleIter.at
def UM:=@PySem.Heap.IsList.at
local macro_rules|`(#[$x,*])=>`(⟨$x,*⟩)
local macro_rules|`(tactic|omega)=>`(tactic|lia)
namespace _L
open PySem PySem.Spec PyProof.Rows
abbrev bH:=Sum Int Str
noncomputable def lE:bH->Value->Bool
 | .inl k,v=>Value.isInt k v
 | .inr x,v=>Value.isStrOf x v
noncomputable def Ix(w:World):bH->Int
 | .inl k=>hashInt k
 | .inr x=>hashStr w x
theorem j9:∀{k:bH} {v:Value},lE k v=true->(∃i t,k=Sum.inl i/\v=Value.int i t)∨(∃x t,k=Sum.inr x/\v=Value.str x t)
 | .inl i,v,h=>by obtain⟨t,e⟩:=Value.isInt_shape (k:=i) (v:=v) h;exact .inl #[i,t,Z,e]
 | .inr x,v,h=>by obtain⟨t,e⟩:=OL (x:=x) (v:=v) h;exact .inr #[x,t,Z,e]
theorem Z2(i:Int)(t:Tok):lE (.inl i) (.int i t)=true:=by simp [lE,Value.isInt]
theorem Z3(x:Str)(t:Tok):lE (.inr x) (.str x t)=true:=by simp [lE,Value.isStrOf]
theorem CP(a b:Int):decide ((Sum.inl a:bH)=Sum.inl b)=(a==b):=by
 by_cases e:a=b
 ·subst e;simp
 ·have h:¬(Sum.inl a:bH)=Sum.inl b:=λq=>e (Sum.inl.inj q);rw[LZ h];exact(beq_eq_false_iff_ne.mpr e).symm
theorem CT(a b:Str):decide ((Sum.inr a:bH)=Sum.inr b)=decide (a=b):=by
 by_cases e:a=b
 ·subst e;simp
 ·have h:¬(Sum.inr a:bH)=Sum.inr b:=λq=>e (Sum.inr.inj q);rw[LZ h,LZ e]
theorem CQ(a:Int)(b:Str):decide ((Sum.inl a:bH)=Sum.inr b)=false:=LZ (λq=>nomatch q)
theorem CS(a:Str)(b:Int):decide ((Sum.inr a:bH)=Sum.inl b)=false:=LZ (λq=>nomatch q)
noncomputable def aW(p:Program)(w:World):PySem.KeyKind p w bH where
 is:=lE
 hash:=Ix w
 inj:=λv a b d c=>by
  rcases j9 d with ⟨i,t,rfl,rfl⟩ | ⟨x,t,rfl,rfl⟩
  ·rcases j9 c with ⟨j,u,rfl,e⟩ | ⟨y,u,rfl,e⟩
   ·injection e with E _;rw[E]
   ·exact nomatch e
  ·rcases j9 c with ⟨j,u,rfl,e⟩ | ⟨y,u,rfl,e⟩
   ·exact nomatch e
   ·injection e with E _;rw[E]
 byValue:=λk v h=>by rcases j9 h with ⟨i,t,rfl,rfl⟩ | ⟨x,t,rfl,rfl⟩<;>rfl
 pyHash:=λH h=>by
  rcases j9 H with ⟨i,t,rfl,rfl⟩ | ⟨x,t,rfl,rfl⟩
  ·exact wpAny_pyHash_int h
  ·exact wpAny_pyHash_str h
 eqBool:=λf H h=>by
  rcases j9 f with ⟨i,t,rfl,rfl⟩ | ⟨x,t,rfl,rfl⟩
  ·rcases j9 H with ⟨j,u,rfl,rfl⟩ | ⟨y,u,rfl,rfl⟩
   ·rw[CP]at h;exact wpAny_eqBool_int h
   ·rw[CQ]at h;exact RN i t y u _ _ _ _ h
  ·rcases j9 H with ⟨j,u,rfl,rfl⟩ | ⟨y,u,rfl,rfl⟩
   ·rw[CS]at h;exact RM x t j u _ _ _ _ h
   ·rw[CT]at h;exact wpAny_eqBool_str h
 «strs»:=λk x t v h=>by
  rcases j9 h with ⟨i,u,rfl,e⟩ | ⟨y,u,rfl,e⟩
  ·exact nomatch e
  ·injection e with E _;subst E;cases v<;>rfl
theorem Yf(p:Program)(w:World)(i:Int)(t:Tok):(aW p w).is (.inl i) (.int i t)=true:=Z2 i t
theorem Yg(p:Program)(w:World)(x:Str)(t:Tok):(aW p w).is (.inr x) (.str x t)=true:=Z3 x t
end _L
namespace _L
open PySem PySem.Spec PyProof.Rows
inductive V where
 |non |bl (b:Bool) |int (i:Int) |str (x:Str) |byt (b:Array UInt8) |flt (b:UInt64) |ref (a:Addr) |ty (n:String)
 deriving DecidableEq
set_option genInjectivity false
def aF:V->Value->Prop
 | .non,u=>u=Value.none
 | .bl b,u=>u=Value.bool b
 | .int i,u=>∃t,u=Value.int i t
 | .str x,u=>∃t,u=Value.str x t
 | .byt b,u=>∃t,u=Value.bytes b t
 | .flt b,u=>∃t,u=Value.float b t
 | .ref a,u=>u=Value.ref a
 | .ty n,u=>u=Value.type n
abbrev aC:List V->List Value->Prop:=Paired aF
theorem aC.length(r:aC x u):x.length=u.length:=Paired.length r
theorem aC.get:∀{X:List V} {U:List Value} {i:Nat} {x:V},aC X U->X[i]?=some x->∃u,U[i]?=some u/\aF x u
 |_,_,_,_,.nil,e=>by simp at e
 |_,_,0,_,.cons r _,e=>by simp at e;subst e;exact#[_,Z,r]
 |_,_,i+1,x,.cons _ t,e=>by obtain⟨u,h,H⟩:=aC.get (i:=i) (x:=x) t (by simpa using e);exact#[u,by simpa using h,H]
theorem aC.set(r:aF x u):∀{X:List V} {U:List Value} (i:Nat),aC X U->aC (X.set i x) (U.set i u)
 |_,_,_,.nil=>.nil
 |_,_,0,.cons _ t=>.cons r t
 |_,_,i+1,.cons q t=>.cons q (aC.set r i t)
theorem aC.append:∀{x y:List V} {u w:List Value},aC x u->aC y w->aC (x++y) (u++w)
 |_,_,_,_,.nil,s=>s
 |_,_,_,_,.cons r t,s=>.cons r (aC.append t s)
theorem aC.take:∀{x:List V} {u:List Value} (n:Nat),aC x u->aC (x.take n) (u.take n)
 |_,_,0,_=>.nil
 |_,_,_+1,.nil=>.nil
 |_,_,n+1,.cons r t=>.cons r (aC.take n t)
theorem aC.drop:∀{x:List V} {u:List Value} (n:Nat),aC x u->aC (x.drop n) (u.drop n)
 |_,_,0,r=>r
 |_,_,_+1,.nil=>.nil
 |_,_,n+1,.cons _ t=>aC.drop n t
def dS:Option V->Option Value->Prop
 |some v,some u=>aF v u
 |none,none=>True
 |_,_=>False
def KV{a:Type}:List (a×V)->List (a×Value)->Prop:=Paired λ(p:a×V) (q:a×Value)=>p.1=q.1/\aF p.2 q.2
noncomputable def kV:bH->V
 | .inl i=>.int i
 | .inr x=>.str x
inductive HO where
 |lst (xs:List V)
 |tup (xs:List V)
 |dK (kvs:List (bH×V)) |dT (kvs:List (List bH×V))
 |set (S:Int->Bool) (n:Nat)
 |ins (C dx:Addr) (fs:List (Str×V))
 |own (x:Addr)
 |xd (fs:List (Str×V))
 |met (f x:Addr)
 |rng (lo hi:Int)
 |frz (o:Obj) (u:HO)
 |tbl (ps:Array Value)
 |ext (φ:Heap->Prop)
abbrev Hp:=Addr->Option HO
noncomputable def am(H:Hp)(a:Addr)(o:HO):Hp:=λb=>if b=a then some o else H b
theorem jc:am H a o a=some o:=by unfold am;rw[Mb Z]
theorem ji(h:b≠a):am H a o b=H b:=by unfold am;rw[Mf h]
theorem jW{H:Hp}(h:H a=some o)(c:H b=some u)(d:o≠u):a≠b:=by intro e;subst e;rw[h]at c;exact d (MM c)
theorem jk{H:Hp}(h:H a=some o)(c:H b=none):a≠b:=by intro e;subst e;rw[h]at c;cases c
section
variable (P:Program)(w:World)
def aN(H:Hp)(h:Heap)(a:Addr):HO->Prop
 | .lst X=>X.length<=sizeLine/\∃(i:List Value) (n:Nat),aC X i/\h.get? a=some { cls:=.type "list",data:=.seq i.toArray n }
 | .tup X=>X.length<=sizeLine/\∃i:List Value,aC X i/\IsTup h a i.toArray
 | .dK k=>k.length<=sizeLine/\(a==sysModules)=false/\∃c,KV k c/\h.DictOf (aW P w) a c
 | .dT k=>k.length<=sizeLine/\(a==sysModules)=false/\∃X:List (List bH×Addr×Value),
   Paired (λ(p:List bH×V) (q:List bH×Addr×Value)=>p.1=q.1/\H q.2.1=some (.tup$ p.1.map kV)/\aF p.2 q.2.2) k X/\
   ∃o e E,h.get? a=some o/\o.ExactDict/\o.data= .dict e E/\e.toList=X.map (entryOfKey$ tupleKind$ aW P w)/\(X.map (·.1)).Nodup
 | .set S n=>h.SetOf (intKind P w) a S n
 | .ins C d F=>H d=some (.own a)/\F.length<=1000/\d≠a/\h.get? a=some (instObj C d)/\
   ∃m,h.Ns1 d m/\(∀f,dS (F.lookup f)$ m f)/\PySem.Within m (F.map (·.1))
 | .own _=>∃o,h.get? a=some o
 | .xd F=>∃m,h.Ns1 a m/\∀f,dS (F.lookup f) (m f)
 | .rng lo l=>∃t u v,h.get? a=some { cls:=.type "range",data:=.fields (List.toArray [.int lo t,.int l u,.int 1 v]) }
 | .frz o u=>h.get? a=some o/\aN H h a u
 | .tbl r=>h.get? a=some { cls:=.none,data:=.fields r }
 | .met f x=>h.get? a=some (PySem.W.methodObj (.ref f) (.ref x))
 | .ext b=>b h/\(∃o,h.get? a=some o)/\∀g j:Heap,b g->(∀o,g.get? a=some o->j.get? a=some o)->b j
def fo(H:Hp)(h:Heap):Prop:=∀a o,H a=some o->aN P w H h a o
end
section
variable {P:Program}{w:World}{H H':Hp}{h h':Heap}{a:Addr}{o:HO}
theorem aN.lt(x:aN P w H h a o):a < h.objs.size:=by
 cases o with
 |lst X=>obtain⟨_,_,_,_,e⟩:=x;exact LW e
 |tup X=>obtain⟨_,_,_,p⟩:=x;exact p.lt
 |dK k=>obtain⟨_,_,_,_,o,_,_,e,_⟩:=x;exact LW e
 |dT k=>obtain⟨_,_,_,_,o,_,_,e,_⟩:=x;exact LW e
 |set S n=>obtain⟨o,_,_,_,e,_⟩:=x;exact LW e
 |ins C d F=>obtain⟨_,_,_,e,_⟩:=x;exact LW e
 |own y=>obtain⟨_,e⟩:=x;exact LW e
 |xd F=>obtain⟨_,⟨_,_,_,e,_⟩,_⟩:=x;exact LW e
 |rng lo b=>obtain⟨_,_,_,e⟩:=x;exact LW e
 |frz O u=>obtain⟨e,_⟩:=x;exact LW e
 |tbl c=>exact LW (show h.get? a=some _ from x)
 |met f y=>exact LW (show h.get? a=some _ from x)
 |ext g=>obtain⟨_,⟨_,e⟩,_⟩:=x;exact LW e
theorem Paired.mapP{c d:Type}{F G:c->d->Prop}:∀{l:List c} {L:List d},Paired F l L->(∀a b,F a b->G a b)->Paired G l L
 |_,_,.nil,_=>.nil
 |_,_,.cons r t,f=>.cons (f _ _ r) (Paired.mapP t f)
theorem aN.stay(x:aN P w H h a o)(k:∀b u,(b=a∨H b=some (.own a))->h.get? b=some u->h'.get? b=some u)
  (s:∀b,H b=some (.own a)->H' b=some (.own a)) (A:∀b X,H b=some (.tup X)->H' b=some (.tup X)):aN P w H' h' a o:=by
 induction o with
 |lst X=>obtain⟨z,i,n,r,e⟩:=x;exact#[z,i,n,r,k _ _ (.inl Z) e]
 |tup X=>obtain⟨z,i,r,O,e,c⟩:=x;exact#[z,i,r,O,k _ _ (.inl Z) e,c]
 |dK K=>obtain⟨z,y,V,r,O,E,g,e,c⟩:=x;exact#[z,y,V,r,O,E,g,k _ _ (.inl Z) e,c]
 |dT K=>obtain⟨z,y,X,r,O,E,g,e,c⟩:=x;exact#[z,y,X,Paired.mapP r λp q z=>#[z.1,A _ _ z.2.1,z.2.2],O,E,g,k _ _ (.inl Z) e,c]
 |set S n=>obtain⟨O,E,g,t,e,c⟩:=x;exact#[O,E,g,t,k _ _ (.inl Z) e,c]
 |ins C D F=>obtain⟨d,z,N,e,m,⟨j,E,g,B,c⟩,r⟩:=x;exact#[s _ d,z,N,k _ _ (.inl Z) e,m,#[j,E,g,k _ _ (.inr d) B,c],r]
 |own y=>obtain⟨O,e⟩:=x;exact#[O,k _ _ (.inl Z) e]
 |xd F=>obtain⟨m,⟨j,E,g,e,c⟩,r⟩:=x;exact#[m,#[j,E,g,k _ _ (.inl Z) e,c],r]
 |rng lo G=>obtain⟨t,u,v,e⟩:=x;exact#[t,u,v,k _ _ (.inl Z) e]
 |frz O u I=>obtain⟨e,q⟩:=x;exact#[k _ _ (.inl Z) e,I q]
 |tbl l=>have e:h.get? a=some { cls:=.none,data:=.fields l }:=x;show h'.get? a=some { cls:=.none,data:=.fields l };exact k a _ (.inl Z) e
 |met f y=>have e:h.get? a=some (PySem.W.methodObj (.ref f)$ .ref y):=x;show h'.get? a=some (PySem.W.methodObj (.ref f)$ .ref y);exact k a _ (.inl Z) e
 |ext J=>obtain⟨p,⟨o,e⟩,st⟩:=x;exact#[st _ _ p λo q=>k _ _ (.inl Z) q,#[o,k _ _ (.inl Z) e],st]
theorem fo.lt(x:fo P w H h)(e:H a=some o):a < h.objs.size:=(x a o e).lt
theorem fo.fresh(x:fo P w H h)(e:h.objs.size<=a):H a=none:=by
 cases q:H a with
 |none=>rfl
 |some u=>exact absurd (Mi (x.lt q) e) (MX _)
theorem fo.kept(x:fo P w H h)(k:∀b u,h.get? b=some u->h'.get? b=some u):fo P w H h':=λa o e=>
 (x a o e).stay (λb u _ q=>k b u q) (λ_ q=>q) λ_ _ q=>q
theorem fo.laid(x:fo P w H h)(k:∀b u,h.get? b=some u->h'.get? b=some u)(g:h.objs.size<=a)(n:aN P w (am H a o) h' a o):fo P w (am H a o) h':=λb u e=>by
 have d:=x.fresh g;by_cases f:b=a
 ·subst f;rw[jc]at e;cases e;exact n
 ·rw[ji f]at e;exact(x b u e).stay (λc v _ q=>k c v q) (λc q=>by rw[ji$ jk q d];exact q) λc X q=>by rw[ji$ jk q d];exact q
end
def Rd(H:Hp)(a:Addr)(u:HO):Prop:=H a=some u∨∃o,H a=some (.frz o u)
theorem Rd.ok{P:Program}(r:Rd H a u)(x:fo P w H h):aN P w H h a u:=by
 rcases r with r | ⟨o,r⟩
 ·exact x a u r
 ·obtain⟨_,q⟩:=x a _ r;exact q
def EZ:Option HO->Prop
 |some (.lst _)=>True
 |some (.dK _)=>True
 |some (.dT _)=>True
 |some (.set _ _)=>True
 |some (.ins _ _ _)=>True
 |some (.ext _)=>True
 |_=>False
section
variable {P:Program}{w:World}{H:Hp}{h h':Heap}{x e:Addr}{o':HO}
theorem fo.write(o:fo P w H h)(m:EZ (H x))(i:e=x∨H e=some (.own x))(k:∀b u,b≠e->h.get? b=some u->h'.get? b=some u)(f:∃u,h'.get? e=some u)
  (g:aN P w (am H x o') h' x o'):fo P w (am H x o') h':=λb u q=>by
 have n:∀c y,H c=some (.own y)->c≠x:=λc y r z=>by subst z;rw[r]at m;exact m
 have N:∀c X,H c=some (.tup X)->c≠x:=λc X r z=>by subst z;rw[r]at m;exact m
 by_cases d:b=x
 ·subst d;rw[jc]at q;cases q;exact g
 ·rw[ji d]at q;by_cases a:b=e
  ·have Q:H b=some (.own x):=by
    rcases i with z |z
    ·exact absurd (a.trans z) d
    ·rw[a];exact z
   rw[q]at Q;cases Q;obtain⟨v,j⟩:=f;exact#[v,by rw[a];exact j]
  ·refine(o b u q).stay (λc v hc r=>k c v ?_ r) (λc r=>by rw[ji$ n c b r];exact r) λc X r=>by rw[ji$ N c X r];exact r
   rcases hc with rfl |hc
   ·exact a
   ·rintro rfl;rcases i with z |z
    ·exact n c b hc z
    ·rw[hc]at z;cases z;exact d Z
end
structure Un(fs ex:List Addr)(H H':Hp)(h h':Heap):Prop where
 keep:∀b o,h.get? b=some o->H b=none->b∉fs->b∉ex->h'.get? b=some o
 slot:∀b o,h.get? b=some o->H b=none->b∈fs->b∉ex->∃sl,h'.get? b=some { o with slots:=sl }
 free:∀b o,h.get? b=some o->H b=none->b∉ex->H' b=none
 there:∀b o,h.get? b=some o->b∉ex->∃o',h'.get? b=some o'
 tups:∀b xs,H b=some (.tup xs)->H' b=some (.tup xs)
 frzs:∀b o u,H b=some (.frz o u)->H' b=some (.frz o u)
 tbls:∀b ps,H b=some (.tbl ps)->∃more,H' b=some (.tbl$ ps++more)
section
variable {fs fs' ex ex':List Addr}{H H1 H2:Hp}{h h1 h2 h':Heap}{a x e:Addr}{o:HO}
theorem Un.any(u:Un fs ex H H1 h h1)(q:h.get? b=some O)(n:H b=none)(c:b∉ex):∃s,h1.get? b=some { O with slots:=s }:=by
 by_cases d:b∈fs
 ·exact u.slot b O q n d c
 ·exact#[O.slots,u.keep b O q n d c]
theorem Un.kept(k:∀b u,h.get? b=some u->h'.get? b=some u):Un fs ex H H h h':=
 #[λb O q _ _ _=>k b O q,λb O q _ _ _=>#[O.slots,k b O q],λ_ _ _ n _=>n,λb O q _=>#[O,k b O q],λ_ _ q=>q,λ_ _ _ q=>q,λ_ p q=>#[(List.toArray []),by rw[q];simp]]
theorem Un.refl:Un fs ex H H h h:=Un.kept λ_ _ q=>q
theorem Un.laid(k:∀b u,h.get? b=some u->h'.get? b=some u)(d:h.objs.size<=a)(c:H a=none):Un fs ex H (am H a o) h h' where
 keep:=λb u q _ _ _=>k b u q
 slot:=λb u q _ _ _=>#[u.slots,k b u q]
 free:=λb u q n _=>by rw[ji$ Me$ Mi (LW q) d];exact n
 there:=λb u q _=>#[u,k b u q]
 tups:=λb X q=>by rw[ji$ jk q c];exact q
 frzs:=λb u X q=>by rw[ji$ jk q c];exact q
 tbls:=λb p q=>#[(List.toArray []),by rw[ji$ jk q c,q];simp]
theorem Un.write(m:EZ (H x))(j:e=x∨H e=some (.own x))(k:∀b u,b≠e->h.get? b=some u->h'.get? b=some u)(d:∃u,h'.get? e=some u):Un fs ex H (am H x o) h h':=by
 have g:∀b,H b=none->b≠x:=λb n z=>by subst z;rw[n]at m;exact m
 have i:∀b,H b=none->b≠e:=λb n z=>by
  subst z;rcases j with r |r
  ·exact g b n r
  ·rw[n]at r;cases r
 have f:∀b u,H b=some u->¬EZ (some u)->b≠x:=λb u q N z=>by subst z;rw[q]at m;exact N m
 refine#[λb u q n _ _=>k b u (i b n) q,λb u q n _ _=>#[u.slots,k b u (i b n) q],λb u q n _=>by rw[ji$ g b n];exact n,λb u q _=>?_,
  λb X q=>by rw[ji$ f b _ q λz=>z];exact q,λb u X q=>by rw[ji$ f b _ q λz=>z];exact q,λb p q=>#[(List.toArray []),by rw[ji$ f b _ q λz=>z,q];simp]]
 by_cases c:b=e
 ·subst c;exact d
 ·exact#[u,k b u c q]
end
noncomputable def HS(h:Heap)(H:Hp):List Addr:=(List.range h.objs.size).filter λa=>(H a).isSome
noncomputable def lN(h:Heap)(H:Hp):Heap:=PySem.W.hideAll h (HS h H)
theorem Z4(h:Heap)(H:Hp):(lN h H).objs.size=h.objs.size:=PySem.W.hideAll_size _ _
theorem ui{h:Heap}{H:Hp}(e:h.get? b=some o)(n:H b=none):(lN h H).get? b=some o:=
 PySem.W.hideAll_get _ e λa=>by have q:(H b).isSome=true:=(List.mem_filter.mp a).2;rw[n]at q;simp at q
theorem yM(e:(lN h H).get? b=some o):h.get? b=some o/\H b=none:=by
 have E:h.get? b=some o:=PySem.W.of_hideAll (HS h H) e;refine#[E,?_];cases q:H b with
 |none=>rfl
 |some x=>have a:b∈HS h H:=List.mem_filter.mpr #[List.mem_range.mpr$ LW E,by simp [q]];have z:(lN h H).get? b=none:=PySem.W.hideAll_none (HS h H) a;rw[z]at e;cases e
end _L
namespace _L
open PySem PySem.Spec PyProof.Rows
structure Mod(K:Frag)(mg:Str->Option Value)(base:Heap):Prop where
 kin:K.In base
 glob:base.Ns mainGlobals mg
 blt:∃mb,base.Ns builtinsNs mb/\∀x:Str,x≠"__name__"->mb x=bootBuiltins x
 nolimit:base.NoLimit
structure Cx where
 prog:Program
 w:World
 K:Frag
 mg:Str->Option Value
 base:Heap
 A:Around
 N:List Str
 s₀:Shared
 H₀:Hp
 env:Env
 outer:List Env
 stack:List Env
 ex:List Addr
 fn:Str->Bool
 calm:Bool
 pn:List (Addr×Obj)
 xe:Value->Shared->Prop
noncomputable def lB(l:List Env):List Addr:=l.filterMap (·.frame)
noncomputable abbrev Cx.fs(X:Cx):List Addr:=lB X.outer
def HJ(s:Scope)(x:Str):Prop:=s.names.lookup x=some .local∨s.names.lookup x=some .cell∨s.names.lookup x=some .free
def sN(s:Scope)(x:Str):Prop:=s.names.lookup x=some .local∨s.names.lookup x=some .cell
def HZ(e:Env)(h:Heap)(m:Str->Option Value)(x:Str)(u:Value):Prop:=
 (e.kindOf x=some .local/\m x=some u)∨((e.kindOf x=some .cell∨e.kindOf x=some .free)/\∃c,e.cells.lookup x=some c/\h.IsCell c (some u))
structure Cx.Ok(X:Cx):Prop where
 mod:Mod X.K X.mg X.base
 kind:X.env.scope.kind= .function
 glob:X.env.globals=mainGlobals
 blt:X.env.builtins=builtinsNs
 above:X.s₀.heap.objs.size<=X.env.locals
 inj:∀x y c,X.env.cells.lookup x=some c->X.env.cells.lookup y=some c->x=y
 has:∀x,(X.env.kindOf x=some .cell∨X.env.kindOf x=some .free)->∃c,X.env.cells.lookup x=some c
 cab:∀x c,X.fn x=true->X.env.cells.lookup x=some c->X.s₀.heap.objs.size<=c
 hd:X.calm=true->X.A.handled=none
 frames:X.A.frames=some X.stack
 stk:X.stack=X.outer∨(X.stack=X.env::X.outer/\X.env.frame=some X.env.locals)
 exf:∀b∈X.ex,b≠X.env.locals/\∀x c,X.env.cells.lookup x=some c->c≠b
 bs:∀b o,X.base.get? b=some o->X.s₀.heap.get? b=some o/\X.H₀ b=none
 bsz:X.base.objs.size<=X.s₀.heap.objs.size
 noex:∀b o,X.base.get? b=some o->b∉X.ex
 exfs:∀b∈X.ex,b∉X.fs
 funs:X.s₀.heap.FunFrames X.base X.outer
 frf:∀b∈X.fs,X.H₀ b=none
structure ax(X:Cx)(pins:List (Addr×Obj))(σ:List (Option V))(H:Hp)(s:Shared):Prop where
 ok:X.Ok
 os:s.os=X.s₀.os
 bare:AllBare s.gens
 base:Un X.fs X.ex X.H₀ H X.s₀.heap s.heap
 loc:∃m,s.heap.Ns X.env.locals m/\∀(i:Nat) (x:Str) (v:V),X.N[i]?=some x->σ[i]?=some (some v)->HJ X.env.scope x->∃u,aF v u/\HZ X.env s.heap m x u
 cell:∀x c,X.env.cells.lookup x=some c->∃v,s.heap.IsCell c v
 free:H X.env.locals=none
 freeC:∀x c,X.env.cells.lookup x=some c->H c=none
 pin:∀p∈X.pn++pins,s.heap.get? p.1=some p.2/\H p.1=none/\p.1≠X.env.locals/\p.1∉X.fs/\∀v,p.2.data≠ .cell v
 hok:fo X.prog X.w H s.heap
 len:σ.length=X.N.length
section
variable {X:Cx}{pins:List (Addr×Obj)}{σ:List (Option V)}{H H':Hp}{s:Shared}{h':Heap}
theorem Cx.Ok.nofr(O:X.Ok)(e:X.base.get? b=some o):b∉X.fs:=λh=>by have:=(O.funs.mem h).1;rw[e]at this;cases this
theorem ax.bs(I:ax X pins σ H s):∀b o,X.base.get? b=some o->s.heap.get? b=some o/\H b=none:=λb o e=>
 #[I.base.keep b o (I.ok.bs b o e).1 (I.ok.bs b o e).2 (I.ok.nofr e)$ I.ok.noex b o e,I.base.free b o (I.ok.bs b o e).1 (I.ok.bs b o e).2$ I.ok.noex b o e]
theorem ax.bk(I:ax X pins σ H s):∀b o,X.base.get? b=some o->s.heap.get? b=some o:=λb o e=>(I.bs b o e).1
theorem ax.mod(I:ax X pins σ H s):Mod X.K X.mg X.base:=I.ok.mod
theorem ax.kIn(I:ax X pins σ H s):X.K.In s.heap:=I.ok.mod.kin.keeps I.bk
theorem ax.lt(I:ax X pins σ H s):X.env.locals < s.heap.objs.size:=let #[_,h,_]:=I.loc;h.lt
theorem ax.sz(I:ax X pins σ H s):X.s₀.heap.objs.size<=s.heap.objs.size:=Mg I.ok.above (NM I.lt)
theorem ax.nofs(I:ax X pins σ H s)(h:s.heap.objs.size<=a):a∉X.fs:=λb=>by obtain⟨_,o,c,_⟩:=I.ok.funs.mem b;exact absurd (Mi (LW c)$ Mg I.sz h)$ MX _
theorem ax.cne(I:ax X pins σ H s):∀x c,X.env.cells.lookup x=some c->c≠X.env.locals:=λx c e z=>by obtain⟨v,o,b,d⟩:=I.cell x c e;obtain⟨m,⟨O,E,f,h,a,_⟩,_⟩:=I.loc;rw[z,h]at b;cases b;rw[a]at d;cases d
theorem ax.funs(I:ax X pins σ H s):s.heap.FunFrames X.base X.outer:=by
 have all:∀(l:List Env),(∀b∈lB l,b∈X.fs)->X.s₀.heap.FunFrames X.base l->s.heap.FunFrames X.base l:=by
  intro l;induction l with
  |nil=>intro _ _;trivial
  |cons E r i=>intro d f;obtain⟨g,⟨L,o,h,j,k,m⟩,n⟩:=f;have a:L∈X.fs:=d L (by unfold lB;rw[List.filterMap_cons,h];exact List.mem_cons_self);obtain⟨S,e⟩:=I.base.slot L o k (I.ok.frf L a) a λz=>I.ok.exfs L z a;exact#[g,#[L,_,h,j,e,m],i (λb c=>d b (by unfold lB;rw[List.filterMap_cons,h];exact List.mem_cons_of_mem _ c)) n]
 exact all X.outer (λ_ c=>c) I.ok.funs
theorem ax.stack(I:ax X pins σ H s):s.heap.FunFrames X.base X.stack:=by
 rcases I.ok.stk with e | ⟨e,h⟩
 ·rw[e];exact I.funs
 ·rw[e];obtain⟨m,a,_⟩:=I.loc;refine .cons (by rw[I.ok.kind];decide) h a ?_ I.funs;exact Heap.get?_none_of_le$ Mg I.ok.bsz I.ok.above
theorem ax.stkSub(I:ax X pins σ H s):∀b∈lB X.stack,b∈X.env.locals::X.fs:=λb h=>by
 rcases I.ok.stk with e | ⟨e,a⟩
 ·rw[e]at h;exact Mt _ h
 ·rw[e]at h;unfold lB at h;rw[PV,a]at h;exact h
theorem ax.stkFree(I:ax X pins σ H s):∀b∈lB X.stack,H b=none:=λb hb=>by
 rcases List.mem_cons.mp (I.stkSub b hb) with e |hb
 ·rw[e];exact I.free
 ·obtain⟨_,o,h,_⟩:=I.ok.funs.mem hb;exact I.base.free b o h (I.ok.frf b hb) λz=>I.ok.exfs b z hb
theorem ax.step{g':Array GenState}{d':Drawn}{ch:List Addr}(I:ax X pins σ H s)
  (a:∀b∈ch,(b∈X.ex∨X.s₀.heap.objs.size<=b)/\b≠X.env.locals/\(∀x c,X.env.cells.lookup x=some c->c≠b)/\∀p∈X.pn++pins,p.1≠b)
  (K:∀b o,b≠X.env.locals->b∉X.fs->b∉ch->s.heap.get? b=some o->H b=none->h'.get? b=some o)
  (S:∀b o,b≠X.env.locals->b∈X.fs->b∉ch->s.heap.get? b=some o->H b=none->∃J,h'.get? b=some { o with slots:=J }) (f:∀b o,b∉ch->s.heap.get? b=some o->H b=none->H' b=none)
  (t:∀b o,b∉ch->s.heap.get? b=some o->∃O,h'.get? b=some O)
  (T:∀b j,H b=some (.tup j)->H' b=some (.tup j)) (F:∀b o u,H b=some (.frz o u)->H' b=some (.frz o u)) (B:∀b P,H b=some (.tbl P)->∃M,H' b=some (.tbl$ P++M))
  (ns:∀m,s.heap.Ns X.env.locals m->h'.Ns X.env.locals m) (L:fo X.prog X.w H' h') (hg:AllBare g'):
  ax X pins σ H' { s with heap:=h',gens:=g',drawn:=d',toks:=t' }:=by
 have D:∀b o,X.s₀.heap.get? b=some o->b≠X.env.locals:=λb o e=>Me (Mi (LW e) I.ok.above);have g:∀b o,X.s₀.heap.get? b=some o->b∉X.ex->b∉ch:=λb o e h y=>by
  rcases(a b y).1 with z |z
  ·exact h z
  ·exact absurd (Mi (LW e) z)$ MX _
 have C:∀x c,X.env.cells.lookup x=some c->∀v,s.heap.IsCell c v->h'.IsCell c v:=λx c e v #[o,A,Q]=>by
  have N:c∉ch:=λz=>(a c z).2.2.1 x c e Z;by_cases U:c∈X.fs
  ·obtain⟨J,q⟩:=S c o (I.cne x c e) U N A (I.freeC x c e);exact#[_,q,Q]
  ·exact#[o,K c o (I.cne x c e) U N A$ I.freeC x c e,Q]
 refine#[I.ok,I.os,hg,#[λb o e n y h=>?_,λb o e n y h=>?_,λb o e n h=>?_,λb o e h=>?_,λb j e=>T b j (I.base.tups b j e),λb o j e=>F b o j (I.base.frzs b o j e),λb P e=>?_],?_,λx c e=>?_,?_,λx c e=>?_,λp W=>?_,L,I.len]
 ·exact K b o (D b o e) y (g b o e h) (I.base.keep b o e n y h)$ I.base.free b o e n h
 ·obtain⟨J,E⟩:=I.base.slot b o e n y h;obtain⟨R,G⟩:=S b _ (D b o e) y (g b o e h) E (I.base.free b o e n h);exact#[R,G]
 ·obtain⟨O,E⟩:=I.base.there b o e h;exact f b O (g b o e h) E$ I.base.free b o e n h
 ·obtain⟨O,E⟩:=I.base.there b o e h;exact t b O (g b o e h) E
 ·obtain⟨m1,E⟩:=I.base.tbls b P e;obtain⟨m2,G⟩:=B b _ E;exact#[m1++m2,by rw[G,Array.append_assoc]]
 ·obtain⟨m,hn,hl⟩:=I.loc;refine#[m,ns m hn,λi x v E G e3=>?_];obtain⟨u,r,l⟩:=hl i x v E G e3;refine#[u,r,?_];rcases l with l | ⟨k,c,e,z⟩
  ·exact .inl l
  ·exact .inr #[k,c,e,C x c e _ z]
 ·obtain⟨v,z⟩:=I.cell x c e;exact#[v,C x c e v z]
 ·obtain⟨m,⟨o,_,_,A,_⟩,_⟩:=I.loc;exact f _ o (λz=>(a _ z).2.1 Z) A I.free
 ·obtain⟨v,o,A,Q⟩:=I.cell x c e;exact f c o (λz=>(a c z).2.2.1 x c e Z) A$ I.freeC x c e
 ·obtain⟨e,n,Y,nf,d⟩:=I.pin p W;have N:p.1∉ch:=λz=>(a p.1 z).2.2.2 p W Z;exact#[K p.1 p.2 Y nf N e n,f p.1 p.2 N e n,Y,nf,d]
theorem ax.un{t':Nat}(I:ax X pins σ H s)(u:Un X.fs [] H H' s.heap h')(a:fo X.prog X.w H' h'):ax X pins σ H' { s with heap:=h',toks:=t' }:=by
 obtain⟨m,⟨o,j,k,f,r⟩,_⟩:=id I.loc;obtain⟨S,g⟩:=u.any f I.free UP;exact I.step (g':=s.gens) (d':=s.drawn) (ch:=[]) (λ_ z=>nomatch z) (λb o _ c _ e n=>u.keep b o e n c UP) (λb o _ c _ e n=>u.slot b o e n c UP) (λb o _ e n=>u.free b o e n UP) (λb o _ e=>u.there b o e UP) u.tups u.frzs u.tbls (λM i=>by
  obtain⟨O,E,d,h,R⟩:=i;rw[f]at h;cases h;exact#[_,E,d,g,R]) a I.bare
theorem ax.call{g':Array GenState}{t':Nat}{d':Drawn}{ch:List Addr}(I:ax X pins σ H s)(u:Un (lB X.stack) ch H H' s.heap h')(f:fo X.prog X.w H' h')(k:AllBare g')
  (a:∀b∈ch,(b∈X.ex∨X.s₀.heap.objs.size<=b)/\b≠X.env.locals/\(∀x c,X.env.cells.lookup x=some c->c≠b)/\∀p∈X.pn++pins,p.1≠b):
  ax X pins σ H' { s with heap:=h',gens:=g',drawn:=d',toks:=t' }:=by
 obtain⟨m,⟨o,t,v,j,r⟩,_⟩:=id I.loc;obtain⟨S,g⟩:=u.any j I.free λz=>(a _ z).2.1 Z;exact I.step (ch:=ch) a (λb o g l h e n=>u.keep b o e n (λz=>(List.mem_cons.mp$ I.stkSub b z).elim g l) h) (λb o _ _ h e n=>u.any e n h) (λb o h e n=>u.free b o e n h) (λb o h e=>u.there b o e h) u.tups u.frzs u.tbls (λM q=>by
  obtain⟨O,E,i,d,R⟩:=q;rw[j]at d;cases d;exact#[_,E,i,g,R]) f k
theorem ax.turned{t':Nat}{it:Addr}(I:ax X pins σ H s)(k:∀b o,b≠it->s.heap.get? b=some o->h'.get? b=some o)(d:H it=none)(a:it≠X.env.locals)
  (f:it∈X.ex∨X.s₀.heap.objs.size<=it) (g:∀x c,X.env.cells.lookup x=some c->c≠it) (i:∀p∈X.pn++pins,p.1≠it):ax X pins σ H { s with heap:=h',toks:=t' }:=by
 have N:∀b u,H b=some u->b≠it:=λb u e z=>by rw[z,d]at e;cases e
 refine I.step (g':=s.gens) (d':=s.drawn) (ch:=[it]) (λb j=>?_) (λb o _ _ h e _=>k b o (λz=>h (by simp [z])) e) (λb o _ _ h e _=>#[o.slots,k b o (λz=>h (by simp [z])) e]) (λ_ _ _ _ n=>n)
  (λb o h e=>#[o,k b o (λz=>h (by simp [z])) e]) (λ_ _ e=>e) (λ_ _ _ e=>e) (λb P e=>#[(List.toArray []),by rw[e];simp]) (λm l=>?_) (λb u e=>?_) I.bare
 ·have e:b=it:=by simpa using j
  subst e;exact#[f,a,g,i]
 ·obtain⟨o,E,t,w,r⟩:=l;exact#[o,E,t,k _ o (ME a) w,r]
 ·refine(I.hok b u e).stay (λc v h q=>k c v ?_ q) (λ_ q=>q) λ_ _ q=>q;rcases h with z |z
  ·rw[z];exact N b u e
  ·exact N c _ z
theorem ax.tok(I:ax X pins σ H s)(t:Nat):ax X pins σ H { s with toks:=t }:=I.un (h':=s.heap) (t':=t) Un.refl I.hok
theorem ax.kept{t':Nat}(I:ax X pins σ H s)(k:∀b u,s.heap.get? b=some u->h'.get? b=some u):ax X pins σ H { s with heap:=h',toks:=t' }:=I.un (Un.kept k) (I.hok.kept k)
theorem ax.laid{a:Addr}{o:HO}{t':Nat}(I:ax X pins σ H s)(k:∀b u,s.heap.get? b=some u->h'.get? b=some u)(h:s.heap.objs.size<=a)(n:aN X.prog X.w (am H a o) h' a o):
  ax X pins σ (am H a o) { s with heap:=h',toks:=t' }:=I.un (Un.laid k h$ I.hok.fresh h) (I.hok.laid k h n)
theorem ax.write{x e:Addr}{o:HO}{t':Nat}(I:ax X pins σ H s)(m:EZ (H x))(a:e=x∨H e=some (.own x))(k:∀b u,b≠e->s.heap.get? b=some u->h'.get? b=some u)(h:∃u,h'.get? e=some u)
  (n:aN X.prog X.w (am H x o) h' x o):ax X pins σ (am H x o) { s with heap:=h',toks:=t' }:=I.un (Un.write m a k h) (I.hok.write m a k h n)
theorem ax.pins_of{pins':List (Addr×Obj)}(I:ax X pins σ H s)(h:∀p∈pins',s.heap.get? p.1=some p.2/\H p.1=none/\p.1≠X.env.locals/\p.1∉X.fs/\∀v,p.2.data≠ .cell v):ax X pins' σ H s:=
 #[I.ok,I.os,I.bare,I.base,I.loc,I.cell,I.free,I.freeC,λp a=>(List.mem_append.mp a).elim (λz=>I.pin p (Nk _ z)) (h p),I.hok,I.len]
theorem XC{N:List Str}(h:N.Nodup){i j:Nat}{x:Str}(a:N[i]?=some x)(b:N[j]?=some x):i=j:=by obtain⟨c,e⟩:=List.getElem?_eq_some_iff.mp a;obtain⟨d,E⟩:=List.getElem?_eq_some_iff.mp b;exact(List.getElem_inj h).mp (e.trans E.symm)
theorem Qw{v:V}{Q:Unit->Shared->Prop}(I:ax X pins σ H s)(hN:X.N.Nodup)(L:X.N[i]?=some x)(l:sN X.env.scope x)(r:aF v u)
  (h:∀s',ax X pins (σ.set i$ some v) H s'->(∃a,Heap.SameBut a s.heap s'.heap/\(a=X.env.locals∨X.env.cells.lookup x=some a))->Q () s') (hf:X.fn x=true∨X.env.scope.names.lookup x=some .local:=by first |exact .inl Z |exact .inr Z |assumption):wpAny M A (storeName X.env x u) Q E s:=by
 obtain⟨m,hn,hl⟩:=id I.loc;have O:(X.env.scope.kind== .class||(X.env.scope.kind== .module&&X.env.locals != X.env.globals))=false:=by rw[I.ok.kind];rfl
 have D:i < σ.length:=by rw[I.len];exact(List.getElem?_eq_some_iff.mp L).1
 have F:=I.cne;have t:∀{a:Addr} {h':Heap},(∃o,s.heap.get? a=some o/\H a=none)->Heap.SameBut a s.heap h'->fo X.prog X.w H h':=λ{a h'} ha f b ob e=>by
  obtain⟨_,_,B⟩:=ha;refine(I.hok b ob e).stay (λc W hc q=>(f.2 c ?_).trans q) (λ_ q=>q) λ_ _ q=>q;rintro rfl;rcases hc with rfl |hc
  ·rw[B]at e;cases e
  ·rw[B]at hc;cases hc
 rcases l with hk |hk
 ·refine wpAny_storeName_local hk hn (λh' h0 f=>?_) O;obtain⟨oL,_,_,h1,_⟩:=id hn;refine h _ #[I.ok,I.os,I.bare,#[λb o e n G l=>?_,λb o e n G l=>?_,I.base.free,λb o e l=>?_,I.base.tups,I.base.frzs,I.base.tbls],#[_,h0,λj y v' g C e3=>?_],λy c e=>?_,I.free,I.freeC,λp hp=>?_,t #[oL,h1,I.free] f,by simpa using I.len] #[_,f,.inl Z]
  ·exact(f.2 b$ Me$ Mi (LW e) I.ok.above).trans (I.base.keep b o e n G l)
  ·obtain⟨sl,g⟩:=I.base.slot b o e n G l;exact#[sl,(f.2 b$ Me$ Mi (LW e) I.ok.above).trans g]
  ·obtain⟨o',g⟩:=I.base.there b o e l;exact#[o',(f.2 b$ Me$ Mi (LW e) I.ok.above).trans g]
  ·by_cases J:j=i
   ·subst J;rw[L]at g;cases g;rw[Ox D]at C;cases C;exact#[u,r,.inl #[hk,UP]]
   ·rw[NH$ ME J]at C;obtain⟨u',r',q⟩:=hl j y v' g C e3;refine#[u',r',?_];rcases q with ⟨k,e⟩ | ⟨k,c,e,z⟩
    ·refine .inl #[k,?_];have:y≠x:=λe=>J (XC hN g$ e▸L);simp [this,e]
    ·exact .inr #[k,c,e,z.sameBut f$ F y c e]
  ·obtain⟨W,z⟩:=I.cell y c e;exact#[W,z.sameBut f$ F y c e]
  ·obtain⟨e,n,U,nf,d⟩:=I.pin p hp;exact#[(f.2 p.1 U).trans e,n,U,nf,d]
 ·have K:X.fn x=true:=by
   rcases hf with z |z
   ·exact z
   ·rw[z]at hk;cases hk
  obtain⟨c,hc⟩:=I.ok.has x (.inl hk);obtain⟨W,z⟩:=I.cell x c hc;refine wpAny_storeName_cell I.ok.kind hk hc z (λh' P f=>?_);obtain⟨oc,R,S⟩:=id z;refine h { s with heap:=h' } #[I.ok,I.os,I.bare,#[λb o e n G l=>?_,λb o e n G l=>?_,I.base.free,λb o e l=>?_,I.base.tups,I.base.frzs,I.base.tbls],#[m,hn.sameBut f$ ME$ F x c hc,λj y v' g C e3=>?_],λy Y e=>?_,I.free,I.freeC,λp hp=>?_,t #[oc,R,I.freeC x c hc] f,by simpa using I.len] #[c,f,.inr hc]
  ·exact(f.2 b$ Me$ Mi (LW e)$ I.ok.cab x c K hc).trans (I.base.keep b o e n G l)
  ·obtain⟨sl,g⟩:=I.base.slot b o e n G l;exact#[sl,(f.2 b$ Me$ Mi (LW e)$ I.ok.cab x c K hc).trans g]
  ·obtain⟨o',g⟩:=I.base.there b o e l;exact#[o',(f.2 b$ Me$ Mi (LW e)$ I.ok.cab x c K hc).trans g]
  ·by_cases J:j=i
   ·subst J;rw[L]at g;cases g;rw[Ox D]at C;cases C;exact#[u,r,.inr #[.inl hk,c,hc,P]]
   ·rw[NH$ ME J]at C;obtain⟨u',r',q⟩:=hl j y v' g C e3;refine#[u',r',?_];rcases q with q | ⟨k,Y,e,z'⟩
    ·exact .inl q
    ·refine .inr #[k,Y,e,z'.sameBut f ?_];rintro rfl;exact J$ XC hN g$ I.ok.inj _ _ _ e hc▸L
  ·by_cases T:Y=c
   ·subst T;exact#[_,P]
   ·obtain⟨w2,z2⟩:=I.cell y Y e;exact#[w2,z2.sameBut f T]
  ·obtain⟨e,n,U,nf,d⟩:=I.pin p hp;refine#[(f.2 p.1 ?_).trans e,n,U,nf,d];intro q;rw[q,R]at e;have q':oc=p.2:=MM e;exact d W (by rw[<- q'];exact S)
theorem zI{Q:Unit->Shared->Prop}(I:ax X pins σ H s)(a:X.N.Nodup)(b:X.N[i]?=some x)(c:sN X.env.scope x)(r:aF v u)
  (h:∀S,ax X pins (σ.set i$ some v) H S->Q () S) (d:X.fn x=true∨X.env.scope.names.lookup x=some .local:=by first |exact .inl Z |exact .inr Z |assumption):wpAny M A (storeName X.env x u) Q E s:=
 Qw I a b c r (λS e _=>h S e) d
theorem ax.call'{S:Shared}{ch:List Addr}(I:ax X pins σ H s)(d:S.os=s.os)(u:Un (lB X.stack) ch H H' s.heap S.heap)(h:fo X.prog X.w H' S.heap)(f:AllBare S.gens)
  (a:∀b∈ch,(b∈X.ex∨X.s₀.heap.objs.size<=b)/\b≠X.env.locals/\(∀x c,X.env.cells.lookup x=some c->c≠b)/\∀p∈X.pn++pins,p.1≠b):ax X pins σ H' S:=by
 obtain⟨h',g',d',t',o⟩:=S;have e:o=s.os:=d;subst e;exact I.call (g':=g') (t':=t') (d':=d') u h f a
end
abbrev XK:=Value->Option Addr->Hp->Prop
abbrev St:=List (Option V)
abbrev VK:=V->Hp->Prop
abbrev TE:=St->Hp->VK->Prop
abbrev TT:=St->Hp->(Bool->Hp->Prop)->Prop
abbrev TA:=St->Hp->(List V->Hp->Prop)->Prop
structure a7 where
 nx:St->Hp->Prop
 rt:VK
 bk:St->Hp->Prop:=λ_ _=>False
 ct:St->Hp->Prop:=λ_ _=>False
abbrev TS:=a7->St->Hp->Prop
inductive EP(X:Cx)(a:List (Addr×Obj))(d:St)(Q:VK)(u:Value)(c:Shared):Prop
 |mk(v b:_)(_:ax X a d b c)(_:aF v u)(_:Q v b)
inductive TP(X:Cx)(a:List (Addr×Obj))(e:St)(Q:Bool->Hp->Prop)(b:Bool)(d:Shared):Prop
 |mk(c:_)(_:ax X a e c d)(_:Q b c)
inductive AP(X:Cx)(a:List (Addr×Obj))(f:St)(Q:List V->Hp->Prop)(d:List Value)(c:Shared):Prop
 |mk(e b:_)(_:ax X a f b c)(_:aC e d)(_:Q e b)
def SP(X:Cx)(p:List (Addr×Obj))(D:a7)(f:Flow)(s:Shared):Prop:=
 match f with
 | .next=>∃a H,ax X p a H s/\D.nx a H
 | .brk=>∃a H,ax X p a H s/\D.bk a H
 | .cont=>∃a H,ax X p a H s/\D.ct a H
 | .ret u=>∃v a H,ax X p a H s/\aF v u/\D.rt v H
def PE(X:Cx)(e:Expr)(t:TE):Prop:=
 ∀(p:List (Addr×Obj)) (s:Shared) (a:St) (H:Hp) (Q:VK),ax X p a H s->t a H Q->wpAny (model X.prog X.w) X.A (eval e X.env) (EP X p a Q) X.xe s
def PT(X:Cx)(e:Expr)(t:TT):Prop:=
 ∀(p:List (Addr×Obj)) (s:Shared) (a:St) (H:Hp) (Q:Bool->Hp->Prop),ax X p a H s->t a H Q->wpAny (model X.prog X.w) X.A (isTrue e X.env$ eval e X.env) (TP X p a Q) X.xe s
def PW(X:Cx)(e:Expr)(t:TT):Prop:=
 ∀(W:Sem Value) (p:List (Addr×Obj)) (s:Shared) (a:St) (H:Hp) (Q:Bool->Hp->Prop),ax X p a H s->t a H Q->wpAny (model X.prog X.w) X.A (isTrue e X.env W) (TP X p a Q) X.xe s
theorem PW.pt{X:Cx}{e:Expr}{t:TT}(h:PW X e t):PT X e t:=h _
def PA(X:Cx)(e:List Expr)(t:TA):Prop:=
 ∀(P:Pos) (p:List (Addr×Obj)) (s:Shared) (a:St) (H:Hp) (Q:List V->Hp->Prop),ax X p a H s->t a H Q->wpAny (model X.prog X.w) X.A (spliced$ backTo P$ starEach e X.env) (AP X p a Q) X.xe s
def PS(X:Cx)(st:Stmt)(t:TS):Prop:=
 ∀(p:List (Addr×Obj)) (s:Shared) (a:St) (H:Hp) (D:a7),ax X p a H s->t D a H->wpAny (model X.prog X.w) X.A (exec st X.env) (SP X p D) X.xe s
def mP(X:Cx)(st:List Stmt)(t:TS):Prop:=
 ∀(p:List (Addr×Obj)) (s:Shared) (a:St) (H:Hp) (D:a7),ax X p a H s->t D a H->wpAny (model X.prog X.w) X.A (execs st X.env) (SP X p D) X.xe s
theorem aV{b:Type}{t:Sem b}{Q q:b->Shared->Prop}{M:Model}{A:Around}{E:Value->Shared->Prop}{s:Shared}(h:wpAny M A t Q E s)(H:∀a s,Q a s->q a s):wpAny M A t q E s:=MZ h H λ_ _ x=>x
section
variable {X:Cx}
inductive aZ(i:Nat)(a:St)(H:Hp)(Q:VK):Prop
 |mk(v:_)(_:a[i]?=some (some v))(_:Q v H)
def tC(v:V):TE:=λ_ H Q=>Q v H
theorem DW(j:X.N[i]?=some x)(k:HJ X.env.scope x)(b:(x==("__debug__":Str))=false:=by decide)(d:(x==("__classdict__":Str))=false:=by decide):PE X (.Name x n) (aZ i):=by
 intro p s o H Q I h;obtain⟨v,e,h⟩:=h;obtain⟨m,q,t⟩:=I.loc;obtain⟨u,r,l⟩:=t i x v j e k;have f:EP X p o Q u s:=#[v,H,I,r,h];rcases l with ⟨hk,w⟩ | ⟨hk,c,g,a⟩
 ·exact TH (Te I.ok.kind hk q w f) b
 ·rcases hk with hk |hk
  ·exact TH (Tp I.ok.kind hk g a f) b
  ·exact TH (wpAny_loadName_free I.ok.kind hk g a f d) b
theorem jf{i j p}:PE X (.Constant (.int i) j p) (tC$ .int i):=λ_ _ _ H _ I h=>wpAny_Constant_int #[.int i,H,I.tok _,#[_,Z],h]
theorem Zm{b j p}:PE X (.Constant (.bool b) j p) (tC$ .bl b):=λ_ _ _ H _ I h=>Constant_bool #[.bl b,H,I,Z,h]
theorem Kt{j p}:PE X (.Constant .none j p) (tC .non):=λ_ _ _ H _ I h=>Constant_none #[.non,H,I,Z,h]
theorem jl{x j p}:PE X (.Constant (.str x) j p) (tC$ .str x):=λ_ _ _ H _ I h=>Calls.Constant_str #[.str x,H,I.tok _,#[_,Z],h]
def Gl(X:Cx)(x:Str):Prop:=X.env.kindOf x=some .globalImplicit
theorem zN{Q:Value->Shared->Prop}(I:ax X p e H s)(a:Gl X x)(b:X.mg x=some u)(h:Q u s)
  (c:(x==("__debug__":Str))=false:=by decide):wpAny (model X.prog X.w) X.A (eval (.Name x d) X.env) Q E s:=
 Rx I.ok.kind a (Calls.loadGlobal_global (by rw[I.ok.glob];exact I.mod.glob.keeps I.bk) b h) c
theorem zE{Q:Value->Shared->Prop}(I:ax X p j H s)(a:Gl X x)(b:X.mg x=none)(c:bootBuiltins x=some u)(h:Q u s)
  (d:x≠"__name__":=by decide) (e:(x==("__debug__":Str))=false:=by decide):wpAny (model X.prog X.w) X.A (eval (.Name x f) X.env) Q E s:=by
 obtain⟨m,g,i⟩:=I.mod.blt;exact Rx I.ok.kind a (Calls.loadGlobal_builtin (by rw[I.ok.glob];exact I.mod.glob.keeps I.bk) b (by rw[I.ok.blt];exact g.keeps I.bk) ((i x d).trans c) h) e
theorem Jc{v:V}(a:Gl X x)(b:X.mg x=some u)(r:aF v u)(c:(x==("__debug__":Str))=false:=by decide):PE X (.Name x p) (tC v):=
 λ_ _ _ H _ I h=>zN I a b #[v,H,I,r,h] c
theorem Zr{v:V}(a:Gl X x)(b:X.mg x=none)(c:bootBuiltins x=some u)(r:aF v u)(d:x≠"__name__":=by decide)(e:(x==("__debug__":Str))=false:=by decide):PE X (.Name x p) (tC v):=
 λ_ _ _ H _ I h=>zE I a b c #[v,H,I,r,h] d e
variable {a b:Expr}{ta tb:TE}{pos:Pos}
def PC(X:Cx)(o:CmpOp)(a b:Expr)(t:TE):Prop:=
 ∀(p:List (Addr×Obj)) (s:Shared) (d:St) (H:Hp) (Q:VK),ax X p d H s->t d H Q->
  wpAny (model X.prog X.w) X.A (eval a X.env) (λv S=>wpAny (model X.prog X.w) X.A (eval b X.env) (λu c=>wpAny (model X.prog X.w) X.A (compareOp o v u) (EP X p d Q) X.xe c) X.xe S) X.xe s
def IP(ta:TE):TE:=λc H Q=>ta c H λx h=>Q (.bl$ decide$ x= .non) h
theorem aF.none_iff(r:aF x v):(v==Value.none)=decide (x= .non):=by
 cases x with
 |non=>cases r;rfl
 |bl _=>cases r;rfl
 |int _=>obtain⟨t,rfl⟩:=r;rfl
 |str _=>obtain⟨t,rfl⟩:=r;rfl
 |byt _=>obtain⟨t,rfl⟩:=r;rfl
 |flt _=>obtain⟨t,rfl⟩:=r;rfl
 |ref _=>cases r;rfl
 |ty _=>cases r;rfl
theorem QV{j p}(c:PE X a ta):PC X .Is a (.Constant .none j p) (IP ta):=by intro P s d H Q I h;refine aV (c P s d H _ I h) λv S z=>?_;obtain⟨x,e,i,r,q⟩:=z;exact Constant_none$ is_none_gen #[.bl _,e,i,by rw[r.none_iff];rfl,q]
inductive Ln(Q:Bool->Hp->Prop)(x:V)(a:Hp):Prop
 |mk(c:_)(_:x= .bl c)(_:Q c a)
def tB(t:TE):TT:=λc H Q=>t c H (Ln Q)
theorem Ku(h:PC X o a b t)(e:behindInMarks o b=false:=by first |exact n _ UN UN |rfl):PT X (.Compare a [o] [b] pos) (tB t):=by intro p s f H Q I g;refine SW (aV (h p s f H _ I g) λv S e=>aV e λu m i=>aV i λc w z=>?_) e;obtain⟨x,j,k,r,l⟩:=z;obtain⟨d,rfl,q⟩:=l;cases r;exact OF #[j,k,q]
theorem vI(h:PE X e t)(c:∀w,isTrue e X.env w=(do let v <- w;standAt e.pos;holding [v] (truthy v)):=by intro _;rfl):PT X e (tB t):=by intro p s f H Q I g;refine isTrue_plain (aV (h p s f H _ I g) λv S z=>?_)$ c _;obtain⟨x,i,j,r,k⟩:=z;obtain⟨d,rfl,q⟩:=k;cases r;exact OF #[i,j,q]
variable {tA tB':TT}{rest:List Expr}
def IK(t u:TT):TT:=λd H Q=>t d H λc h=>if c=true then u d h Q else Q false h
def LB(t u:TT):TT:=λd H Q=>t d H λc h=>if c=true then Q true h else u d h Q
def IQ(t:TT):TT:=λd H Q=>t d H λc h=>Q (!c) h
theorem Q8(d:PT X a tA):PW X (.BoolOp .And [a] pos) tA:=by
 intro w p s f H Q I h;refine isTrue_and$ aV (d p s f H Q I h) λc S e=>?_;cases c with
 |true=>exact isTrue_and_nil e
 |false=>exact e
theorem Yv(d:PT X a tA):PW X (.BoolOp .Or [a] pos) tA:=by
 intro w p s f H Q I h;refine isTrue_or$ aV (d p s f H Q I h) λc S e=>?_;cases c with
 |false=>exact isTrue_or_nil e
 |true=>exact e
theorem Yw(f:PT X a tA)(g:PW X (.BoolOp .And (b::rest) pos) tB'):PW X (.BoolOp .And (a::b::rest) pos) (IK tA tB'):=by
 intro w p s d H Q I h;refine isTrue_and$ aV (f p s d H _ I h) λc S z=>?_;obtain⟨e,i,q⟩:=z;cases c with
 |true=>exact g w p S d e Q i q
 |false=>exact#[e,i,q]
theorem vJ(f:PT X a tA)(g:PW X (.BoolOp .Or (b::rest) pos) tB'):PW X (.BoolOp .Or (a::b::rest) pos) (LB tA tB'):=by
 intro w p s d H Q I h;refine isTrue_or$ aV (f p s d H _ I h) λc S z=>?_;obtain⟨e,i,q⟩:=z;cases c with
 |true=>exact#[e,i,q]
 |false=>exact g w p S d e Q i q
theorem vG(e:PT X a tA):PT X (.UnaryOp .Not a pos) (IQ tA):=by intro p s f H Q I h;exact isTrue_not$ aV (e p s f H (λc d=>Q (!c) d) I h) λc S #[d,i,q]=>#[d,i,q]
inductive wY(b:TE)(d:St)(Q:VK)(x:V)(a:Hp):Prop
 |mk(c:_)(_:x= .bl c)(_:if c=true then b d a Q else Q (.bl false) a)
def He(ta tb:TE):TE:=λc H Q=>ta c H (wY tb c Q)
theorem DV(h:PE X a t):PE X (.BoolOp o [a] pos) t:=λp s c H Q I d=>BoolOp_one (h p s c H Q I d)
theorem DS(f:PE X a ta)(g:PE X (.BoolOp .And (b::rest) pos) tb):PE X (.BoolOp .And (a::b::rest) pos) (He ta tb):=by
 intro p s d H Q I h;refine BoolOp_and$ aV (f p s d H _ I h) λv S z=>?_;obtain⟨x,e,i,r,q⟩:=z;obtain⟨c,rfl,q⟩:=q;cases r;refine OF ?_;cases c with
 |true=>exact g p S d e Q i q
 |false=>exact#[.bl false,e,i,Z,q]
def LA(t:TT)(ta tb:TE):TE:=λd H Q=>t d H λc h=>if c=true then ta d h Q else tb d h Q
theorem kW(g:PT X c tA)(j:PE X a ta)(k:PE X b tb):PE X (.IfExp c a b pos) (LA tA ta tb):=by
 intro p s e H Q I h;refine wpAny_IfExp$ aV (g p s e H _ I h) λd S z=>?_;obtain⟨f,i,q⟩:=z;cases d with
 |true=>exact j p S e f Q i q
 |false=>exact k p S e f Q i q
end
def aI(K:Frag)(H:Hp)(a:Addr)(x:List V):Prop:=
 Rd H a (.lst x)∨
  ∃(o:Obj) (i:Array Value) (n:Nat),K.lookup a=some o/\o.cls= .type "list"/\o.dict=none/\o.data= .seq i n/\i.size<=sizeLine/\aC x i.toList
def aB(K:Frag)(H:Hp)(a:Addr)(x:List V):Prop:=
 Rd H a (.tup x)∨
  ∃(o:Obj) (i:Array Value) (n:Nat),K.lookup a=some o/\o.cls= .type "tuple"/\o.data= .seq i n/\i.size<=sizeLine/\aC x i.toList
noncomputable def Ij:Value->Option V
 | .none=>some .non
 | .bool b=>some (.bl b)
 | .int i _=>some (.int i)
 | .str x _=>some (.str x)
 | .bytes b _=>some (.byt b)
 | .float b _=>some (.flt b)
 | .ref a=>some (.ref a)
 | .type n=>some (.ty n)
 |_=>none
theorem aF.abs(r:aF x u):Ij u=some x:=by
 cases x with
 |non=>cases r;rfl
 |bl _=>cases r;rfl
 |int _=>obtain⟨t,rfl⟩:=r;rfl
 |str _=>obtain⟨t,rfl⟩:=r;rfl
 |byt _=>obtain⟨t,rfl⟩:=r;rfl
 |flt _=>obtain⟨t,rfl⟩:=r;rfl
 |ref _=>cases r;rfl
 |ty _=>cases r;rfl
theorem aF.inj{x:V}(r:aF x u)(q:aF y u):x=y:=MM (r.abs.symm.trans q.abs)
theorem aC.inj:∀{x y:List V} {u:List Value},aC x u->aC y u->x=y
 |_,_,_,.nil,.nil=>rfl
 |_,_,_,.cons r t,.cons R T=>by rw[r.inj R,aC.inj t T]
section
variable {X:Cx}{pins:List (Addr×Obj)}{σ:St}{H:Hp}{s:Shared}{a:Addr}{xs ys:List V}
theorem aI.of{K:Frag}(h:H a=some (.lst xs)):aI K H a xs:=.inl (.inl h)
theorem aB.of{K:Frag}(h:H a=some (.tup xs)):aB K H a xs:=.inl (.inl h)
theorem ax.list(I:ax X pins σ H s)(h:aI X.K H a xs):∃i:List Value,aC xs i/\PlainL s.heap a i.toArray/\xs.length<=sizeLine:=by
 rcases h with h | ⟨o,i,n,b,c,d,f,g,r⟩
 ·obtain⟨z,i,n,r,e⟩:=h.ok I.hok;exact#[i,r,#[_,n,e,Z,Z,Z],z]
 ·refine#[i.toList,r,#[o,n,I.kIn a o b,c,d,by simpa using f],?_];have e:=r.length;simp only[Mq]at e;omega
theorem ax.tuple(I:ax X pins σ H s)(h:aB X.K H a xs):∃i:List Value,aC xs i/\IsTup s.heap a i.toArray/\xs.length<=sizeLine:=by
 rcases h with h | ⟨o,i,n,b,c,d,f,r⟩
 ·obtain⟨z,i,r,p⟩:=h.ok I.hok;exact#[i,r,p,z]
 ·refine#[i.toList,r,#[o,I.kIn a o b,c,n,by simpa using d],?_];have e:=r.length;simp only[Mq]at e;omega
theorem ax.list_inj(I:ax X pins σ H s)(h:aI X.K H a xs)(c:aI X.K H a ys):xs=ys:=by
 obtain⟨b,r,⟨o,n,e,_,_,d⟩,_⟩:=I.list h;obtain⟨i,R,⟨O,N,E,_,_,D⟩,_⟩:=I.list c;rw[e]at E;cases E;rw[d]at D;injection D with f _;have:b=i:=by simpa using Ng Array.toList f
 subst this;exact r.inj R
theorem ax.tuple_inj(I:ax X pins σ H s)(h:aB X.K H a xs)(c:aB X.K H a ys):xs=ys:=by
 obtain⟨b,r,⟨o,e,_,n,d⟩,_⟩:=I.tuple h;obtain⟨i,R,⟨O,E,_,N,D⟩,_⟩:=I.tuple c;rw[e]at E;cases E;rw[d]at D;injection D with f _;have:b=i:=by simpa using Ng Array.toList f
 subst this;exact r.inj R
end
noncomputable abbrev Cx.wish(X:Cx)(E:Value->Shared->Prop):Cx:={ X with xe:=E }
noncomputable abbrev Cx.nox(X:Cx):Cx:=X.wish λ_ _=>False
theorem Cx.Ok.wish{X:Cx}(o:X.Ok)(E:Value->Shared->Prop):(X.wish E).Ok:=
 #[o.mod,o.kind,o.glob,o.blt,o.above,o.inj,o.has,o.cab,o.hd,o.frames,o.stk,o.exf,o.bs,o.bsz,o.noex,o.exfs,o.funs,o.frf]
theorem Cx.Ok.unwish{X:Cx}(o:(X.wish E).Ok):X.Ok:=
 #[o.mod,o.kind,o.glob,o.blt,o.above,o.inj,o.has,o.cab,o.hd,o.frames,o.stk,o.exf,o.bs,o.bsz,o.noex,o.exfs,o.funs,o.frf]
section
variable {X:Cx}{pins:List (Addr×Obj)}{σ:St}{H:Hp}{s:Shared}{E:Value->Shared->Prop}
theorem ax.wish(I:ax X pins σ H s)(E:Value->Shared->Prop):ax (X.wish E) pins σ H s:=#[I.ok.wish E,I.os,I.bare,I.base,I.loc,I.cell,I.free,I.freeC,I.pin,I.hok,I.len]
theorem ax.unwish(I:ax (X.wish E) pins σ H s):ax X pins σ H s:=#[I.ok.unwish,I.os,I.bare,I.base,I.loc,I.cell,I.free,I.freeC,I.pin,I.hok,I.len]
theorem SP.unwish(h:SP (X.wish E) pins D f c):SP X pins D f c:=by
 cases f with
 |next=>obtain⟨a,b,I,q⟩:=h;exact#[a,b,I.unwish,q]
 |brk=>obtain⟨a,b,I,q⟩:=h;exact#[a,b,I.unwish,q]
 |cont=>obtain⟨a,b,I,q⟩:=h;exact#[a,b,I.unwish,q]
 |ret u=>obtain⟨v,a,b,I,r,q⟩:=h;exact#[v,a,b,I.unwish,r,q]
theorem mP.nox{st:List Stmt}(h:mP X.nox st t):mP X st t:=λpins s σ H D I a=>
 MZ (h pins s σ H D (I.wish _) a) (λ_ _ q=>q.unwish) λ_ _ z=>False.elim z
end
section
variable {X:Cx}{st:Stmt}{rest:List Stmt}{t u:TS}{e:Expr}{te:TE}{pos:Pos}
def xo:TS:=λD a H=>D.nx a H
def fh(t u:TS):TS:=λD a H=>t { D with nx:=u D } a H
theorem ju:mP X [] xo:=λ_ _ a H _ I h=>Ov #[a,H,I,h]
theorem jd(b:PS X st t)(c:mP X rest u):mP X (st::rest) (fh t u):=by
 intro p s d H D I h;refine RE$ aV (b p s d H { D with nx:=u D } I h) λf S q=>?_;cases f with
 |next=>obtain⟨a,g,i,q⟩:=q;exact c p S a g D i q
 |ret v=>exact q
 |brk=>exact q
 |cont=>exact q
theorem jg(a:PS X st t):mP X [st] t:=by
 intro p s b H D I h;refine RE$ aV (a p s b H D I h) λf S q=>?_;cases f with
 |next=>exact Ov q
 |ret v=>exact q
 |brk=>exact q
 |cont=>exact q
theorem ax.quiet(I:ax X p a H s):interactive X.env=false:=by simp [interactive,I.ok.kind]
def nJ(te:TE):TS:=λD a H=>te a H λ_ h=>D.nx a h
theorem jF(b:PE X e te)(c:swapsWith e none pos.line X.env=pure false:=by rfl):PS X (.Expr e pos) (nJ te):=by intro p s a H D I h;exact wpAny_Expr_any (aV (b p s a H _ I h) λv S #[x,d,i,r,q]=>#[a,d,i,q]) I.quiet c
def lg(te:TE):TS:=λD a H=>te a H D.rt
theorem jp(b:PE X e te):PS X (.Return (some e) pos) (lg te):=by intro p s a H D I h;exact wpAny_Return_some$ aV (b p s a H _ I h) λv S #[x,c,i,r,q]=>#[x,a,c,i,r,q]
def gU(c:TT)(t u:TS):TS:=λD a H=>c a H λb h=>if b=true then t D a h else u D a h
theorem jz{c:Expr}{a b:List Stmt}{T:TT}(j:PT X c T)(k:mP X a t)(l:mP X b u):PS X (.If c a b pos) (gU T t u):=by
 intro p s f H D I h;refine wpAny_If$ aV (j p s f H _ I h) λd S z=>?_;obtain⟨g,i,q⟩:=z;cases d with
 |true=>exact k p S f g D i q
 |false=>exact l p S f g D i q
end
abbrev TG:=V->St->Hp->(St->Hp->Prop)->Prop
abbrev yb:=List V->St->Hp->(St->Hp->Prop)->Prop
def PG(X:Cx)(T:Expr)(t:TG):Prop:=
 ∀(p:List (Addr×Obj)) (s:Shared) (b:St) (H:Hp) (v:V) (u:Value) (Q:St->Hp->Prop),ax X p b H s->aF v u->t v b H Q->
  wpAny (model X.prog X.w) X.A (assign T X.env u) (λ_ S=>∃a h,ax X p a h S/\Q a h) X.xe s
def EH(X:Cx)(T:List Expr)(t:yb):Prop:=
 ∀(p:List (Addr×Obj)) (s:Shared) (b:St) (H:Hp) (v:List V) (u:List Value) (Q:St->Hp->Prop),ax X p b H s->aC v u->t v b H Q->
  wpAny (model X.prog X.w) X.A (assignInOrder ((assignEach T X.env).map (·.2)) u) (λ_ S=>∃a h,ax X p a h S/\Q a h) X.xe s
abbrev Cc:=V->V->V->Hp->(Hp->Prop)->Prop
def Fb(X:Cx)(t:Cc):Prop:=
 ∀(p:List (Addr×Obj)) (s:Shared) (a:St) (H:Hp) (o i v:V) (O I u:Value) (Q:Hp->Prop),ax X p a H s->aF o O->aF i I->aF v u->t o i v H Q->
  wpAny (model X.prog X.w) X.A (setItem O I u) (λ_ S=>∃h,ax X p a h S/\Q h) X.xe s
abbrev Ic:=V->V->Hp->VK->Prop
def Lc(X:Cx)(o:Operator)(t:Ic):Prop:=
 ∀(p:List (Addr×Obj)) (s:Shared) (a:St) (H:Hp) (x y:V) (v u:Value) (Q:VK),ax X p a H s->aF x v->aF y u->t x y H Q->
  wpAny (model X.prog X.w) X.A (inplaceOp o v u) (EP X p a Q) X.xe s
section
variable {X:Cx}{pos:Pos}
def aU(i:Nat):TG:=λv a H Q=>Q (a.set i$ some v) H
theorem jx{i:Nat}{x:Str}(a:X.N.Nodup)(b:X.N[i]?=some x)(c:sN X.env.scope x)(d:X.fn x=true∨X.env.scope.names.lookup x=some .local:=by first |exact .inl Z |exact .inr Z |assumption):PG X (.Name x pos) (aU i):=by intro p s f H v u Q I r h;exact TQ$ zI I a b c r (λS e=>#[_,H,e,h]) d
def pX:yb:=λv a H Q=>v=[]/\Q a H
inductive cj(t:TG)(u:yb)(a:List V)(b:St)(H:Hp)(Q:St->Hp->Prop):Prop
 |mk(v r:_)(_:a=v::r)(_:t v b H λσ' H'=>u r σ' H' Q)
theorem za:EH X [] pX:=by intro p s a H v u Q I r h;obtain⟨e,h⟩:=h;subst e;cases r;exact assignInOrder_nil #[a,H,I,h]
theorem jC(b:PG X e t)(c:EH X E u)
  (d:(assignEach (e::E) X.env).map (·.2)=assign e X.env::(assignEach E X.env).map (·.2):=by rfl):EH X (e::E) (cj t u):=by
 intro p s f H V U Q I r h;obtain⟨v,k,g,h⟩:=h;subst g;cases r with
 |cons r R=>rw[d];refine assignInOrder_cons$ aV (b p s f H _ _ _ I r h) λ_ S z=>?_;obtain⟨a,i,j,q⟩:=z;exact c p S a i _ _ Q j R q
inductive pY(K:Frag)(n:Nat)(t:yb)(v:V)(c:St)(H:Hp)(Q:St->Hp->Prop):Prop
 |mk(a b:_)(_:v= .ref a)(_:aB K H a b)(_:b.length=n)(_:t b c H Q)
theorem qC{n:Nat}(g:X.calm=true)(h:EH X E t)
  (i:(assignEach E X.env).length=n:=by rfl) (c:(assignEach E X.env).findIdx? (·.1)=none:=by rfl):PG X (.Tuple E k pos) (pY X.K n t):=by
 intro p s f H v u Q I r d;obtain⟨a,x,j,l,m,d⟩:=d;subst j;cases r;obtain⟨q,R,w,B⟩:=I.tuple l;refine assign_Tuple_tuple (I.ok.hd g) w (by simp [i,<- m,R.length]) c λy z=>?_;have A:ax X p f H { s with heap:=y }:=I.kept (t':=s.toks) λb o e=>z b o (Me$ LW e) e;exact h p _ f H x _ Q A (by simpa using R) d
def CF(T b:TE)(t:Cc):TG:=λv a H Q=>T a H λo h=>b a h λi c=>t o i v c λd=>Q a d
theorem JB{o i:Expr}{T c:TE}{t:Cc}(d:PE X o T)(e:PE X i c)(f:Fb X t)
  (g:∀v,assign (.Subscript o i pos) X.env v=(do
   let O <- holding [v] (eval o X.env)
   let a <- holding [v,O] (eval i X.env)
   standAt pos
   holding [v,O,a] (setItem O a v)
   release [v,O,a] []):=by intro _;rfl):PG X (.Subscript o i pos) (CF T c t):=by
 intro p s b H v u Q I r h;rw[g];refine LO$ Ms$ aV (d p s b H _ I h) λO S z=>?_;obtain⟨x,j,k,R,q⟩:=z;refine LO$ Ms$ aV (e p S b j _ k q) λa l z=>?_;obtain⟨y,m,n,w,A⟩:=z;refine LO$ Oq$ LO$ Ms$ aV (f p l b m x y v O a u _ n R w r A) λ_ E z=>?_;obtain⟨B,C,D⟩:=z;exact wpAny_release #[b,B,C,D]
def dP(t:TE)(g:TG):TS:=λD a H=>t a H λx h=>g x a h D.nx
theorem qD{t e:Expr}{T:TE}{g:TG}(b:PE X e T)(c:PG X t g)(d:swapsWithSole [t] e pos.line X.env=pure false:=by rfl)(f:swappedStores [t] e X.env=pure none:=by rfl)
  (i:(assignEach [t] X.env).map (·.2)=[assign t X.env]:=by rfl):PS X (.Assign [t] e pos) (dP T g):=by
 intro p s a H D I h;refine wpAny_Assign_stores (aV (b p s a H _ I h) λv S z=>?_) d f;obtain⟨x,j,k,r,Q⟩:=z;rw[i];exact aV (c p S a j x v _ k r Q) λ_ l q=>q
theorem ze{i:Nat}{x:Str}{e:Expr}{t:TE}{p:Pos}(a:X.N.Nodup)(b:X.N[i]?=some x)(c:sN X.env.scope x)(d:PE X e t)(f:swapsWith e (some$ .Name x p) pos.line X.env=pure false:=by rfl)(g:X.fn x=true∨X.env.scope.names.lookup x=some .local:=by first |exact .inl Z |exact .inr Z |assumption):
  PS X (.Assign [.Name x p] e pos) (dP t$ aU i):=by
 intro P s j H D I h;refine TR (aV (d P s j H _ I h) λv S z=>?_) f;obtain⟨y,k,l,r,q⟩:=z;exact zI l a b c r (λn m=>#[_,k,m,q]) g
inductive Hf(i:Nat)(a:TE)(b:Ic)(D:a7)(c:St)(H:Hp):Prop
 |mk(x:_)(_:c[i]?=some (some x))(_:a c H λy H1=>b x y H1 λz H2=>D.nx (c.set i (some z)) H2)
theorem DX{i:Nat}(q:X.N.Nodup)(g:X.N[i]?=some x)(f:sN X.env.scope x)(t:PE X e T)(B:Lc X o C)(E:X.fn x=true∨X.env.scope.names.lookup x=some .local:=by first |exact .inl Z |exact .inr Z |assumption):
  PS X (.AugAssign (.Name x j) o e pos) (Hf i T C):=by
 intro p s n H D I h;obtain⟨v,F,h⟩:=h;obtain⟨m,J,K⟩:=I.loc;have V:HJ X.env.scope x:=by rcases f with k |k;exact .inl k;exact .inr$ .inl k
 obtain⟨u,r,l⟩:=K i x v g F V;refine wpAny_AugAssign_Name ?_;have G:wpAny (model X.prog X.w) X.A (eval e X.env) (λw S=>wpAny (model X.prog X.w) X.A (inplaceOp o u w) (λr d=>wpAny (model X.prog X.w) X.A (storeName X.env x r) (λ_=>SP X p D .next) X.xe d) X.xe S) X.xe s:=by refine aV (t p s n H _ I h) λw L a=>?_;obtain⟨y,M,O,R,Q⟩:=a;refine aV (B p L n M v y u w _ O r R Q) λz s2 a=>?_;obtain⟨zv,P,U,W,Y⟩:=a;exact zI U q g f W (λs3 I3=>#[_,P,I3,Y]) E
 rcases l with ⟨hk,hm⟩ | ⟨hk,c,hc,b⟩
 ·exact Te I.ok.kind hk J hm G
 ·rcases hk with hk |hk
  ·exact Tp I.ok.kind hk hc b G
  ·rcases f with k |k
   ·have:X.env.scope.names.lookup x=some .free:=hk;rw[k]at this;cases this
   ·have:X.env.scope.names.lookup x=some .free:=hk;rw[k]at this;cases this
inductive Lj(f:Int->Int->Int)(x y:V)(H:Hp)(Q:VK):Prop
 |mk(i j:_)(_:x= .int i)(_:y= .int j)(_:Q (.int (f i j)) H)
theorem CN:Lc X .Add (Lj λi j=>i+j):=by intro p s a H x y v u Q I r R h;obtain⟨i,j,e,E,q⟩:=h;subst e;subst E;obtain⟨t,rfl⟩:=r;obtain⟨T,rfl⟩:=R;exact iadd_int #[.int _,H,I.tok _,#[_,Z],q]
end
section
variable {X:Cx}{pos:Pos}
def xu(c:TT)(t:TS):TS:=λD a H=>∃W:Nat->St->Hp->Prop,(∃m,W m a H)/\∀m a H,W m a H->
 c a H λb h=>if b=true then ∃N:St->Hp->Prop,(∀d e,N d e->∃M,M < m/\W M d e)/\t { D with nx:=N,ct:=N,bk:=D.nx } a h else D.nx a h
theorem XD(o:PassesOwn (model X.prog X.w) X.A X.env X.xe)(E:PT X c T)(F:mP X B G):PS X (.While c B [] pos) (xu T G):=by
 intro p s J H D I h;obtain⟨W,⟨M,K⟩,t⟩:=h;refine wpAny_While$ codeAny_whileLoop (λn S=>∃e r,ax X p e r S/\W n e r) ?_ M #[J,H,I,K];rintro n L ⟨d,u,O,P⟩;refine N7 o$ aV (E p L d u _ O$ t n d u P) λb R z=>?_;obtain⟨x,y,q⟩:=z;cases b with
 |true=>
  obtain⟨N,C,q⟩:=q;rw[Mb Z];refine N7 o$ aV (F p R d x _ y q) λf U Q=>?_;cases f with
  |next=>obtain⟨a,g,i,j⟩:=Q;obtain⟨m,k,l⟩:=C a g j;exact#[m,k,a,g,i,l]
  |cont=>obtain⟨a,g,i,j⟩:=Q;obtain⟨m,k,l⟩:=C a g j;exact#[m,k,a,g,i,l]
  |brk=>exact Q
  |ret v=>exact Q
 |false=>rw[Mf Md];exact Ov #[d,x,y,q]
end
structure It where
 go:Nat->Hp->Prop
 yld:Nat->Hp->V->Hp->Prop
 stop:Nat->Hp->Prop
def gw(X:Cx)(P:List (Addr×Obj))(H:Hp)(b:Addr):Prop:=
 H b=none/\b≠X.env.locals/\b∉X.fs/\(b∈X.ex∨X.s₀.heap.objs.size<=b)/\(∀x c,X.env.cells.lookup x=some c->c≠b)/\∀p∈X.pn++P,p.1≠b
theorem ax.fpOk{X:Cx}{d:Hp}(I:ax X a i H s)(h:s.heap.objs.size<=b)(f:d b=none):gw X a d b:=by
 refine#[f,MV$ Mi I.lt h,I.nofs h,.inr$ Mg I.sz h,λx c e z=>?_,λp g z=>?_]
 ·obtain⟨v,q⟩:=I.cell x c e;exact absurd (Mi q.lt (by rw[z];exact h))$ MX _
 ·exact absurd (Mi (LW (I.pin p g).1) (by rw[z];exact h))$ MX _
structure nZ(P:Program)(w:World)(K:Frag)(tg:Expr)(J:It)(fp:List Addr)(it:Addr)(tn:Nat->Heap->Prop):Prop where
 mem:it∈fp
 obj:∀i h,tn i h->∀b∈fp,∃o,h.get? b=some o/\∀v,o.data≠ .cell v
 keep:∀i h h',tn i h->(∀b∈fp,∀o,h.get? b=some o->h'.get? b=some o)->tn i h'
 item:∀(X:Cx),X.prog=P->X.w=w->X.K=K->X.calm=true->∀(i:Nat) (pins:List (Addr×Obj)) (s:Shared) (σ:St) (H:Hp) (E:Value->Shared->Prop),ax X pins σ H s->(∀b∈fp,gw X pins H b)->tn i s.heap->J.go i H->
  wpAny (model P w) X.A (pyNext$ .ref it) (λr s1=>∃u,r=some u/\
   wpAny (model P w) X.A (letOwnedTupleGo tg (.ref it) u) (λ_ s2=>∃x H',ax X pins σ H' s2/\aF x u/\J.yld i H x H'/\tn (i+1) s2.heap/\∀b∈fp,H' b=none) E s1) E s
 done:∀(X:Cx),X.prog=P->X.w=w->X.K=K->X.calm=true->∀(i:Nat) (pins:List (Addr×Obj)) (s:Shared) (σ:St) (H:Hp) (E:Value->Shared->Prop),ax X pins σ H s->(∀b∈fp,gw X pins H b)->tn i s.heap->J.stop i H->
  wpAny (model P w) X.A (pyNext$ .ref it) (λr s1=>r=none/\ax X pins σ H s1) E s
 self:∀(A:Around) (i:Nat) (s:Shared) (Q:Value->Shared->Prop) (E:Value->Shared->Prop),tn i s.heap->Q (.ref it) s->wpAny (model P w) A (pyIter$ .ref it) Q E s
abbrev TI:=St->Hp->(It->Hp->Prop)->Prop
def Lb(X:Cx)(p:List (Addr×Obj))(a:St)(T:Expr)(R:It->Hp->Prop)(i:Value)(s:Shared):Prop:=
 ∃(I:Addr) (f:List Addr) (t:Nat->Heap->Prop) (J:It) (H:Hp),i= .ref I/\ax X p a H s/\nZ X.prog X.w X.K T J f I t/\t 0 s.heap/\(∀b∈f,gw X p H b)/\R J H
def PI(X:Cx)(t iter:Expr)(W:TI):Prop:=
 ∀(p:List (Addr×Obj)) (s:Shared) (a:St) (H:Hp) (R:It->Hp->Prop),ax X p a H s->W a H R->
  wpAny (model X.prog X.w) X.A (eval iter X.env) (λv S=>wpAny (model X.prog X.w) X.A (pyIter v) (Lb X p a t R) X.xe S) X.xe s
theorem Zn{s : Shared}{n : String}{Q : Unit -> Shared -> Prop}(a : s.heap.get? i = some o)(b : o.cls = .type n)(c : o.data = .fields v)
    (d : ["enumerate", "zip", "dict_itemiterator", "dict_reverseitemiterator", "odict_iterator", "itertools.zip_longest", "itertools.pairwise"].contains n = false) (H : Q () s) : wpAny M A (letOwnedTupleGo t (.ref i) u) Q E s := by
  unfold letOwnedTupleGo;cases t <;> first
    | exact LR H
    | (cases u <;> first
        | exact LR H
        | (refine LO (TF a ?_)
           rw [b, c];show wpAny M A (if (["enumerate", "zip", "dict_itemiterator", "dict_reverseitemiterator", "odict_iterator", "itertools.zip_longest", "itertools.pairwise"].contains n && v[0]? == some (rawInt _)) = true then _ else _) Q E s;rw [Mf (by intro h; rw [d, TC] at h; cases h)];exact LR H))
noncomputable def xQ(K:Frag)(a:Addr):It:=
 #[λi H=>∃X x,aI K H a X/\X[i]?=some x,λi H x h=>h=H/\∀X,aI K H a X->X[i]?=some x,λi H=>∃X,aI K H a X/\X.length<=i]
noncomputable def Be(K:Frag)(a:Addr):It:=
 #[λi H=>∃X x,aB K H a X/\X[i]?=some x,λi H x h=>h=H/\∀X,aB K H a X->X[i]?=some x,λi H=>∃X,aB K H a X/\X.length<=i]
noncomputable def sM(lo:Int)(n:Nat):It:=#[λi _=>i < n,λi H x h=>h=H/\x= .int (lo+i),λi _=>n<=i]
theorem Z5{P:Program}{K:Frag}(a g:Addr):nZ P w K tg (xQ K a) [g] g (λi h=>h.IsListIter g a i) where
 mem:=by simp
 obj:=λi h st b j=>by
  have e:b=g:=by simpa using j
  subst e;obtain⟨o,e,c,d⟩:=st;exact#[o,e,λv z=>by rw[d]at z;cases z]
 keep:=λi h l st k=>st.at λo e=>k g UP o e
 item:=by intro X q r t L i f s M H E I m st y;subst q r t;obtain⟨N,x,n,A⟩:=y;obtain⟨B,R,p,O⟩:=I.list n;obtain⟨u,Q,T⟩:=R.get A;obtain⟨F,C,U,D,G,J⟩:=m g UP;refine SA st p.isList (x:=u) (by simpa using Q) λl S V=>?_;have W:ax X f M H { s with heap:=l }:=I.turned (t':=s.toks) (λb o j e=>(V.2 b j).trans e) F C D G J;obtain⟨o,e,c,d⟩:=id S;exact#[u,Z,Zn (s:={ s with heap:=l }) e c d UN #[x,H,W,T,#[Z,λys Y=>by rw[I.list_inj Y n];exact A],S,λb j=>(m b j).1]]
 done:=by intro X q r t L i f s M H E I m st y;subst q r t;obtain⟨N,n,A⟩:=y;obtain⟨B,R,p,O⟩:=I.list n;obtain⟨F,C,U,D,G,J⟩:=m g UP;have hl:=R.length;exact SV (I.ok.hd L) st p.isList (by simp;omega) λl eb=>#[Z,I.turned (t':=s.toks) (λb o j e=>eb b o j e) F C D G J]
 self:=λ_ _ _ _ _ st h=>wpAny_pyIter_listiter st h
theorem YJ{P:Program}{K:Frag}(a g:Addr):nZ P w K tg (Be K a) [g] g (λi h=>h.IsTupleIter g a i) where
 mem:=by simp
 obj:=λi h st b j=>by
  have e:b=g:=by simpa using j
  subst e;obtain⟨o,e,c,d⟩:=st;exact#[o,e,λv z=>by rw[d]at z;cases z]
 keep:=λi h m st k=>st.at λo e=>k g UP o e
 item:=by intro X r t y L i f s M H E I n st A;subst r t y;obtain⟨N,x,q,B⟩:=A;obtain⟨l,R,p,O⟩:=I.tuple q;obtain⟨u,Q,T⟩:=R.get B;obtain⟨F,C,U,D,G,J⟩:=n g UP;refine wpAny_pyNext_tuple_item st (show s.heap.IsTuple a l.toArray from p) (x:=u) (by simpa using Q) λm S V=>?_;have W:ax X f M H { s with heap:=m }:=I.turned (t':=s.toks) (λb o j e=>(V.2 b j).trans e) F C D G J;obtain⟨o,e,c,d⟩:=id S;exact#[u,Z,Zn (s:={ s with heap:=m }) e c d UN #[x,H,W,T,#[Z,λys Y=>by rw[I.tuple_inj Y q];exact B],S,λb j=>(n b j).1]]
 done:=by intro X r t y L i f s M H E I n st A;subst r t y;obtain⟨N,q,B⟩:=A;obtain⟨l,R,p,O⟩:=I.tuple q;obtain⟨F,C,U,D,G,J⟩:=n g UP;have hl:=R.length;exact wpAny_pyNext_tuple_end (I.ok.hd L) st (show s.heap.IsTuple a l.toArray from p) (by simp;omega) λm eb=>#[Z,I.turned (t':=s.toks) (λb o j e=>eb b o j e) F C D G J]
 self:=λ_ _ _ _ _ st h=>wpAny_pyIter_tupleiter st h
theorem YK{P:Program}{K:Frag}(a:Addr)(lo:Int)(n:Nat):nZ P w K M (sM lo n) [a] a (λi h=>IsRangeIter h a (lo+(i:Nat)*1) ((n:Int) - (i:Nat)) 1) where
 mem:=by simp
 obj:=λi h st b c=>by
  have e:b=a:=by simpa using c
  subst e;exact#[_,st,λv z=>by
   have B:Data.fields _=Data.cell v:=z;cases B]
 keep:=λi h d st k=>k a UP _ st
 item:=by intro X g j l m i p s A H E I f st q;subst g j l;obtain⟨F,r,C,u,x,y⟩:=f a UP;have W:=Walks.range (prog:=X.prog) (w:=X.w) (I.ok.hd m) a lo 1 n;refine W.item i s _ _ q st λv d T D S G=>?_;obtain⟨t,rfl⟩:=D;have J:ax X p A H { s with heap:=d,toks:=T }:=I.turned (λb o c e=>G b o (by simpa using c) e) F r u x y;refine#[_,Z,Zn (s:={ s with heap:=d,toks:=T }) (n:="range_iterator") S Z Z UN #[.int$ lo+i,H,J,#[t,?_],#[Z,Z],S,λb c=>(f b c).1]];rw[Int.mul_one]
 done:=by intro X g j l m i p s A H E I f st q;subst g j l;obtain⟨F,r,C,u,x,y⟩:=f a UP;exact wpAny_pyNext_range_end (I.ok.hd m) st (by have:n<=i:=q;omega) λd L=>#[Z,I.turned (t':=s.toks) (λb o c e=>L b o c e) F r u x y]
 self:=λ_ _ _ _ _ st h=>wpAny_pyIter_rangeiter st h
section
variable {X:Cx}{tg:Expr}
inductive uk(K:Frag)(R:It->Hp->Prop)(x:V)(b:Hp):Prop
 |mk(a:_)(_:x= .ref a)(_:∃xs,aI K b a xs)(_:R (xQ K a) b)
def uj(K:Frag)(t:TE):TI:=λa H R=>t a H (uk K R)
inductive Bw(K:Frag)(R:It->Hp->Prop)(x:V)(b:Hp):Prop
 |mk(a:_)(_:x= .ref a)(_:∃xs,aB K b a xs)(_:R (Be K a) b)
def Iw(K:Frag)(t:TE):TI:=λa H R=>t a H (Bw K R)
theorem zr(c:PE X l t):PI X tg l (uj X.K t):=by
 intro P s d H R I h;refine aV (c P s d H _ I h) λv S z=>?_;obtain⟨x,f,i,r,Q⟩:=z;obtain⟨a,e,⟨m,g⟩,q⟩:=Q;subst e;cases r;obtain⟨j,n,p,u⟩:=i.list g;refine Pk p.isList ?_;refine#[S.heap.objs.size,[S.heap.objs.size],_,_,f,Z,i.kept (t':=S.toks) λb o e=>LQ _ e,Z5 a _,#[_,LX _ Z,Z,Z],λb k=>?_,q];have e:b=S.heap.objs.size:=by simpa using k
 subst e;exact i.fpOk (LV _)$ i.hok.fresh$ LV _
theorem JC(d:PE X l t):PI X tg l (Iw X.K t):=by
 intro P s f H R I h;refine aV (d P s f H _ I h) λv S z=>?_;obtain⟨x,g,i,r,Q⟩:=z;obtain⟨a,e,⟨m,j⟩,q⟩:=Q;subst e;cases r;obtain⟨c,n,p,u⟩:=i.tuple j;refine Oy (show S.heap.IsTuple a c.toArray from p) ?_;refine#[S.heap.objs.size,[S.heap.objs.size],_,_,g,Z,i.kept (t':=S.toks) λb o e=>LQ _ e,YJ a _,#[_,LX _ Z,Z,Z],λb k=>?_,q];have e:b=S.heap.objs.size:=by simpa using k
 subst e;exact i.fpOk (LV _)$ i.hok.fresh$ LV _
theorem XE{R:It->Hp->Prop}{lo:Int}(I:ax X p a H s)(c: -(2 ^ 62)<=lo)(d:lo < 2 ^ 62)(f: -(2 ^ 62)<=h)(g:h < 2 ^ 62)
  (q:R (sM lo (h - lo).toNat) H):wpAny (model X.prog X.w) X.A (pyIter$ .ref s.heap.objs.size) (Lb X p a tg R) E { s with heap:=s.heap.push { cls:=.type "range",data:=.fields (List.toArray [.int lo t,.int h u,.int 1 v]) },toks:=T }:=by
 refine wpAny_pyIter_range (IsRange.new ..) (small_one c d f g) ?_;have i:ax X p a H { s with heap:=s.heap.push { cls:=.type "range",data:=.fields (List.toArray [.int lo t,.int h u,.int 1 v]) },toks:=T }:=I.kept λb o e=>LQ _ e;refine#[(s.heap.push { cls:=.type "range",data:=.fields (List.toArray [.int lo t,.int h u,.int 1 v]) }).objs.size,[(s.heap.push { cls:=.type "range",data:=.fields (List.toArray [.int lo t,.int h u,.int 1 v]) }).objs.size],_,_,H,Z,
  i.kept (t':=T) λb o e=>LQ _ e,YK _ lo (h - lo).toNat,?_,λb j=>?_,q]
 ·have k:lo+((0:Nat):Int)*1=lo:=by simp
  have l:(((h - lo).toNat:Nat):Int) - ((0:Nat):Int)=Builtin.Range.rangeSize lo h 1:=by rw[rangeSize_one];split<;>omega
  show IsRangeIter _ _ (lo+((0:Nat):Int)*1) ((((h - lo).toNat:Nat):Int) - ((0:Nat):Int)) 1;rw[k,l];exact LX _ Z
 ·have e:b=(s.heap.push { cls:=.type "range",data:=.fields (List.toArray [.int lo t,.int h u,.int 1 v]) }).objs.size:=by simpa using j
  subst e;exact i.fpOk (LV _)$ i.hok.fresh$ LV _
inductive um(R:It->Hp->Prop)(b:List V)(a:Hp):Prop
 |mk(j:Int)(_:b=[.int j])(_:-(2 ^ 62)<=j)(_:j < 2 ^ 62)(_:R (sM 0 j.toNat) a)
def FM(t:TA):TI:=λa H R=>t a H (um R)
inductive uo(R:It->Hp->Prop)(b:List V)(a:Hp):Prop
 |mk(i j:Int)(_:b=[.int i,.int j])(_:-(2 ^ 62)<=i/\i < 2 ^ 62/\ -(2 ^ 62)<=j/\j < 2 ^ 62)(_:R (sM i (j - i).toNat) a)
def FN(t:TA):TI:=λa H R=>t a H (uo R)
theorem zA{a:Expr}{T:TA}{p P:Pos}(c:Gl X "range")(d:X.mg "range"=none)(f:PA X [a] T)(g:starEach [a] X.env=[(false,eval a X.env)]:=by rfl):PI X tg (.Call (.Name "range" p) [a] [] P) (FM T):=by
 intro b s i H R I h;refine Call_$ zE I c d boot_range$ MK (aV (f P b s i H _ I h) λu S z=>?_) g Z;obtain⟨v,o,k,l,Q⟩:=z;obtain⟨j,e,Q,m,q⟩:=Q;subst e;cases l with
 |cons r n=>cases n;obtain⟨t,rfl⟩:=r;exact call_range_1$ XE k UO UO Q m (by simpa using q)
theorem qg(g:Gl X "range")(k:X.mg "range"=none)(l:PA X [a,b] T)(m:starEach [a,b] X.env=[(false,eval a X.env),(false,eval b X.env)]:=by rfl)(c:starEach [b] X.env=[(false,eval b X.env)]:=by rfl):
  PI X tg (.Call (.Name "range" p) [a,b] [] d) (FN T):=by
 intro P s n H R I h;refine Call_$ zE I g k boot_range$ MK (aV (l d P s n H _ I h) λU S #[V,z,o,u,Q]=>?_) (by rw[m,c]) (by rw[c];rfl);obtain⟨i,j,e,⟨Q,v,w,x⟩,q⟩:=Q;subst e;cases u with
 |cons r f=>
  cases f with
  |cons y f=>cases f;obtain⟨t,rfl⟩:=r;obtain⟨A,rfl⟩:=y;exact call_range_2$ XE o Q v w x q
def Hi(w:TI)(g:TG)(t:TS):TS:=λD a H=>w a H λJ d=>∃W:Nat->Nat->St->Hp->Prop,(∃m,W 0 m a d)/\∀i m a H,W i m a H->
 (J.stop i H/\D.nx a H)∨(J.go i H/\∃N:St->Hp->Prop,(∀b h,N b h->∃M,M < m/\W (i+1) M b h)/\∀x h,J.yld i H x h->g x a h λc e=>t { D with nx:=N,ct:=N,bk:=D.nx } c e)
noncomputable def lS(f:List Addr)(h:Heap):List (Addr×Obj):=f.filterMap λb=>(h.get? b).map λo=>(b,o)
theorem zn{h:Heap}(H:b∈f)(e:h.get? b=some o):(b,o)∈lS f h:=List.mem_filterMap.mpr #[b,H,by rw[e];rfl]
theorem Z6(H:p∈lS f h):p.1∈f/\h.get? p.1=some p.2:=by
 obtain⟨b,a,e⟩:=List.mem_filterMap.mp H;cases q:h.get? b with
 |none=>rw[q]at e;cases e
 |some o=>rw[q]at e;have E:(b,o)=p:=MM e;subst E;exact#[a,q]
theorem ax.pinned(I:ax X a c H s)(g:∀b∈f,gw X a H b)(i:∀b∈f,∃o,s.heap.get? b=some o/\∀v,o.data≠ .cell v):ax X (a++lS f s.heap) c H s:=
 I.pins_of λp j=>(List.mem_append.mp j).elim (λz=>I.pin p (Mo _ z)) λz=>by obtain⟨h,e⟩:=Z6 z;obtain⟨F,k,l,_⟩:=g p.1 h;obtain⟨o,E,d⟩:=i p.1 h;rw[e]at E;cases E;exact#[e,F,k,l,d]
theorem ax.unpinned(I:ax X (a++c) b H s):ax X a b H s:=I.pins_of λp h=>I.pin p (Mo _$ Nk _ h)
theorem kH{iter:Expr}{B:List Stmt}{wi:TI}{g:TG}{tb:TS}{P:Pos}(C:PassesOwn (model X.prog X.w) X.A X.env X.xe)(hc:X.calm=true)(hi:PI X tg iter wi)(hg:PG X tg g)(c:mP X B tb)
  (hs:∀x,foldedSetIterable iter X.env x=pure x:=by intro _;rfl):PS X (.For tg iter B [] P) (Hi wi g tb):=by
 intro p s σ H D I h;refine wpAny_For (aV (hi p s σ H _ I h) λv s1 h1=>aV h1 λi0 s2 h2=>?_) hs;obtain⟨it,F,tn,J,H2,e,I2,T,O,f2,W,⟨m0,w0⟩,E⟩:=h2;subst e;have S:∀{t:Hp},(∀b∈F,t b=none)->∀b∈F,gw X p t b:=λhn b c=>#[hn b c,(f2 b c).2];refine codeAny_forLoop_any (λn s'=>∃i j t,ax X p j t s'/\tn i s'.heap/\(∀b∈F,t b=none)/\W i n j t) ?_ m0 #[0,σ,H2,I2,O,λb c=>(f2 b c).1,w0];rintro n s3 ⟨i,k,M,I3,G,K,w3⟩;rcases E i n k M w3 with ⟨stop,qn⟩ | ⟨go,N,hN,step⟩
 ·refine N7 C$ aV (T.done X Z Z Z hc i p s3 k M X.xe I3 (S K) G stop) λr s4 z=>?_;obtain⟨R,I4⟩:=z;subst R;exact Ov #[k,M,I4,qn]
 ·refine N7 C$ aV (T.item X Z Z Z hc i p s3 k M X.xe I3 (S K) G go) λr s4 z=>?_;obtain⟨u,R,h4⟩:=z;subst R;refine N7 C$ aV h4 λ_ s5 z=>?_;obtain⟨x,H5,I5,r5,y5,y,U⟩:=z;have V:=I5.pinned (S U) (T.obj _ _ y);refine N7 C$ aV (hg _ s5 k H5 x u _ V r5$ step x H5 y5) λ_ s6 z=>?_;obtain⟨Y,H6,I6,q6⟩:=z;refine N7 C$ aV (c _ s6 Y H6 _ I6 q6) λf s7 Q=>?_;have again:∀{a:St} {l:Hp},ax X (p++lS F s5.heap) a l s7->N a l->∃m,m < n/\∃i j t,ax X p j t s7/\tn i s7.heap/\(∀b∈F,t b=none)/\W i m j t:=λ{a l} q L=>by obtain⟨m',hm,w7⟩:=hN a l L;refine#[m',hm,i+1,a,l,q.unpinned,T.keep _ _ _ y λb c o e=>(q.pin (b,o)$ Mo _$ Mo _$ zn c e).1,λb c=>?_,w7];obtain⟨o,e,d⟩:=T.obj _ _ y b c;exact(q.pin (b,o)$ Mo _$ Mo _$ zn c e).2.1
  cases f with
  |next=>obtain⟨a,l,q,L⟩:=Q;exact again q L
  |cont=>obtain⟨a,l,q,L⟩:=Q;exact again q L
  |brk=>obtain⟨a,l,q,Q⟩:=Q;exact#[a,l,q.unpinned,Q]
  |ret v=>obtain⟨x7,a,l,q,r7,Q⟩:=Q;exact#[x7,a,l,q.unpinned,r7,Q]
end
theorem ua{K:Frag}{a:Addr}{X:List V}{g:TG}{t:TS}{D:a7}{b:St}{H:Hp}(Pv:Nat->St->Hp->Prop)(k:Pv 0 b H)(l:∀i b H,i<=X.length->Pv i b H->aI K H a X)
  (n:∀i x b H,X[i]?=some x->Pv i b H->g x b H λc j=>t { D with nx:=Pv (i+1),ct:=Pv (i+1),bk:=D.nx } c j) (o:∀b H,Pv X.length b H->D.nx b H):
  ∃W:Nat->Nat->St->Hp->Prop,(∃m,W 0 m b H)/\∀i m b H,W i m b H->
   ((xQ K a).stop i H/\D.nx b H)∨((xQ K a).go i H/\∃N:St->Hp->Prop,(∀d h,N d h->∃M,M < m/\W (i+1) M d h)/\∀x h,(xQ K a).yld i H x h->g x b h λc j=>t { D with nx:=N,ct:=N,bk:=D.nx } c j):=by
 refine#[λi m b H=>m=X.length - i/\i<=X.length/\Pv i b H,#[X.length,UP,Ma _,k],?_];rintro i m b H ⟨rfl,r,p⟩;have q:=l i b H r p;by_cases f:i < X.length
 ·refine .inr #[#[X,X[i],q,by simp [f]],Pv$ i+1,λd h P=>#[X.length - (i+1),UO,Z,f,P],λx h y=>?_];obtain⟨e,y⟩:=y;subst e;exact n i x b _ (y X q) p
 ·have e:i=X.length:=by omega
  subst e;exact .inl #[#[X,q,LV _],o b H p]
theorem yt{K:Frag}{a:Addr}{X:List V}{g:TG}{t:TS}{D:a7}{b:St}{H:Hp}(Pv:Nat->St->Hp->Prop)(k:Pv 0 b H)(l:∀i b H,i<=X.length->Pv i b H->aB K H a X)
  (n:∀i x b H,X[i]?=some x->Pv i b H->g x b H λc j=>t { D with nx:=Pv (i+1),ct:=Pv (i+1),bk:=D.nx } c j) (o:∀b H,Pv X.length b H->D.nx b H):
  ∃W:Nat->Nat->St->Hp->Prop,(∃m,W 0 m b H)/\∀i m b H,W i m b H->
   ((Be K a).stop i H/\D.nx b H)∨((Be K a).go i H/\∃N:St->Hp->Prop,(∀d h,N d h->∃M,M < m/\W (i+1) M d h)/\∀x h,(Be K a).yld i H x h->g x b h λc j=>t { D with nx:=N,ct:=N,bk:=D.nx } c j):=by
 refine#[λi m b H=>m=X.length - i/\i<=X.length/\Pv i b H,#[X.length,UP,Ma _,k],?_];rintro i m b H ⟨rfl,r,p⟩;have q:=l i b H r p;by_cases f:i < X.length
 ·refine .inr #[#[X,X[i],q,by simp [f]],Pv$ i+1,λd h P=>#[X.length - (i+1),UO,Z,f,P],λx h y=>?_];obtain⟨e,y⟩:=y;subst e;exact n i x b _ (y X q) p
 ·have e:i=X.length:=by omega
  subst e;exact .inl #[#[X,q,LV _],o b H p]
theorem Z7{lo:Int}{n:Nat}{g:TG}{t:TS}{D:a7}{a:St}{H:Hp}(Pv:Nat->St->Hp->Prop)(j:Pv 0 a H)
  (k:∀i a H,i < n->Pv i a H->g (.int$ lo+i) a H λb f=>t { D with nx:=Pv (i+1),ct:=Pv (i+1),bk:=D.nx } b f) (l:∀a H,Pv n a H->D.nx a H):
  ∃W:Nat->Nat->St->Hp->Prop,(∃m,W 0 m a H)/\∀i m a H,W i m a H->
   ((sM lo n).stop i H/\D.nx a H)∨((sM lo n).go i H/\∃N:St->Hp->Prop,(∀c h,N c h->∃M,M < m/\W (i+1) M c h)/\∀x h,(sM lo n).yld i H x h->g x a h λb f=>t { D with nx:=N,ct:=N,bk:=D.nx } b f):=by
 refine#[λi m a H=>m=n - i/\i<=n/\Pv i a H,#[n,UP,Ma _,j],?_];rintro i m a H ⟨rfl,o,p⟩;by_cases d:i < n
 ·refine .inr #[d,Pv$ i+1,λc h P=>#[n - (i+1),UO,Z,d,P],λx h y=>?_];obtain⟨e,y⟩:=y;subst e y;exact k i a _ d p
 ·have e:i=n:=by omega
  subst e;exact .inl #[LV _,l a H p]
abbrev R2:=V->V->Hp->VK->Prop
def fb(X:Cx)(f:Value->Value->Sem Value)(r:R2):Prop:=
 ∀(p:List (Addr×Obj)) (s:Shared) (a:St) (H:Hp) (x y:V) (v u:Value) (Q:VK),ax X p a H s->aF x v->aF y u->r x y H Q->
  wpAny (model X.prog X.w) X.A (f v u) (EP X p a Q) X.xe s
def Ih(X:Cx)(f:Value->Sem Value)(r:V->Hp->VK->Prop):Prop:=
 ∀(p:List (Addr×Obj)) (s:Shared) (a:St) (H:Hp) (x:V) (v:Value) (Q:VK),ax X p a H s->aF x v->r x H Q->
  wpAny (model X.prog X.w) X.A (f v) (EP X p a Q) X.xe s
def er(X:Cx)(f:Value)(r:List V->Hp->VK->Prop):Prop:=
 ∀(p:List (Addr×Obj)) (s:Shared) (a:St) (H:Hp) (x:List V) (u:List Value) (Q:VK),ax X p a H s->aC x u->r x H Q->
  wpAny (model X.prog X.w) X.A (call f u) (EP X p a Q) X.xe s
def Ig(X:Cx)(r:V->Hp->(Bool->Hp->Prop)->Prop):Prop:=
 ∀(p:List (Addr×Obj)) (s:Shared) (a:St) (H:Hp) (x:V) (v:Value) (Q:Bool->Hp->Prop),ax X p a H s->aF x v->r x H Q->
  wpAny (model X.prog X.w) X.A (truthy v) (TP X p a Q) X.xe s
def dQ(r:R2)(t T:TE):TE:=λa H Q=>t a H λx h=>T a h λy b=>r x y b Q
def LC(r:V->Hp->VK->Prop)(t:TE):TE:=λa H Q=>t a H λx h=>r x h Q
inductive rI(C:Int->Int->Prop)(g:Int->Int->V)(x y:V)(H:Hp)(Q:VK):Prop
 |mk(i j:_)(_:x= .int i)(_:y= .int j)(_:C i j)(_:Q (g i j) H)
inductive xV(g:Int->Int->V)(x y:V)(H:Hp)(Q:VK):Prop
 |mk(i j:_)(_:x= .int i)(_:y= .int j)(_:Q (g i j) H)
inductive rU(g:Int->V)(x:V)(H:Hp)(Q:VK):Prop
 |mk(i:_)(_:x= .int i)(_:Q (g i) H)
section
variable {X:Cx}{a b c:Expr}{ta tb tc:TE}{pos:Pos}
theorem Cm(k:PE X a ta)(l:PE X b tb){R:V->V->Hp->Prop}(I:ax X p e H s)
  (h:ta e H λx j=>tb e j λy d=>R x y d)  {f:Value->Value->Sem Value}
  (m:∀v u i x y d,ax X p e d i->aF x v->aF y u->R x y d->wpAny (model X.prog X.w) X.A (f v u) Q X.xe i):
  wpAny (model X.prog X.w) X.A (eval a X.env) (λv S=>wpAny (model X.prog X.w) X.A (eval b X.env) (λu g=>wpAny (model X.prog X.w) X.A (f v u) Q X.xe g) X.xe S) X.xe s:=by
 refine aV (k p s e H _ I h) λv n z=>?_;obtain⟨x,j,o,r,q⟩:=z;refine aV (l p n e j _ o q) λu i z=>?_;obtain⟨y,d,t,B,C⟩:=z;exact m v u i x y d t r B C
theorem jw{o:Operator}{r:R2}(d:fb X (binaryOp o) r)(e:PE X a ta)(f:PE X b tb):PE X (.BinOp a o b pos) (dQ r ta tb):=by intro p s g H Q I h;exact wpAny_BinOp$ Cm e f I h λv u S x y i j R k q=>d p S g i x y v u Q j R k q
theorem vv(e:Ih X (unaryOp o) r)(f:PE X a ta):PE X (.UnaryOp o a pos) (LC r ta):=by intro p s d H Q I h;exact UnaryOp_$ aV (f p s d H _ I h) λv S #[x,g,i,R,q]=>e p S d g x v Q i R q
theorem HP{f:Value->Value->Sem Value}{C:Int->Int->Prop}{g:Int->Int->Int}
  (rule:∀(i j:Int) (t u:Tok) (s:Shared) (Q:Value->Shared->Prop) (E:Value->Shared->Prop),C i j->Q (.int (g i j) s.toks) { s with toks:=s.toks+1 }->wpAny (model X.prog X.w) X.A (f (.int i t)$ .int j u) Q E s):
  fb X f (rI C λi j=>.int (g i j)):=by
 intro p s e H x y v u Q I r R h;obtain⟨i,j,rfl,rfl,d,q⟩:=h;obtain⟨t,rfl⟩:=r;obtain⟨T,rfl⟩:=R;exact rule i j t T s _ _ d #[.int$ g i j,H,I.tok _,#[_,Z],q]
theorem Gk{f:Value->Value->Sem Value}{g:Int->Int->Int}
  (rule:∀(i j:Int) (t u:Tok) (s:Shared) (Q:Value->Shared->Prop) (E:Value->Shared->Prop),Q (.int (g i j) s.toks) { s with toks:=s.toks+1 }->wpAny (model X.prog X.w) X.A (f (.int i t)$ .int j u) Q E s):
  fb X f (xV λi j=>.int (g i j)):=by
 intro p s d H x y v u Q I r R h;obtain⟨i,j,rfl,rfl,q⟩:=h;obtain⟨t,rfl⟩:=r;obtain⟨T,rfl⟩:=R;exact rule i j t T s _ _ #[.int$ g i j,H,I.tok _,#[_,Z],q]
theorem DI{f:Value->Value->Sem Value}{g:Int->Int->Bool}
  (rule:∀(i j:Int) (t u:Tok) (s:Shared) (Q:Value->Shared->Prop) (E:Value->Shared->Prop),Q (.bool$ g i j) s->wpAny (model X.prog X.w) X.A (f (.int i t)$ .int j u) Q E s):
  fb X f (xV λi j=>.bl (g i j)):=by
 intro p s d H x y v u Q I r R h;obtain⟨i,j,rfl,rfl,q⟩:=h;obtain⟨t,rfl⟩:=r;obtain⟨T,rfl⟩:=R;exact rule i j t T s _ _ #[.bl$ g i j,H,I,Z,q]
def HU(i j:Int):Prop:=0<=j/\j<=1000000/\i.natAbs < 2 ^ 64
def xX(i j:Int):Prop:=(-(2 ^ 64) < i/\i < 2 ^ 64)∨(-(2 ^ 64) < j/\j < 2 ^ 64)
theorem xX.ok(h:xX i j):IntMulOk i j:=by
 rcases h with ⟨H,d⟩ | ⟨H,d⟩
 ·exact .of_left$ intBits_le_64 H d
 ·exact .of_right$ intBits_le_64 H d
theorem ke:fb X (binaryOp .Add) (xV λi j=>.int (i+j)):=Gk λ_ _ _ _ _ _ _ q=>add_int q
theorem qV:fb X (binaryOp .Sub) (xV λi j=>.int (i - j)):=Gk λ_ _ _ _ _ _ _ q=>sub_int q
theorem zF:fb X (binaryOp .Mult) (rI xX λi j=>.int (i*j)):=HP λ_ _ _ _ _ _ _ h q=>mul_int q h.ok
theorem zk:fb X (binaryOp .Mod) (rI (λ_ j=>0 < j) λi j=>.int (i % j)):=HP λi j _ _ _ _ _ h q=>by have H:(0:Int) < j:=h;exact mod_int' UO (by rw[Int.fmod_eq_emod_of_nonneg i UO];exact q)
theorem Kv:fb X (binaryOp .Pow) (rI HU λi j=>.int (i ^ j.toNat)):=HP λ_ _ _ _ _ _ _ h q=>pow_int_small h.1 h.2.1 h.2.2 q
theorem LH{f:Value->Sem Value}{g:Int->Int}
  (rule:∀(i:Int) (t:Tok) (s:Shared) (Q:Value->Shared->Prop) (E:Value->Shared->Prop),Q (.int (g i) s.toks) { s with toks:=s.toks+1 }->wpAny (model X.prog X.w) X.A (f$ .int i t) Q E s):
  Ih X f (rU λi=>.int (g i)):=by
 intro p s d H x v Q I r h;obtain⟨i,rfl,q⟩:=h;obtain⟨t,rfl⟩:=r;exact rule i t s _ _ #[.int$ g i,H,I.tok _,#[_,Z],q]
theorem Yx:Ih X (unaryOp .USub) (rU λi=>.int (-i)):=LH λ_ _ _ _ _ q=>neg_int q
end
noncomputable def GY:V->V->Bool
 | .non,.non=>true | .non,.int _=>true | .int _,.non=>true | .non,.bl _=>true | .bl _,.non=>true | .non,.str _=>true | .str _,.non=>true
 | .int _,.int _=>true | .bl _,.bl _=>true | .str _,.str _=>true | .byt _,.byt _=>true
 | .int _,.str _=>true | .str _,.int _=>true | .bl _,.str _=>true | .str _,.bl _=>true
 |_,_=>false
def Gw:R2:=λx y H Q=>GY x y=true/\Q (.bl$ decide$ x=y) H
def Ll:R2:=λx y H Q=>GY x y=true/\Q (.bl (!decide (x=y))) H
theorem Zs:decide (V.int i=V.int j)=(i==j):=by rw[Pu];simp
theorem tG:decide (V.bl i=V.bl j)=(i==j):=by rw[Pu];simp
theorem Zt:decide (V.str i=V.str j)=(i==j):=by rw[Pu];simp
theorem Zu:decide (V.byt i=V.byt j)=(i.toList==j.toList):=by rw[Pu];cases i;cases j;simp
section
variable {X:Cx}{a b c:Expr}{ta tb tc:TE}{pos:Pos}
theorem jP{Q:VK}(I:ax X p d H s)(q:Q (.bl k) H)(e:k=f):EP X p d Q (.bool f) s:=by subst e;exact#[.bl k,H,I,Z,q]
theorem Ja:fb X (compareOp .Eq) Gw:=by
 intro p s e H x y v u Q I R r h;obtain⟨d,q⟩:=h;cases x with
 |non=>
  cases R;cases y with
  |non=>cases r;exact Ur (jP I q UP)
  |bl j=>cases r;exact Ut (jP I q UP)
  |int j=>obtain⟨T,rfl⟩:=r;exact Us (jP I q UP)
  |str j=>obtain⟨T,rfl⟩:=r;exact Uq (jP I q UP)
  |_=>exact absurd (show false=true from d) Md
 |bl i=>
  cases R;cases y with
  |non=>cases r;exact Uv (jP I q UP)
  |bl j=>cases r;exact eq_bool (jP I q tG)
  |str j=>obtain⟨T,rfl⟩:=r;exact Ud (jP I q UP)
  |_=>exact absurd (show false=true from d) Md
 |int i=>
  obtain⟨t,rfl⟩:=R;cases y with
  |non=>cases r;exact Uu (jP I q UP)
  |int j=>obtain⟨T,rfl⟩:=r;exact eq_int (jP I q Zs)
  |str j=>obtain⟨T,rfl⟩:=r;exact Uc (jP I q UP)
  |_=>exact absurd (show false=true from d) Md
 |str i=>
  obtain⟨t,rfl⟩:=R;cases y with
  |non=>cases r;exact Up (jP I q UP)
  |bl j=>cases r;exact Ub (jP I q UP)
  |int j=>obtain⟨T,rfl⟩:=r;exact Ua (jP I q UP)
  |str j=>obtain⟨T,rfl⟩:=r;exact eq_str (jP I q Zt)
  |_=>exact absurd (show false=true from d) Md
 |byt i=>
  obtain⟨t,rfl⟩:=R;cases y with
  |byt j=>obtain⟨T,rfl⟩:=r;exact PySem.W.eq_bytes (jP I q Zu)
  |_=>exact absurd (show false=true from d) Md
 |_=>cases y<;>exact absurd (show false=true from d) Md
theorem Xx:fb X (compareOp .NotEq) Ll:=by
 intro p s e H x y v u Q I R r h;obtain⟨d,q⟩:=h;cases x with
 |non=>
  cases R;cases y with
  |non=>cases r;exact Uj (jP I q UP)
  |bl j=>cases r;exact Ul (jP I q UP)
  |int j=>obtain⟨T,rfl⟩:=r;exact Uk (jP I q UP)
  |str j=>obtain⟨T,rfl⟩:=r;exact Ui (jP I q UP)
  |_=>exact absurd (show false=true from d) Md
 |bl i=>
  cases R;cases y with
  |non=>cases r;exact Uo (jP I q UP)
  |bl j=>cases r;exact ne_bool (jP I q (Ng not tG))
  |str j=>obtain⟨T,rfl⟩:=r;exact T8 (jP I q UP)
  |_=>exact absurd (show false=true from d) Md
 |int i=>
  obtain⟨t,rfl⟩:=R;cases y with
  |non=>cases r;exact Um (jP I q UP)
  |int j=>obtain⟨T,rfl⟩:=r;exact ne_int (jP I q (Ng not Zs))
  |str j=>obtain⟨T,rfl⟩:=r;exact T7 (jP I q UP)
  |_=>exact absurd (show false=true from d) Md
 |str i=>
  obtain⟨t,rfl⟩:=R;cases y with
  |non=>cases r;exact Uh (jP I q UP)
  |bl j=>cases r;exact T6 (jP I q UP)
  |int j=>obtain⟨T,rfl⟩:=r;exact T5 (jP I q UP)
  |str j=>obtain⟨T,rfl⟩:=r;exact ne_str (jP I q (Ng not Zt))
  |_=>exact absurd (show false=true from d) Md
 |byt i=>
  obtain⟨t,rfl⟩:=R;cases y with
  |byt j=>obtain⟨T,rfl⟩:=r;exact PySem.W.ne_bytes (jP I q (Ng not Zu))
  |_=>exact absurd (show false=true from d) Md
 |_=>cases y<;>exact absurd (show false=true from d) Md
theorem BE:fb X (compareOp .Lt) (xV λi j=>.bl (decide$ i < j)):=DI λ_ _ _ _ _ _ _ q=>lt_int q
theorem vm:fb X (compareOp .Gt) (xV λi j=>.bl (decide$ j < i)):=DI λ_ _ _ _ _ _ _ q=>gt_int q
theorem vk:fb X (compareOp .GtE) (xV λi j=>.bl (decide$ j<=i)):=DI λ_ _ _ _ _ _ _ q=>ge_int q
theorem aL(b:Expr)(h:o≠ .In:=by decide)(H:o≠ .NotIn:=by decide):behindInMarks o b=false:=by
 have e:(o==CmpOp.In)=false:=by cases o<;>first |rfl |exact absurd Z h
 have E:(o==CmpOp.NotIn)=false:=by cases o<;>first |rfl |exact absurd Z H
 cases b<;>simp [behindInMarks,e,E]
theorem Q9(d:fb X (compareOp o) r)(e:PE X a ta)(f:PE X b tb)(g:behindInMarks o b=false):PE X (.Compare a [o] [b] pos) (dQ r ta tb):=by intro p s i H Q I h;exact wpAny_Compare1 (Cm e f I h λv u S x y j k R l q=>d p S i j x y v u Q k R l q) g
inductive xq(Q:Bool->Hp->Prop)(x:V)(a:Hp):Prop
 |mk(k:_)(_:x= .bl k)(_:Q k a)
def lJ(t:TE):TT:=λd H Q=>t d H (xq Q)
theorem jE{o:CmpOp}{r:R2}(f:fb X (compareOp o) r)(g:PE X a ta)(i:PE X b tb)(j:behindInMarks o b=false):PT X (.Compare a [o] [b] pos) (lJ$ dQ r ta tb):=by
 intro p s d H Q I h;refine SW (aV (g p s d H _ I h) λv S #[x,l,m,R,q]=>aV (i p S d l _ m q) λu n #[y,t,w,A,B]=>
  aV (f p n d t x y v u _ w R A B) λc G #[z,C,D,E,k,e,F]=>?_) j
 subst e;cases E;exact OF #[C,D,F]
def Fe(K:Frag)(x:V)(H:Hp)(k:Bool):Prop:=
 match x with
 | .non=>k=false
 | .bl b=>k=b
 | .int i=>k=(i != 0)
 | .str y=>y.length<=sizeLine/\k=((y.length:Int) != 0)
 | .byt y=>y.size<=sizeLine/\k=((y.size:Int) != 0)
 | .ref p=>(∃d,aI K H p d/\k=!d.isEmpty)∨(∃d,aB K H p d/\k=!d.isEmpty)∨∃e,H p=some (.dK e)/\k=!e.isEmpty
 |_=>False
theorem YL{d:Type}{k:List (d×V)}{v:List (d×Value)}(r:KV k v):(!v.isEmpty)=!k.isEmpty:=by cases r<;>rfl
theorem KM(r:aC x i):(!i.toArray.isEmpty)=!x.isEmpty:=by cases r<;>simp
theorem eR:(sizeLine:Nat) < 2 ^ 63:=by rw[NY];decide
theorem Es:Ig X (λx H Q=>∃k,Fe X.K x H k/\Q k H):=by
 intro o s B H x v Q I R h;obtain⟨k,e,q⟩:=h;have C:=eR;have D:sizeLine=16777216:=NY;cases x with
 |non=>cases R;have E:k=false:=e;subst E;exact truthy_none #[H,I,q]
 |bl b=>cases R;have E:k=b:=e;subst E;exact OF #[H,I,q]
 |int i=>obtain⟨t,rfl⟩:=R;have E:k=(i != 0):=e;subst E;exact PySem.P.truthy_int #[H,I,q]
 |str y=>obtain⟨t,rfl⟩:=R;obtain⟨z,E⟩:y.length<=sizeLine/\k=((y.length:Int) != 0):=e;subst E;exact PySem.P.truthy_str UO #[H,I.tok _,q]
 |byt y=>obtain⟨t,rfl⟩:=R;obtain⟨z,E⟩:y.size<=sizeLine/\k=((y.size:Int) != 0):=e;subst E;exact PySem.W.truthy_bytes UO #[H,I.tok _,q]
 |ref p=>
  cases R;have E:(∃g,aI X.K H p g/\k=!g.isEmpty)∨(∃g,aB X.K H p g/\k=!g.isEmpty)∨∃d,H p=some (.dK d)/\k=!d.isEmpty:=e;rcases E with ⟨g,j,E⟩ | ⟨g,j,E⟩ | ⟨d,j,E⟩
  ·subst E;obtain⟨l,r,n,u⟩:=I.list j;have f:=r.length;exact wpAny_truthy_list n.isList (by simp only[LY];omega) #[H,I.tok _,by rw[KM r];exact q]
  ·subst E;obtain⟨l,r,n,u⟩:=I.tuple j;have f:=r.length;exact truthy_tuple n (by simp only[LY];omega) #[H,I.tok _,by rw[KM r];exact q]
  ·subst E;obtain⟨u,A,V,r,m⟩:d.length<=sizeLine/\(p==sysModules)=false/\∃V,KV d V/\s.heap.DictOf (aW X.prog X.w) p V:=I.hok p _ j;have f:d.length=V.length:=Paired.length r;exact wpAny_truthy_dict A m UO #[H,I.tok _,by rw[YL r];exact q]
 |_=>exact(show False from e).elim
theorem vH(f:PE X a ta)(g:∀w,isTrue a X.env w=(do let v <- w;standAt a.pos;holding [v] (truthy v))):
  PT X a (λd H Q=>ta d H λx e=>∃k,Fe X.K x e k/\Q k e):=by
 intro p s d H Q I h;exact isTrue_plain (aV (f p s d H _ I h) λv S #[x,i,j,r,q]=>Es p S d i x v Q j r q)$ g _
theorem zL:fb X (binaryOp .Add) (λx y H Q=>∃i j,x= .str i/\y= .str j/\i.length+j.length<=sizeLine/\Q (.str$ i++j) H):=by intro p s e H x y v u Q I r R h;obtain⟨i,j,rfl,rfl,d,q⟩:=h;obtain⟨t,rfl⟩:=r;obtain⟨T,rfl⟩:=R;exact add_str (λT f=>#[.str$ i++j,H,I.tok _,#[_,Z],q]) d
theorem eY(r:aC [x] U):∃u,U=[u]/\aF x u:=by
 cases r with
 |cons R d=>cases d;exact#[_,Z,R]
theorem Hn(r:aC [x,y] U):∃u w,U=[u,w]/\aF x u/\aF y w:=by
 cases r with
 |cons R d=>
  cases d with
  |cons e f=>cases f;exact#[_,_,Z,R,e]
theorem JI:er X (.type "int") (λx H Q=>(∃i,x=[.int i]/\Q (.int i) H)∨∃k,x=[.bl k]/\Q (.int (if k then 1 else 0)) H):=by
 intro p s d H x U Q I r h;rcases h with ⟨i,rfl,q⟩ | ⟨k,rfl,q⟩
 ·obtain⟨u,rfl,t,rfl⟩:=eY r;exact call_int_int #[.int i,H,I,#[_,Z],q]
 ·obtain⟨u,rfl,R⟩:=eY r;cases R;exact call_int_bool #[.int (if k then 1 else 0),H,I.tok _,#[_,Z],q]
end
structure nX(h:Heap)(x dx C:Addr)(mA:Str->Option Value):Prop where
 obj:h.get? x=some (instObj C dx)
 ns:h.Ns1 dx mA
 ne:dx≠x
theorem Z8{h:Heap}(n:h.Ns1 d m):∃O,h.get? d=some O/\∀name,lookIn name O=some (m name):=by
 obtain⟨o,E,j,b,c,f,_,g⟩:=n;refine#[o,b,λname=>?_];have e:=g name;unfold nsFind findBy at e;rw[<- Array.find?_toList]at e;unfold lookIn;rw[c];dsimp only;split
 ·rename_i y q
  rw[q]at e;exact Ng some e
 ·rename_i q
  rw[q]at e;have a:E.toList.any (·.refKey)=false:=by rw[SO];intro y i;obtain⟨z,t,H⟩:=f y (Array.mem_toList_iff.mp i);simp [DictEntry.refKey,H]
  have A:¬E.toList.any (·.refKey)=true:=by rw[a];exact Md
  rw[Mf A];exact Ng some e
theorem nX.look(I:nX h x d C m):∃o,PySem.W.InstAt h x (instObj C d) C (some o)/\∀name,lookIn name o=some (m name):=
 let #[o,H,a]:=Z8 I.ns
 #[o,#[I.obj,Z,Z,H],a]
section
variable {prog:Program}{w:World}{A:Around}{E:Value->Shared->Prop}{s:Shared}{K:Frag}{x dx C f:Addr}{mA:Str->Option Value}{name:Str}{v:Value}
theorem yu{Q:Value->Shared->Prop}(X:K.In s.heap)(I:nX s.heap x dx C mA)(a:plainGet K C name=true)(b:hasDictIn K C=true)
  (c:findIn K (.ref C) name=some none) (d:mA name=some v) (H:PySem.W.handedIn v=true) (h:Q v { s with toks:=s.toks+1 }):
  wpAny (model prog w) A (getAttr (.ref x) name e) Q E s:=by
 obtain⟨o,J,g⟩:=I.look;exact PySem.W.get_value X J (Pz a).1 (PySem.W.findObj_own b c Z (by rw[g,d])) H h
theorem uh{Q:Value×List Value->Shared->Prop}(X:K.In s.heap)(I:nX s.heap x dx C mA)(H:plainGet K C name=true)
  (a:findIn K (.ref C) name=some (some$ .ref f)) (b:isFn K (.ref f)=true) (c:mA name=none) (h:Q (.ref f,[.ref x]) s):
  wpAny (model prog w) A (getMethod (.ref x) name p) Q E s:=by
 obtain⟨o,J,d⟩:=I.look;exact PySem.W.method_fn X J (Pz H).1 (Pz H).2 a (beq_iff_eq.mp b) (by show(lookIn name o).map (·.isSome)=some false;rw[d,c];rfl) h
theorem AM{Q:Unit->Shared->Prop}(X:K.In s.heap)(I:nX s.heap x dx C mA)
  (k:findIn K (.ref C) "__setattr__"=some (some$ .builtin "object.__setattr__")) (l:PySem.W.plainOver K C=true) (m:PySem.W.takerIn K C name=some none) (n:hasDictIn K C=true)
  (o:PySem.Within mA N) (p:N.length<=sizeLine)
  (h:∀d,nX d x dx C (λy=>if y=name then some v else mA y)->Heap.SameBut dx s.heap d->Q () { s with heap:=d,toks:=s.toks+2 }):
  wpAny (model prog w) A (setAttr (.ref x) name v) Q E s:=by
 obtain⟨O,J,B⟩:=I.look;refine PySem.W.set_plain X J k$ PySem.W.osa_open (s:={ s with toks:=s.toks+1 }) (r:=none) X J l m λb=>?_;obtain⟨D,q,e⟩:=PySem.W.any_some n;have t:s.heap.get? x=some #[.ref C,some dx,.plain,(List.toArray [])]:=I.obj;refine LO$ LR$ LO$ LO$ R6 t$ LO$ T4 (s:={ s with toks:=s.toks+1 }) (PySem.W.looks_clsIn X q) ?_;rw[e];refine LR (a:=some dx)$ LO$ LR$ LO ?_;refine wpAny_nsSet1 (s:={ s with toks:=s.toks+1 }) I.ns λd H c=>?_;obtain⟨F,u,z,g,i,j⟩:=H.count (Ug name v o);refine LO$ wpAny_lookBehind g (by rw[i];exact pastItsLine_dict$ Mg j (by rw[Mu];omega)) ?_;exact LR$ h _ #[(c.2 _$ ME I.ne).trans I.obj,H,I.ne] c
theorem uK{R:Result->Shared->Prop}(X:K.In s.heap)(H:PySem.W.makesIn K C=true)
  (b:findIn K (.ref C) "__init__"=some (some$ .ref f)) (c:typeIn K (.ref f)=some (.type "function"))
  (h:codeAny (model prog w) (A.under$ .builtin "type.__call__" #[.ref C::a,k]) (.call (.ref f) #[.ref (s.heap.objs.size+1)::a,k]) (PySem.W.InitBack (s.heap.objs.size+1) R)
   { s with heap:=(s.heap.push emptyDict).push (instObj C s.heap.objs.size) }):
  codeAny (model prog w) A (.call (.ref C) #[a,k]) R s:=by
 obtain⟨e,g,d,t,os⟩:=s;exact PySem.W.make_core (PySem.W.makes_of X H) (PySem.W.looks_findIn X b) (λS=>PySem.W.bind_fn X S c) (.inl Z) h
end
noncomputable def eU(f:Str)(v:V):List (Str×V)->List (Str×V)
 | []=>[(f,v)]
 | (g,x)::r=>if g=f then (g,v)::r else (g,x)::eU f v r
theorem JR(f g:Str)(v:V):∀F:List (Str×V),(eU f v F).lookup g=if g=f then some v else F.lookup g
 | []=>by
  show List.lookup g [(f,v)]=_;by_cases h:g=f
  ·have H:(g==f)=true:=beq_iff_eq.mpr h;simp only[List.lookup,H,Mb h]
  ·have H:(g==f)=false:=beq_eq_false_iff_ne.mpr h;simp only[List.lookup,H,Mf h]
 | (k,x)::r=>by
  have i:=JR f g v r;rw[show eU f v ((k,x)::r)=(if k=f then (k,v)::r else (k,x)::eU f v r) from Z];by_cases a:k=f
  ·rw[Mb a];by_cases h:g=k
   ·have H:(g==k)=true:=beq_iff_eq.mpr h;simp only[List.lookup,H,Mb$ h.trans a]
   ·have H:(g==k)=false:=beq_eq_false_iff_ne.mpr h;simp only[List.lookup,H,Mf (λe:g=f=>h (e.trans a.symm))]
  ·rw[Mf a];by_cases h:g=k
   ·have H:(g==k)=true:=beq_iff_eq.mpr h;simp only[List.lookup,H,Mf (λe:g=f=>a (h.symm.trans e))]
   ·have H:(g==k)=false:=beq_eq_false_iff_ne.mpr h;simp only[List.lookup,H];exact i
theorem JJ(f:Str)(v:V):∀F:List (Str×V),f∈(eU f v F).map (·.1)/\∀g,g∈F.map (·.1)->g∈(eU f v F).map (·.1)
 | []=>#[by simp [eU],λg h=>by simp at h]
 | (k,x)::r=>by
  obtain⟨i,I⟩:=JJ f v r;rw[show eU f v ((k,x)::r)=(if k=f then (k,v)::r else (k,x)::eU f v r) from Z];by_cases H:k=f
  ·rw[Mb H];subst H;exact#[UP,λg h=>by simpa using h]
  ·rw[Mf H];refine#[?_,λg h=>?_]
   ·rw[Ni];exact Mt _ i
   ·rw[Ni]at h ⊢;rcases List.mem_cons.mp h with e |e
    ·exact List.mem_cons.mpr$ .inl e
    ·exact Mt _$ I g e
theorem JS(f:Str)(v:V):∀F:List (Str×V),(eU f v F).length<=F.length+1
 | []=>by simp [eU]
 | (k,x)::r=>by
  have i:=JS f v r;rw[show eU f v ((k,x)::r)=(if k=f then (k,v)::r else (k,x)::eU f v r) from Z];by_cases h:k=f
  ·rw[Mb h,Mu,Mu];omega
  ·rw[Mf h,Mu,Mu];omega
theorem dS.some_of{v:V}{o:Option Value}(r:dS (some v) o):∃u,o=some u/\aF v u:=by
 cases o with
 |none=>exact(show False from r).elim
 |some u=>exact#[u,Z,r]
theorem dS.none_of(r:dS none o):o=none:=by
 cases o with
 |none=>rfl
 |some u=>exact(show False from r).elim
theorem Z9(r:aF v u):PySem.W.handedIn u=true:=by
 cases v with
 |non=>cases (show u=Value.none from r);rfl
 |bl b=>cases (show u=Value.bool b from r);rfl
 |int i=>obtain⟨t,e⟩:=(show ∃t,u=Value.int i t from r);cases e;rfl
 |str x=>obtain⟨t,e⟩:=(show ∃t,u=Value.str x t from r);cases e;rfl
 |byt b=>obtain⟨t,e⟩:=(show ∃t,u=Value.bytes b t from r);cases e;rfl
 |flt b=>obtain⟨t,e⟩:=(show ∃t,u=Value.float b t from r);cases e;rfl
 |ref a=>cases (show u=Value.ref a from r);rfl
 |ty n=>cases (show u=Value.type n from r);rfl
section
variable {P:Program}{w:World}{H H':Hp}{h h':Heap}{a C dx:Addr}{fs fs':List (Str×V)}
theorem J6(b:fo P w H h)(e:H a=some (.ins C dx fs)):∃m,nX h a dx C m/\(∀f,dS (fs.lookup f)$ m f)/\PySem.Within m (fs.map (·.1))/\fs.length<=1000/\H dx=some (.own a):=by obtain⟨d,z,N,o,m,n,r,q⟩:=(show aN P w H h a (.ins C dx fs) from b a _ e);exact#[m,#[o,n,N],r,q,z,d]
end
structure oC(K:Frag)(C:Addr):Prop where
 pg:plainGet K C Str.empty=true
 hd:hasDictIn K C=true
 po:PySem.W.plainOver K C=true
 sa:findIn K (.ref C) "__setattr__"=some (some$ .builtin "object.__setattr__")
theorem oC.get{K:Frag}(c:oC K C)(f:Str):plainGet K C f=true:=c.pg
def a9(K:Frag)(C:Addr)(f:Str):Prop:=findIn K (.ref C) f=some none
theorem a9.taker{K:Frag}(n:a9 K C f):PySem.W.takerIn K C f=some none:=by unfold PySem.W.takerIn;rw[show findIn K (.ref C) f=some none from n];rfl
structure bj(K:Frag)(C:Addr)(m:Str)(f:Addr):Prop where
 at_:findIn K (.ref C) m=some (some$ .ref f)
 fn:isFn K (.ref f)=true
 kp:keepIn K (.ref f)=true
section
variable {X:Cx}{pins:List (Addr×Obj)}{σ:St}{H:Hp}{s:Shared}{a C dx:Addr}{fs:List (Str×V)}{f:Str}{v:V}{A:Around}{E:Value->Shared->Prop}
theorem KN{Q:Value->Shared->Prop}(I:ax X pins σ H s)(e:H a=some (.ins C dx fs))(c:oC X.K C)(n:a9 X.K C f)(l:fs.lookup f=some v)
  (h:∀u S,ax X pins σ H S->aF v u->Q u S):wpAny (model X.prog X.w) A (getAttr (.ref a) f b) Q E s:=by
 obtain⟨m,O,r,_,_,_⟩:=J6 I.hok e;obtain⟨u,d,R⟩:=dS.some_of (v:=v) (o:=m f) (by rw[<- l];exact r f);exact yu I.kIn O (c.get f) c.hd n d (Z9 R)$ h u _ (I.tok _) R
theorem KO{Q:Value×List Value->Shared->Prop}(I:ax X pins σ H s)(e:H a=some (.ins C dx fs))(c:oC X.K C)(k:bj X.K C m g)(l:fs.lookup m=none)
  (h:Q (.ref g,[.ref a]) s):wpAny (model X.prog X.w) A (getMethod (.ref a) m p) Q E s:=by
 obtain⟨M,O,r,_,_,_⟩:=J6 I.hok e;have b:M m=none:=dS.none_of (by rw[<- l];exact r m);exact uh I.kIn O (c.get m) k.at_ k.fn b h
theorem KP{Q:Unit->Shared->Prop}(I:ax X pins σ H s)(e:H a=some (.ins C dx fs))(c:oC X.K C)(n:a9 X.K C f)(F:fs.length < 1000)(R:aF y u)
  (h:∀S,ax X pins σ (am H a$ .ins C dx$ eU f y fs) S->Q () S):wpAny (model X.prog X.w) A (setAttr (.ref a) f u) Q E s:=by
 obtain⟨m,O,r,W,_,i⟩:=J6 I.hok e;have j:(fs.map (·.1)).length<=sizeLine:=by rw[LU,NY];omega
 refine AM I.kIn O c.sa c.po n.taker c.hd W j λk d l=>h _ ?_;have p:∃o,k.get? dx=some o:=let #[o,_,_,t,_]:=d.ns;#[o,t]
 refine I.write (x:=a) (e:=dx) (by rw[e];exact True.intro) (.inr i) (λb q B z=>(l.2 b B).trans z) p ?_;refine#[by rw[ji O.ne];exact i,?_,O.ne,d.obj,_,d.ns,λg=>?_,λg D=>?_]
 ·have:=JS f y fs;omega
 ·show dS ((eU f y fs).lookup g) (if g=f then some u else m g);rw[JR];by_cases q:g=f
  ·rw[Mb q,Mb q];exact R
  ·rw[Mf q,Mf q];exact r g
 ·by_cases q:g=f
  ·rw[q];exact(JJ f y fs).1
  ·refine(JJ f y fs).2 g (W g λz=>D ?_);show(if g=f then some u else m g)=none;rw[Mf q];exact z
theorem ax.made(I:ax X pins σ H s):ax X pins σ (am (am H s.heap.objs.size$ .own$ s.heap.objs.size+1) (s.heap.objs.size+1)$ .ins C s.heap.objs.size [])
  { s with heap:=(s.heap.push emptyDict).push (instObj C s.heap.objs.size) }:=by
 have c:(s.heap.push emptyDict).get? s.heap.objs.size=some emptyDict:=LX s.heap Z;have d:((s.heap.push emptyDict).push$ instObj C s.heap.objs.size).get? (s.heap.objs.size+1)=some (instObj C s.heap.objs.size):=by have:=LX (s.heap.push emptyDict) (o:=instObj C s.heap.objs.size) Z;rwa [MQ]at this
 have g:(s.heap.push emptyDict).Ns s.heap.objs.size (λ_=>none):=#[emptyDict,(List.toArray []),_,c,Z,(λe h=>absurd h UP),λ_=>Z];have i:=I.laid (a:=s.heap.objs.size) (o:=.own (s.heap.objs.size+1)) (h':=s.heap.push emptyDict) (t':=s.toks) (λb u q=>LQ _ q) (LV _) #[_,c];refine i.laid (a:=s.heap.objs.size+1) (o:=.ins C s.heap.objs.size []) (t':=s.toks) (λb u q=>LQ _ q) (Pq$ MQ _ _) ?_;have n:s.heap.objs.size≠s.heap.objs.size+1:=Me (Na _);refine#[by rw[ji n,jc],Ma _,n,d,λ_=>none,(Heap.Ns1.of_empty g).at λo q=>LQ _ q,λ_=>True.intro,λy j=>absurd Z j]
theorem yf{f:Str}{s:Shared}(c:attributeBase e f b (eval e b)=eval e b)
  (h:wpAny (model p w) A (eval e b) (λo S=>wpAny (model p w) A (getAttr o f true) Q E S) E s):wpAny (model p w) A (eval (.Attribute e f d) b) Q E s:=
 Attribute_any_ h (by rw[arm_eval_Attribute,c])
end
inductive BW(K:Frag)(f:Str)(Q:VK)(x:V)(b:Hp):Prop
 |mk(a C c d v:_)(_:x= .ref a)(_:b a=some (.ins C c d))(_:oC K C)(_:a9 K C f)(_:d.lookup f=some v)(_:Q v b)
def IN(K:Frag)(t:TE)(f:Str):TE:=λa H Q=>t a H (BW K f Q)
inductive BM(K:Frag)(f:Str)(D:a7)(e:St)(y x:V)(b:Hp):Prop
 |mk(a C c d:_)(_:x= .ref a)(_:b a=some (.ins C c d))(_:oC K C)(_:a9 K C f)(_:d.length < 1000)(_:D.nx e (am b a (.ins C c (eU f y d))))
def IC(K:Frag)(t T:TE)(f:Str):TS:=λD a H=>T a H λy h=>t a h (BM K f D a y)
def EW(X:Cx)(o:Operator)(r:V->V->Hp->VK->Prop):Prop:=
 ∀(p:List (Addr×Obj)) (s:Shared) (a:St) (H:Hp) (x y:V) (u v:Value) (Q:VK),ax X p a H s->aF x u->aF y v->r x y H Q->wpAny (model X.prog X.w) X.A (inplaceOp o u v) (EP X p a Q) X.xe s
inductive mY(K:Frag)(g:TE)(e:V->V->Hp->VK->Prop)(f:Str)(D:a7)(h:St)(x:V)(b:Hp):Prop
 |mk(a C c d v:_)(_:x= .ref a)(_:b a=some (.ins C c d))(_:oC K C)(_:a9 K C f)(_:d.lookup f=some v)(_:g h b λy H2=>e v y H2 λz H3=>∃dx' fs',H3 a=some (.ins C dx' fs')/\fs'.length < 1000/\D.nx h (am H3 a (.ins C dx' (eU f z fs'))))
def Av(K:Frag)(t T:TE)(r:V->V->Hp->VK->Prop)(f:Str):TS:=λD a H=>t a H (mY K T r f D a)
section
variable {X:Cx}{o e value:Expr}{f:Str}{pos pos' tpos:Pos}{ta tv:TE}
theorem kf(b:PE X e ta)(d:attributeBase e f X.env (eval e X.env)=eval e X.env):PE X (.Attribute e f pos) (IN X.K ta f):=by intro p s g H Q I h;refine yf d$ aV (b p s g H _ I h) λu S z=>?_;obtain⟨x,i,j,r,a,C,D,F,v,E,k,c,n,l,q⟩:=z;subst E;obtain rfl:u=Value.ref a:=r;exact KN j k c n l λU t m R=>#[v,i,m,R,q]
theorem zG(d:PE X o ta)(g:PE X value tv)(i:swapsWith value (some$ .Attribute o f pos') pos.line X.env=pure false):PS X (.Assign [.Attribute o f pos'] value pos) (IC X.K ta tv f):=by intro p s b H D I h;refine plainObj_wpAny_Assign_Attribute (aV (g p s b H _ I h) λu S #[y,j,k,r,q]=>aV (d p S b j _ k q) λO w z=>?_) i;obtain⟨x,A,m,R,a,C,B,F,E,t,c,n,l,Q⟩:=z;subst E;obtain rfl:O=Value.ref a:=R;exact KP m t c n l r λG v=>#[b,_,v,Q]
theorem rS{O:Operator}{r:V->V->Hp->VK->Prop}(i:PE X o ta)(j:PE X value tv)(g:EW X O r):PS X (.AugAssign (.Attribute o f tpos) O value pos) (Av X.K ta tv r f):=by intro p s d H D I h;refine wpAny_AugAssign_AttributeAny$ aV (i p s d H _ I h) λk s1 b=>?_;obtain⟨x,m,t,R,a,C,dx,fs,v,w,A,c,n,l,q⟩:=b;subst w;obtain rfl:k=Value.ref a:=R;refine KN t A c n l λu S B F=>aV (j p S d m _ B q) λW G #[y,J,L,M,Q]=>aV (g p G d J v y u W _ L F M Q) λw4 s4 b=>?_;obtain⟨z,H3,N,P,T,U,E,Y,q4⟩:=b;exact KP N E c n Y P λs5 I5=>#[d,_,I5,q4]
inductive Gv(x y:V)(H:Hp)(Q:VK):Prop
 |mk(i j:_)(_:x= .int i)(_:y= .int j)(_:Q (.int (i+j)) H)
theorem CM:EW X .Add Gv:=by rintro p s a H x y u v Q I r R ⟨i,j,rfl,rfl,q⟩;obtain⟨t,rfl⟩:=(show ∃t,u=Value.int i t from r);obtain⟨T,rfl⟩:=(show ∃T,v=Value.int j T from R);exact Ux #[.int$ i+j,H,I.tok _,#[_,Z],q]
end
section
variable {X:Cx}{pins:List (Addr×Obj)}{σ:St}{H:Hp}{s:Shared}{A:Around}{E:Value->Shared->Prop}{Q:Value->Shared->Prop}{c:Value}{b:Bool}
inductive gZ(K:Frag)(H:Hp):V->Value->Prop where
 |non:gZ K H .non (.type "NoneType")
 |bl (x:Bool):gZ K H (.bl x) (.type "bool")
 |int (i:Int):gZ K H (.int i) (.type "int")
 |str (x:Str):gZ K H (.str x) (.type "str")
 |flt (x:UInt64):gZ K H (.flt x) (.type "float")
 |lst {a:Addr} {xs:List V} (e:H a=some (.lst xs)):gZ K H (.ref a) (.type "list")
 |frz {a:Addr} {o:Obj} {xs:List V} (e:H a=some (.frz o (.lst xs))):gZ K H (.ref a) (.type "list")
 |tup {a:Addr} {xs:List V} (e:H a=some (.tup xs)):gZ K H (.ref a) (.type "tuple")
 |dK {a:Addr} {kvs:List (bH×V)} (e:H a=some (.dK kvs)):gZ K H (.ref a) (.type "dict")
 |dT {a:Addr} {kvs:List (List bH×V)} (e:H a=some (.dT kvs)):gZ K H (.ref a) (.type "dict")
 |ins {a C dx:Addr} {fs:List (Str×V)} (e:H a=some (.ins C dx fs)) (cl:oC K C) (ha:findIn K (.ref C) "__class__"=some (some (.builtin "object.__class__")))
   (hn:specialIn K (.builtin "object.__class__") "__get__"=some (some$ .builtin "getset_descriptor.__get__")) (htk:PySem.W.takesIn K (.builtin "object.__class__")=some true)
   (hm:mroIn K C (.type "object")=some true):gZ K H (.ref a) (.ref C)
theorem p4(I:ax X pins σ H s)(r:aF x u)(T:gZ X.K H x t)(e:kitOne X.K t c=some b)(h:∀v,Q (.bool b) { s with toks:=v }):
  wpAny (model X.prog X.w) A (call (.builtin "isinstance") [u,c]) Q E s:=by
 cases T with
 |non=>cases (show u=Value.none from r);exact OU PySem.W.kitx_none I.kIn True.intro e (λz=>nomatch z) h
 |bl y=>cases (show u=Value.bool y from r);exact OU PySem.W.kitx_bool I.kIn True.intro e (λz=>nomatch z) h
 |int i=>obtain⟨t,q⟩:=(show ∃t,u=Value.int i t from r);cases q;exact OU PySem.W.kitx_int I.kIn True.intro e (λz=>nomatch z) h
 |str y=>obtain⟨t,q⟩:=(show ∃t,u=Value.str y t from r);cases q;exact OU PySem.W.kitx_str I.kIn True.intro e (λz=>nomatch z) h
 |flt y=>obtain⟨t,q⟩:=(show ∃t,u=Value.float y t from r);cases q;exact OU PySem.W.kitx_float I.kIn True.intro e (λz=>nomatch z) h
 | @lst a g d=>cases (show u=Value.ref a from r);obtain⟨_,_,n,_,f⟩:=(show aN X.prog X.w H s.heap a (.lst g) from I.hok a _ d);exact OU Sc I.kIn #[_,f,Z] e (λz=>nomatch z) h
 | @frz a B g d=>cases (show u=Value.ref a from r);obtain⟨_,_,_,n,_,f⟩:=(show aN X.prog X.w H s.heap a (.frz B$ .lst g) from I.hok a _ d);exact OU Sc I.kIn #[_,f,Z] e (λz=>nomatch z) h
 | @tup a g d=>cases (show u=Value.ref a from r);obtain⟨_,_,_,p⟩:=(show aN X.prog X.w H s.heap a (.tup g) from I.hok a _ d);obtain⟨o,f,j,_⟩:=p;exact OU PySem.W.kitx_tuple I.kIn #[o,f,j] e (λz=>nomatch z) h
 | @dK a k d=>cases (show u=Value.ref a from r);obtain⟨_,_,V,_,p⟩:=(show aN X.prog X.w H s.heap a (.dK k) from I.hok a _ d);obtain⟨o,D,F,f,j,_⟩:=p;exact OU Sd I.kIn #[o,f,j.1] e (λz=>nomatch z) h
 | @dT a k d=>cases (show u=Value.ref a from r);obtain⟨_,_,g,_,o,D,F,f,j,_⟩:=(show aN X.prog X.w H s.heap a (.dT k) from I.hok a _ d);exact OU Sd I.kIn #[o,f,j.1] e (λz=>nomatch z) h
 | @ins a C N P d m G L l M=>cases (show u=Value.ref a from r);obtain⟨R,O,_⟩:=J6 I.hok d;obtain⟨S,J,_⟩:=O.look;exact OU (PySem.W.kitx_own (m.get _) m.hd G L l M) I.kIn J e (λz=>nomatch z) h
end
structure bJ(k:Nat)(A:Around):Prop where
 hd:A.handled=none
 dp:A.depth+3*k+5 < recursionLimit
 un:A.units+16*k+200 < cLine
theorem bJ.mono(r:bJ k A)(h:j<=k):bJ j A:=#[r.hd,by have:=r.dp;omega,by have:=r.un;omega]
theorem bJ.deeper(r:bJ (k+1) A)(e:Env):bJ k (A.deeper e):=
 #[r.hd,by have:=r.dp;show A.depth+1+3*k+5 < _;omega,by have:=r.un;show A.units+3+16*k+200 < _;omega]
theorem YM{A:Around}:(A.under$ .builtin "type.__call__" #[.ref C::u,k]).depth=A.depth+1:=by
 first |rfl |simp [Around.under,Code.weight,Code.isCreation,Code.isGuard,Code.isCaller,Code.frames,Code.isFrame,guardIds]
theorem YN{A:Around}:(A.under$ .builtin "type.__call__" #[.ref C::u,k]).units=A.units+1:=by
 first |rfl |simp [Around.under,Code.cUnits,Code.frames,Code.isFrame]
theorem bJ.make(r:bJ (k+1) A)(C:Addr)(u:List Value)(K:List (Str×Value)):bJ k (A.under$ .builtin "type.__call__" #[.ref C::u,K]):=
 #[r.hd,by have:=r.dp;rw[YM];omega,by have:=r.un;rw[YN];omega]
theorem bJ.depth(r:bJ k A):A.depth < recursionLimit:=by have:=r.dp;omega
theorem bJ.units(r:bJ k A):A.units+64 < cLine:=by have:=r.un;omega
def aM:TA:=λ_ H Q=>Q [] H
def aj(t:TE)(T:TA):TA:=λa H Q=>t a H λx h=>T a h λX b=>Q (x::X) b
section
variable {X:Cx}{e:Expr}{es:List Expr}{te:TE}{t:TA}{pos:Pos}
theorem jb:PA X [] aM:=λ_ _ _ _ H Q I h=>N4 #[[],H,I,.nil,h]
theorem ja(b:PE X e te)(c:PA X es t)(d:starEach (e::es) X.env=(false,eval e X.env)::starEach es X.env:=by rfl):PA X (e::es) (aj te t):=by intro pos p s a H Q I h;rw[d];show wpAny _ _ (spliced ((false,eval e X.env)::backTo pos (starEach es X.env))) _ _ s;refine NC$ aV (b p s a H _ I h) λu S z=>?_;obtain⟨x,f,i,r,q⟩:=z;exact aV (c pos p S a f _ i q) λU m #[g,j,k,R,l]=>#[x::g,j,k,.cons r R,l]
def bK(t:TA):TE:=λa H Q=>t a H λx h=>x.length<=sizeLine/\∀p,h p=none->Q (.ref p) (am h p$ .tup x)
def i9(t:TA):TE:=λa H Q=>t a H λx h=>x.length<=sizeLine/\∀p,h p=none->Q (.ref p) (am h p$ .lst x)
theorem jh{x}(h:PA X es t):PE X (.Tuple es x pos) (bK t):=by intro p s c H Q I d;refine wpAny_Tuple_spliced$ aV (h pos p s c H _ I d) λU S #[f,a,i,r,z,q]=>#[by rw[<- r.length];exact z,?_];have g:a S.heap.objs.size=none:=i.hok.fresh (LV _);refine#[.ref S.heap.objs.size,am a S.heap.objs.size$ .tup f,i.laid (t':=S.toks) (λb u e=>LQ _ e) (LV _) ?_,Z,q _ g];exact#[z,U,r,#[_,LX _ Z,Z,_,Z]]
theorem jG(h:PA X es t):PE X (.List es pos) (i9 t):=by intro p s c H Q I d;refine wpAny_List_spliced$ aV (h pos p s c H _ I d) λU S #[x,a,i,r,z,q]=>#[by rw[<- r.length];exact z,?_];have f:a S.heap.objs.size=none:=i.hok.fresh (LV _);refine#[.ref S.heap.objs.size,am a S.heap.objs.size$ .lst x,i.laid (t':=S.toks) (λb u e=>LQ _ e) (LV _) ?_,Z,q _ f];exact#[z,U,0,r,LX _ Z]
end
abbrev Sp:=List V->Hp->VK->XK->Prop
abbrev pF:=List Env->Hp->Shared->XK->Value->Shared->Prop
structure nR(P:Program)(w:World)(K:Frag)(mg:Str->Option Value)(base:Heap)(A:Around)(outer:List Env)(s:Shared)(H:Hp):Prop where
 frames:A.frames=some outer
 mod:Mod K mg base
 bs:∀b o,base.get? b=some o->s.heap.get? b=some o/\H b=none
 bsz:base.objs.size<=s.heap.objs.size
 funs:s.heap.FunFrames base outer
 frf:∀b∈lB outer,H b=none
 hok:fo P w H s.heap
 bare:AllBare s.gens
def CE(o:List Env)(P:Program)(w:World)(H:Hp)(s:Shared)(Q:VK)(u:Value)(S:Shared):Prop:=
 ∃v h,S.os=s.os/\AllBare S.gens/\Un (lB o) [] H h s.heap S.heap/\fo P w h S.heap/\aF v u/\Q v h
def CR(C:pF)(o:List Env)(P:Program)(w:World)(H:Hp)(s:Shared)(Q:VK)(E:XK)(r:Result)(S:Shared):Prop:=
 match r with
 | .ok (.ret u)=>CE o P w H s Q u S
 | .ok _=>False
 | .error e=>C o H s E e S
structure af(P:Program)(w:World)(K:Frag)(mg:Str->Option Value)(base:Heap)(CX:pF)(k:Nat)(f:Addr)(fd:FuncData)(ps:List Str)(sp:Sp):Prop where
 len:∀vs H Q E,sp vs H Q E->vs.length=ps.length
 run:∀(A:Around) (outer:List Env) (s:Shared) (H:Hp) (args:Args) (us:List Value) (vs:List V) (Q:VK) (E:XK),bJ k A->nR P w K mg base A outer s H->BindsTo s fd args (ps.zip us)->aC vs us->sp vs H Q E->
  codeAny (model P w) A (.call (.ref f) args) (CR CX outer P w H s Q E) s
theorem nR.make{P:Program}{K:Frag}(e:nR P w K m b A o s H)(C:Addr)(u:List Value)(k:List (Str×Value)):
  nR P w K m b (A.under$ .builtin "type.__call__" #[.ref C::u,k]) o s H:=#[by first |exact e.frames | (simpa [Around.under,Code.envs,Code.isFrame,pushEnvs] using e.frames),e.mod,e.bs,e.bsz,e.funs,e.frf,e.hok,e.bare]
section
variable {X:Cx}{pins:List (Addr×Obj)}{σ:St}{H:Hp}{s s':Shared}
theorem ax.env0(I:ax X pins σ H s):nR X.prog X.w X.K X.mg X.base X.A X.stack s H:=
 #[I.ok.frames,I.ok.mod,I.bs,Mg I.ok.bsz I.sz,I.stack,I.stkFree,I.hok,I.bare]
theorem ax.after(I:ax X pins σ H s)(h:CE X.stack X.prog X.w H s Q u s'):EP X pins σ Q u s':=by obtain⟨v,c,os,B,U,a,r,q⟩:=h;obtain⟨e,g,d,t,o⟩:=s';obtain rfl:o=s.os:=os;exact#[v,c,I.call (h':=e) (g':=g) (d':=d) (t':=t) (ch:=[]) U a B (λb z=>absurd z UP),r,q]
end
def gf(s:Sp)(d:List V)(E:XK)(t:TA):TE:=λa H Q=>t a H λv h=>s (v++d) h Q E
inductive xj(C:Addr)(m:Str)(f:Sp)(b:List V)(E:XK)(t:TA)(g:St)(Q:VK)(x:V)(c:Hp):Prop
 |mk(a d e:_)(_:x= .ref a)(_:c a=some (.ins C d e))(_:e.lookup m=none)(_:t g c λvs H2=>f (x::(vs++b)) H2 Q E)
def xh(C:Addr)(m:Str)(s:Sp)(d:List V)(E:XK)(T:TE)(t:TA):TE:=λa H Q=>T a H (xj C m s d E t a Q)
def BX(C:Addr)(s:Sp)(D:List V)(E:XK)(t:TA):TE:=λa H Q=>t a H λb h=>∀x d,h x=none->h d=none->d≠x->
 s (.ref x::(b++D)) (am (am h d$ .own x) x$ .ins C d []) (λv c=>v= .non/\Q (.ref x) c) E
def aD(K:Frag)(f:FuncData)(p:List Str)(d:List Value):Prop:=
 ∀(s:Shared) (u:List Value),K.In s.heap->(u++d).length=p.length->BindsTo s f #[u,[]] (p.zip$ u++d)
theorem aD.all{K:Frag}{p:List Str}(h:∀u:List Value,u.length=p.length->bindArgs f #[u,[]]=pure (p.zip u)):aD K f p []:=λs u _ H=>by rw[Mv]at H ⊢;exact .of_eq$ h u H
def dj(C:pF)(X:Cx)(E:XK):Prop:=∀(p:List (Addr×Obj)) (a:St) (H:Hp) (s:Shared) (e:Value) (S:Shared),ax X p a H s->C X.stack H s E e S->X.xe e S
section
variable {X:Cx}{CX:pF}{k:Nat}{f C:Addr}{fd:FuncData}{ps:List Str}{sp:Sp}{dvs:List V}{ds:List Value}{E:XK}{x m:Str}{p pos apos:Pos}{e o:Expr}{es:List Expr}{ta:TE}{t:TA}
theorem QW{us:List Value}{vs:List V}(F:af X.prog X.w X.K X.mg X.base CX k f fd ps sp)(d:bJ k X.A)(g:aD X.K fd ps ds)(i:aC dvs ds)(j:dj CX X E)
  (I:ax X a c H s) (r:aC vs us) (h:sp (vs++dvs) H Q E):wpAny (model X.prog X.w) X.A (call (.ref f) us) (EP X a c Q) X.xe s:=by
 have R:aC (vs++dvs) (us++ds):=r.append i;have l:(us++ds).length=ps.length:=by rw[<- R.length];exact F.len _ _ _ _ h
 refine R8$ Oh (F.run X.A X.stack s H #[us,[]] (us++ds) (vs++dvs) Q E d I.env0 (g s us I.kIn l) R h) λr S b=>?_;cases r with
 |error e=>exact j a c H s e S I b
 |ok n=>
  cases n with
  |ret u=>exact I.after b
  |next=>exact False.elim b
  |brk=>exact False.elim b
  |cont=>exact False.elim b
theorem zb(F:af X.prog X.w X.K X.mg X.base CX k f fd ps sp)(c:bJ k X.A)(d:Gl X x)(g:X.mg x=some (.ref f))(j:keepIn X.K (.ref f)=true)(l:aD X.K fd ps ds)(n:aC dvs ds)(u:dj CX X E)
  (v:PA X (e::es) t) (a:(x==("__debug__":Str))=false:=by decide) (y:starEach (e::es) X.env=(false,eval e X.env)::starEach es X.env:=by rfl) (b:(backTo pos$ starEach es X.env).any (·.1)=false:=by rfl):
  PE X (.Call (.Name x p) (e::es) [] pos) (gf sp dvs E t):=by
 intro P s z H Q I h;refine MT$ zN I d g ?_ a;refine Rm (h₀:=X.base) I.ok.mod.kin j (aV (v pos P s z H _ I h) λU S #[B,D,i,r,q]=>#[i.kIn,?_]) y b;exact QW F c l n u i r q
theorem kh(v:PE X o ta)(c:oC X.K C)(g:bj X.K C m f)(F:af X.prog X.w X.K X.mg X.base CX k f fd ps sp)(y:bJ k X.A)(B:aD X.K fd ps ds)(D:aC dvs ds)(G:dj CX X E)(J:PA X (e::es) t)
  (b:starEach (e::es) X.env=(false,eval e X.env)::starEach es X.env:=by rfl) (d:(backTo pos$ starEach es X.env).any (·.1)=false:=by rfl)
  (L:eval (.Call (.Attribute o m apos) (e::es) [] pos) X.env=(do
   let O <- eval o X.env
   standAt apos.atName
   let (f,first) <- holding [O] (getMethod O m pl)
   callWith pos f first (backTo pos$ starEach (e::es) X.env) (backToKw pos$ keywordEach [] X.env)):=by rfl):
  PE X (.Call (.Attribute o m apos) (e::es) [] pos) (xh C m sp dvs E ta t):=by
 intro P s i H Q I h;refine Pa (pl:=pl) (aV (v P s i H _ I h) λu S z=>?_) L;obtain⟨x,M,j,R,a,W,Y,N,T,l,q⟩:=z;subst N;obtain rfl:u=Value.ref a:=R;refine KO j T c g l ?_;refine Rm (first:=[.ref a]) (h₀:=X.base) I.ok.mod.kin g.kp (aV (J pos P S i M _ j q) λus s2 #[vs,H2,n,r,U]=>#[n.kIn,?_]) b d;exact QW (us:=.ref a::us) (vs:=.ref a::vs) F y B D G n (.cons Z r) U
theorem vt(d:PE X o ta)(c:oC X.K C)(b:bj X.K C m f)(F:af X.prog X.w X.K X.mg X.base CX k f fd ps sp)(g:bJ k X.A)(j:aD X.K fd ps ds)(n:aC dvs ds)(r:dj CX X E)
  (v:eval (.Call (.Attribute o m apos) [] [] pos) X.env=(do
   let O <- eval o X.env
   standAt apos.atName
   let (f,first) <- holding [O] (getMethod O m pl)
   callWith pos f first (backTo pos$ starEach [] X.env) (backToKw pos$ keywordEach [] X.env)):=by rfl):
  PE X (.Call (.Attribute o m apos) [] [] pos) (xh C m sp dvs E ta aM):=by
 intro P s y H Q I h;refine Pa (pl:=pl) (aV (d P s y H _ I h) λu S z=>?_) v;obtain⟨x,G,i,R,a,J,L,B,D,l,q⟩:=z;subst B;obtain rfl:u=Value.ref a:=R;refine KO i D c b l ?_;exact PH (first:=[.ref a]) i.kIn b.kp$ QW (us:=[.ref a]) (vs:=[.ref a]) F g j n r i (.cons Z .nil) q
structure Mk(K:Frag)(C f:Addr):Prop where
 makes:PySem.W.makesIn K C=true
 init:findIn K (.ref C) "__init__"=some (some$ .ref f)
 fn:isFn K (.ref f)=true
 kp:keepIn K (.ref C)=true
theorem XF{us:List Value}(M:Mk X.K C f)(F:af X.prog X.w X.K X.mg X.base CX k f fd ps sp)(l:bJ (k+1) X.A)(n:aD X.K fd ps ds)(q:aC dvs ds)
  (y:dj CX X E) (I:ax X b c H s) (r:aC g us)
  (h:∀x d,H x=none->H d=none->d≠x->sp (.ref x::(g++dvs)) (am (am H d$ .own x) x$ .ins C d []) (λv z=>v= .non/\Q (.ref x) z) E):
  wpAny (model X.prog X.w) X.A (call (.ref C) us) (EP X b c Q) X.xe s:=by
 have j:=h (s.heap.objs.size+1) s.heap.objs.size (I.hok.fresh$ MU _) (I.hok.fresh$ LV _) (Me$ Na _);have i:=ax.made (C:=C) I;have R:aC (V.ref (s.heap.objs.size+1)::(g++dvs)) (Value.ref (s.heap.objs.size+1)::(us++ds)):=.cons Z (r.append q);have B:(Value.ref (s.heap.objs.size+1)::us++ds).length=ps.length:=by have e:=R.length;rw[F.len _ _ _ _ j]at e;exact e.symm
 refine R8 (uK (f:=f) I.kIn M.makes M.init (beq_iff_eq.mp M.fn) (Oh (F.run _ X.stack _ _ #[Value.ref (s.heap.objs.size+1)::us,[]] (Value.ref (s.heap.objs.size+1)::(us++ds)) _ _ E (l.make C us [])
  (i.env0.make C us []) (n _ (Value.ref (s.heap.objs.size+1)::us) i.kIn B) R j) λr S a=>?_))
 cases r with
 |error e=>exact y b c _ _ e S i a
 |ok D=>
  cases D with
  |ret u=>obtain⟨v,G,J,L,N,O⟩:=i.after a;subst N;exact#[L,#[V.ref$ s.heap.objs.size+1,G,J,Z,O]]
  |next=>exact False.elim a
  |brk=>exact False.elim a
  |cont=>exact False.elim a
theorem Zv(M:Mk X.K C f)(F:af X.prog X.w X.K X.mg X.base CX k f fd ps sp)(c:bJ (k+1) X.A)(d:Gl X x)(g:X.mg x=some (.ref C))(j:aD X.K fd ps ds)(l:aC dvs ds)(n:dj CX X E)
  (u:PA X (e::es) t) (a:(x==("__debug__":Str))=false:=by decide) (v:starEach (e::es) X.env=(false,eval e X.env)::starEach es X.env:=by rfl) (b:(backTo pos$ starEach es X.env).any (·.1)=false:=by rfl):
  PE X (.Call (.Name x p) (e::es) [] pos) (BX C sp dvs E t):=by
 intro P s y H Q I h;refine MT$ zN I d g ?_ a;refine Rm (h₀:=X.base) I.ok.mod.kin M.kp (aV (u pos P s y H _ I h) λU S #[z,B,i,r,q]=>#[i.kIn,?_]) v b;exact XF M F c j l n i r q
theorem vq(M:Mk X.K C f)(F:af X.prog X.w X.K X.mg X.base CX k f fd ps sp)(b:bJ (k+1) X.A)(c:Gl X x)(d:X.mg x=some (.ref C))(g:aD X.K fd ps ds)(i:aC dvs ds)(j:dj CX X E)
  (a:(x==("__debug__":Str))=false:=by decide):PE X (.Call (.Name x p) [] [] pos) (BX C sp dvs E aM):=by
 intro P s l H Q I h;refine MT$ zN I c d ?_ a;exact PH I.kIn M.kp$ XF (us:=[]) M F b g i j I .nil h
end
structure ai(N P:List Str)(sc:Scope):Prop where
 kind:sc.kind= .function
 co:sc.isCoroutine=false
 gen:sc.isGenerator=false
 nd:N.Nodup
 pre:N.take P.length=P
 par:∀x∈P,sc.names.lookup x=some .local∨sc.names.lookup x=some .cell
 nofree:∀y∈sc.names,y.2≠ .free
theorem Qx{kindOf:Str->Option NameKind}:∀{b:List (Str×Value)} {m:Str->Option Value},(∀v,(x,v)∉b)->bindL kindOf b m x=m x
 | [],_,_=>rfl
 | (n,v)::r,m,h=>by
  unfold bindL;rw[Qx λw H=>h w (Mt _ H)];split
  ·have:x≠n:=by rintro rfl;exact h v Mm
   simp [this]
  ·rfl
theorem Qy{kindOf:Str->Option NameKind}:∀{b:List (Str×Value)} {m:Str->Option Value},(∀v,(x,v)∉b)->bindC kindOf b m x=m x
 | [],_,_=>rfl
 | (n,v)::r,m,h=>by
  unfold bindC;rw[Qy λw H=>h w (Mt _ H)];split
  ·rfl
  ·have:x≠n:=by rintro rfl;exact h v Mm
   simp [this]
theorem Qz{kindOf:Str->Option NameKind}:∀{P:List Str} {V:List Value} {i:Nat} {m:Str->Option Value},P.Nodup->P[i]?=some x->V[i]?=some v->kindOf x=some .local->
  bindL kindOf (P.zip V) m x=some v
 | [],_,_,_,_,h,_,_=>by simp at h
 |_::_,[],_,_,_,_,h,_=>by simp at h
 |p::P,w::V,0,m,n,H,a,b=>by simp at H a;subst H;subst a;show bindL kindOf ((p,w)::P.zip V) m p=_;unfold bindL;rw[Qx λv c=>(List.nodup_cons.mp n).1 (Pr c).1,Mb b];simp
 |p::P,w::V,i+1,m,n,H,a,b=>by show bindL kindOf ((p,w)::P.zip V) m x=_;unfold bindL;exact Qz (i:=i) (List.nodup_cons.mp n).2 (by simpa using H) (by simpa using a) b
theorem QA{kindOf:Str->Option NameKind}:∀{P:List Str} {V:List Value} {i:Nat} {m:Str->Option Value},P.Nodup->P[i]?=some x->V[i]?=some v->kindOf x≠some .local->
  bindC kindOf (P.zip V) m x=some v
 | [],_,_,_,_,h,_,_=>by simp at h
 |_::_,[],_,_,_,_,h,_=>by simp at h
 |p::P,w::V,0,m,n,H,a,b=>by simp at H a;subst H;subst a;show bindC kindOf ((p,w)::P.zip V) m p=_;unfold bindC;rw[Qy λv c=>(List.nodup_cons.mp n).1 (Pr c).1,Mf b];simp
 |p::P,w::V,i+1,m,n,H,a,b=>by show bindC kindOf ((p,w)::P.zip V) m x=_;unfold bindC;exact QA (i:=i) (List.nodup_cons.mp n).2 (by simpa using H) (by simpa using a) b
noncomputable def gT(N:List Str)(v:List V):St:=v.map some++List.replicate (N.length - v.length) none
noncomputable def gA(C:pF)(P:Program)(w:World)(K:Frag)(mg:Str->Option Value)(base:Heap)(N:List Str)(q:Str)(S:Scope)(f:Addr)(c:Value)(A:Around)(outer:List Env)(s:Shared)(H:Hp)(E:XK):Cx where
 prog:=P
 w:=w
 K:=K
 mg:=mg
 base:=base
 A:=A.deeper (envOfC q S s.heap.objs.size f c)
 N:=N
 s₀:=s
 H₀:=H
 env:=envOfC q S s.heap.objs.size f c
 outer:=outer
 stack:=envOfC q S s.heap.objs.size f c::outer
 ex:=[]
 calm:=true
 fn:=λ_=>true
 pn:=[]
 xe:=λe b=>wpAny (model P w) (A.deeper$ envOfC q S s.heap.objs.size f c) (leaving (envOfC q S s.heap.objs.size f c) e) (λ_ a=>C outer H s E e a) (λd a=>C outer H s E d a) b
theorem XG{s:Scope}{n:Nat}(h:s.names.lookup x=some .cell):∃c,(cellsFrom n s.names []).lookup x=some c:=by have q:=RG s.names n [] (.inl h);exact Option.isSome_iff_exists.mp q
theorem pZ{P:Program}{K:Frag}{A:Around}{l:List V}
  (S:ai N t d) (O:A.handled=none) (j:nR P w K M B A o s H) (hl:l.length=t.length) (r:aC l U)
  (x:InCallC s s.heap.objs.size (bindL (envOfC Q d s.heap.objs.size f I).kindOf (t.zip U) λ_=>none) (cellsFrom (s.heap.objs.size+1) d.names []) (bindC (envOfC Q d s.heap.objs.size f I).kindOf (t.zip U) λ_=>none) T):
  ax (gA Y P w K M B N Q d f I A o s H E) [] (gT N l) H T:=by
 have R:t.length<=N.length:=by have:=Ng List.length S.pre;rw[Mw]at this;omega
 obtain⟨F,tk,rfl,J⟩:=x.done;have m:∀b:Addr,b∉(gA Y P w K M B N Q d f I A o s H E).ex:=λb z=>absurd (show b∈([]:List Addr) from z) UP;refine#[#[j.mod,S.kind,Z,Z,LV _,λy z c F g=>?_,λy hy=>?_,λy c _ h=>?_,λ_=>O,Around.frames_deeper j.frames,.inr #[Z,Z],λb z=>absurd z (m b),j.bs,j.bsz,λb _ _=>m b,λb z=>absurd z (m b),j.funs,j.frf],
  rfl,j.bare,Un.kept J,#[_,x.toInCall.ns,λi y v F g h3=>?_],λy c h=>#[_,x.cell y c h],j.hok.fresh$ LV _,λy c h=>?_,λp C=>absurd (show p∈([]:List (Addr×Obj)) from C) UP,j.hok.kept J,?_]
 ·exact name_of_addr x.apart (Nr F)$ Nr g
 ·have hy:d.names.lookup y=some .cell∨d.names.lookup y=some .free:=hy;rcases hy with hy |hy
  ·exact XG hy
  ·exact absurd Z$ S.nofree _$ Nr hy
 ·exact NM$ x.above y c$ Nr h
 ·have G:i < l.length:=by
   unfold gT at g;by_cases G:i < l.length
   ·exact G
   ·rw[OQ (by simpa using G)]at g;rw[RZ]at g;split at g<;>cases g
  have W:l[i]?=some v:=by
   unfold gT at g;rw[OT (by simpa using G),Mp]at g;cases e:l[i]? with
   |none=>rw[e]at g;cases g
   |some a=>rw[e]at g;cases g;rfl
  obtain⟨u,L,X⟩:=r.get W;have C:t[i]?=some y:=by rw[<- S.pre,List.getElem?_take_of_lt UO];exact F
  have D:t.Nodup:=by rw[<- S.pre];exact S.nd.sublist$ P' _ _
  refine#[u,X,?_];rcases S.par y (Mr C) with k |k
  ·exact .inl #[k,Qz D C L k]
  ·obtain⟨c,e⟩:=XG (n:=s.heap.objs.size+1) k;refine .inr #[.inl k,c,e,?_];have q:=x.cell y c e;rw[QA D C L (by show d.names.lookup y≠_;rw[k];decide)]at q;exact q
 ·exact j.hok.fresh$ NM$ x.above y c$ Nr h
 ·unfold gT;show _=N.length;rw[LS,LU,Px];omega
theorem Bs{P:Program}{K:Frag}{kV:Value}
    {G:Sp} (lk:K.lookup f=some #[oc,od,.func$ fnOf name c p h a dV kV L pm an C ct,o1]) (M:codeIn K C c=true) (S:ai N T a)
  (len:∀d H Q E,G d H Q E->d.length=T.length)
  (j:∀(A:Around) (O:List Env) (s:Shared) (H:Hp) (d:List V) (Q:VK) (E:XK),bJ k (A.deeper$ envOfC c a s.heap.objs.size f C)->G d H Q E->
   ∃t,mP (gA U P w K Y B N c a f C A O s H E) h t/\t { nx:=λ_ i=>Q .non i,rt:=Q } (gT N d) H):
  af P w K Y B U (k+1) f (fnOf name c p h a dV kV L pm an C ct) T G:=by
 refine#[len,λA O s H a0 us d Q E R z hb r D=>?_];have hl:=len _ _ _ _ D;have KX:K.In s.heap:=z.mod.kin.keeps λb o e=>(z.bs b o e).1;have X:s.heap.NoLimit:=z.mod.nolimit.keeps λb o e=>(z.bs b o e).1;have l:∀y∈T.zip us,a.names.lookup y.1=some .local∨(a.names.lookup y.1=some .cell/\((cellsFrom (s.heap.objs.size+1) a.names []).lookup y.1).isSome=true):=λ#[n,v] hy=>by
  rcases S.par n (Pr hy).1 with q |q
  ·exact .inl q
  ·exact .inr #[q,RG _ _ _$ .inl q]
 refine codeAny_call_function R.depth (KX _ _ lk) Z S.co S.gen Z (PySem.W.codeRec_of KX M)$ hb _ _ _ _ ?_;refine wpAny_newFunctionEnv_cells S.kind l λe1 he s1 x=>?_;subst he;refine#[X.keeps x.toInCall.keep,codeAny_func ?_];obtain⟨t,ht,hq⟩:=j A O s H d Q E (R.deeper _) D;have I:ax (gA U P w K Y B N c a f C A O s H E) [] (gT N d) H s1:=pZ S R.hd z hl r x;refine MZ (ht [] s1 (gT N d) H _ I hq) (λfl s' m=>?_) λe s' m=>m;have F:∀{g:St} {i:Hp} {v:V} {u:Value},ax (gA U P w K Y B N c a f C A O s H E) [] g i s'->aF v u->Q v i->CE O P w H s Q u s':=
  λ{g i v u} J rv q=>#[v,i,J.os,J.bare,J.base,J.hok,rv,q]
 cases fl with
 |ret u=>obtain⟨v,g,i,J,rv,q⟩:=m;exact F J rv q
 |next=>obtain⟨g,i,J,q⟩:=m;exact F (v:=V.non) (u:=Value.none) J Z q
 |brk=>obtain⟨_,_,_,q⟩:=m;exact False.elim q
 |cont=>obtain⟨_,_,_,q⟩:=m;exact False.elim q
section
variable {X:Cx}{x:Str}{p pos:Pos}{e:Expr}{es:List Expr}{t:TA}{id T:String}{r:List V->Hp->VK->Prop}
def HR(r:List V->Hp->VK->Prop)(t:TA):TE:=λa H Q=>t a H λv h=>r v h Q
theorem jR(d:er X (.builtin id) r)(f:Gl X x)(g:X.mg x=none)(i:bootBuiltins x=some (.builtin id))(j:PA X (e::es) t)(k:x≠"__name__":=by decide)(a:(x==("__debug__":Str))=false:=by decide)
  (l:starEach (e::es) X.env=(false,eval e X.env)::starEach es X.env:=by rfl) (b:(backTo pos$ starEach es X.env).any (·.1)=false:=by rfl):PE X (.Call (.Name x p) (e::es) [] pos) (HR r t):=by
 intro P s c H Q I h;refine MT$ zE I f g i ?_ k a;exact Uz (aV (j pos P s c H _ I h) λu S #[v,m,n,R,q]=>d P S c m v u Q n R q) l b
theorem jN(d:er X (.type T) r)(f:Gl X x)(g:X.mg x=none)(i:bootBuiltins x=some (.type T))(j:PA X (e::es) t)(k:x≠"__name__":=by decide)(a:(x==("__debug__":Str))=false:=by decide)
  (l:starEach (e::es) X.env=(false,eval e X.env)::starEach es X.env:=by rfl) (b:(backTo pos$ starEach es X.env).any (·.1)=false:=by rfl):PE X (.Call (.Name x p) (e::es) [] pos) (HR r t):=by
 intro P s c H Q I h;refine MT$ zE I f g i ?_ k a;exact MK (aV (j pos P s c H _ I h) λu S #[v,m,n,R,q]=>d P S c m v u Q n R q) l b
end
end _L
namespace HT
open PySem PyProof.Rows
section
variable {prog:Program}{w:World}{A:Around}{E:Value->Shared->Prop}{s:Shared}
theorem cat_tup{v W:List Value}{Q:Value->Shared->Prop}(m:IsTup s.heap t v.toArray)(o:IsTup s.heap b W.toArray)(i:v≠[])
  (p:W=[]->Q (.ref t) s) (q:W≠[]->Q (.ref s.heap.objs.size) { s with heap:=s.heap.push { cls:=.type "tuple",data:=.seq (v++W).toArray } })
  (g:v.length+W.length<=sizeLine):wpAny (model prog w) A (binaryOp .Add (.ref t)$ .ref b) Q E s:=by
 obtain⟨⟨cls,D,data,j⟩,c,k,n,l⟩:=id m;obtain⟨⟨C,d,data2,S⟩,h,H,N,a⟩:=id o;simp only at k l H a;subst k l H a;have e:v.toArray++W.toArray=(v++W).toArray:=by simp
 by_cases f:W=[]
 ·exact SI #[_,c,Z] #[_,h,Z] RF Sj O3 OV (OS _ _)
   (tuple_addW1 t b v.toArray W.toArray n N D d j S (by simpa using i) (by simp [f])) #[c,h,p f]
 ·refine SI #[_,c,Z] #[_,h,Z] RF Sj O3 OV (OS _ _)
   (tuple_addW2 t b v.toArray W.toArray n N D d j S (by simpa using i) (by simpa using f) (by rw[LY,LY];exact g)) #[c,h,?_]
  rw[e];exact q f
noncomputable def sIx(n d:Nat):Option Int->Nat
 |none=>d
 |some v=>if v < 0 then (v+(n:Int)).toNat else min v.toNat n
theorem sIx_none(n d:Nat):sIx n d none=d:=rfl
theorem sIx_nat(n d k:Nat):sIx n d (some (k:Int))=min k n:=by show(if (k:Int) < 0 then ((k:Int)+(n:Int)).toNat else min (k:Int).toNat n)=min k n;rw[Mf UO,M6]
theorem D6(n d:Nat)(H:d<=n)(o:Option Int):sIx n d o<=n:=by
 cases o with
 |none=>exact H
 |some v=>
  show(if v < 0 then (v+(n:Int)).toNat else min v.toNat n)<=n;by_cases h:v < 0
  ·rw[Mb h];omega
  ·rw[Mf h];exact Nat.min_le_right _ _
theorem Zw(v:Int)(n d:Nat):(if v < 0 then max (v+(n:Int)) 0 else min v (n:Int))=((sIx n d (some v):Nat):Int):=by
 show(if v < 0 then max (v+(n:Int)) 0 else min v (n:Int))=(((if v < 0 then (v+(n:Int)).toNat else min v.toNat n):Nat):Int);by_cases h:v < 0
 ·simp only[Mb h];omega
 ·simp only[Mf h];omega
theorem YO(lo h:Option Int)(n:Nat):Builtin.Slice.sliceAdjust lo h 1 (n:Int)=(((sIx n 0 lo:Nat):Int),((sIx n n h:Nat):Int)):=by
 have H:¬((1:Int) < 0):=by omega
 unfold Builtin.Slice.sliceAdjust;simp only[H,Nu];refine Prod.ext ?_ ?_
 ·cases lo with
  |none=>rfl
  |some v=>exact Zw v n 0
 ·cases h with
  |none=>rfl
  |some v=>exact Zw v n n
theorem YQ(i j:Nat):Builtin.Slice.slicePlaces (i:Int) (j:Int) 1=j - i:=by
 unfold Builtin.Slice.slicePlaces;have h:(1:Int) > 0:=by omega
 simp only[h,PR,Int.ediv_one];split<;>omega
theorem KQ{Q:Option Int->Shared->Prop}(p:IsPart v o)(h:Q o s):wpAny (model prog w) A (Builtin.Slice.slicePartIndex v) Q E s:=by
 cases p with
 |none=>exact UE h
 |int i t=>exact slicePart_int h
theorem sliceApplied_gen{lo:Option Int}{Q:Int×Int×Nat->Shared->Prop}(d:s.heap.IsSliceOf e v c .none)(p:IsPart v lo)(P:IsPart c b)
  (h:Q (((sIx n 0 lo:Nat):Int),1,sIx n n b - sIx n 0 lo) s):wpAny (model prog w) A (Builtin.Slice.sliceApplied (.ref e)$ pure (n:Int)) Q E s:=by
 obtain⟨os,H,f,a⟩:=id d;unfold Builtin.Slice.sliceApplied Builtin.Slice.sliceFields;refine LO$ LO$ My H a (x:=v) Z$ LO$ My H a (x:=c) Z$ LO$ My H a (x:=.none) Z$ LR ?_;refine LO$ UE ?_;show wpAny _ _ (if ((1:Int)==0)=true then _ else _) _ _ s;rw[Mf UN];refine LO$ KQ p$ LO$ KQ P$ LO$ LR ?_;show wpAny _ _ (match Builtin.Slice.sliceAdjust lo b 1 (n:Int) with | (lo,b)=>pure (lo,(1:Int),Builtin.Slice.slicePlaces lo b 1)) _ _ s;rw[YO lo b n];show wpAny _ _ (pure (((sIx n 0 lo:Nat):Int),(1:Int),Builtin.Slice.slicePlaces ((sIx n 0 lo:Nat):Int) ((sIx n n b:Nat):Int) 1)) _ _ s;rw[YQ];exact LR h
theorem vC(X:Array Value)(i k:Nat):((List.range k).filterMap λ(m:Nat)=>X[((i:Int)+(m:Int)*1).toNat]?).toArray=((X.toList.drop i).take k).toArray:=by
 have e:(λ(m:Nat)=>X[((i:Int)+(m:Int)*1).toNat]?)=λm=>X[i+m]?:=by
  funext m;have:((i:Int)+(m:Int)*1).toNat=i+m:=by omega
  rw[this]
 rw[e];have:=pick_run X i k;rw[List.filterMap_map]at this;have a:((λx=>X[x]?) ∘ λx=>i+x)=λm=>X[i+m]?:=rfl;rw[a]at this;rw[this]
theorem getItem_tuple_cut{lo:Option Int}{Q:Value->Shared->Prop}(ht:IsTup s.heap t items)(hs:s.heap.IsSliceOf sl vl vu .none)(pl:IsPart vl lo)(pu:IsPart vu hi)
  (hw:¬(sIx items.size 0 lo=0/\sIx items.size items.size hi=items.size))
  (h:Q (.ref s.heap.objs.size) { s with heap:=s.heap.push { cls:=.type "tuple",data:=.seq ((items.toList.drop$ sIx items.size 0 lo).take$ sIx items.size items.size hi - sIx items.size 0 lo).toArray } })
  (hsz:items.size<=sizeLine):wpAny (model prog w) A (getItem (.ref t)$ .ref sl) Q E s:=by
 have htake:sizeOk (.seq ((items.toList.drop$ sIx items.size 0 lo).take$ sIx items.size items.size hi - sIx items.size 0 lo).toArray):=by show((items.toList.drop$ sIx items.size 0 lo).take$ sIx items.size items.size hi - sIx items.size 0 lo).toArray.size<=sizeLine;rw[LY,Mw,M8,Mq];omega
 have hj:sIx items.size items.size hi<=items.size:=D6 _ _ (LV _) hi;obtain⟨os,hos,hcs,hds⟩:=id hs;have hTs:s.TypeIs (.ref sl) "slice":=#[os,hos,hcs];unfold getItem;try with_reducible refine Ms ?_
 first |refine LO (LR ?_) |skip
 refine LO$ TM ht.typeIs UN ?_;refine LO (ML (name:=Str.ofString "__getitem__") ht.typeIs ND
  (MG ND ht.typeIs entry_tuple_getitem ?_$ args_tuple_getitem _ _))
 show wpAny _ _ (Builtin.Tuple.tupleItemsOf (.ref t) >>= _) _ _ s;refine LO$ tupleItemsOf_ ht ?_;refine LO$ N5 hTs ?_;rw[Mb UN];refine LO$ sliceApplied_gen hs pl pu ?_;have hno:¬((((sIx items.size 0 lo:Nat):Int)==0&&(1:Int)==1&&(sIx items.size items.size hi - sIx items.size 0 lo)==items.size)=true):=by intro q;rw[M9,M9]at q;have q1:((sIx items.size 0 lo:Nat):Int)=0:=eq_of_beq q.1.1;have q2:sIx items.size items.size hi - sIx items.size 0 lo=items.size:=eq_of_beq q.2;exact hw #[UO,UO]
 show wpAny _ _ (if (((sIx items.size 0 lo:Nat):Int)==0&&(1:Int)==1&&(sIx items.size items.size hi - sIx items.size 0 lo)==items.size)=true then _ else _) _ _ s;rw[Mf hno,vC];first
  |exact LO (m:=Builtin.Tuple.tupleExact _) (MJ (LR #[_,Z,LR h]) htake)
  |exact LO (m:=Builtin.Tuple.tupleExact _) (MJ (LO (LR (LR #[_,Z,LR h]))) htake)
  |exact LO (LO (m:=Builtin.Tuple.tupleExact _) (MJ (LR (LR #[_,Z,LR h])) htake))
  |exact LO (LO (m:=Builtin.Tuple.tupleExact _) (MJ (LR #[_,Z,LR h]) htake))
end
end HT
namespace _L
open PySem PySem.Spec PyProof.Rows
abbrev TO:=St->Hp->(Option Int->Hp->Prop)->Prop
def PO(X:Cx)(e:Option Expr)(t:TO):Prop:=
 ∀(p:List (Addr×Obj)) (s:Shared) (a:St) (H:Hp) (Q:Option Int->Hp->Prop),ax X p a H s->t a H Q->
  wpAny (model X.prog X.w) X.A (evalPart e X.env) (λu S=>∃o h,ax X p a h S/\IsPart u o/\Q o h) X.xe s
def gV:TO:=λ_ H Q=>Q none H
inductive xp(Q:Option Int->Hp->Prop)(x:V)(a:Hp):Prop
 |mk(i:_)(_:x= .int i)(_:Q (some i) a)
def iZ(t:TE):TO:=λa H Q=>t a H (xp Q)
section
variable {X:Cx}{e:Expr}{te:TE}{lo hi:Option Expr}{tl th:TO}{pos p2:Pos}
theorem jT:PO X none gV:=by intro p s a H Q I h;rw[evalPart_none];exact LR #[none,H,I,.none,h]
theorem jK(h:PE X e te):PO X (some e) (iZ te):=by intro p s a H Q I b;rw[evalPart_some];refine aV (h p s a H _ I b) λu S z=>?_;obtain⟨x,c,d,r,f⟩:=z;obtain⟨i,rfl,q⟩:=f;obtain⟨t,rfl⟩:=r;exact#[some i,c,d,.int i t,q]
def Hv(X:Cx)(r:V->Option Int->Option Int->Hp->VK->Prop):Prop:=
 ∀(p:List (Addr×Obj)) (s:Shared) (a:St) (H:Hp) (x:V) (v b c:Value) (lo hi:Option Int) (S:Addr) (Q:VK),ax X p a H s->aF x v->s.heap.IsSliceOf S b c .none->IsPart b lo->IsPart c hi->r x lo hi H Q->
  ∃T id,typeLookup (.type T) "__getitem__"=pure (some$ .builtin id)/\s.TypeIs v T/\wpAny (model X.prog X.w) X.A (getItem v$ .ref S) (EP X p a Q) X.xe s
def EN(r:V->Option Int->Option Int->Hp->VK->Prop)(te:TE)(tl th:TO):TE:=λa H Q=>te a H λx h=>tl a h λl b=>th a b λu c=>r x l u c Q
theorem jJ{r:V->Option Int->Option Int->Hp->VK->Prop}(g:Hv X r)(i:PE X e te)(j:PO X lo tl)(k:PO X hi th):PE X (.Subscript e (.Slice lo hi none p2) pos) (EN r te tl th):=by intro p s a H Q I h;refine TJ$ aV (i p s a H _ I h) λv m z=>?_;obtain⟨x,n,o,R,t⟩:=z;refine wpAny_Slice$ aV (j p m a n _ o t) λc y #[l,B,C,P,D]=>aV (k p y a B _ C D) λd S z=>?_;obtain⟨u,f,E,F,G⟩:=z;rw[evalPart_none];refine LR ?_;have J:ax X p a f { S with heap:=S.heap.push { cls:=.type "slice",data:=.fields (List.toArray [c,d,.none]) } }:=E.kept (t':=S.toks) λb O q=>LQ _ q;obtain⟨T,id,K,L,M⟩:=g p { S with heap:=S.heap.push { cls:=.type "slice",data:=.fields (List.toArray [c,d,.none]) } } a f x v c d l u S.heap.objs.size Q J R (TZ ..) P F G;show wpAny (model X.prog X.w) X.A (subscriptTail e (.Slice lo hi none p2) v$ .ref S.heap.objs.size) (EP X p a Q) X.xe { S with heap:=S.heap.push { cls:=.type "slice",data:=.fields (List.toArray [c,d,.none]) } };exact tail_any (ops:=[.ref S.heap.objs.size,v]) L K M (by with_unfolding_all rfl)
noncomputable def bZ(x:List V)(lo hi:Option Int):List V:=(x.drop$ HT.sIx x.length 0 lo).take (HT.sIx x.length x.length hi - HT.sIx x.length 0 lo)
theorem JT(x:List V)(lo hi:Option Int):(bZ x lo hi).length<=x.length:=by unfold bZ;rw[Mw,M8];omega
inductive GG(K:Frag)(x:V)(c b:Option Int)(H:Hp)(Q:VK):Prop
 |mk(a d:_)(_:x= .ref a)(_:aB K H a d)(_:¬(HT.sIx d.length 0 c=0/\HT.sIx d.length d.length b=d.length))(_:∀p,H p=none->Q (.ref p) (am H p (.tup (bZ d c b))))
theorem Ei:Hv X (GG X.K):=by
 intro p s n H x v V t lo hi S Q I R j P k h;obtain⟨a,d,rfl,l,m,q⟩:=h;cases R;obtain⟨i,r,f,g⟩:=I.tuple l;have c:i.toArray.size=d.length:=by rw[LY];exact r.length.symm
 refine#["tuple",_,PyProof.Rows.slot_tuple_getitem.lookup,f.typeIs,?_];refine HT.getItem_tuple_cut f j P k (by rw[c];exact m) ?_ (by rw[c];exact g);rw[c];refine#[.ref s.heap.objs.size,_,I.laid (t':=s.toks) (o:=.tup (bZ d lo hi)) (λb O q=>LQ _ q) (LV _) ?_,Z,q _$ I.hok.fresh$ LV _];exact#[Mg (JT d lo hi) g,_,(r.drop$ HT.sIx d.length 0 lo).take$ HT.sIx d.length d.length hi - HT.sIx d.length 0 lo,SQ _ _]
inductive BJ(K:Frag)(x y:V)(H:Hp)(Q:VK):Prop
 |mk(a b c d:_)(_:x= .ref a)(_:y= .ref b)(_:aB K H a c)(_:aB K H b d)(_:c≠[])(_:c.length+d.length<=sizeLine)(_:d=[]->Q (.ref a) H)(_:d≠[]->∀p,H p=none->Q (.ref p) (am H p (.tup (c++d))))
theorem aC.nil_iff(r:aC x u):u=[]↔x=[]:=by
 cases r with
 |nil=>simp
 |cons _ _=>simp
theorem Ac:fb X (binaryOp .Add) (BJ X.K):=by intro p s A H x y v u Q I d f h;obtain⟨a,b,g,Y,rfl,rfl,j,k,l,c,m,n⟩:=h;cases d;cases f;obtain⟨t,R,P,_⟩:=I.tuple j;obtain⟨i,r,p2,_⟩:=I.tuple k;refine HT.cat_tup P p2 (λz=>l (R.nil_iff.mp z)) (λz=>#[.ref a,H,I,Z,m$ r.nil_iff.mp z]) (λz=>?_) (by rw[<- R.length,<- r.length];exact c);refine#[.ref s.heap.objs.size,_,I.laid (t':=s.toks) (o:=.tup (g++Y)) (λb O q=>LQ _ q) (LV _) ?_,Z,n (λw=>z (r.nil_iff.mpr w)) _$ I.hok.fresh$ LV _];exact#[by rw[LS];exact c,_,R.append r,SQ _ _]
end
noncomputable def oe(n:Nat)(i:Int):Option Nat:=if 0<=i then (if i < n then some i.toNat else none) else if -(n:Int)<=i then some (i+n).toNat else none
noncomputable def fq{a:Type}(x:List a)(i:Int):Option a:=(oe x.length i).bind λj=>x[j]?
theorem Zx(h:oe n i=some j):seqIndex? i n=some j/\j < n/\ -(n:Int)<=i/\i < n:=by
 unfold oe at h;by_cases a:0<=i
 ·rw[Mb a]at h;by_cases H:i < n
  ·rw[Mb H]at h;have e:i.toNat=j:=MM h;exact#[by rw[Tf a H,e],UO,UO,H]
  ·rw[Mf H]at h;cases h
 ·rw[Mf a]at h;by_cases H: -(n:Int)<=i
  ·rw[Mb H]at h;have e:(i+n).toNat=j:=MM h;exact#[by rw[SG UO H,e],UO,H,UO]
  ·rw[Mf H]at h;cases h
theorem Xa{a:Type}{x:List a}{v:a}(h:fq x i=some v):∃j,seqIndex? i x.length=some j/\x[j]?=some v/\j < x.length/\ -(x.length:Int)<=i/\i < x.length:=by
 unfold fq at h;cases e:oe x.length i with
 |none=>rw[e]at h;cases h
 |some j=>rw[e]at h;obtain⟨H,b,c,d⟩:=Zx e;exact#[j,H,h,b,c,d]
theorem jL{a:Type}{x:List a}{j:Nat}{v:a}(h:x[j]?=some v):fq x (j:Int)=some v:=by
 have H:j < x.length:=(List.getElem?_eq_some_iff.mp h).1;have e:oe x.length (j:Int)=some j:=by unfold oe;rw[Mb UO,Mb UO];simp
 unfold fq;rw[e];exact h
def ya(b:Expr):Prop:=∀o i,subscripted b false o i=operate [o,i] (getItem o i)
def EX(X:Cx)(r:R2):Prop:=
 ∀(a S:Expr) (p:List (Addr×Obj)) (s:Shared) (b:St) (H:Hp) (x y:V) (v u:Value) (Q:VK),ax X p b H s->aF x v->aF y u->r x y H Q->
  subscripted S false v u=operate [v,u] (getItem v u)->wpAny (model X.prog X.w) X.A (subscriptTail a S v u) (EP X p b Q) X.xe s
def Ia(X:Cx)(id:String)(r:V->List V->Hp->VK->Prop):Prop:=
 ∀(p:List (Addr×Obj)) (s:Shared) (a:St) (H:Hp) (x:V) (b:List V) (v:Value) (u:List Value) (Q:VK),ax X p a H s->aF x v->aC b u->r x b H Q->
  wpAny (model X.prog X.w) X.A (call (.builtin id) (v::u)) (EP X p a Q) X.xe s
section
variable {X:Cx}{a b:Expr}{ta tb:TE}{pos:Pos}
theorem jo{r:R2}(c:EX X r)(d:PE X a ta)(e:PE X b tb)(f:ya b):PE X (.Subscript a b pos) (dQ r ta tb):=by intro p s g H Q I h;exact TJ$ Cm d e I h λv u S x y i j R k q=>c a b p S g i x y v u Q j R k q (f _ _)
inductive iH(K:Frag)(x y:V)(H:Hp)(Q:VK):Prop
 |mk(p a i v:_)(_:x= .ref p)(_:y= .int i)(_:aI K H p a)(_:fq a i=some v)(_:Q v H)
inductive cw(K:Frag)(x y:V)(H:Hp)(Q:VK):Prop
 |mk(p a i v:_)(_:x= .ref p)(_:y= .int i)(_:aB K H p a)(_:fq a i=some v)(_:Q v H)
inductive Ao(x y:V)(H:Hp)(Q:VK):Prop
 |mk(z i c:_)(_:x= .str z)(_:y= .int i)(_:z.length<=sizeLine)(_:fq z.cps.toList i=some c)(_:Q (.str #[(List.toArray [c])]) H)
theorem jr:EX X (iH X.K):=by
 intro V S P s k H x y v u Q I n o h l;obtain⟨p,L,i,z,rfl,rfl,A,B,q⟩:=h;cases n;obtain⟨t,rfl⟩:=o;obtain⟨d,r,e,M⟩:=I.list A;obtain⟨j,c,C,N,D,F⟩:=Xa B;obtain⟨w,E,R⟩:=r.get C;have G:=r.length;have O:=eR;have f:EP X P k Q w s:=#[z,H,I,R,q];by_cases m:0<=i
 ·have g:i.toNat=j:=by rw[Tf m F]at c;exact MM c
  exact item_listR e.isList m UO (by rw[g];simpa using E) f l
 ·have g:(i+(d.toArray.size:Int)).toNat=j:=by rw[SG UO D]at c;rw[LY,<- G];exact MM c
  exact SE (x:=w) e.isList.typeIs slot_list_getitem.lookup
   (wpAny_getItem_list_neg (Q:=λr J=>r=w/\EP X P k Q r J) e.isList UO (by rw[LY]<;>omega) UO (by rw[g];simpa using E) #[Z,f]) l
theorem jH:EX X (cw X.K):=by
 intro V S P s c H x y v u Q I e g h k;obtain⟨p,D,i,z,rfl,rfl,l,m,q⟩:=h;cases e;obtain⟨t,rfl⟩:=g;obtain⟨n,r,d,F⟩:=I.tuple l;obtain⟨j,o,A,G,J,L⟩:=Xa m;obtain⟨w,E,R⟩:=r.get A;have B:=r.length;have M:=eR;have f:EP X P c Q w s:=#[z,H,I,R,q];exact SE (x:=w) d.typeIs slot_tuple_getitem.lookup
  (getItem_tuple (j:=j) (Q:=λr C=>r=w/\EP X P c Q r C) d UO UO (by rw[LY,<- B];exact o) (by simpa using E) #[Z,f]) k
theorem QX:EX X Ao:=by
 intro V S p s o H x y v u Q I r R h e;obtain⟨z,i,c,rfl,rfl,w,f,q⟩:=h;obtain⟨t,rfl⟩:=r;obtain⟨T,rfl⟩:=R;obtain⟨j,d,g,A,k,l⟩:=Xa f;have m:z.cps.toList.length=z.length:=by simp [Str.length]
 rw[m]at d k l;have B:=eR;exact tail_any (typeIs_str s z t) slot_str_getitem.lookup (getItem_str (c:=c) (by
  have E:decide (i < -(2 ^ 63:Int))=false:=LZ UO;have n:decide (i≥2 ^ 63)=false:=LZ UO;rw[E,n,RU]) (by rw[d];simpa using g) #[.str #[(List.toArray [c])],H,I.tok _,#[_,Z],q]) e
theorem YR(i:List Value)(n j:Nat)(u:Value):Obj.mapSeq (·.setIfInBounds j u) { cls:=.type "list",data:=.seq i.toArray n }={ cls:=.type "list",data:=.seq (i.set j u).toArray n }:=by simp [Obj.mapSeq]
theorem ax.lst(I:ax X c d H s)(h:H p=some (.lst x)):
  ∃(i:List Value) (n:Nat),aC x i/\s.heap.get? p=some { cls:=.type "list",data:=.seq i.toArray n }/\x.length<=sizeLine:=by
 obtain⟨z,i,n,r,e⟩:=I.hok p _ h;exact#[i,n,r,e,z]
theorem ax.lstUpd{c i:List Value}{f:Obj->Obj}(I:ax X d j H s)(h:H p=some (.lst o))
  (k:s.heap.get? p=some { cls:=.type "list",data:=.seq c.toArray n }) (g:f { cls:=.type "list",data:=.seq c.toArray n }={ cls:=.type "list",data:=.seq i.toArray N }) (r:aC y i) (l:y.length<=sizeLine) (t:Nat):
  ax X d j (am H p$ .lst y) { s with heap:=s.heap.update p f,toks:=t }:=by
 have e:(s.heap.update p f).get? p=some { cls:=.type "list",data:=.seq i.toArray N }:=by rw[Heap.get?_update_self f k (by rw[g]<;>rfl),g]
 refine I.write (x:=p) (e:=p) (by rw[h];trivial) (.inl Z) (λb u m q=>(Heap.get?_update_other _ _$ Ne.symm m).trans q) #[_,e] ?_;exact#[l,i,N,r,e]
inductive oK(o i v:V)(H:Hp)(Q:Hp->Prop):Prop
 |mk(p a k j:_)(_:o= .ref p)(_:i= .int k)(_:H p=some (.lst a))(_:oe a.length k=some j)(_:Q (am H p (.lst (a.set j v))))
theorem zY:Fb X oK:=by
 intro P s z H o i v O F u Q I R A B h;obtain⟨p,C,k,j,rfl,rfl,l,D,q⟩:=h;cases R;obtain⟨t,rfl⟩:=A;obtain⟨c,n,r,e,E⟩:=I.lst l;obtain⟨d,G,m,w⟩:=Zx D;have f:=r.length;have J:=eR;have x:ax X P z (am H p$ .lst$ C.set j v) { s with heap:=s.heap.update p (Obj.mapSeq (·.setIfInBounds j u)) }:=
  I.lstUpd l e (YR c n j u) (r.set B j) (by rw[Pt];exact E) s.toks
 by_cases y:0<=k
 ·have g:k.toNat=j:=by rw[Tf y w]at d;exact MM d
  exact PySem.W.ki_setAt e y UO (by rw[LY,<- f];exact w) (by rw[g];exact#[_,x,q])
 ·have g:(k+(c.toArray.size:Int)).toNat=j:=by rw[SG UO m]at d;rw[LY,<- f];exact MM d
  exact PySem.W.ki_setBack e UO (by rw[LY,<- f];exact m) UO (by rw[g];exact#[_,x,q])
theorem Xn(lo H:Option Int)(n:Nat):(sliceBounds lo H none n).1=((HT.sIx n 0 lo:Nat):Int)/\(sliceBounds lo H none n).2.1=((HT.sIx n n H:Nat):Int)/\(sliceBounds lo H none n).2.2=1:=by
 refine#[?_,?_,Z]
 ·cases lo with
  |none=>simp [sliceBounds,HT.sIx]
  |some i=>
   simp only[sliceBounds,HT.sIx,Sq,show(1:Int) > 0 by decide,PR];by_cases h:i < 0
   ·simp only[h,PR]<;>omega
   ·simp only[h,Nu]<;>omega
 ·cases H with
  |none=>simp [sliceBounds,HT.sIx]
  |some i=>
   simp only[sliceBounds,HT.sIx,Sq,show(1:Int) > 0 by decide,PR];by_cases h:i < 0
   ·simp only[h,PR]<;>omega
   ·simp only[h,Nu]<;>omega
theorem Qc(i:List Value)(lo h:Option Int):slicePick i.toArray lo h none=((i.drop$ HT.sIx i.length 0 lo).take$ HT.sIx i.length i.length h - HT.sIx i.length 0 lo).toArray:=by obtain⟨H,c,d⟩:=Xn lo h i.toArray.size;unfold slicePick;rw[H,c,d];simp only[sliceRange_one,pick_run,LY]<;>rfl
inductive vN(K:Frag)(x:V)(c b:Option Int)(H:Hp)(Q:VK):Prop
 |mk(a d:_)(_:x= .ref a)(_:aI K H a d)(_:∀p,H p=none->Q (.ref p) (am H p (.lst (bZ d c b))))
theorem zu:Hv X (vN X.K):=by intro p s m H x v V n lo e S Q I R g P i h;obtain⟨a,c,rfl,j,q⟩:=h;cases R;obtain⟨k,r,f,l⟩:=I.list j;have d:=r.length;refine#["list",_,slot_list_getitem.lookup,f.isList.typeIs,?_];refine wpAny_getItem_list_slice f.isList g P i .none UP ?_ (by rw[LY]<;>omega);rw[Qc,<- d];refine#[.ref s.heap.objs.size,_,I.laid (t':=s.toks) (o:=.lst (bZ c lo e)) (λb O q=>LQ _ q) (LV _) ?_,Z,q _$ I.hok.fresh$ LV _];exact#[Mg (JT c lo e) l,_,0,(r.drop$ HT.sIx c.length 0 lo).take$ HT.sIx c.length c.length e - HT.sIx c.length 0 lo,LX _ Z]
noncomputable def c8:V->Bool
 | .non=>true
 | .bl _=>true
 | .int _=>true
 | .str _=>true
 |_=>false
noncomputable def nM:V->V->Bool
 | .non,.non=>true
 | .bl a,.bl b=>a==b
 | .bl a,.int b=>(if a then 1 else 0)==b
 | .int a,.bl b=>a==(if b then 1 else 0)
 | .int a,.int b=>a==b
 | .str a,.str b=>a==b
 |_,_=>false
theorem tM(R:aF y u)(r:aF x v)(F:c8 y=true)(f:c8 x=true):SeqAt.EqAt A s u v (nM y x):=by
 cases y with
 |non=>
  cases R;cases x with
  |non=>cases r;exact SeqAt.EqAt.same _
  |bl b=>cases r;exact SeqAt.EqAt.none_bool b
  |int b=>obtain⟨t,rfl⟩:=r;exact SeqAt.EqAt.none_int b t
  |str b=>obtain⟨t,rfl⟩:=r;exact SeqAt.EqAt.none_str b t
  |_=>exact absurd (show false=true from f) Md
 |bl a=>
  cases R;cases x with
  |non=>cases r;exact SeqAt.EqAt.bool_none a
  |bl b=>cases r;exact SeqAt.EqAt.bool_bool a b
  |int b=>obtain⟨t,rfl⟩:=r;exact SeqAt.EqAt.bool_int a b t
  |str b=>obtain⟨t,rfl⟩:=r;exact SeqAt.EqAt.bool_str a b t
  |_=>exact absurd (show false=true from f) Md
 |int a=>
  obtain⟨T,rfl⟩:=R;cases x with
  |non=>cases r;exact SeqAt.EqAt.int_none a T
  |bl b=>cases r;exact SeqAt.EqAt.int_bool a T b
  |int b=>obtain⟨t,rfl⟩:=r;exact SeqAt.EqAt.int_int a T b t
  |str b=>obtain⟨t,rfl⟩:=r;exact RN a T b t
  |_=>exact absurd (show false=true from f) Md
 |str a=>
  obtain⟨T,rfl⟩:=R;cases x with
  |non=>cases r;exact SeqAt.EqAt.str_none a T
  |bl b=>cases r;exact SeqAt.EqAt.str_bool a T b
  |int b=>obtain⟨t,rfl⟩:=r;exact RM a T b t
  |str b=>obtain⟨t,rfl⟩:=r;exact SeqAt.EqAt.str_str a T b t
  |_=>exact absurd (show false=true from f) Md
 |_=>exact absurd (show false=true from F) Md
noncomputable def n9(x:V)(u:Value):Bool:=match u with
 | .none=>nM .non x
 | .bool b=>nM (.bl b) x
 | .int i _=>nM (.int i) x
 | .str z _=>nM (.str z) x
 |_=>false
theorem tP(r:aF y u)(f:c8 y=true):n9 x u=nM y x:=by
 cases y with
 |non=>cases r;rfl
 |bl b=>cases r;rfl
 |int i=>obtain⟨t,rfl⟩:=r;rfl
 |str z=>obtain⟨t,rfl⟩:=r;rfl
 |_=>exact absurd (show false=true from f) Md
theorem Jd:∀{c:List V} {U:List Value},aC c U->c.all c8=true->U.any (n9 x)=c.any λy=>nM y x
 |_,_,.nil,_=>rfl
 |y::c,u::U,.cons r t,f=>by rw[RT,M9]at f;rw[OJ,OJ,tP r f.1,Jd t f.2]
theorem qF(R:aF x v)(F:c8 x=true):∀{c:List V} {U:List Value},aC c U->c.all c8=true->∀u∈U,SeqAt.EqAt A s u v (n9 x u)
 |_,_,.nil,_=>λu hu=>by cases hu
 |y::c,u::U,.cons r t,f=>λd hu=>by
  rw[RT,M9]at f;rcases List.mem_cons.mp hu with rfl |hu
  ·rw[tP r f.1];exact tM r R f.1 F
  ·exact qF R F t f.2 d hu
noncomputable def oG(x:V)(c:List V):Bool:=c.any λy=>nM y x
inductive Gz(K:Frag)(a:Bool)(x y:V)(H:Hp)(Q:VK):Prop
 |mk(p b:_)(_:y= .ref p)(_:aI K H p b∨aB K H p b)(_:c8 x=true)(_:b.all c8=true)(_:Q (.bl (if a then !oG x b else oG x b)) H)
theorem zB:fb X (compareOp .In) (Gz X.K false):=by
 intro d s j H x y v u Q I R e h;obtain⟨p,k,rfl,hq,F,f,q⟩:=h;cases e;rcases hq with hq |hq
 ·obtain⟨i,r,P,g⟩:=I.list hq;refine SeqAt.in_listAt (n9 x) P.isList (λw c=>qF R F r f w (by simpa using c)) #[.bl _,H,I,Z,?_];rw[show i.toArray.any (n9 x)=i.any (n9 x) by simp,Jd r f];exact q
 ·obtain⟨i,r,P,g⟩:=I.tuple hq;refine SeqAt.in_tupleAt (n9 x) P (λw c=>qF R F r f w (by simpa using c)) #[.bl _,H,I,Z,?_];rw[show i.toArray.any (n9 x)=i.any (n9 x) by simp,Jd r f];exact q
theorem Jr:fb X (compareOp .NotIn) (Gz X.K true):=by
 intro d s j H x y v u Q I R e h;obtain⟨p,k,rfl,hq,F,f,q⟩:=h;cases e;rcases hq with hq |hq
 ·obtain⟨i,r,P,g⟩:=I.list hq;refine SeqAt.notIn_listAt (n9 x) P.isList (λw c=>qF R F r f w (by simpa using c)) #[.bl _,H,I,Z,?_];rw[show i.toArray.any (n9 x)=i.any (n9 x) by simp,Jd r f];exact q
 ·obtain⟨i,r,P,g⟩:=I.tuple hq;refine SeqAt.notIn_tupleAt (n9 x) P (λw c=>qF R F r f w (by simpa using c)) #[.bl _,H,I,Z,?_];rw[show i.toArray.any (n9 x)=i.any (n9 x) by simp,Jd r f];exact q
theorem jO:er X (.builtin "len") (λx H Q=>∃p y,x=[.ref p]/\(aI X.K H p y∨aB X.K H p y)/\Q (.int y.length) H):=by
 intro d s g H x U Q I r h;obtain⟨p,y,rfl,hq,q⟩:=h;obtain⟨u,rfl,e⟩:=eY r;cases e;have j:=eR;rcases hq with hq |hq
 ·obtain⟨i,R,P,f⟩:=I.list hq;have c:=R.length;exact Calls.call_len_list P.isList (by simp only[LY]<;>omega) #[.int y.length,H,I.tok _,#[s.toks+1,by rw[LY,c]],q]
 ·obtain⟨i,R,P,f⟩:=I.tuple hq;have c:=R.length;exact len_tuple P (by simp only[LY]<;>omega) #[.int y.length,H,I.tok _,#[s.toks+1,by rw[LY,c]],q]
theorem Js:er X (.type "list") (λx H Q=>∃p y,x=[.ref p]/\(aI X.K H p y∨aB X.K H p y)/\∀l,H l=none->Q (.ref l) (am H l$ .lst y)):=by
 intro P s z H x U Q I r h;obtain⟨p,y,rfl,hq,q⟩:=h;obtain⟨u,rfl,A⟩:=eY r;cases A;have f:∀(i:List Value),aC y i->y.length<=sizeLine->∀(c:Heap) (C:Nat),(∀b O,s.heap.get? b=some O->c.get? b=some O)->
   c.get? s.heap.objs.size=some { cls:=.type "list",dict:=none,data:=.seq i.toArray C,slots:=(List.toArray []) }->EP X P z Q (.ref s.heap.objs.size) { s with heap:=c }:=λi R d c C k e=>
  #[.ref s.heap.objs.size,_,I.laid (t':=s.toks) k (LV _) (show aN X.prog X.w _ c _ (.lst y) from #[d,i,C,R,e]),Z,q _$ I.hok.fresh$ LV _]
 rcases hq with hq |hq
 ·obtain⟨i,R,j,d⟩:=I.list hq;have g:=R.length;obtain⟨o,m,t,n,v⟩:=j.isList;exact call_list_seq p (.inl Z) m t v (λc C k e=>f i R d c C k e) (by simp only[LY]<;>omega)
 ·obtain⟨i,R,j,d⟩:=I.tuple hq;have g:=R.length;obtain⟨o,m,t,n,v⟩:=j;exact call_list_seq p (.inr Z) m t v (λc C k e=>f i R d c C k e) (by simp only[LY]<;>omega)
theorem jY:er X (.type "tuple") (λx H Q=>∃p y,x=[.ref p]/\((aI X.K H p y/\∀l,H l=none->Q (.ref l) (am H l$ .tup y))∨(aB X.K H p y/\Q (.ref p) H))):=by
 intro P s g H x U Q I r h;obtain⟨p,y,rfl,h⟩:=h;obtain⟨u,rfl,n⟩:=eY r;cases n;rcases h with ⟨d,q⟩ | ⟨d,q⟩
 ·obtain⟨i,R,f,j⟩:=I.list d;have k:=R.length;refine call_tuple_list f.isList (λc t=>?_) (by simp only[LY]<;>omega);have m:ax X P g H { s with heap:=c }:=I.kept (t':=s.toks) t;have v:ax X P g (am H c.objs.size$ .tup y) { s with heap:=c.push { cls:=.type "tuple",data:=.seq i.toArray } }:=
   m.laid (t':=s.toks) (λb o e=>LQ _ e) (LV _) (show aN X.prog X.w _ _ _ (.tup y) from #[j,i,R,SQ _ _])
  exact#[.ref c.objs.size,_,v,Z,q _$ m.hok.fresh$ LV _]
 ·obtain⟨i,R,f,j⟩:=I.tuple d;exact call_tuple_same f #[.ref p,H,I,Z,q]
def IS(K:Frag)(T:String)(x:V)(H:Hp):Prop:=match x with
 | .str _=>T="str"
 | .int _=>T="int"
 | .ref p=>(T="list"/\∃c,aI K H p c)∨(T="tuple"/\∃o,K.lookup p=some o/\o.cls= .type "tuple"/\o.dict=none)∨
   (T="dict"/\((∃k,H p=some (.dK k))∨∃k,H p=some (.dT k)))∨(T="set"/\∃S n,H p=some (.set S n))
 |_=>False
theorem xC(I:ax X j u H s)(r:aF x v)(d:IS X.K T x H):
  s.TypeIs v T/\∀a,v= .ref a->∃O,s.heap.get? a=some O/\O.dict=none:=by
 cases x with
 |str z=>obtain⟨t,rfl⟩:=r;cases (show T="str" from d);exact#[typeIs_str s z t,λ_ e=>nomatch e]
 |int i=>obtain⟨t,rfl⟩:=r;cases (show T="int" from d);exact#[typeIs_int s i t,λ_ e=>nomatch e]
 |ref p=>
  cases r;rcases d with ⟨rfl,w,l⟩ | ⟨rfl,o,h,m,f⟩ | ⟨rfl,h⟩ | ⟨rfl,S,n,h⟩
  ·obtain⟨q,_,P,_⟩:=I.list l;refine#[P.isList.typeIs,λa e=>?_];cases e;obtain⟨o,n,e,c,f,_⟩:=P;exact#[o,e,f]
  ·refine#[#[o,I.kIn p o h,m],λa e=>?_];cases e;exact#[o,I.kIn _ o h,f]
  ·have z:∃o,s.heap.get? p=some o/\o.ExactDict:=by
    rcases h with ⟨k,h⟩ | ⟨k,h⟩
    ·obtain⟨_,_,_,_,o,_,_,e,E,_⟩:=I.hok p _ h;exact#[o,e,E]
    ·obtain⟨_,_,_,_,o,_,_,e,E,_⟩:=I.hok p _ h;exact#[o,e,E]
   obtain⟨o,e,E⟩:=z;refine#[#[o,e,E.1],λa g=>?_];cases g;exact#[o,e,E.2.1]
  ·obtain⟨o,_,_,_,e,E,_⟩:=I.hok p _ h;refine#[#[o,e,E.1],λa g=>?_];cases g;exact#[o,e,E.2.1]
 |_=>exact False.elim d
def IL(K:Frag)(T:String)(r:V->List V->Hp->VK->Prop)(t:TE):TE:=λc H Q=>t c H λx h=>IS K T x h/\r x [] h Q
def HQ(K:Frag)(T:String)(r:V->List V->Hp->VK->Prop)(d:TE)(t:TA):TE:=λc H Q=>d c H λx h=>IS K T x h/\t c h λe f=>r x e f Q
variable {o e:Expr}{es:List Expr}{to:TE}{t:TA}{name:Str}{apos cpos:Pos}{T id:String}{r:V->List V->Hp->VK->Prop}
theorem DT(P:PlainAttrs T)(S:Slot T name id)(f:typeOf (.builtin id)=pure (.type "method_descriptor"))(j:Ia X id r)(k:PE X o to)
  (c:attributeBase o name X.env (eval o X.env)=eval o X.env:=by rfl) (d:(apos.endLine==cpos.line)=true:=by rfl):PE X (.Call (.Attribute o name apos) [] [] cpos) (IL X.K T r to):=by
 intro p s g H Q I h;refine wpAny_Call_method0_late c d$ aV (k p s g H _ I h) λv l z=>?_;obtain⟨x,m,i,R,n,q⟩:=z;obtain⟨u,w⟩:=xC i R n;exact#[T,id,P,S,f,u,w,Ph Z$ PySem.evalArgs_none$ j p l g m x [] v [] Q i R .nil q]
theorem jZ(P:PlainAttrs T)(S:Slot T name id)(i:typeOf (.builtin id)=pure (.type "method_descriptor"))(m:Ia X id r)(n:PE X o to)(q:PA X (e::es) t)
  (d:attributeBase o name X.env (eval o X.env)=eval o X.env:=by rfl)
  (g:((backTo cpos$ starEach (e::es) X.env).all (λx=>!x.1)&&(backToKw cpos$ keywordEach [] X.env).all (λx=>x.1.isSome)
   &&decide ((e::es).length+([]:List Keyword).length+(if ([]:List Keyword).isEmpty then 0 else 1) < 30))=true:=by rfl)
  (f:(apos.endLine==cpos.line)=true:=by rfl) (u:starEach (e::es) X.env=(false,eval e X.env)::starEach es X.env:=by rfl) (c:(backTo cpos$ starEach es X.env).any (·.1)=false:=by rfl):
  PE X (.Call (.Attribute o name apos) (e::es) [] cpos) (HQ X.K T r to t):=by
 intro p s j H Q I h;refine wpAny_Call_method_late d g f Z$ aV (n p s j H _ I h) λv w z=>?_;obtain⟨x,y,k,R,A,B⟩:=z;obtain⟨C,D⟩:=xC k R A;refine#[T,id,P,S,i,C,D,?_];have l:=q cpos p w j y _ k B;rw[u]at l ⊢;refine Ph (by show(false||(backTo cpos$ starEach es X.env).any (·.1))=false;rw[c]<;>rfl)$ Sb ?_;exact aV l λU E #[F,G,J,L,M]=>m p E j G x F v U Q J R L M
end
def EY(X:Cx)(id:String)(r:V->List V->Hp->VK->Prop):Prop:=
 ∀(p:List (Addr×Obj)) (s:Shared) (a:St) (H:Hp) (x:V) (b:List V) (v:Value) (u:List Value) (Q:VK),ax X p a H s->aF x v->aC b u->r x b H Q->
  wpAny (model X.prog X.w) X.A (call (.builtin id) (v::u)) (EP X p a Q) X.xe s
theorem aC.one:∀{x:V} {U:List Value},aC [x] U->∃u,U=[u]/\aF x u
 |_,_,.cons r .nil=>#[_,Z,r]
theorem aC.zero:∀{u:List Value},aC [] u->u=[]
 |_,.nil=>rfl
theorem aC.dropLast(h:aC x u):aC x.dropLast u.dropLast:=by
 induction h with
 |nil=>exact .nil
 |cons r t i=>
  cases t with
  |nil=>exact .nil
  |cons q T=>exact .cons r i
theorem aC.reverse(h:aC x u):aC x.reverse u.reverse:=by
 induction h with
 |nil=>exact .nil
 |cons r t i=>rw[OX,OX];exact aC.append i (.cons r .nil)
theorem YS{c:Type}(l:List c):l.eraseIdx (l.length - 1)=l.dropLast:=by
 induction l with
 |nil=>rfl
 |cons a r i=>
  cases r with
  |nil=>rfl
  |cons b r=>
   have e:(a::b::r).length - 1=((b::r).length - 1)+1:=by have h:(a::b::r).length=r.length+2:=rfl;have H:(b::r).length=r.length+1:=rfl;omega
   rw[e,List.eraseIdx_cons_succ,i];all_goals rfl
section
variable {X:Cx}{pins:List (Addr×Obj)}{σ:St}{H:Hp}{s:Shared}{l b:Addr}{xs ys zs:List V}
theorem ax.lset{i its':List Value}{f:Array Value->Array Value}(I:ax X pins σ H s)(h:H l=some (.lst xs))
  (e:s.heap.get? l=some { cls:=.type "list",data:=.seq i.toArray n }) (a:f i.toArray=its'.toArray) (c:aC ys its') (d:ys.length<=sizeLine):
  ax X pins σ (am H l$ .lst ys) { s with heap:=s.heap.update l (Obj.mapSeq f),toks:=t }:=by
 have q:=PySem.IsL.update e f;rw[a]at q;refine I.write (x:=l) (e:=l) (by rw[h];exact trivial) (.inl Z) (λB u g j=>(Mn s.heap (Obj.mapSeq f)$ ME g).trans j) #[_,q] ?_;exact#[d,its',_,c,q]
theorem ax.lnew{t':Nat}(I:ax X pins σ H s)(h:aC ys i)(a:ys.length<=sizeLine):
  ax X pins σ (am H s.heap.objs.size$ .lst ys) { s with heap:=s.heap.push { cls:=.type "list",data:=.seq i.toArray },toks:=t' }:=
 I.laid (λ_ _ q=>LQ _ q) (LV _) #[a,i,0,h,LX _ Z]
theorem ax.fresh(I:ax X pins σ H s):H s.heap.objs.size=none:=I.hok.fresh (LV _)
theorem ax.lstM(I:ax X pins σ H s)(h:H l=some (.lst xs)):xs.length<=sizeLine/\∃(i:List Value) (n:Nat),aC xs i/\xs.length=i.length/\s.heap.get? l=some { cls:=.type "list",data:=.seq i.toArray n }:=by obtain⟨z,i,n,r,e⟩:=I.hok l _ h;exact#[z,i,n,r,r.length,e]
theorem mX(h:n<=sizeLine):Builtin.List.listTooLong n=false:=by unfold Builtin.List.listTooLong;exact LZ UO
end
section
variable {X:Cx}
inductive iw(x:V)(a:List V)(H:Hp)(Q:VK):Prop
 |mk(l b y:_)(_:x= .ref l)(_:a=[y])(_:H l=some (.lst b))(_:b.length < sizeLine)(_:Q .non (am H l (.lst (b++[y]))))
theorem jM:EY X "list.append" iw:=by intro p s d H x V v U Q I R b h;obtain⟨l,f,y,rfl,rfl,a,g,q⟩:=h;cases R;obtain⟨u,rfl,c⟩:=b.one;obtain⟨z,i,n,r,j,e⟩:=I.lstM a;refine Rl F.slot_list_append #[_,e,Z] F.entry_list_append (F.args_list_append_2 _ _) (PySem.list_append l i.toArray n u (by rw[LY];omega)) #[e,?_];refine#[.non,_,I.lset (its':=i++[u]) a e UP (r.append$ .cons c .nil) ?_,Z,q];rw[LS,N0];omega
inductive oJ(x:V)(a:List V)(H:Hp)(Q:VK):Prop
 |mk(l b c d:_)(_:x= .ref l)(_:a=[.ref b])(_:H l=some (.lst c))(_:H b=some (.lst d))(_:c.length+d.length<=sizeLine)(_:Q .non (am H l (.lst (c++d))))
theorem zC:EY X "list.extend" oJ:=by
 intro p s t H x V v U Q I R g h;obtain⟨l,b,w,y,rfl,rfl,f,j,A,q⟩:=h;cases R;obtain⟨u,rfl,k⟩:=g.one;cases k;obtain⟨z,a,n,r,B,e⟩:=I.lstM f;obtain⟨C,i,N,m,o,E⟩:=I.lstM j;have d:a.toArray.size+i.toArray.size<=sizeLine:=by rw[LY,LY];omega
 have c:¬(!a.toArray.isEmpty&&Builtin.List.listTooLong (a.toArray.size+i.toArray.size))=true:=by rw[mX d,PQ];exact Md
 refine Rl Tn #[_,e,Z] Tc (SR _ _)
  (AutoSeq1.list_extend_list_list_0 l a.toArray n b i.toArray N c (by rw[LY];omega) UO) #[e,E,?_]
 refine#[.non,_,I.lset (its':=a++i) f e UP (r.append m) ?_,Z,q];rw[LS];omega
inductive GF(x:V)(a:List V)(H:Hp)(Q:VK):Prop
 |mk(l b y:_)(_:x= .ref l)(_:a=[])(_:H l=some (.lst b))(_:b[b.length - 1]?=some y)(_:Q y (am H l (.lst b.dropLast)))
theorem C0:EY X "list.pop" GF:=by
 intro p s m H x V v U Q I R d h;obtain⟨l,o,y,rfl,rfl,c,f,q⟩:=h;cases R;have a:=d.zero;subst a;obtain⟨z,i,n,r,g,e⟩:=I.lstM c;obtain⟨u,j,k⟩:=r.get f;have b:i.toArray[i.toArray.size - 1]?=some u:=by show i.toArray[i.length - 1]?=some u;rw[<- Nv,<- g];exact j
 refine Rl F.slot_list_pop #[_,e,Z] F.entry_list_pop (F.args_list_pop_1 _) (MeetsSeq.list_pop_last l i.toArray n u b (by rw[LY];omega)) #[e,?_];refine#[y,_,I.lset (its':=i.dropLast) c e ?_ r.dropLast ?_,k,q]
 ·show i.toArray.eraseIdxIfInBounds (i.toArray.size - 1)=i.dropLast.toArray;rw[LY,List.eraseIdxIfInBounds_toArray,YS]
 ·rw[List.length_dropLast];omega
inductive vK(x y:V)(H:Hp)(Q:VK):Prop
 |mk(l b a c:_)(_:x= .ref l)(_:y= .ref b)(_:H l=some (.lst a))(_:H b=some (.lst c))(_:a.length+c.length<=sizeLine)(_:∀p,H p=none->Q (.ref p) (am H p (.lst (a++c))))
theorem qi:fb X (binaryOp .Add) vK:=by
 intro p s m H x y v u Q I R c h;obtain⟨l,b,o,t,rfl,rfl,d,f,w,q⟩:=h;cases R;cases c;obtain⟨z,a,n,r,A,e⟩:=I.lstM d;obtain⟨B,i,N,g,j,E⟩:=I.lstM f;refine PySem.P.add_list e E ?_ (by rw[LY,LY];omega);have k:a.toArray++i.toArray=(a++i).toArray:=by simp
 rw[k];exact#[.ref _,_,I.lnew (t':=s.toks) (r.append g) (by rw[LS];omega),Z,q _ I.fresh]
end
end _L
namespace Att
open PySem PySem.W PySem.Calls PyProof.Rows
theorem J1{P:Params}:∀(N:List Int) (v:List Value),WellAll P h v (N.map WData.int)->IntsAre v N:=by
 intro N;induction N with
 |nil=>intro v w;rw[TY]at w;cases w;exact .nil
 |cons n N i=>
  intro v w;rw[Ni]at w;cases w with
  |cons a b=>cases a;exact .cons _ _$ i _ b
theorem si{l:OpenLaw}(k:l.most=some n){P:Params}
  (H:l.row.toRowW.claim.pre args=true) (g:WellAll P h v args):
  ∃a V N,v=[Value.ref a]/\args=[WData.list$ N.map WData.int]/\h.get? a=some { cls:=.type "list",data:=.seq V.toArray }/\IntsAre V N/\N.length<=n:=by
 have i:WShape.hasAll [] args [.list .int]=true:=(pre_splitW H).1;have j:l.pre.holds [] { args:=args }=true:=(pre_splitW H).2;obtain⟨d,r,rfl,m,o⟩:=hasAllW_cons i;obtain rfl:=hasAllW_nil o;obtain⟨x,rfl,p⟩:=hasW_list m;obtain⟨N,rfl⟩:=items_int p;have b:N.length<=n:=by
  unfold OpenLaw.pre at j;have e:(WTm.not$ .lt (.lit$ .int (n:Int))$ .len$ .arg 0).holds [] { args:=[.list$ N.map .int] }=true:=by have e:=(holds_andW j).1;rw[k]at e;exact e
  have f:=condW_of e (w_not$ w_lt w_lit$ w_len_list$ w_arg Z);rw[LU]at f;refine Pg λq=>?_;have Q:(n:Int) < ((N.length:Nat):Int):=by omega
  first
   | (rw[Mc Q]at f;exact absurd f UN)
   | (simp at f;omega)
 cases g with
 |cons w W=>
  cases W;cases w with
  |list s c=>exact#[_,_,N,Z,Z,s,J1 N _ c,b]
theorem rR(l:OpenLaw)(args:List WData):l.row.toRowW.claim.post args (.bool true) args=true:=
 postW_of (r:=l.row.toRowW) (X:=(true==true))
  (show WShape.has [] (.bool true) .bool=true by first |rfl |decide |simp [WShape.has,WShape.arms,WShape.armsAll])
  (show(WTm.eq .res$ .lit$ .bool true).value [] { args:=args,res:=some (.bool true),after:=args }=some (.bool$ true==true) from w_eq_bool (w_res Z) w_lit) Z
theorem attach_call{l:OpenLaw}{y:World->Heap->Prop}{d:DefRec}
  (x:l.most=some n) (g:d.params.defaults=[])
  (call:∀(w:World) (S s:Shared) (m M:Str->Option Value) (F:Addr) (o:Obj) (p C D:Value) (a:Addr) (v:List Value) (N:List Int),
   Ground q L [] z w S m M s.heap->y w s.heap->
   s.heap.get? F=some o->o.data= .func (docDef d.name d.params d.body d.scope p C D)->s.heap.CodeRec C d.name->m d.name=some (.ref F)->
   s.heap.get? a=some { cls:=.type "list",data:=.seq v.toArray }->IntsAre v N->N.length<=n->s.gens=(List.toArray [])->
   codeAny (model l.prog w) callerA (.call (.ref F) #[[.ref a],[]]) (λr e=>r= .ok (.ret$ .bool true)/\OldK s.heap e.heap/\e.os=s.os/\AllBare e.gens) s):
  WalkO q L z y l.row.toRowW d [] (λf v=>PySem.call f v):=by
 intro w S s m M G Y F o p C D B kV E I i t j J A V W H u K k O;obtain rfl:B= .none:=Dflts.none t g;obtain rfl:kV= .none:=Dflts.noKw t;obtain⟨a,v,N,rfl,rfl,b,h,c⟩:=si x H k;refine enter_call$ Oh (call w S s m M F o p C D a v N G Y E (fd_plain I) i j b h c J) λr e P=>?_;obtain⟨rfl,Q,R,T⟩:=P;exact#[.inl #[.bool true,.bool true,[],Z,λ_=>Z,.bool true,rR l _,λ_=>#[List.Pairwise.nil,λ_ U=>(nomatch U)]],Q,R,T]
end Att
namespace _L
open PySem PySem.Spec PyProof.Rows
theorem QB:∀{v:List Value} {N:List Int},IntsAre v N->aC (N.map V.int) v
 |_,_,.nil=>.nil
 |_,_,.cons n t h=>.cons #[t,Z] (QB h)
def Ca(H:Hp):Prop:=∀b,H b=none∨∃o x,H b=some (.frz o$ .lst x)
theorem uD{P:Program}{K:Frag}{S:Shared}{i:List Value}
  (Y:K.In S.heap) (l:S.heap.Ns mainGlobals M) (c:S.heap.Ns builtinsNs mb) (Q:∀x:Str,x≠"__name__"->mb x=bootBuiltins x) (p:S.heap.NoLimit) (hg:S.gens=(List.toArray []))
  (J:S.heap.get? a=some { cls:=.type "list",data:=.seq i.toArray }) (hi:IntsAre i O) (hl:O.length<=sizeLine) (hr:bJ k callerA)
  (F:∀f:Heap,K.In f->f.Ns mainGlobals M->af P w K M f CX k fa fd [x] sp) (j:∀(s:Shared) (u:Value),BindsTo s fd #[[u],[]] [(x,u)])
  (R:∀H:Hp,Ca H->aI K H a (O.map V.int)->sp [.ref a] H (λv _=>v= .bl true) λ_ _ _=>False)
  (T:∀H e g,CX [] H S (λ_ _ _=>False) e g->False):
  codeAny (model P w) callerA (.call (.ref fa) #[[.ref a],[]]) (λr g=>r= .ok (.ret$ .bool true)/\OldK S.heap g.heap/\g.os=S.os/\AllBare g.gens) S:=by
 have rv:=QB hi;have L:=hi.length;have C:∀H:Hp,Ca H->aI K H a (O.map V.int)->fo P w H S.heap->(∀b,H b≠none->b=a)->(H a≠none->K.lookup a=none)->
   codeAny (model P w) callerA (.call (.ref fa) #[[.ref a],[]]) (λr g=>r= .ok (.ret$ .bool true)/\OldK S.heap g.heap/\g.os=S.os/\AllBare g.gens) S:=by
  intro H hO hS t hA hK;have B:∀{b:Addr} {o:Obj},S.heap.get? b=some o->H b=none->(lN S.heap H).get? b=some o:=λe n=>ui e n;have U:∀{b:Addr} {o:Obj} {E:Array DictEntry} {y:Nat},S.heap.get? b=some o->o.data= .dict E y->H b=none:=λ{b o E y} e d=>by
   cases q:H b with
   |none=>rfl
   |some u=>have W:b=a:=hA b (by rw[q];simp);subst W;rw[J]at e;cases e;have d':Data.seq i.toArray _=Data.dict E y:=d;cases d'
  have N:∀{b:Addr} {m:Str->Option Value},S.heap.Ns b m->(lN S.heap H).Ns b m:=λ{b m} #[o,E,y,e,d,r]=>#[o,E,y,B e$ U e d,d,r];have A:K.In (lN S.heap H):=λb o e=>B (Y b o e) (by
   cases q:H b with
   |none=>rfl
   |some u=>
    have W:b=a:=hA b (by rw[q];simp);subst W;rw[hK (by rw[q];simp)]at e;cases e)
  have hM:Mod K M (lN S.heap H):=#[A,N l,#[mb,N c,Q],let #[mc,h1,h2]:=p;#[mc,N h1,h2]];have e0:nR P w K M (lN S.heap H) callerA [] S H:=#[Z,hM,λb o e=>yM e,Pq$ Z4 _ _,trivial,λb c=>absurd (show b∈([]:List Addr) from c) UP,t,.of_eq hg];refine Oh ((F _ A$ N l).run callerA [] S H #[[.ref a],[]] [.ref a] [.ref a] _ _ hr e0 (j S$ .ref a) (.cons Z .nil) (R H hO hS)) λr g h=>?_;cases r with
  |error e=>exact(T H e g h).elim
  |ok fl=>
   cases fl with
   |next=>exact False.elim h
   |brk=>exact False.elim h
   |cont=>exact False.elim h
   |ret u=>
    obtain⟨v,H',os,D,un,G,r',q⟩:=h;have q':v= .bl true:=q;subst q';obtain rfl:u=Value.bool true:=r';refine#[Z,OldK.of_keep λb o e=>?_,os,D];cases q:H b with
    |none=>exact un.keep b o e q (by intro z;exact absurd (show b∈([]:List Addr) from z) UP) UP
    |some u=>
     rcases hO b with z | ⟨ob,xs,z⟩
     ·rw[q]at z;cases z
     ·have z2:=un.frzs b ob _ z;obtain⟨e1,_⟩:=t b _ z;obtain⟨e2,_⟩:=G b _ z2;rw[e]at e1;cases e1;exact e2
 cases X:K.lookup a with
 |some o=>have e:=Y a o X;rw[J]at e;cases e;refine C (λ_=>none) (λ_=>.inl Z) (.inr #[_,i.toArray,_,X,Z,Z,Z,by rw[LY,L];exact hl,by simpa using rv]) (λb u z=>by have I:(none:Option HO)=some u:=z;cases I) (λb z=>absurd Z z) λz=>absurd Z z
 |none=>
  refine C (λb=>if b=a then some (.frz { cls:=.type "list",data:=.seq i.toArray }$ .lst$ O.map V.int) else none) (λb=>?_) (.inl$ .inr #[{ cls:=.type "list",data:=.seq i.toArray },Mb Z]) (λb u z=>?_) (λb z=>?_) λ_=>X
  ·by_cases c:b=a
   ·exact .inr #[_,_,Mb c]
   ·exact .inl$ Mf c
  ·by_cases c:b=a
   ·have I:=(Mb c).symm.trans z;cases I;subst c;exact#[J,by rw[LU];exact hl,i,_,rv,J]
   ·have I:=(Mf c).symm.trans z;cases I
  ·by_cases c:b=a
   ·exact c
   ·exact absurd (Mf c) z
theorem A2{l:PySem.W.OpenLaw}{n k:Nat}{E:World->Heap->Prop}{d:DefRec}{K:Params->Frag}{CX:World->pF}{sp:World->Sp}{x:Str}
  (O:l.most=some n) (r:n<=sizeLine) (t:d.params.defaults=[]) (P:bJ k callerA)
  (Q:∀(w:World) (h:Heap),E w h->(K w.params).In h)
  (F:∀(w:World) (m:Str->Option Value) (p:Addr) (h:Heap),(K w.params).In h->h.Ns mainGlobals m->m d.name=some (.ref p)->
   ∃y:FuncData,(∀(s:Shared) (u:Value),BindsTo s y #[[u],[]] [(x,u)])/\
    ∀B:Heap,(K w.params).In B->B.Ns mainGlobals m->af l.prog w (K w.params) m B (CX w) k p y [x] (sp w))
  (z:∀(w:World) (H:Hp) (a:Addr) (N:List Int),N.length<=n->Ca H->aI (K w.params) H a (N.map V.int)->sp w [.ref a] H (λv _=>v= .bl true) λ_ _ _=>False)
  (A:∀(w:World) (H:Hp) (s:Shared) (e:Value) (C:Shared),CX w [] H s (λ_ _ _=>False) e C->False):
  PySem.W.WalkO q L XP E l.row.toRowW d [] (λf I=>PySem.call f I):=by
 refine Att.attach_call O t λw J S m mb p o pm cd R a I N G Y ho hd U D j i c X=>?_;have M:=Q w _ Y;obtain⟨y,hb,hF⟩:=F w m p _ M G.T.g D;exact uD M G.T.g G.T.b G.T.builtins G.T.nolimit X j i (Mg c r) P hF hb (λH hO hS=>z w H a N c hO hS) λH e C=>A w H S e C
noncomputable def bo(s:Stmt)(j:Nat):Stmt:=match s with
 | .ClassDef _ _ _ b _ _ _ _ _ _ _=>b.getD j (.Pass #[0,0,0,0])
 |_=>.Pass #[0,0,0,0]
noncomputable def bV(s:Stmt):Arguments:=match s with
 | .FunctionDef _ a _ _ _ _ _ _ _ _=>a
 |_=>{ posonlyargs:=[],args:=[],vararg:=none,kwonlyargs:=[],kw_defaults:=[],kwarg:=none,defaults:=[] }
noncomputable def bn(s:Stmt):List Stmt:=match s with
 | .FunctionDef _ _ b _ _ _ _ _ _ _=>b
 |_=>[]
noncomputable def ae(s:Stmt):Scope:=match s with
 | .FunctionDef _ _ _ _ _ _ S _ _ _=>S
 |_=>{ kind:=.function,names:=[],isGenerator:=false,isCoroutine:=false }
abbrev aE:pF:=λ_ _ _ _ _ _=>False
abbrev E0:XK:=λ_ _ _=>False
theorem ba{X:Cx}:dj aE X E0:=λ_ _ _ _ _ _ _ h=>h.elim
structure aQ(K:Frag)(x qual:Str)(st:Stmt)(f:Addr)(fd:FuncData):Prop where
 ex:∃(oc:Value) (od:Option Addr) (kV doc pm:Value) (an:Option Addr) (cdv ct:Value) (osl:Array (Option Value)),
  fd=fnOf x qual (bV st) (bn st) (ae st) .none kV doc pm an cdv ct/\K.lookup f=some #[oc,od,.func fd,osl]/\codeIn K cdv qual=true
 kp:keepIn K (.ref f)=true
section
variable {P:Program}{w:World}{K:Frag}{mg:Str->Option Value}{base:Heap}
theorem aQ.ok{st:Stmt}{d:Sp}(F:aQ K x a st f i)(S:ai N p (ae st))(len:∀v H Q E,d v H Q E->v.length=p.length)
  (b:∀(c:Value) (A:Around) (o:List Env) (s:Shared) (H:Hp) (v:List V) (Q:VK) (E:XK),bJ k (A.deeper$ envOfC a (ae st) s.heap.objs.size f c)->d v H Q E->
   ∃t,mP (gA aE P w K mg base N a (ae st) f c A o s H E).nox (bn st) t/\t { nx:=λ_ j=>Q .non j,rt:=Q } (gT N v) H):af P w K mg base aE (k+1) f i p d:=by
 obtain⟨m,n,kV,D,r,u,c,C,O,rfl,lk,e⟩:=F.ex;refine Bs lk e S len λA o s H v Q E l g=>?_;obtain⟨t,h,q⟩:=b c A o s H v Q E l g;exact#[t,h.nox,q]
theorem aQ.binds{st:Stmt}{p:List Str}(F:aQ K x q st f b)
  (h:∀(kV d a:Value) (A:Option Addr) (c C:Value) (u:List Value),u.length=p.length->bindArgs (fnOf x q (bV st) (bn st) (ae st) .none kV d a A c C) #[u,[]]=pure (p.zip u)):aD K b p []:=by
 obtain⟨O,e,kV,d,a,A,c,C,o,rfl,lk,H⟩:=F.ex;exact .all$ h kV d a A c C
theorem ug{st:Stmt}{kV:Value}(l:K.lookup f=some #[O,e,.func$ fnOf x q (bV st) (bn st) (ae st) .none kV d p a C b,o])
  (c:codeIn K C q=true) (k:keepIn K (.ref f)=true):aQ K x q st f (fnOf x q (bV st) (bn st) (ae st) .none kV d p a C b):=#[#[O,e,kV,d,p,a,C,b,o,Z,l,c],k]
end
theorem zM(h:bJ k A):A.units+1 < cLine:=Nj (Ss (by decide:1<=64) _) h.units
section
variable {X:Cx}
theorem pv(i:Nat){x:Str}{p:Pos}(H:X.N[i]?=some x:=by rfl)(a:HJ X.env.scope x:=by first |exact Or.inl Z |exact Or.inr (Or.inl Z) |exact Or.inr$ Or.inr Z)(b:(x==("__debug__":Str))=false:=by decide)
  (h:(x==("__classdict__":Str))=false:=by decide):PE X (.Name x p) (aZ i):=DW H a b h
end
theorem uA{A B:Prop}(h:B):if false=true then A else B:=by rw[Mf Md];exact h
theorem uB{A B:Prop}(h:A):if true=true then A else B:=by rw[Mb Z];exact h
theorem fe{c A B:Prop}[Decidable c](H:c->A)(a:¬c->B):if c then A else B:=by
 by_cases h:c
 ·rw[Mb h];exact H h
 ·rw[Mf h];exact a h
def aa(H h:Hp):Prop:=∀b o,H b=some o->h b=some o
theorem aa.refl(H:Hp):aa H H:=λ_ _ h=>h
theorem aa.trans(a:aa H d)(b:aa d e):aa H e:=λc o h=>b c o (a c o h)
theorem aa.free(e:aa H a)(h:a l=Option.none):H l=Option.none:=by
 cases q:H l with
 |none=>rfl
 |some o=>rw[e l o q]at h;cases h
theorem aa.seq{K:Frag}(e:aa H b)(h:aI K H a x):aI K b a x:=by
 rcases h with (h | ⟨o,h⟩) |h
 ·exact .inl$ .inl$ e _ _ h
 ·exact .inl$ .inr #[o,e _ _ h]
 ·exact .inr h
section
variable {prog:Program}{w:World}{A:Around}{R:Result->Shared->Prop}{s:Shared}
abbrev Bg:Value->Shared->Prop:=λ_ _=>False
theorem pN{iter:Expr}(I:Nat->Shared->Prop)
  (T:∀n s,I n s->wpAny (model prog w) A (pyNext B) (λr S=>match r with
   |none=>R (.ok .next) S
   |some v=>wpAny (model prog w) A (letOwnedTupleGo t B v) (λ_ b=>wpAny (model prog w) A (assign t e v) (λ_ d=>
     wpAny (model prog w) A (forIn l true λc r=>if r=true then do let o <- isTrue c e (eval c e);pure (ForInStep.yield o) else pure (ForInStep.yield r)) (λo a=>
      if o=true then wpAny (model prog w) A (eval E e) (λx g=>
       wpAny (model prog w) A (call (.builtin "list.append") [p,x]) (λ_ i=>∃m,m < n/\I m i) Bg g) Bg a
      else ∃m,m < n/\I m a) Bg d) Bg b) Bg S) Bg s)
  (n:Nat) (h:I n s):
  codeAny (model prog w) A (.compLoop (.ListComp E [#[t,iter,l,0]] k C) 0 B p e) R s:=by
 refine codeAny_loop Z I (λn s D=>?_) n h;show wpAny _ A ((compTurn (.ListComp E [#[t,iter,l,0]] k C) 0 B p e).onRaise (λx=>do noteFrame x e;theTreesLotGoes x)) _ _ s;refine wpAny_noted ?_;rw[compTurn_list];refine LO$ Oq$ LO$ MZ (T n s D) (λr S H=>?_) λ_ _ f=>f.elim;cases r with
 |none=>exact LR H
 |some v=>
  refine LO$ MZ H (λ_ b q=>?_) λ_ _ f=>f.elim;refine LO$ MZ q (λ_ d u=>LO (MZ u (λo a j=>?_) λ_ _ f=>f.elim)) λ_ _ f=>f.elim;cases o with
  |false=>exact LR #[Z,j]
  |true=>exact LO$ LO$ MZ j (λx g y=>LO (MZ y (λ_ i z=>LR (LR #[Z,z])) λ_ _ f=>f.elim)) λ_ _ f=>f.elim
end
noncomputable def bf(X:Cx)(s:Scope)(M:List Str)(c:List (Str×Addr))(C:Addr)(f:List Addr)(S:Shared)(H:Hp):Cx where
 prog:=X.prog
 w:=X.w
 K:=X.K
 mg:=X.mg
 base:=X.base
 A:=X.A
 N:=M
 s₀:=S
 H₀:=H
 env:=compEnvC s c C X.env
 outer:=X.stack
 stack:=X.stack
 ex:=f
 fn:=λ_=>false
 calm:=X.calm
 pn:=[]
 xe:=λ_ _=>False
noncomputable def EL(n:Nat)(I:List Nat)(a:St):St:=List.replicate n none++I.map λi=>(a[i]?).getD none
structure bh(N:List Str)(sc scope:Scope)(M:List Str)(nT:Nat)(ix:List Nat):Prop where
 cell:∀y∈scope.names,y.2≠ .cell
 kind:scope.kind= .function
 loc:∀y∈scope.names,y.2= .local->scope.names.lookup y.1=some .local
 fre:∀y∈scope.names,y.2= .free->sc.names.lookup y.1=some .cell
 nms:M.drop nT=ix.map λi=>N.getD i Str.empty
 len:M.length=nT+ix.length
 vis:∀i∈ix,scope.names.lookup (N.getD i Str.empty)=some .free
theorem Jt{E:Env}(c:E.scope.kind= .function):∀{N:List (Str×NameKind)} {y:Str},N.lookup y=some .free->E.kindOf y=some .cell->
  (N.map λ(n,k)=>if (k==NameKind.free&&E.scope.kind== .function&&E.kindOf n==some .cell) then (n,NameKind.cell) else (n,k)).lookup y=some .cell
 | [],_,h,_=>by simp at h
 | (n,k)::r,y,h,b=>by
  have i:=@Jt E c r y;show List.lookup y ((if (k==NameKind.free&&E.scope.kind== .function&&E.kindOf n==some .cell)=true then (n,NameKind.cell) else (n,k))::_)=_;cases H:y==n with
  |true=>
   simp only[M1,H]at h;cases h;have e:y=n:=by simpa using H
   subst e;rw[Mb (by rw[c,b];rfl)];simp [M1]
  |false=>
   simp only[M1,H]at h;by_cases a:(k==NameKind.free&&E.scope.kind== .function&&E.kindOf n==some .cell)=true
   ·rw[Mb a];simp only[M1,H];exact i h b
   ·rw[Mf a];simp only[M1,H];exact i h b
theorem KR{E:Env}:∀{N:List (Str×NameKind)} {y:Str} {K:NameKind},
  (N.map λ(n,k)=>if (k==NameKind.free&&E.scope.kind== .function&&E.kindOf n==some .cell) then (n,NameKind.cell) else (n,k)).lookup y=some K->
  ∃k,N.lookup y=some k/\(K=k∨k= .free)
 | [],_,_,h=>by simp at h
 | (n,k)::r,y,K,h=>by
  have i:=@KR E r y K;have h:List.lookup y ((if (k==NameKind.free&&E.scope.kind== .function&&E.kindOf n==some .cell)=true then (n,NameKind.cell) else (n,k))::_)=some K:=h;cases a:y==n with
  |true=>
   refine#[k,by simp only[M1,a],?_];by_cases H:(k==NameKind.free&&E.scope.kind== .function&&E.kindOf n==some .cell)=true
   ·right;simp only[M9]at H;simpa using H.1.1
   ·rw[Mf H]at h;simp only[M1,a]at h;left;exact(MM h).symm
  |false=>
   have b:List.lookup y (r.map λ(n,k)=>if (k==NameKind.free&&E.scope.kind== .function&&E.kindOf n==some .cell) then (n,NameKind.cell) else (n,k))=some K:=by
    by_cases H:(k==NameKind.free&&E.scope.kind== .function&&E.kindOf n==some .cell)=true
    ·rw[Mb H]at h;simp only[M1,a]at h;exact h
    ·rw[Mf H]at h;simp only[M1,a]at h;exact h
   obtain⟨c,e,q⟩:=i b;exact#[c,by simp only[M1,a];exact e,q]
noncomputable def aY(e:Env):List (Str×NameKind)->List (Str×Addr)->List (Str×Addr)
 | [],a=>a
 | (n,k)::r,a=>if k== .free then aY e r ((n,(e.cells.lookup n).getD 0)::a) else aY e r a
theorem qo{E:Env}:∀{N:List (Str×NameKind)} {acc:List (Str×Addr)},(∀y∈N,y.2= .free->∃c,E.cells.lookup y.1=some c)->(∀x c,acc.lookup x=some c->E.cells.lookup x=some c)->
  ∀x c,(aY E N acc).lookup x=some c->E.cells.lookup x=some c
 | [],_,_,b,x,c,h=>b x c h
 | (n,k)::r,acc,f,b,x,c,h=>by
  unfold aY at h;by_cases g:(k==NameKind.free)=true
  ·rw[Mb g]at h;refine qo (λy H=>f y (Mt _ H)) (λX j a=>?_) x c h;obtain⟨C,d⟩:=f (n,k) Mm (by simpa using g);have d:E.cells.lookup n=some C:=d;simp only[M1]at a;cases i:X==n with
   |true=>
    rw[i]at a;have e:X=n:=by simpa using i
    subst e;rw[d]at a;rw[d];exact a
   |false=>rw[i]at a;exact b _ _ a
  ·rw[Mf g]at h;exact qo (λy H=>f y (Mt _ H)) b x c h
theorem qK:∀{a:List (Str×Addr)},(∃c,(x,c)∈a)->∃c,a.lookup x=some c
 | [],h=>by obtain⟨_,h⟩:=h;cases h
 | (n,c)::r,h=>by
  simp only[M1];cases H:x==n with
  |true=>exact#[c,Z]
  |false=>
   obtain⟨C,h⟩:=h;rcases List.mem_cons.mp h with e |h
   ·injection e with E _;subst E;simp at H
   ·exact qK #[C,h]
theorem qZ:∀{N:List (Str×NameKind)} {a:List (Str×Addr)},((∃c,(x,c)∈a)∨(x,NameKind.free)∈N)->∃c,(x,c)∈aY E N a
 | [],_,h=>by
  rcases h with h |h
  ·exact h
  ·cases h
 | (n,k)::r,a,h=>by
  unfold aY;by_cases H:(k==NameKind.free)=true
  ·rw[Mb H];refine qZ ?_;rcases h with ⟨c,h⟩ |h
   ·exact .inl #[c,Mt _ h]
   ·rcases List.mem_cons.mp h with e |h
    ·injection e with b _;subst b;exact .inl #[_,Mm]
    ·exact .inr h
  ·rw[Mf H];refine qZ ?_;rcases h with h |h
   ·exact .inl h
   ·rcases List.mem_cons.mp h with e |h
    ·injection e with _ d;subst d;exact absurd Z H
    ·exact .inr h
theorem qP{e:Env}:∀(N:List (Str×NameKind)) (A:List (Str×Addr)),(∀y∈N,y.2= .free->∃c,e.cells.lookup y.1=some c)->
  (forIn N A (λx r=>match x with | (name,K)=>if (K==NameKind.free)=true then (do let a <- cellOf e name;pure (ForInStep.yield ((name,a)::r))) else pure (ForInStep.yield r)):Sem (List$ Str×Addr))=pure (aY e N A)
 | [],A,_=>rfl
 | (n,k)::r,A,b=>by
  have i:=λA=>qP r A λy H=>b y (Mt _ H);rw[NW];unfold aY;by_cases h:(k==NameKind.free)=true
  ·obtain⟨C,E⟩:=b (n,k) Mm (by simpa using h);have E:e.cells.lookup n=some C:=E;have d:cellOf e n=pure C:=by unfold cellOf;rw[E]
   rw[Mb h];simp only[h,PR,d,E];exact i _
  ·rw[Mf h];simp only[h];exact i _
theorem qQ{e:Env}{S:Scope}(H:∀y∈S.names,y.2= .free->∃c,e.cells.lookup y.1=some c):closureFor S e=pure (aY e S.names []):=by have h:=qP S.names [] H;exact Ng (λt:Sem (List$ Str×Addr)=>t >>= λs=>pure s) h
section
variable {X:Cx}{pins:List (Addr×Obj)}{σ:St}{H:Hp}{s:Shared}
theorem Jl(I:ax X pins σ H s)(S:bh X.N X.env.scope a M n i):∀y∈a.names,y.2= .free->∃c,X.env.cells.lookup y.1=some c:=
 λy h e=>I.ok.has y.1 (.inl$ S.fre y h e)
theorem tj{g:Heap}(I:ax X pins σ H s)(F:∀b∈Y,gw X pins H b)(P:∀b∈Y,b < s.heap.objs.size)
  (S:bh X.N X.env.scope a M n G) (Q:s.heap.objs.size<=C) (O:∀b o,s.heap.get? b=some o->g.get? b=some o) (R:g.Ns C m):
  ax (bf X a M (aY X.env a.names []) C Y s H) [] (EL n G σ) H { s with heap:=g,toks:=tk }:=by
 have sub:∀x c,(aY X.env a.names []).lookup x=some c->X.env.cells.lookup x=some c:=qo (Jl I S) (λx c h=>by simp at h);have j:∀x,a.names.lookup x=some .free->∃c,(aY X.env a.names []).lookup x=some c:=λx e=>qK (qZ$ .inr$ Nr e);have hex:∀x K,(relabel a X.env).names.lookup x=some K->(K= .cell∨K= .free)->a.names.lookup x=some .free:=λx K e A=>by
  obtain⟨k,t,q⟩:=KR e;rcases q with q |q
  ·rcases A with z |z
   ·exact absurd (q.symm.trans z)$ S.cell (x,k)$ Nr t
   ·rw[t,<- q,z]
  ·rw[t,q]
 refine#[#[I.ok.mod,S.kind,I.ok.glob,I.ok.blt,Q,λx y c h1 h2=>I.ok.inj x y c (sub x c h1) (sub y c h2),λx hx=>?_,λx c hx=>?_,I.ok.hd,I.ok.frames,.inl Z,λb w=>#[λz=>?_,λx c e=>?_],I.bs,Mg I.ok.bsz I.sz,λb o e w=>?_,λb w hz=>?_,I.stack,I.stkFree],
  rfl,I.bare,Un.kept O,#[m,R,λk y v t E _=>?_],λx c e=>?_,I.hok.fresh Q,λx c e=>I.freeC x c (sub x c e),λp hp=>absurd (show p∈([]:List (Addr×Obj)) from hp) UP,I.hok.kept O,?_]
 ·rcases hx with hx |hx
  ·exact j x$ hex x _ hx$ .inl Z
  ·exact j x$ hex x _ hx$ .inr Z
 ·exact absurd (show false=true from hx) UN
 ·have z':b=C:=z;have:=P b w;rw[z']at this;exact absurd this$ Nat.not_lt.mpr Q
 ·exact(F b w).2.2.2.2.1 x c (sub x c e)
 ·rcases(F b w).2.2.2.1 with z |z
  ·exact I.ok.noex b o e z
  ·exact absurd (Mi (LW e)$ Mg I.ok.bsz z)$ MX _
 ·rcases List.mem_cons.mp (I.stkSub b hz) with z |z
  ·exact(F b w).2.1 z
  ·exact(F b w).2.2.1 z
 ·have E:(EL n G σ)[k]?=some (some v):=E;have t:M[k]?=some y:=t;unfold EL at E;by_cases A:k < n
  ·rw[OT (by simpa using A),RZ]at E;simp [A]at E
  ·have B:n<=k:=Pg A;rw[OQ (by simpa using B),Px,Mp]at E;cases J:G[k - n]? with
   |none=>rw[J]at E;cases E
   |some i=>
    rw[J]at E;have L:(σ[i]?).getD none=some v:=MM E;have V:σ[i]?=some (some v):=by
     cases W:σ[i]? with
     |none=>rw[W]at L;cases L
     |some o=>rw[W]at L;exact Ng some L
    have hi:i < X.N.length:=by rw[<- I.len];exact(List.getElem?_eq_some_iff.mp V).1
    have e7:y=X.N.getD i Str.empty:=by
     have q:(M.drop n)[k - n]?=some y:=by rw[OP];rw[Sr B];exact t
     rw[S.nms,Mp,J]at q;exact(MM q).symm
    have e8:X.N[i]?=some y:=by rw[e7,LP hi,M7,LP hi];rfl
    have d:a.names.lookup y=some .free:=by rw[e7];exact S.vis i$ Mr J
    have f:X.env.scope.names.lookup y=some .cell:=S.fre (y,.free) (Nr d) Z;obtain⟨m',_,hl⟩:=I.loc;obtain⟨u,r,l⟩:=hl i y v e8 V (.inr$ .inl f);refine#[u,r,?_];rcases l with ⟨l,_⟩ | ⟨_,c,ec,o,T,U⟩
    ·have l:X.env.scope.names.lookup y=some .local:=l;rw[f]at l;cases l
    ·obtain⟨c',D⟩:=j y d;have q:=sub y c' D;rw[ec]at q;cases q;exact .inr #[.inl$ Jt I.ok.kind d f,c,D,o,O _ _ T,U]
 ·obtain⟨v,o,T,U⟩:=I.cell x c (sub x c e);exact#[v,o,O _ _ T,U]
 ·show(EL n G σ).length=M.length;rw[S.len];simp [EL]
theorem ax.track(I:ax X pins σ H s)(f:gw X pins H D)(G:X.s₀.heap.objs.size<=D)(a:aN X.prog X.w (am H D o) s.heap D o):ax X pins σ (am H D o) s:=by
 have n:=f.1;have N:∀b u,H b=some u->b≠D:=λb u e=>jk e n;refine#[I.ok,I.os,I.bare,#[I.base.keep,I.base.slot,λb O e q i=>?_,I.base.there,λb d e=>?_,λb O u e=>?_,λb P e=>?_],I.loc,I.cell,?_,λx c e=>?_,λp h=>?_,λb u e=>?_,I.len]
 ·rw[ji$ Me$ Mi (LW e) G];exact I.base.free b O e q i
 ·have q:=I.base.tups b d e;rw[ji$ N _ _ q];exact q
 ·have q:=I.base.frzs b O u e;rw[ji$ N _ _ q];exact q
 ·obtain⟨m,q⟩:=I.base.tbls b P e;exact#[m,by rw[ji$ N _ _ q];exact q]
 ·rw[ji$ ME f.2.1];exact I.free
 ·rw[ji$ f.2.2.2.2.1 x c e];exact I.freeC x c e
 ·obtain⟨e,q,r⟩:=I.pin p h;exact#[e,by rw[ji$ f.2.2.2.2.2 p h];exact q,r]
 ·by_cases g:b=D
  ·subst g;rw[jc]at e;cases e;exact a
  ·rw[ji g]at e;exact(I.hok b u e).stay (λ_ _ _ q=>q) (λc q=>by rw[ji$ N _ _ q];exact q) λc d q=>by rw[ji$ N _ _ q];exact q
noncomputable abbrev i7(u:List Value):Obj:={ cls:=.type "list",data:=.seq u.toArray u.length }
theorem rh(u:List Value)(y:Value):({ cls:=.type "list",data:=.seq (u.toArray.push y) (u.length+1) }:Obj)=i7 (u++[y]):=by show({ cls:=.type "list",data:=.seq (u.toArray.push y) (u.length+1) }:Obj)={ cls:=.type "list",data:=.seq (u++[y]).toArray (u++[y]).length };rw[LS,N0,List.push_toArray]
def PF(X:Cx)(i:List Expr)(t:TT):Prop:=
 ∀(pins:List (Addr×Obj)) (s:Shared) (σ:St) (H:Hp) (Q:Bool->Hp->Prop),ax X pins σ H s->t σ H Q->
  wpAny (model X.prog X.w) X.A (forIn i true λc r=>if r=true then do let o <- isTrue c X.env (eval c X.env);pure (ForInStep.yield o) else pure (ForInStep.yield r)) (TP X pins σ Q) X.xe s
def mH:TT:=λ_ H Q=>Q true H
theorem qj:PF X [] mH:=λ_ _ _ H _ I h=>wpAny_tests_nil #[H,I,h]
theorem Kw{c:Expr}{t:TT}(h:PT X c t):PF X [c] t:=λpins s σ H Q I q=>wpAny_tests_one (h pins s σ H Q I q)
noncomputable def oO(I:List Nat)(σ:St):St:=I.map λi=>(σ[i]?).getD none
def eN(J:It)(n:Nat)(t:St)(g:TG)(j:TT)(k:TE)(Q:List V->Hp->Prop)(H:Hp):Prop:=
 ∃W:Nat->Nat->List V->Hp->Prop,(∃m,W 0 m [] H)/\∀i m Y H,W i m Y H->
  (J.stop i H/\Q Y H)∨(J.go i H/\Y.length < sizeLine/\∃N:List V->Hp->Prop,(∀c h,N c h->∃M,M < m/\W (i+1) M c h)/\
   ∀x d (e:St),e.length=n->J.yld i H x d->g x (e++t) d λa h=>(∃T:St,T.length=n/\a=T++t)/\j a h λb f=>if b=true then k a f λy l=>N (Y++[y]) l else N Y f)
theorem KS{iter:Expr}
  {RR:Value->Addr->Result->Shared->Prop} 
  (I:ax X pins σ H s) (hc:X.calm=true) (T:nZ X.prog X.w X.K tg J k it tn) (st:tn 0 s.heap) (hf:∀b∈k,gw X pins H b) (S:bh X.N X.env.scope scope M nT ix)
  (hg:∀cl C k s H,PG (bf X scope M cl C k s H) tg g) (hi:∀cl C k s H,PF (bf X scope M cl C k s H) i0 tt) (he:∀cl C k s H,PE (bf X scope M cl C k s H) e0 te)
  (h:eN J nT (oO ix σ) g tt te Qf H)
  (a0:∀D C Y m t G,(∀b o u,H b=some (.frz o u)->t b=some (.frz o u))->t D=none->ax X pins σ (am t D$ .lst Y) G->gw X pins (am t D$ .lst Y) C->G.heap.Ns C m->Qf Y t->RR (.ref D) C (.ok .next) G):
  wpAny (model X.prog X.w) X.A (newList []) (λacc B=>wpAny (model X.prog X.w) X.A (newFunctionEnv scope X.env.globals (aY X.env scope.names []) [] X.env.qual none .none$ some X.env) (λc0 s0=>
   codeAny (model X.prog X.w) X.A (.compStart (.ListComp e0 [#[tg,iter,i0,0]] scope p1) 0 (.ref it) acc { c0 with scope:=relabel scope X.env }) (RR acc c0.locals) s0) E B) E s:=by
 obtain⟨W,⟨m0,w0⟩,t1⟩:=h;have h3:∀b∈k,b < s.heap.objs.size:=λb a=>by obtain⟨o,e,_⟩:=T.obj 0 _ st b a;exact LW e
 refine MJ$ wpAny_newFunctionEnv S.cell (by intro y hy;simp at hy) (λF l f=>?_) S.kind;dsimp only at l f ⊢;generalize h4:s.heap.push { cls:=.type "list",dict:=none,data:=.seq ([]:List Value).toArray }=H2 at l f ⊢;have hC:H2.objs.size=s.heap.objs.size+1:=by rw[<- h4,MQ]
 have P:s.heap.objs.size≠H2.objs.size:=by rw[hC];exact Me$ Na _
 have h0:s.heap.objs.size<=H2.objs.size:=by rw[hC];exact MU _
 have b0:∀b,b < s.heap.objs.size->b≠H2.objs.size/\b≠s.heap.objs.size:=λb a=>#[by rw[hC];exact Me$ NK a,Me a];have o1:∀b o,s.heap.get? b=some o->F.get? b=some o:=λb o e=>f.extBut b o (b0 b$ LW e).1 (LQ _$ h4▸LQ _ e);have h5:F.get? s.heap.objs.size=some (i7 []):=f.extBut _ _ P (LQ _$ h4▸LX _ Z);have a1:H s.heap.objs.size=none:=I.hok.fresh (LV _);have h6:s.heap.objs.size∉lB X.stack:=λa=>(List.mem_cons.mp$ I.stkSub _ a).elim (λe=>absurd I.lt (by rw[<- e];exact MX _)) (I.nofs$ LV _);generalize hD:s.heap.objs.size=D at*;generalize b2:H2.objs.size=C at*;have J0:∀tk,ax (bf X scope M (aY X.env scope.names []) C k s H) [] (EL nT ix σ) H { s with heap:=F,toks:=tk }:=λtk=>tj I hf (by rw[hD];exact h3) S (by rw[hD];exact h0) o1 l;have c1:∀x c,(aY X.env scope.names []).lookup x=some c->c≠D:=λx c e z=>by have sub:=qo (Jl I S) (acc:=[]) (λx c h=>by simp at h) x c e;obtain⟨v,o,ho,_⟩:=I.cell x c sub;have:=LW ho;rw[z,hD]at this;exact MX _ this
 have p0:∀{σ0:St} {t:Hp} {G:Shared} {U:List Value},ax (bf X scope M (aY X.env scope.names []) C k s H) [] σ0 t G->G.heap.get? D=some (i7 U)->t D=none->
   ax (bf X scope M (aY X.env scope.names []) C k s H) [(D,i7 U)] σ0 t G:=λ{σ0 t G U} I' e n=>I'.pins_of λp hp=>by
  have ep:p=(D,i7 U):=by simpa using hp
  subst ep;exact#[e,n,P,h6,λv z=>by cases z]
 have L:∀{t:Hp} {U:List Value},(∀b∈k,t b=none)->∀b∈k,gw (bf X scope M (aY X.env scope.names []) C k s H) [(D,i7 U)] t b:=λ{t U} hn b a=>
  #[hn b a,((J0 0).ok.exf b a).1,(J0 0).ok.exfs b a,.inl a,((J0 0).ok.exf b a).2,λp hp z=>by
   have ep:p=(D,i7 U):=by simpa [bf] using hp
   rw[ep]at z;have:=h3 b a;rw[<- z]at this;exact MX _ this]
 have l0:∀B:Shared,(∃tk,B={ s with heap:=F,toks:=tk })->
   codeAny (model X.prog X.w) X.A (.compLoop (.ListComp e0 [#[tg,iter,i0,0]] scope p1) 0 (.ref it) (.ref D)$ compEnvC scope (aY X.env scope.names []) C X.env) (RR (.ref D) C) B:=by
  rintro B ⟨tk,rfl⟩;refine pN (λn G=>∃i Y U ts t,ts.length=nT/\ax (bf X scope M (aY X.env scope.names []) C k s H) [(D,i7 U)] (ts++oO ix σ) t G/\aC Y U/\Y.length<=sizeLine/\tn i G.heap/\(∀b∈k,t b=none)/\W i n Y t) ?_ m0
   #[0,[],[],List.replicate nT none,H,Px,p0 (J0 tk) h5 a1,.nil,Ma _,T.keep _ _ _ st λb a o e=>o1 b o e,λb a=>(hf b a).1,w0]
  rintro n s1 ⟨i,Y,U,ts,Q,a2,I1,rv,hz,s7,f0,w1⟩;rcases t1 i n Y Q w1 with ⟨stop,q⟩ | ⟨go,a3,N,hN,step⟩
  ·refine aV (T.done (bf X scope M (aY X.env scope.names []) C k s H) Z Z Z hc i _ s1 _ Q Bg I1 (L f0) s7 stop) λr s2 j=>?_;obtain⟨hr,I2⟩:=j;subst hr;have IO:ax X pins σ Q s2:=I.call' (ch:=k) I2.os I2.base I2.hok I2.bare λb a=>#[(hf b a).2.2.2.1,(hf b a).2.1,(hf b a).2.2.2.2.1,(hf b a).2.2.2.2.2];have pD:=I2.pin (D,i7 U) (by simp [bf]);have h':Q D=none:=pD.2.1;have fD:gw X pins Q D:=by rw[<- hD];exact I.fpOk (LV _) (by rw[hD];exact h')
   have IT:ax X pins σ (am Q D$ .lst Y) s2:=IO.track fD (by rw[<- hD];exact I.sz) #[hz,U,U.length,rv,pD.1];obtain⟨mC,a4,_⟩:=I2.loc;have a5:Q C=none:=I2.free;exact a0 D C Y mC Q s2 I2.base.frzs h' IT (I.fpOk (by rw[hD];exact h0) (by rw[ji$ ME P];exact a5)) a4 q
  ·refine aV (T.item (bf X scope M (aY X.env scope.names []) C k s H) Z Z Z hc i _ s1 _ Q Bg I1 (L f0) s7 go) λr s2 j=>?_;obtain⟨u,hr,h2⟩:=j;subst hr;refine aV h2 λ_ s3 j=>?_;obtain⟨x,H3,I3,r3,y3,O,f1⟩:=j;have a':=I3.pinned (L f1) (T.obj _ _ O);refine aV (hg _ _ _ _ _ _ s3 _ H3 x u _ a' r3$ step x H3 ts a2 y3) λ_ s4 j=>?_;obtain⟨σ1,H4,I4,⟨t0,h1,e4⟩,q4⟩:=j;subst e4;refine aV (hi _ _ _ _ _ _ s4 _ H4 _ I4 q4) λb s5 j=>?_;obtain⟨H5,I5,q5⟩:=j;cases b with
   |false=>obtain⟨m',hm,w'⟩:∃m',m' < n/\W (i+1) m' Y H5:=hN _ _ q5;refine#[m',hm,i+1,Y,U,t0,H5,h1,I5.unpinned,rv,hz,T.keep _ _ _ O λb a o e=>(I5.pin (b,o)$ Mo _$ Mo _$ zn a e).1,λb a=>?_,w'];obtain⟨o,e,d⟩:=T.obj _ _ O b a;exact(I5.pin (b,o)$ Mo _$ Mo _$ zn a e).2.1
   |true=>
    refine aV (he _ _ _ _ _ _ s5 _ H5 _ I5 q5) λv s6 j=>?_;obtain⟨y,H6,I6,r6,q6⟩:=j;obtain⟨m',hm,w'⟩:=hN _ _ q6;have pD:=I6.pin (D,i7 U) (Mo _$ Nk _ Mm);have hl:=rv.length;have R:∀b∈k,∀o,s3.heap.get? b=some o->s6.heap.get? b=some o:=λb a o e=>(I6.pin (b,o)$ Mo _$ Mo _$ zn a e).1;have V:∀b∈k,H6 b=none:=λb a=>by obtain⟨o,e,d⟩:=T.obj _ _ O b a;exact(I6.pin (b,o)$ Mo _$ Mo _$ zn a e).2.1
    refine append_at (hsz:=by rw[LY,<- hl];exact hz) pD.1 λh7 sb b1=>?_;have I7:ax (bf X scope M (aY X.env scope.names []) C k s H) [] (t0++oO ix σ) H6 { s6 with heap:=h7 }:=
     (I6.pins_of (pins':=[]) λp hp=>absurd hp UP).turned (t':=s6.toks) (it:=D) (λb o a e=>(sb.2 b a).trans e) pD.2.1 P (.inr (by show s.heap.objs.size<=D;rw[hD];exact LV _)) c1 λp hp=>absurd (show p∈([]:List (Addr×Obj)) from hp) UP
    refine#[m',hm,i+1,Y++[y],U++[v],t0,H6,h1,p0 I7 (b1.trans$ Ng some$ rh U v) pD.2.1,rv.append$ .cons r6 .nil,by rw[LS,N0];exact a3,
     T.keep _ _ _ (T.keep _ _ _ O R) λb a o e=>(sb.2 b λz=>?_).trans e,V,w']
    have:=h3 b a;rw[z]at this;exact MX _ this
 exact codeAny_compStart_list (l0 _ #[_,Z])$ T.self _ 0 _ _ _ (T.keep _ _ _ st λb a o e=>o1 b o e)$ l0 _ #[_,Z]
def px(w:TI)(n:Nat)(i:List Nat)(g:TG)(t:TT)(T:TE):TE:=λσ H Q=>w σ H λJ a=>eN J n (oO i σ) g t T (λy h=>∀p,h p=none->Q (.ref p) (am h p$ .lst y)) a
theorem zO{t E iter:Expr}{i:List Expr}{a:Scope}{p:Pos}{M:List Str}{k:Nat}{l:List Nat}{W:TI}{g:TG}{r:TT}{u:TE}(v:X.calm=true)(y:PI X t iter W)(S:bh X.N X.env.scope a M k l)
  (z:∀c C f s H,PG (bf X a M c C f s H) t g) (B:∀c C f s H,PF (bf X a M c C f s H) i r) (G:∀c C f s H,PE (bf X a M c C f s H) E u)
  (K:∀x,foldedSetIterable iter X.env x=pure x:=by intro _;rfl):
  PE X (.ListComp E [#[t,iter,i,0]] a p) (px W k l g r u):=by
 intro pins s σ H Q I h;rw[eval_ListComp];refine Si (use:=none) Z K (qQ$ Jl I S) S.kind S.loc$ aV (y pins s σ H _ I h) λxv s1 L=>aV L λO s2 P=>?_;obtain⟨it,f,tn,J,H2,e,U,T,d,V,R⟩:=P;subst e;refine KS (RR:=λj C=>compPost (model X.prog X.w) X.A X.xe none (EP X pins σ Q) j C) U v T d V S z B G R ?_;intro D C ys m H' Y _ n I' F ns q;exact#[m,ns,λh' sb=>#[.ref D,_,I'.turned (t':=Y.toks) (λb o hb e=>(sb.2 b hb).trans e) F.1 F.2.1 F.2.2.2.1 F.2.2.2.2.1 F.2.2.2.2.2,Z,q D n]]
theorem qL{t E iter:Expr}{d:List Expr}{c:Scope}{p P f:Pos}{y:Str}{i:Nat}{M:List Str}{U:Nat}{V:List Nat}{W:TI}{g:TG}{Y:TT}{te:TE}(hN:X.N.Nodup)(hy:X.N[i]?=some y)(hx:sN X.env.scope y)
  (hc:X.calm=true) (hI:PI X t iter W) (S:bh X.N X.env.scope c M U V)
  (hg:∀l C j s H,PG (bf X c M l C j s H) t g) (hi:∀l C j s H,PF (bf X c M l C j s H) d Y) (he:∀l C j s H,PE (bf X c M l C j s H) E te)
  (r:swapsWith (.ListComp E [#[t,iter,d,0]] c p) (some$ .Name y P) f.line X.env=pure true:=by rfl)
  (hf:X.fn y=true∨X.env.scope.names.lookup y=some .local:=by first |exact .inl Z |exact .inr Z |assumption)
  (hs:∀x,foldedSetIterable iter X.env x=pure x:=by intro _;rfl):
  PS X (.Assign [.Name y P] (.ListComp E [#[t,iter,d,0]] c p) f) (λD σ H=>px W U V g Y te σ H λv H1=>D.nx (σ.set i$ some v) H1):=by
 intro pins s σ H D I h;rw[exec_Assign_Name_used _ _ _ _ r];refine LO$ Oq$ LO ?_;show wpAny _ X.A (do let _ <- comprehension (.ListComp E [#[t,iter,d,0]] c p) c X.env _ (newList []) false (eval iter X.env) (some$ assign (.Name y P) X.env)) _ _ s;refine LO (aV (Si (use:=some (assign (.Name y P) X.env)) (Q:=λ_ k=>SP X pins D .next k) Z hs (qQ$ Jl I S) S.kind S.loc
  (aV (hI pins s σ H _ I h) λxv s1 h1=>aV h1 λi0 s2 h2=>?_)) λ_ k hq=>LR (LR hq))
 obtain⟨it,j,tn,J,H2,e,I2,T,u,f2,R⟩:=h2;subst e;refine KS (RR:=λB C=>compPost (model X.prog X.w) X.A X.xe (some$ assign (.Name y P) X.env) (λ_ k=>SP X pins D .next k) B C) I2 hc T u f2 S hg hi he R ?_;intro Dd C ys m H' k _ n I' F ns q;show wpAny _ X.A (assign (.Name y P) X.env$ .ref Dd) _ _ k;refine TQ$ Qw I' hN hy hx (v:=.ref Dd) Z (λG K hh=>?_) hf;obtain⟨a,sb,ha⟩:=hh;have L:C≠a:=by
  rcases ha with z |z
  ·rw[z];exact F.2.1
  ·exact ME$ F.2.2.2.2.1 _ _ z
 exact#[m,ns.sameBut sb L,λh' O=>#[_,_,K.turned (t':=G.toks) (λb o hb e=>(O.2 b hb).trans e) F.1 F.2.1 F.2.2.2.1 F.2.2.2.2.1 F.2.2.2.2.2,q Dd n]]
end
section
variable {X:Cx}
def ER(i j:Int):Prop:=0 < j/\j<=1000000000000000000
theorem KE:fb X (binaryOp .FloorDiv) (rI ER λi j=>.int (i / j)):=HP λi j _ _ _ _ _ h q=>by
 have b:(0:Int) < j:=h.1;have c:j<=1000000000000000000:=h.2;refine floordiv_int UO (by rw[Int.fdiv_eq_ediv_of_nonneg i UO];exact q)$ .inl$ PyProof.noPylong_of_log2 ?_;have H:j.natAbs≠0:=by omega
 have a:j.natAbs < 2 ^ 60:=by omega
 have d:j.natAbs.log2 < 60:=(Nat.log2_lt H).mpr a;omega
noncomputable def Ik:V->Option Value
 | .ty n=>some (.type n)
 | .ref a=>some (.ref a)
 |_=>none
theorem JU:er X (.builtin "isinstance") (λf H Q=>∃x y c t b,f=[x,y]/\Ik y=some c/\gZ X.K H x t/\kitOne X.K t c=some b/\Q (.bl b) H):=by
 intro p s i H f U Q I r h;obtain⟨x,y,c,t,b,rfl,d,ty,e,q⟩:=h;obtain⟨u,w,rfl,g,R⟩:=Hn r;have E:w=c:=by
  cases y with
  |ty n=>exact Eq.trans R (MM d)
  |ref a=>exact Eq.trans R (MM d)
  |_=>cases d
 subst E;exact p4 I g ty e λT=>#[.bl b,H,I.tok T,Z,q]
theorem qp:∀{Y:List Str} {U:List Value},aC (Y.map V.str) U->StrsAre U Y
 | [],_,.nil=>.nil
 |y::r,_,.cons (b:=u) h t=>by obtain⟨T,e⟩:∃T,u=Value.str y T:=h;subst e;exact .cons y T$ qp t
theorem Xc:Ia X "str.join" (λx a H Q=>∃(z:Str) (p:Addr) (y:List Str),x= .str z/\a=[.ref p]/\aI X.K H p (y.map V.str)/\z.length<=16/\(y.map (·.length)).sum+y.length<=1048576/\Q (.str$ Txt.join z y) H):=by intro P s l H x a v U Q I r R h;obtain⟨z,p,y,rfl,rfl,b,c,d,q⟩:=h;obtain⟨u,rfl,e⟩:=eY R;cases e;obtain⟨t,rfl⟩:=r;obtain⟨i,f,g,j⟩:=I.list b;exact join_listW g.isList (by simpa using qp f) c d λT k=>#[.str _,H,I.tok k,#[_,Z],q]
noncomputable def tE:Expr->Option V
 | .Constant (.str x) _ _=>some (.str x)
 | .Constant (.int i) _ _=>some (.int i)
 |_=>none
theorem DU(h:tE e=some v):PE X e (tC v):=by
 cases e with
 |Constant c j p=>
  cases c with
  |str x=>cases h;exact jl
  |int i=>cases h;exact jf
  |_=>cases h
 |_=>cases h
theorem wV(h:tE e=some v):starEach (e::a) E=(false,eval e E)::starEach a E:=by
 cases e with
 |Constant c j p=>rfl
 |_=>cases h
noncomputable def uy(e:Expr):Bool:=(tE e).isSome
noncomputable def tw(e:Expr):V:=(tE e).getD .non
theorem Xd:∀{E:List Expr},E.all uy=true->PA X E (λ_ H Q=>Q (E.map tw) H)
 | [],_=>jb
 |e::E,h=>by
  rw[RT,M9]at h;obtain⟨v,a⟩:=Option.isSome_iff_exists.mp (show(tE e).isSome=true from h.1);have b:tw e=v:=by unfold tw;rw[a];rfl
  rw[Ni,b];exact ja (DU a) (Xd h.2)$ wV a
theorem pT{E:List Expr}(h:E.all uy=true):(E.map tw).all c8=true:=by
 rw[O9]at h ⊢;intro v H;obtain⟨e,a,rfl⟩:=List.mem_map.mp H;have q:=h e a;unfold uy at q;unfold tw;cases e with
 |Constant c j p=>
  cases c with
  |str x=>rfl
  |int i=>rfl
  |_=>exact absurd q Md
 |_=>exact absurd q Md
def Hj(t:TS):TS:=λD b H=>∃R:St->Hp->Prop,t { D with nx:=R } b H/\∀a h,R a h->D.nx a h
theorem kj{st:Stmt}{t:TS}(h:PS X st t):PS X st (Hj t):=by
 intro p s b H D I c;obtain⟨R,d,e⟩:=c;refine aV (h p s b H _ I d) λf S q=>?_;cases f with
 |next=>obtain⟨a,g,i,q⟩:=q;exact#[a,g,i,e _ _ q]
 |brk=>exact q
 |cont=>exact q
 |ret v=>exact q
theorem p8{t:St}(h:t.length=1):∃v,t=[v]:=by
 cases t with
 |nil=>cases h
 |cons v r=>
  cases r with
  |nil=>exact#[v,Z]
  |cons _ _=>cases h
theorem Yh{lo:Int}{t:TE}{Q:List V->Hp->Prop}(Pv:Nat->List V->Hp->Prop)(g:Pv 0 [] H)(j:n<=sizeLine)(b:∀i Y h,Pv i Y h->Y.length<=i)
  (k:∀i Y h,i < n->Pv i Y h->t (some (.int$ lo+i)::c) h λy d=>Pv (i+1) (Y++[y]) d) (l:∀Y h,Pv n Y h->Q Y h):
  eN (sM lo n) 1 c (aU 0) mH t Q H:=by
 refine#[λi m Y h=>m=n - i/\i<=n/\Pv i Y h,#[n,UP,Ma _,g],?_];rintro i m Y h ⟨rfl,q,p⟩;by_cases a:i < n
 ·refine .inr #[a,Nj (b i Y h p)$ Mi a j,Pv$ i+1,λo d P=>#[n - (i+1),UO,Z,a,P],λx d T f y=>?_];obtain⟨e,y⟩:=y;subst e y;obtain⟨v,rfl⟩:=p8 f;exact#[#[[some _],Z,Z],k i Y _ a p]
 ·have e:i=n:=by omega
  subst e;exact .inl #[LV _,l Y h p]
end
section
variable {κ:Type}[DecidableEq κ]
noncomputable def b6(K:List (κ×V))(k:κ):Option V:=(K.find? λa=>decide (a.1=k)).map (·.2)
noncomputable def bb(K:List (κ×V))(k:κ)(v:V):List (κ×V):=
 if (K.any λa=>decide (a.1=k))=true then K.map (λa=>if a.1=k then (a.1,v) else a) else K++[(k,v)]
noncomputable def lv(K:List (κ×V))(k:κ):List (κ×V):=K.filter λa=>decide (a.1≠k)
theorem kM{p:κ×V}(e:p.1=k):b6 (p::r) k=some p.2:=by simp [b6,Oj,e]
theorem kN{p:κ×V}(e:¬p.1=k):b6 (p::r) k=b6 r k:=by simp [b6,Oj,e]
theorem Jm(k:κ):∀K:List (κ×V),(K.any λa=>decide (a.1=k))=(b6 K k).isSome
 | []=>rfl
 |p::r=>by
  rw[OJ];by_cases e:p.1=k
  ·simp only[kM e,Mc e,Bool.true_or,Option.isSome_some]
  ·rw[kN e,LZ e,Bool.false_or];exact Jm k r
theorem XH(k j:κ)(y:V):∀K:List (κ×V),b6 (K.map λa=>if a.1=k then (a.1,y) else a) j=(b6 K j).map λx=>if j=k then y else x
 | []=>rfl
 |p::r=>by
  have i:=XH k j y r;rw[Ni];by_cases h:p.1=k
  ·rw[Mb h];by_cases e:p.1=j
   ·rw[kM (p:=(p.1,y)) e,kM e,Pf,Mb$ e.symm.trans h]
   ·rw[kN (p:=(p.1,y)) e,kN e,i]
  ·rw[Mf h];by_cases e:p.1=j
   ·rw[kM (p:=p) e,kM e,Pf,Mf (λz=>h (e.trans z))]
   ·rw[kN (p:=p) e,kN e,i]
theorem QC(k j:κ)(y:V):∀K:List (κ×V),b6 K k=none->b6 (K++[(k,y)]) j=if j=k then some y else b6 K j
 | [],_=>by
  by_cases e:k=j
  ·rw[Mb e.symm];exact kM (p:=(k,y)) e
  ·rw[Mf (λz=>e z.symm)];exact kN (p:=(k,y)) e
 |p::r,h=>by
  rw[List.cons_append];have H:¬p.1=k:=λz=>by rw[kM z]at h;cases h
  rw[kN H]at h;have i:=QC k j y r h;by_cases e:p.1=j
  ·rw[kM e,kM e,Mf (λz=>H (e.trans z))]
  ·rw[kN e,kN e,i]
theorem xF(K:List (κ×V))(k j:κ)(y:V):b6 (bb K k y) j=if j=k then some y else b6 K j:=by
 unfold bb;by_cases a:(K.any λb=>decide (b.1=k))=true
 ·rw[Mb a,XH];rw[Jm]at a;by_cases e:j=k
  ·obtain⟨x,h⟩:=Option.isSome_iff_exists.mp a;rw[Mb e,e,h,Pf,Mb Z]
  ·rw[Mf e];cases b6 K j with
   |none=>rfl
   |some x=>rw[Pf,Mf e]
 ·rw[Mf a];refine QC k j y K ?_;rw[Jm]at a;cases q:b6 K k with
  |none=>rfl
  |some x=>rw[q]at a;exact(a Z).elim
theorem qJ(K:List (κ×V))(k:κ)(v:V):(bb K k v).length<=K.length+1:=by
 unfold bb;split
 ·rw[LU];omega
 ·rw[LS,Mu,Rq];omega
theorem dS.isSome_eq(r:dS o u):o.isSome=u.isSome:=by
 cases o with
 |none=>cases u with
  |none=>rfl
  |some _=>exact(show False from r).elim
 |some _=>cases u with
  |none=>exact(show False from r).elim
  |some _=>rfl
theorem dS.getD(r:dS o u)(R:aF d D):aF (o.getD d) (u.getD D):=by
 cases o with
 |none=>cases u with
  |none=>exact R
  |some _=>exact(show False from r).elim
 |some _=>cases u with
  |none=>exact(show False from r).elim
  |some _=>exact r
theorem KV.val(r:KV a v)(k:κ):dS (b6 a k) (valueAt v k):=by
 unfold KV at r;induction r with
 |nil=>exact True.intro
 | @cons p q P Q h t i=>
  obtain⟨H,c⟩:=h;by_cases e:p.1=k
  ·have E:q.1=k:=H.symm.trans e;have b:valueAt (q::Q) k=some q.2:=by simp [valueAt,Oj,E]
   rw[kM e,b];exact c
  ·have E:¬q.1=k:=λz=>e (H.trans z);have b:valueAt (q::Q) k=valueAt Q k:=by simp [valueAt,Oj,E]
   rw[kN e,b];exact i
theorem KV.any(r:KV a v)(k:κ):(a.any λK=>decide (K.1=k))=v.any λK=>decide (K.1=k):=by
 unfold KV at r;induction r with
 |nil=>rfl
 |cons h t i=>rw[OJ,OJ,i,h.1]
theorem KV.repl(r:KV a v)(k:κ)(R:aF y u):
  KV (a.map λK=>if K.1=k then (K.1,y) else K) (v.map λK=>if K.1=k then (K.1,u) else K):=by
 unfold KV at r ⊢;induction r with
 |nil=>exact .nil
 | @cons p q P Q h t i=>
  rw[Ni,Ni];refine .cons ?_ i;obtain⟨H,b⟩:=h;by_cases e:p.1=k
  ·rw[Mb e,Mb$ H.symm.trans e];exact#[H,R]
  ·rw[Mf e,Mf (λz=>e (H.trans z))];exact#[H,b]
theorem KV.put(r:KV a v)(k:κ)(R:aF y u):KV (bb a k y) (stored v k u):=by
 unfold bb stored;rw[r.any k];by_cases e:(v.any λK=>decide (K.1=k))=true
 ·rw[Mb e,Mb e];exact r.repl k R
 ·rw[Mf e,Mf e];exact Paired.snoc r #[Z,R]
theorem KV.drop(r:KV c v)(k:κ):KV (lv c k) (without v k):=by
 unfold KV at r ⊢;unfold lv without;induction r with
 |nil=>exact .nil
 | @cons p q P Q h t i=>
  obtain⟨H,d⟩:=h;rw[S0,S0];by_cases e:p.1=k
  ·have a:¬decide (p.1≠k)=true:=by simp [e]
   have b:¬decide (q.1≠k)=true:=by simp [H.symm.trans e]
   rw[Mf a,Mf b];exact i
  ·have E:¬q.1=k:=λz=>e (H.trans z);have a:decide (p.1≠k)=true:=by simp [e]
   have b:decide (q.1≠k)=true:=by simp [E]
   rw[Mb a,Mb b];exact .cons #[H,d] i
theorem KV.length(r:KV k v):k.length=v.length:=Paired.length r
theorem XI(K:List (κ×V))(k:κ):(lv K k).length<=K.length:=OB _ _
end
theorem Km{P:Program}(r:aF (kV k) u):(aW P w).is k u=true:=by
 cases k with
 |inl i=>obtain⟨t,e⟩:=(show ∃t,u=Value.int i t from r);subst e;exact Yf P w i t
 |inr x=>obtain⟨t,e⟩:=(show ∃t,u=Value.str x t from r);subst e;exact Yg P w x t
theorem QD{P:Program}:∀{K:List bH} {u:List Value},aC (K.map kV) u->ItemsAre (aW P w) K u
 | [],_,r=>by rw[TY]at r;cases r;exact .nil
 |k::K,_,r=>by
  rw[Ni]at r;cases r with
  |cons h t=>exact .cons (Km h) (QD t)
abbrev KT(H:Hp):List (List bH×V)->List (List bH×Addr×Value)->Prop:=Paired λp q=>p.1=q.1/\H q.2.1=some (.tup$ p.1.map kV)/\aF p.2 q.2.2
theorem KT.val(r:KT H a x)(k:List bH):dS (b6 a k) ((atKey x k).map (·.2)):=by
 induction r with
 |nil=>exact True.intro
 | @cons p q P Q h t i=>
  obtain⟨c,_,d⟩:=h;by_cases e:p.1=k
  ·have E:q.1=k:=c.symm.trans e;have b:atKey (q::Q) k=some q.2:=by simp [atKey,Oj,E]
   rw[kM e,b];exact d
  ·have E:¬q.1=k:=λz=>e (c.trans z);have b:atKey (q::Q) k=atKey Q k:=by simp [atKey,Oj,E]
   rw[kN e,b];exact i
theorem KT.repl(r:KT H b x)(k:List bH)(R:aF y u):
  KT H (b.map λK=>if K.1=k then (K.1,y) else K) (x.map$ putAt k u):=by
 induction r with
 |nil=>exact .nil
 | @cons p q P Q h t i=>
  rw[Ni,Ni];refine .cons ?_ i;obtain⟨a,c,d⟩:=h;unfold putAt;by_cases e:p.1=k
  ·rw[Mb e,Mb$ a.symm.trans e];exact#[a,c,R]
  ·rw[Mf e,Mf (λz=>e (a.trans z))];exact#[a,c,d]
theorem KT.put(r:KT H a x)(k:List bH)(h:H b=some (.tup$ k.map kV))(R:aF y u):
  KT H (bb a k y) (storedH x k b u):=by
 have e:(a.any λK=>decide (K.1=k))=(atKey x k).isSome:=by rw[Jm,(r.val k).isSome_eq,Sm]
 unfold bb storedH;rw[e];by_cases q:(atKey x k).isSome=true
 ·rw[Mb q,Mb q];exact r.repl k R
 ·rw[Mf q,Mf q];exact Paired.snoc r #[Z,h,R]
theorem KT.keeps{h:Hp}(r:KT H k x)(a:∀b y,H b=some (.tup y)->h b=some (.tup y)):KT h k x:=
 Paired.mapP r λ_ _ z=>#[z.1,a _ _ z.2.1,z.2.2]
section
variable {P:Program}{w:World}{H:Hp}{h:Heap}{a:Addr}
theorem BK(o:fo P w H h)(e:Rd H a u):aN P w H h a u:=e.ok o
theorem Kn(o:fo P w H h)(e:Rd H a (.dK k)):k.length<=sizeLine/\(a==sysModules)=false/\∃v,KV k v/\h.DictOf (aW P w) a v:=
 show aN P w H h a (.dK k) from BK o e
theorem Bk(o:fo P w H h)(e:H a=some (.dK k)):k.length<=sizeLine/\(a==sysModules)=false/\∃v,KV k v/\h.DictOf (aW P w) a v:=Kn o (.inl e)
theorem Kx{k:List bH}(O:fo P w H h)(e:H a=some (.tup$ k.map kV)):(tupleKind$ aW P w).is h k a:=by obtain⟨_,i,r,o,b,c,n,d⟩:=(show aN P w H h a (.tup$ k.map kV) from O a _ e);exact#[o,i.toArray,n,b,c,d,by simpa using QD r]
theorem Qq(O:fo P w H h)(e:Rd H a (.dT k)):k.length<=sizeLine/\(a==sysModules)=false/\
  ∃X,KT H k X/\h.DictOfH (tupleKind$ aW P w) a X:=by
 obtain⟨z,y,X,r,o,E,c,d,f,g,i,j⟩:=(show aN P w H h a (.dT k) from BK O e);refine#[z,y,X,r,o,E,c,d,f,g,i,λx hx=>?_,j];have all:∀{l:List (List bH×V)} {m:List (List bH×Addr×Value)},KT H l m->∀x∈m,(tupleKind$ aW P w).is h x.1 x.2.1:=by
  intro l m q;induction q with
  |nil=>intro x hx;exact nomatch hx
  | @cons p q n Q b t I=>
   intro x hx;rcases List.mem_cons.mp hx with e |hx
   ·subst e;exact Kx O (by rw[<- b.1];exact b.2.1)
   ·exact I x hx
 exact all r x hx
theorem Fy(o:fo P w H h)(e:H a=some (.dT k)):k.length<=sizeLine/\(a==sysModules)=false/\
  ∃x,KT H k x/\h.DictOfH (tupleKind$ aW P w) a x:=Qq o (.inl e)
end
def gu(H:Hp)(a:Addr)(y:V)(r:Option V):Prop:=
 (∃K k,Rd H a (.dK K)/\y=kV k/\r=b6 K k)∨∃K k b,Rd H a (.dT K)/\y= .ref b/\H b=some (.tup$ k.map kV)/\r=b6 K k
def nQ(H:Hp)(a:Addr)(y v:V)(h:Hp):Prop:=
 (∃K k,H a=some (.dK K)/\y=kV k/\K.length < sizeLine/\h=am H a (.dK$ bb K k v))∨
 ∃K k b,H a=some (.dT K)/\y= .ref b/\H b=some (.tup$ k.map kV)/\K.length < sizeLine/\h=am H a (.dT$ bb K k v)
theorem gu.k{H:Hp}{k:bH}(e:H a=some (.dK b)):gu H a (kV k) (b6 b k):=.inl #[b,k,.inl e,Z,Z]
theorem nQ.k{H:Hp}{k:bH}(e:H a=some (.dK b))(h:b.length < sizeLine):nQ H a (kV k) v (am H a$ .dK$ bb b k v):=.inl #[b,k,e,Z,h,Z]
section
variable {X:Cx}{pins:List (Addr×Obj)}{σ:St}{H:Hp}{s:Shared}{a:Addr}{y v:V}{u r:Value}{o:Option V}{A:Around}{E:Value->Shared->Prop}
theorem ax.big(I:ax X pins σ H s):sysModules < s.heap.objs.size:=by have h:mainGlobals < s.heap.objs.size:=(I.mod.glob.keeps I.bk).lt;exact Nat.lt_trans UN h
theorem pP{Q:Value->Shared->Prop}(m:A.units+1 < cLine)(I:ax X pins σ H s)(g:gu H a y (some v))(j:aF y u)(h:∀W S,ax X pins σ H S->aF v W->Q W S):
  wpAny (model X.prog X.w) A (getItem (.ref a) u) Q E s:=by
 rcases g with ⟨K,k,e,d,l⟩ | ⟨K,k,b,e,d,n,l⟩
 ·subst d;obtain⟨z,q,t,R,D⟩:=Kn I.hok e;obtain⟨W,f,c⟩:=dS.some_of (v:=v) (o:=valueAt t k) (by rw[l];exact R.val k);exact wpAny_getItem_of (Km j) D.mapOf f$ h W _ (I.tok _) c
 ·subst d;cases (show u=Value.ref b from j);obtain⟨z,q,x,R,D⟩:=Qq I.hok e;obtain⟨W,f,c⟩:=dS.some_of (v:=v) (o:=(atKey x k).map (·.2)) (by rw[l];exact R.val k);obtain⟨p,B,i⟩:=Option.map_eq_some_iff.mp f;refine wpAny_getItem_heap (O2 m) (Kx I.hok n) D B ?_;rw[i];exact h W _ (I.tok _) c
theorem Io{Q:Value->Shared->Prop}(i:A.units+1 < cLine)(I:ax X pins σ H s)(g:gu H a y o)(f:aF y u)(h:∀S,ax X pins σ H S->Q (.bool o.isSome) S):
  wpAny (model X.prog X.w) A (compareOp .In u$ .ref a) Q E s:=by
 rcases g with ⟨K,k,e,c,l⟩ | ⟨K,k,b,e,c,j,l⟩
 ·subst c;obtain⟨z,d,m,R,D⟩:=Kn I.hok e;refine wpAny_in_of (Km f) d D.mapOf ?_;rw[<- (R.val k).isSome_eq,<- l];exact h _$ I.tok _
 ·subst c;cases (show u=Value.ref b from f);obtain⟨z,d,x,R,D⟩:=Qq I.hok e;refine wpAny_in_heap (O2 i) (Kx I.hok j) d D ?_;have q:=(R.val k).isSome_eq;rw[Sm]at q;rw[<- q,<- l];exact h _$ I.tok _
theorem Xe(I:ax X pins σ H s)(m:EZ (H a))(c:Heap.SameBut a s.heap h)(d:∃q,h.get? a=some q)(n:aN X.prog X.w (am H a O) h a O):
  ax X pins σ (am H a O) { s with heap:=h,toks:=t }:=
 I.write (x:=a) (e:=a) m (.inl Z) (λb q f z=>(c.2 b f).trans z) d n
theorem QY{P:Program}{h:Heap}{k:List (bH×V)}(z:k.length<=sizeLine)(c:(a==sysModules)=false)(R:KV k b)(d:h.DictOf (aW P w) a b):
  aN P w e h a (.dK k):=#[z,c,b,R,d]
theorem pQ{Q:Unit->Shared->Prop}(J:A.units+1 < cLine)(I:ax X pins σ H s)(g:nQ H a y v L)(x:aF y u)(B:aF v r)(h:∀S,ax X pins σ L S->Q () S):
  wpAny (model X.prog X.w) A (setItem (.ref a) u r) Q E s:=by
 rcases g with ⟨K,k,e,i,l,j⟩ | ⟨K,k,b,e,i,C,l,j⟩
 ·subst i j;obtain⟨z,m,M,R,D⟩:=Bk I.hok e;have n:M.length<=sizeLine:=by rw[<- R.length];exact z
  have p:(bb K k v).length<=sizeLine:=by have:=qJ K k v;omega
  refine wpAny_setItem_pairs (hsz:=n) (Km x) D λF d t=>h _ ?_;have N:∃q,F.get? a=some q:=let #[q,_,_,f,_]:=d;#[q,f]
  exact Xe I (by rw[e];exact True.intro) t N$ QY p m (R.put k B) d
 ·subst i j;cases (show u=Value.ref b from x);obtain⟨z,m,O,R,D⟩:=Fy I.hok e;have n:O.length<=sizeLine:=by rw[<- Paired.length R];exact z
  have p:(bb K k v).length<=sizeLine:=by have:=qJ K k v;omega
  refine wpAny_setItem_heap (hsz:=n) (O2 J) (Kx I.hok C) D λF d t=>h _ ?_;obtain⟨q,P,T,f,U,W,Y,_,h5⟩:=d;refine Xe I (by rw[e];exact True.intro) t #[q,f] #[p,m,_,(R.put k C B).keeps λc ys G=>?_,q,P,T,f,U,W,Y,h5];rw[ji$ jW G e (λz=>nomatch z)];exact G
end
section
variable {X:Cx}{pins:List (Addr×Obj)}{σ:St}{H:Hp}{s:Shared}{a:Addr}{kvs:List (bH×V)}{k:bH}{u:Value}{A:Around}{E:Value->Shared->Prop}
theorem Fs{Q:Value->Shared->Prop}(I:ax X pins σ H s)(e:H a=some (.dK kvs))(R:aF (kV k) u)(l:b6 kvs k=some v)(c:m=[]∨∃x,m=[x])
  (h:∀W S,ax X pins σ (am H a$ .dK$ lv kvs k) S->aF v W->Q W S):wpAny (model X.prog X.w) A (call (.builtin "dict.pop") (.ref a::u::m)) Q E s:=by
 obtain⟨z,g,f,r,D⟩:=Bk I.hok e;obtain⟨W,j,b⟩:=dS.some_of (v:=v) (o:=valueAt f k) (by rw[<- l];exact r.val k);have n:(keyPart u).isSome=true:=by
  cases k with
  |inl i=>obtain⟨t,q⟩:=(show ∃t,u=Value.int i t from R);subst q;rfl
  |inr x=>obtain⟨t,q⟩:=(show ∃t,u=Value.str x t from R);subst q;rfl
 have p:argsOk "dict.pop" #[.ref a::u::m,[]]:=by
  rcases c with q | ⟨x,q⟩
  ·subst q;exact PySem.F.args_dict_pop_2 _ _
  ·subst q;exact PySem.F.args_dict_pop_3 _ _ _
 refine SK RP D.typeIs PySem.F.entry_dict_pop p (meets_dict_pop_there (aW X.prog X.w) a (Km R) m c n)
  #[f,W,D,by rw[<- r.length];exact z,j,λy d B=>h W _ ?_ b]
 have C:∃q,y.get? a=some q:=let #[q,_,_,G,_]:=d;#[q,G]
 exact Xe I (by rw[e];exact True.intro) B C$ QY (Mg (XI kvs k) z) g (r.drop k) d
end
def E7(i:Expr):Prop:=∀o I,subscripted i false o I=operate [o,I] (getItem o I)
theorem AV{id:String}
  (k:typeLookup (.type T) "__getitem__"=pure (some$ .builtin id)) (l:E7 a)
  (h:wpAny (model p w) A (eval v e) (λo b=>wpAny (model p w) A (eval a e) (λi S=>S.TypeIs o T/\wpAny (model p w) A (getItem o i) Q E S) E b) E s):
  wpAny (model p w) A (eval (.Subscript v a m) e) Q E s:=by
 refine TJ$ MZ h (λo b d=>MZ d (λi S H=>?_) λ_ _ x=>x) λ_ _ x=>x;obtain⟨j,H⟩:=H;unfold subscriptTail;refine LO ?_;rw[getitemInPython_of_ne j.not_modules];refine LO$ NN j k ?_;have f:wpAny (model p w) A (subscripted a false o i) (λr c=>wpAny (model p w) A (letTemporaryGo v o r >>= λ_=>pure r) Q E c) E S:=by rw[l o i];exact wpAny_operating$ MZ H (λr c g=>LO (wpAny_letTemporaryGo$ LR g)) λ_ _ x=>x
 first
  |exact LR (LO f)
  |exact LO (LR (LO f))
  |exact LO f
theorem Yi{X:Cx}(I:ax X p c H s)(g:gu H a y o):s.TypeIs (.ref a) "dict":=by
 rcases g with ⟨K,k,e,_,_⟩ | ⟨K,k,b,e,_,_,_⟩
 ·obtain⟨_,_,v,_,d⟩:=Kn I.hok e;exact d.typeIs
 ·obtain⟨_,_,x,_,d⟩:=Qq I.hok e;exact d.typeIs
inductive xg(Q:VK)(x y:V)(b:Hp):Prop
 |mk(a v:_)(_:x= .ref a)(_:gu b a y (some v))(_:Q v b)
def Hg(t T:TE):TE:=λa H Q=>t a H λx h=>T a h (xg Q x)
inductive BV(Q:VK)(y x:V)(b:Hp):Prop
 |mk(a o:_)(_:x= .ref a)(_:gu b a y o)(_:Q (.bl o.isSome) b)
def IM(t T:TE):TE:=λa H Q=>t a H λy h=>T a h (BV Q y)
inductive vV(D:a7)(d:St)(v x y:V)(b:Hp):Prop
 |mk(a c:_)(_:x= .ref a)(_:nQ b a y v c)(_:D.nx d c)
def vU(t T b:TE):TS:=λD a H=>b a H λv h=>t a h λx c=>T a c (vV D a v x)
section
variable {X:Cx}{o i e value:Expr}{pos pos' tpos:Pos}{td ty tv:TE}
theorem Ag(d:X.A.units+1 < cLine)(f:PE X o td)(j:PE X i ty)(k:E7 i):PE X (.Subscript o i pos) (Hg td ty):=by intro p s b H Q I h;refine AV PySem.F.slot_dict_getitem.lookup k$ aV (f p s b H _ I h) λu S #[x,l,m,R,q]=>aV (j p S b l _ m q) λC D z=>?_;obtain⟨y,n,c,t,a,v,E,g,w⟩:=z;subst E;obtain rfl:u=Value.ref a:=R;exact#[Yi c g,pP d c g t λW G B r=>#[v,n,B,r,w]]
theorem DQ(c:X.A.units+1 < cLine)(d:PE X i ty)(f:PE X o td):PC X .In i o (IM ty td):=by intro p s b H Q I h;refine aV (d p s b H _ I h) λv S #[y,j,k,r,q]=>aV (f p S b j _ k q) λu w z=>?_;obtain⟨x,l,m,R,a,O,E,g,n⟩:=z;subst E;obtain rfl:u=Value.ref a:=R;exact Io c m g r λB t=>#[.bl O.isSome,l,t,Z,n]
theorem Je(c:X.A.units+1 < cLine)(d:PE X o td)(f:PE X i ty)(j:PE X value tv)(k:swapsWith value (some$ .Subscript o i pos') pos.line X.env=pure false):
  PS X (.Assign [.Subscript o i pos'] value pos) (vU td ty tv):=by
 intro p s b H D I h;refine wpAny_Assign_Subscript (aV (j p s b H _ I h) λr S #[v,l,m,R,q]=>aV (d p S b l _ m q) λu n #[x,t,w,B,Q]=>aV (f p n b t _ w Q) λL M z=>?_) k;obtain⟨y,N,C,E,a,F,G,g,J⟩:=z;subst G;obtain rfl:u=Value.ref a:=B;exact pQ c C g E R λO K=>#[b,F,K,J]
end
theorem tH{P:Program}(h:Heap)(a:sysModules < h.objs.size):aN P w H (h.push { cls:=.type "dict",data:=.dict (List.toArray []) }) h.objs.size (.dK []):=
 #[Ma _,beq_eq_false_iff_ne.mpr$ ME$ Me a,[],.nil,R3 h]
def Ep:TE:=λ_ H Q=>∀p,H p=none->Q (.ref p) (am H p$ .dK [])
section
variable {X:Cx}{pos:Pos}
theorem XJ:PE X (.Dict [] [] pos) Ep:=λp s b H Q I h=>
 wpAny_Dict_empty #[.ref s.heap.objs.size,_,I.laid (a:=s.heap.objs.size) (o:=.dK []) (t':=s.toks) (λ_ _ q=>LQ _ q) (LV _)$ tH s.heap I.big,Z,h _$ I.hok.fresh$ LV _]
end
noncomputable def dq(k m:List (bH×V)):List (bH×V):=m.foldl (λa K=>bb a K.1 K.2) k
theorem KV.merge:∀{m:List (bH×V)} {R:List (bH×Value)} {k:List (bH×V)} {v:List (bH×Value)},KV m R->KV k v->KV (dq k m) (merged v R):=by
 intro m R k v r;unfold KV at r;induction r generalizing k v with
 |nil=>intro q;exact q
 | @cons p q P Q h t i=>
  intro a;have e:KV (bb k p.1 p.2) (stored v q.1 q.2):=by have:=a.put p.1 h.2;rw[<- h.1];exact this
  exact i e
theorem qR:∀(m k:List (bH×V)),(dq k m).length<=k.length+m.length
 | [],k=>by show k.length<=k.length+0;omega
 |p::r,k=>by have h:=qR r (bb k p.1 p.2);have H:=qJ k p.1 p.2;show(dq (bb k p.1 p.2) r).length<=_;rw[Mu];omega
structure M2(X:Cx)(o:Expr)(m:Str)(apos:Pos)(e f:Expr)(cpos:Pos):Prop where
 base:attributeBase o m X.env (eval o X.env)=eval o X.env
 few:((backTo cpos$ starEach [e,f] X.env).all (λx=>!x.1)&&(backToKw cpos$ keywordEach [] X.env).all (λx=>x.1.isSome)
  &&decide (([e,f]:List Expr).length+([]:List Keyword).length+(if ([]:List Keyword).isEmpty then 0 else 1) < 30))=true
 line:(apos.endLine==cpos.line)=true
 trees:backTo cpos (starEach [e,f] X.env)=[(false,eval e X.env),(false,eval f X.env)]
def J'(H:Hp)(a:Addr):Prop:=(∃k,Rd H a$ .dK k)∨∃k,Rd H a (.dT k)
theorem CO{X:Cx}(I:ax X p g H s)(d:J' H a):
  s.TypeIs (.ref a) "dict"/\(∀b,Value.ref a= .ref b->∃o,s.heap.get? b=some o/\o.dict=none)/\(a==sysModules)=false:=by
 rcases d with ⟨k,e⟩ | ⟨k,e⟩
 ·obtain⟨_,h,v,_,D⟩:=Kn I.hok e;refine#[D.typeIs,λb q=>?_,h];cases q;obtain⟨o,_,_,c,f,_⟩:=D;exact#[o,c,f.2.1]
 ·obtain⟨_,h,x,_,D⟩:=Qq I.hok e;refine#[D.typeIs,λb q=>?_,h];cases q;obtain⟨o,_,_,c,f,_⟩:=D;exact#[o,c,f.2.1]
section
variable {X:Cx}{pins:List (Addr×Obj)}{σ:St}{H:Hp}{s:Shared}{a:Addr}{y d:V}{u r:Value}{o:Option V}{A:Around}{E:Value->Shared->Prop}
theorem Cw{Q:Value->Shared->Prop}(m:A.units+1 < cLine)(I:ax X pins σ H s)(g:gu H a y o)(i:aF y u)(j:aF d r)(h:∀W S,ax X pins σ H S->aF (o.getD d) W->Q W S):
  wpAny (model X.prog X.w) A (call (.builtin "dict.get") [.ref a,u,r]) Q E s:=by
 rcases g with ⟨K,k,e,c,l⟩ | ⟨K,k,b,e,c,n,l⟩
 ·subst c;obtain⟨z,f,v,R,D⟩:=Kn I.hok e;refine SK Pe D.typeIs RH (RC _ _ _) (meets_dict_get_default (aW X.prog X.w) a (Km i) f r) #[_,D.mapOf,h _ _ (I.tok _) ?_];rw[l];exact(R.val k).getD j
 ·subst c;cases (show u=Value.ref b from i);obtain⟨z,f,x,R,D⟩:=Qq I.hok e;refine SK Pe D.typeIs RH (RC _ _ _) (meetsH_dict_get_default (tupleKind$ aW X.prog X.w) a b f r) #[O2 m,k,x,Kx I.hok n,D,h _ _ (I.tok _) ?_];rw[l];exact(R.val k).getD j
end
inductive pC(d c:TE)(e:St)(Q:VK)(x:V)(b:Hp):Prop
 |mk(a:_)(_:x= .ref a)(_:J' b a)(_:d e b λy H2=>c e H2 λz H3=>∃o,gu H3 a y o/\Q (o.getD z) H3)
def Eo(t T b:TE):TE:=λa H Q=>t a H (pC T b a Q)
section
variable {X:Cx}{o e f:Expr}{apos cpos:Pos}{td ty tx:TE}
theorem KF(j:X.A.units+1 < cLine)(k:PE X o td)(l:PE X e ty)(n:PE X f tx)(m:M2 X o "get" apos e f cpos):PE X (.Call (.Attribute o "get" apos) [e,f] [] cpos) (Eo td ty tx):=by
 intro p s b H Q I h;refine wpAny_Call_method m.base m.few m.line Rz Pe PySem.F.type_dict_get$ aV (k p s b H _ I h) λu S c=>?_;obtain⟨x,q,i,R,a,E,d,t⟩:=c;subst E;obtain rfl:u=Value.ref a:=R;obtain⟨T,v,_⟩:=CO i d;refine#[T,v,?_];rw[m.trees];refine Ph Z (Sb (NC (aV (l p S b q _ i t) λO w #[y,B,C,D,G]=>
  NC (aV (n p w b B _ C G) λP U #[z,J,K,L,V,g,M]=>N4 ?_))))
 exact Cw j K g D L λW Y N r=>#[_,J,N,r,M]
end
section
variable {X:Cx}{pins:List (Addr×Obj)}{σ:St}{H:Hp}{s:Shared}{a:Addr}{kvs:List (bH×V)}{A:Around}{E:Value->Shared->Prop}
theorem tF{Q:Value->Shared->Prop}(I:ax X pins σ H s)(e:Rd H a (.dK kvs))(h:∀p S,H p=none->ax X pins σ (am H p$ .dK kvs) S->Q (.ref p) S):wpAny (model X.prog X.w) A (call (.type "dict") [.ref a]) Q E s:=by obtain⟨z,f,v,r,D⟩:=Kn I.hok e;refine kt_call_dict f D (by rw[<- r.length];exact z) λi d g=>?_;refine h _ _ (I.hok.fresh$ LV _)$ I.laid (a:=s.heap.objs.size) (o:=.dK kvs) (t':=s.toks) (λb q c=>?_) (LV _)$ QY z (beq_eq_false_iff_ne.mpr$ ME$ Me I.big) r d;exact(g.2 b$ Me$ LW c).trans (LQ _ c)
end
section
variable {X:Cx}{pins:List (Addr×Obj)}{σ:St}{H:Hp}{s:Shared}
theorem QE:er X (.type "dict") (λx H Q=>∃a k,x=[.ref a]/\H a=some (.dK k)/\∀p,H p=none->Q (.ref p) (am H p$ .dK k)):=by intro pins s σ H x U Q I r h;obtain⟨a,k,rfl,b,q⟩:=h;obtain⟨u,rfl,R⟩:=eY r;cases R;exact tF I (.inl b) λp S n i=>#[.ref p,_,i,Z,q p n]
end
section
open PySem.W PySem.Calls Builtin Builtin.ObjectAttr
variable {prog:Program}{w:World}{A:Around}{E:Value->Shared->Prop}{s:Shared}{K:Frag}{x C:Addr}{ox:Obj}{od:Option Obj}{name:Str}
structure sS(K:Frag)(C:Addr):Prop where
 ga:findIn K (.ref C) "__getattribute__"=some (some$ .builtin "BaseException.__getattribute__")
 gh:findIn K (.ref C) "__getattr__"=some none
 sa:findIn K (.ref C) "__setattr__"=some (some$ .builtin "object.__setattr__")
 cl:findIn K (.ref C) "__class__"=some (some$ .builtin "object.__class__")
 gt:specialIn K (.builtin "object.__class__") "__get__"=some (some$ .builtin "getset_descriptor.__get__")
 tk:takesIn K (.builtin "object.__class__")=some true
 mb:mroIn K C (.type "BaseException")=some true
 mo:mroIn K C (.type "object")=some true
 hd:hasDictIn K C=true
abbrev pJ:List Value:=[.type "ValueError",.type "Exception",.type "BaseException",.type "object"]
end
section
open PySem.W PySem.Calls
variable {prog:Program}{w:World}{A:Around}{E:Value->Shared->Prop}{R:Result->Shared->Prop}{K:Frag}{h:Heap}{g:Array GenState}{d:Drawn}{t:Nat}{os:OsState}{C B:Addr}
theorem pS(q:excIn K C pJ "ValueError.__new__"=true):(∃p q N r f a s sub u c D k i j m o,K.lookup C=some (excClassObj p q C N r f a s sub u c D k i j m o "ValueError.__new__")/\tailIn K pJ f=true/\nsOkIn K N=true/\nsIn K N "__init__"=some none):=by
 unfold excIn at q;split at q
 ·rename_i D z S F
  split at q
  ·rename_i O f k i j m n o x y
   simp only[M9,beq_iff_eq,SS]at q;obtain⟨⟨⟨⟨⟨rfl,rfl⟩,H⟩,G⟩,b⟩,e⟩:=q;obtain⟨p,r,M,I,Q,J,s,sub,u,c,L⟩:=z;dsimp only at x H b e;subst x H;have v:S=(List.toArray [k,i,j,m,some$ .builtin "ValueError.__new__",o]):=by obtain⟨l⟩:=S;simp only at y;rw[y]
   subst v;exact#[p,Q,I,r,f,J,s,sub,u,c,D,k,i,j,m,o,F,G,b,e]
  ·cases q
 ·cases q
end
theorem aN.obj{P:Program}{a:Addr}(x:aN P w H h a o):∃u,h.get? a=some u:=by
 cases o with
 |lst X=>obtain⟨_,_,_,_,e⟩:=x;exact#[_,e]
 |tup X=>obtain⟨_,_,_,o,e,_⟩:=x;exact#[_,e]
 |dK k=>obtain⟨_,_,_,_,o,_,_,e,_⟩:=x;exact#[_,e]
 |dT k=>obtain⟨_,_,_,_,o,_,_,e,_⟩:=x;exact#[_,e]
 |set S n=>obtain⟨o,_,_,_,e,_⟩:=x;exact#[_,e]
 |ins C d F=>obtain⟨_,_,_,e,_⟩:=x;exact#[_,e]
 |own y=>obtain⟨_,e⟩:=x;exact#[_,e]
 |xd F=>obtain⟨_,⟨_,_,_,e,_⟩,_⟩:=x;exact#[_,e]
 |rng lo b=>obtain⟨_,_,_,e⟩:=x;exact#[_,e]
 |frz O u=>obtain⟨e,_⟩:=x;exact#[_,e]
 |tbl p=>exact#[_,(show h.get? a=some _ from x)]
 |met f y=>exact#[_,(show h.get? a=some _ from x)]
 |ext c=>obtain⟨_,⟨_,e⟩,_⟩:=x;exact#[_,e]
theorem ax.laidN{X:Cx}{h':Heap}{a:Addr}{o:HO}{t':Nat}(I:ax X p g H s)(k:∀b u,s.heap.get? b=some u->h'.get? b=some u)(d:s.heap.get? a=none)(N:aN X.prog X.w (am H a o) h' a o):
  H a=none/\ax X p g (am H a o) { s with heap:=h',toks:=t' }:=by
 have i:∀b u,s.heap.get? b=some u->b≠a:=λb u q z=>by rw[z,d]at q;cases q
 have h:H a=none:=by
  cases q:H a with
  |none=>rfl
  |some u=>obtain⟨U,e⟩:=(I.hok a u q).obj;rw[d]at e;cases e
 refine#[h,I.un ?_ ?_]
 ·exact { keep:=λb u q _ _ _=>k b u q,slot:=λb u q _ _ _=>#[u.slots,k b u q],free:=λb u q n _=>by rw[ji$ i b u q];exact n,there:=λb u q _=>#[u,k b u q],tups:=λb x q=>by rw[ji$ jk q h];exact q,frzs:=λb u x q=>by rw[ji$ jk q h];exact q,tbls:=λb P q=>#[(List.toArray []),by rw[ji$ jk q h,q];simp] }
 ·intro b u e;by_cases f:b=a
  ·subst f;rw[jc]at e;cases e;exact N
  ·rw[ji f]at e;exact(I.hok b u e).stay (λc v _ q=>k c v q) (λc q=>by rw[ji$ jk q h];exact q) λc x q=>by rw[ji$ jk q h];exact q
noncomputable def Bb(C:Addr)(d:Option Addr)(x:Addr):HO:=.ext λh=>∃o,h.get? x=some o/\o.cls= .ref C/\notCls o=true/\o.dict=d/\∃v,o.data= .fields v/\v[1]?=some .none
theorem CC{P:Program}{h:Heap}(e:h.get? x=some o)(a:o.cls= .ref C)(b:notCls o=true)(c:o.dict=d)(f:∃v,o.data= .fields v/\v[1]?=some .none):aN P w H h x (Bb C d x):=
 #[#[o,e,a,b,c,f],#[o,e],λg i #[O,E,q] k=>#[O,k O E,q]]
def AY(C:Addr):TE:=λa H Q=>∀x,H x=none->Q (.ref x) (am H x$ Bb C none x)
section
variable {X:Cx}{CX:pF}{k:Nat}{f C:Addr}{fd:FuncData}{ps:List Str}{sp:Sp}{E:XK}{x m g:Str}{p pos pos':Pos}{e o value:Expr}{es:List Expr}{ta tv:TE}{t:TA}
theorem QF(M:excIn X.K C pJ "ValueError.__new__"=true)(l:keepIn X.K (.ref C)=true)(n:Gl X x)(r:X.mg x=some (.ref C))(c:(x==("__debug__":Str))=false:=by decide):
  PE X (.Call (.Name x p) [] [] pos) (AY C):=by
 intro P s D H Q I h;refine MT$ zN I n r ?_ c;refine PH I.kIn l ?_;obtain⟨G,q,N,J,L,j,S,sub,O,u,R,U,V,Y,k3,k5,v,w,b,i⟩:=pS M;have y:=I.kIn _ _ v;obtain⟨hp,g,d,T,os⟩:=s;refine wpAny_call_exc_subT PySem.F.excBase_ValueError (PySem.W.tail_of_in I.kIn w) y (.of_isNs$ PySem.W.isNs_of_in I.kIn b) (PySem.W.nsMap_none_of_in I.kIn b i) (λh' e m=>?_)$ Ma _;obtain⟨t,z,_,_⟩:=m.there;obtain⟨A,B⟩:=I.laidN (a:=e) (h':=h') (o:=Bb C none e) (t':=T) m.keeps m.new (CC z Z Z Z #[_,Z,Z]);exact#[.ref e,_,B,Z,h e A]
end
theorem ax.turnedN{X:Cx}{p:List (Addr×Obj)}{d:St}{H:Hp}{s:Shared}{g:Heap}{t':Nat}{f:List Addr}(I:ax X p d H s)(a:∀b∈f,gw X p H b)(k:∀b o,b∉f->s.heap.get? b=some o->g.get? b=some o):
  ax X p d H { s with heap:=g,toks:=t' }:=by
 have N:∀b u,H b=some u->b∉f:=λb u e z=>by rw[(a b z).1]at e;cases e
 refine I.step (g':=s.gens) (d':=s.drawn) (ch:=f) (λb i=>?_) (λb o _ _ h e _=>k b o h e) (λb o _ _ h e _=>#[o.slots,k b o h e]) (λ_ _ _ _ n=>n)
  (λb o h e=>#[o,k b o h e]) (λ_ _ e=>e) (λ_ _ _ e=>e) (λb P e=>#[(List.toArray []),by rw[e];simp]) (λm j=>?_) (λb u e=>?_) I.bare
 ·obtain⟨A,F,B,l,t,w⟩:=a b i;exact#[l,F,t,w]
 ·obtain⟨o,E,x,y,r⟩:=j;exact#[o,E,x,k _ o (λz=>(a _ z).2.1 Z) y,r]
 ·refine(I.hok b u e).stay (λc v h q=>k c v ?_ q) (λ_ q=>q) λ_ _ q=>q;rcases h with z |z
  ·rw[z];exact N b u e
  ·exact N c _ z
section
variable {M:Model}{A:Around}{E:Value->Shared->Prop}{s:Shared}
structure di(fl:Value)(lB:List Addr)(x:Addr)(ox:Obj)(h h':Heap):Prop where
 ex:∃T oT ts,h.objs.size<=T/\h'.get? x=some (Obj.mapFields (·.setIfInBounds 1 (.ref T)) ox)/\h'.get? T=some oT/\oT.data= .fields ts/\ts[3]?=some fl
 keep:∀b o,b∉lB->b≠x->h.get? b=some o->h'.get? b=some o
 slot:∀b o,b≠x->h.get? b=some o->∃sl,h'.get? b=some { o with slots:=sl }
theorem QG{Q:Unit->Shared->Prop}
  (t:A.frames=some (d::O)) (F:s.heap.FunFrames G (d::O)) (N:d.frame=some L)
  (I:s.heap.get? x=some u) (v:u.data= .fields J) (w:1 < J.size)
  (h:∀K,di (rawInt L) ((d::O).filterMap (·.frame)) x u s.heap K->Q () { s with heap:=K }):
  wpAny M A (do let a <- frameOf d;let p <- entryPlaceOf L q;let b <- EntryCells.newEntry f a .none (rawInt L) .none p;setField (.ref x) 1 b) Q E s:=by
 have y:x∉(d::O).filterMap (·.frame):=λP=>by obtain⟨_,o,r,z⟩:=F.mem P;rw[I]at r;injection r with r;subst r;exact z J v
 refine LO$ wpAny_frameOf_fun t F N λH c=>?_;refine LO$ wpAny_entryPlaceOf λp B=>?_;unfold EntryCells.newEntry newFields;refine LO$ MJ ?_$ B.sizeOk5 _ _ _ _ _;have g:H.get? x=some u:=(c.2.1 x y).trans I;have i:=LQ (h:=H) { cls:=.type "traceback",dict:=none,data:=.fields ([f,.ref L,.none,rawInt L,.none]++(if p.isEmpty then List.replicate 6 Value.none else p)).toArray } g;refine MS i v w$ h _ ?_;have C:H.objs.size≠x:=MV (LW g);have j:=MD v (·.setIfInBounds 1 (Value.ref H.objs.size));have l:=MH (Obj.mapFields (·.setIfInBounds 1 (Value.ref H.objs.size))) i (M5 j);have k:∀b o,b≠x->H.get? b=some o->((H.push { cls:=.type "traceback",dict:=none,data:=.fields ([f,.ref L,.none,rawInt L,.none]++(if p.isEmpty then List.replicate 6 Value.none else p)).toArray }).update x$ Obj.mapFields (·.setIfInBounds 1 (Value.ref H.objs.size))).get? b=some o:=λb o D e=>by rw[Mn _ _$ ME D];exact LQ _ e
 have m:=(Mn (H.push { cls:=.type "traceback",dict:=none,data:=.fields ([f,.ref L,.none,rawInt L,.none]++(if p.isEmpty then List.replicate 6 Value.none else p)).toArray })
  (Obj.mapFields (·.setIfInBounds 1 (Value.ref H.objs.size))) (ME C)).trans (LX H Z)
 refine#[#[H.objs.size,_,_,Pq c.1.symm,l,m,Z,UP],λb o D n e=>k b o n ((c.2.1 b D).trans e),λb o n e=>?_];obtain⟨S,R⟩:=c.2.2 b o e;exact#[S,k b _ n R]
theorem YT{Q:Unit->Shared->Prop}
  (H:A.frames=some (e::o)) (i:s.heap.FunFrames b (e::o)) (a:e.frame=some L)
  (c:s.heap.get? x=some O) (d:O.data= .fields v) (f:v[1]?=some .none)
  (h:∀g,di (rawInt L) ((e::o).filterMap (·.frame)) x O s.heap g->Q () { s with heap:=g }):
  wpAny M A (noteFrame (.ref x) e) Q E s:=by
 unfold noteFrame;simp only[a];refine LO$ My c d f ?_;rw[Mf UN];exact QG H i a c d (Array.getElem?_eq_some_iff.mp f).1 h
theorem CU{lB:List Addr}{Q:Unit->Shared->Prop}(N:di C lB x O H s.heap)(j:H.get? x=some O)(v:O.data= .fields w)(k:1 < w.size)
  (h:∀p,di .none lB x O H p->Q () { s with heap:=p }):wpAny M A (setFlight (.ref x) none) Q E s:=by
 obtain⟨T,D,F,c,r,t,g,y⟩:=N.ex;have l:=MD v (·.setIfInBounds 1 (Value.ref T));have m:T≠x:=λz=>absurd (Mi (LW j) (by rw[<- z];exact c)) (MX _);unfold setFlight;refine LO$ My r l (x:=.ref T) (by simp [k]) ?_;rw[Mb (show(Value.ref T != Value.none)=true from by simp)];have i:=(Array.getElem?_eq_some_iff.mp y).1;refine MS t g i$ h _ ?_;have a:=MD g (·.setIfInBounds 3 ((none:Option Addr).elim Value.none λf=>rawInt f));have n:=MH (Obj.mapFields (·.setIfInBounds 3 ((none:Option Addr).elim Value.none λf=>rawInt f))) t (M5 a);have u:∀b o,H.get? b=some o->T≠b:=λb o e z=>absurd (Mi (LW e) (by rw[<- z];exact c)) (MX _);refine#[#[T,_,_,c,by rw[Mn _ _ m];exact r,n,a,by simp [i]],λb o B d e=>?_,λb o d e=>?_]
 ·rw[Mn _ _$ u b o e];exact N.keep b o B d e
 ·obtain⟨S,q⟩:=N.slot b o d e;exact#[S,by rw[Mn _ _$ u b o e];exact q]
theorem Yj{base:Heap}{Q:Unit->Shared->Prop}
  (a:A.frames=some (e::o)) (f:s.heap.FunFrames base (e::o)) (g:e.frame=some L)
  (b:s.heap.get? x=some O) (c:O.data= .fields v) (d:v[1]?=some .none)
  (h:∀H,di .none ((e::o).filterMap (·.frame)) x O s.heap H->Q () { s with heap:=H }):
  wpAny M A (leaving e$ .ref x) Q E s:=by
 unfold leaving;exact LO$ YT a f g b c d λH N=>CU (s:={ s with heap:=H }) N b c (Array.getElem?_eq_some_iff.mp d).1 h
end
section
variable {M:Model}{A:Around}{E:Value->Shared->Prop}{s:Shared}
noncomputable abbrev eP(T:Addr)(h:Heap):Heap:=h.update T (Obj.mapFields (·.setIfInBounds 3 Value.none))
theorem QH{base:Heap}{Q:Unit->Shared->Prop}
  (f:A.frames=some (e::O)) (w:s.heap.FunFrames base (e::O)) (j:e.frame=some L)
  (k:s.heap.get? x=some l) (m:l.data= .fields v) (p:v[1]?=some (.ref T)) (g:T≠x) (i:s.heap.get? T=some y) (c:y.data= .fields t) (r:t[3]?=some .none)
  (h:∀u,di (rawInt L) ((e::O).filterMap (·.frame)) x l (eP T s.heap) u->Q () { s with heap:=u }):
  wpAny M A (noteFrame (.ref x) e) Q E s:=by
 unfold noteFrame;simp only[j];refine LO$ My k m p ?_;rw[Mb (show(Value.ref T != Value.none)=true from by simp)];refine LO$ My i c r ?_;rw[Mf (show ¬((Value.none==rawInt L)=true) from by simp [rawInt])];refine LO$ MS i c (Array.getElem?_eq_some_iff.mp r).1 ?_;have a:∀b,b≠T->(eP T s.heap).get? b=s.heap.get? b:=λb H=>Mn _ _ (ME H);have n:∀b o,s.heap.get? b=some o->(∀v,o.data≠ .fields v)->b≠T:=λb o H d q=>by rw[q,i]at H;injection H with H;subst H;exact d t c
 exact QG (s:={ s with heap:=eP T s.heap }) f (w.of_keeps λb o H d=>#[o,(a b$ n b o H d).trans H,Z]) j ((a x$ ME g).trans k) m (Array.getElem?_eq_some_iff.mp p).1 h
theorem YU{base:Heap}{Q:Unit->Shared->Prop}
  (b:A.frames=some (e::o)) (i:s.heap.FunFrames base (e::o)) (j:e.frame=some L)
  (d:s.heap.get? x=some O) (f:O.data= .fields v) (g:v[1]?=some (.ref T)) (H:T≠x) (k:s.heap.get? T=some l) (c:l.data= .fields t) (m:t[3]?=some .none)
  (h:∀a,di .none ((e::o).filterMap (·.frame)) x O (eP T s.heap) a->Q () { s with heap:=a }):
  wpAny M A (leaving e$ .ref x) Q E s:=by
 unfold leaving;exact LO$ QH b i j d f g H k c m λa N=>CU (s:={ s with heap:=a }) N ((Mn _ _ H).trans d) f (Array.getElem?_eq_some_iff.mp g).1 h
end
noncomputable def ig(C:Addr)(d:Option Addr)(T x:Addr):HO:=.ext λh=>∃o v,h.get? x=some o/\o.cls= .ref C/\notCls o=true/\o.dict=d/\o.data= .fields v/\v[1]?=some (.ref T)
noncomputable def gY(T:Addr):HO:=.ext λh=>∃o t,h.get? T=some o/\o.data= .fields t/\t[3]?=some .none
theorem Eu{P:Program}{h:Heap}(e:h.get? x=some o)(c:o.cls= .ref C)(f:notCls o=true)(g:o.dict=d)(i:o.data= .fields a)(b:a[1]?=some (.ref T)):aN P w H h x (ig C d T x):=
 #[#[o,a,e,c,f,g,i,b],#[o,e],λb j #[O,v,E,q] k=>#[O,v,k O E,q]]
theorem xw{P:Program}{h:Heap}(e:h.get? T=some o)(b:o.data= .fields a)(c:a[3]?=some .none):aN P w H h T (gY T):=
 #[#[o,a,e,b,c],#[o,e],λd f #[O,t,E,q] k=>#[O,t,k O E,q]]
def gq(P:Program)(w:World):pF:=λo H s E e S=>∃x C d T h,e= .ref x/\S.os=s.os/\AllBare S.gens/\Un (lB o) [] H h s.heap S.heap/\fo P w h S.heap/\
 h x=some (ig C d T x)/\h T=some (gY T)/\T≠x/\E (.ref C) d h
section
variable {X:Cx}{pins:List (Addr×Obj)}{σ:St}{H:Hp}{s:Shared}{x C:Addr}{d:Option Addr}
theorem di.hok{fl:Value}(I:ax X pins σ H s)(g:H x=some (.ext M))(P:s.heap.get? x=some o)(B:o.cls= .ref C)(D:o.dict=d)(j:o.data= .fields E)(k:1 < E.size)(l:∀b∈G,H b=none)
  (N:di .none G x o s.heap J):∃T,H T=none/\T≠x/\s.heap.objs.size<=T/\fo X.prog X.w (am (am H T$ gY T) x$ ig C d T x) J:=by
 obtain⟨T,Q,R,h,m,F,n,p⟩:=N.ex;have i:H T=none:=I.hok.fresh h;have r:T≠x:=ME (jk g i);have a:=MD j (·.setIfInBounds 1 (Value.ref T));refine#[T,i,r,h,λb u e=>?_];by_cases t:b=x
 ·subst t;rw[jc]at e;cases e;refine Eu m ((Oz _ _).trans B) ?_ ?_ a (by simp [k])
  ·unfold notCls;rw[a]
  ·obtain⟨S,U,O,K⟩:=o;simp only at j;subst j;exact D
 ·rw[ji t]at e;by_cases f:b=T
  ·subst f;rw[jc]at e;cases e;exact xw F n p
  ·rw[ji f]at e;refine(I.hok b u e).stay (λc v A q=>?_) (λc q=>?_) λc V q=>?_
   ·have y:c≠x:=by
     rcases A with z |z
     ·rw[z];exact t
     ·exact jW z g (by intro q;cases q)
    refine N.keep c v (λL=>?_) y q;have:=l c L;rcases A with z |z
    ·rw[z,e]at this;cases this
    ·rw[z]at this;cases this
   ·rw[ji$ jW q g (by intro z;cases z),ji$ jk q i];exact q
   ·rw[ji$ jW q g (by intro z;cases z),ji$ jk q i];exact q
theorem di.un{h':Heap}(I:ax X pins σ H s)(hex:X.ex=[])(j:H x=some (.ext k))(l:H T=none)(c:s.heap.objs.size<=T)(f:∀b∈p,b∈X.fs∨X.s₀.heap.objs.size<=b)
  (N:di .none p x y s.heap h'):Un X.fs [] X.H₀ (am (am H T$ gY T) x$ ig C d T x) X.s₀.heap h':=by
 have g:∀b,H b=none->b≠x:=λb e z=>by rw[z,j]at e;cases e
 have r:∀b o,X.s₀.heap.get? b=some o->b≠T:=λb o e=>Me (Mi (LW e)$ Mg I.sz c);have a:∀b:Addr,b∉X.ex:=λb z=>by rw[hex]at z;cases z
 have t:∀b,H b=none->b≠T->am (am H T$ gY T) x (ig C d T x) b=none:=λb e z=>by rw[ji$ g b e,ji z];exact e
 have U:∀b u,H b=some u->(∀k,u≠ .ext k)->am (am H T$ gY T) x (ig C d T x) b=some u:=λb u e z=>by rw[ji (λq=>by rw[q,j]at e;cases e;exact z _ Z),ji$ jk e l];exact e
 refine#[λb o e n h _=>?_,λb o e n h _=>?_,λb o e n _=>?_,λb o e _=>?_,λb v e=>U b _ (I.base.tups b v e) (by intro _ q;cases q),λb o u e=>U b _ (I.base.frzs b o u e) (by intro _ q;cases q),λb P e=>?_]
 ·refine N.keep b o (λz=>?_) (g b$ I.base.free b o e n$ a b)$ I.base.keep b o e n h$ a b;rcases f b z with q |q
  ·exact h q
  ·exact absurd (Mi (LW e) q)$ MX _
 ·obtain⟨w,q⟩:=I.base.slot b o e n h (a b);obtain⟨S,Q⟩:=N.slot b _ (g b$ I.base.free b o e n$ a b) q;exact#[S,Q]
 ·exact t b (I.base.free b o e n$ a b)$ r b o e
 ·obtain⟨O,q⟩:=I.base.there b o e (a b);by_cases h:b=x
  ·obtain⟨A,_,_,_,i,_⟩:=N.ex;exact#[_,by rw[h];exact i]
  ·obtain⟨w,Q⟩:=N.slot b O h q;exact#[_,Q]
 ·obtain⟨m,q⟩:=I.base.tbls b P e;exact#[m,U b _ q (by intro _ q;cases q)]
end
section
variable {P:Program}{w:World}{K:Frag}{mg:Str->Option Value}{base:Heap}{N:List Str}{qual:Str}{scope:Scope}{f:Addr}{cd:Value}{A:Around}{outer:List Env}{s₀:Shared}{H₀:Hp}{E:XK}
variable {pins:List (Addr×Obj)}{σ:St}{H:Hp}{s:Shared}{x C:Addr}{d:Option Addr}
theorem xP(I:ax (gA (gq P w) P w K mg base N qual scope f cd A outer s₀ H₀ E) pins σ H s)(c:H x=some (Bb C d x))
  (h:∀T,H T=none->E (.ref C) d (am (am H T$ gY T) x$ ig C d T x)):(gA (gq P w) P w K mg base N qual scope f cd A outer s₀ H₀ E).xe (.ref x) s:=by
 obtain⟨⟨O,l,q,t,r,v,m,n⟩,_⟩:=I.hok x _ c;have g:=(Array.getElem?_eq_some_iff.mp n).1;refine Yj (base:=base) I.ok.frames I.stack Z l m n λy o=>?_;obtain⟨T,p,a,i,j⟩:=o.hok (C:=C) (d:=d) (fl:=.none) I c l q r m g λb k=>I.stkFree b k;have u:=o.un (C:=C) (d:=d) I Z c p i λb k=>by
  rcases List.mem_cons.mp (I.stkSub b k) with e |e
  ·exact .inr (by rw[e];exact I.ok.above)
  ·exact .inl e
 exact#[x,C,d,T,_,Z,I.os,I.bare,u,j,jc,by rw[ji a,jc],a,h T p]
theorem ax.cleared{X:Cx}(I:ax X pins σ H s)(c:H T=some (gY T))(i:s.heap.get? T=some O)(j:O.data= .fields t)(k:t[3]?=some .none):ax X pins σ H { s with heap:=eP T s.heap }:=by
 have h:=MD j (·.setIfInBounds 3 Value.none);have g:=MH (Obj.mapFields (·.setIfInBounds 3 Value.none)) i (M5 h);have:=I.write (x:=T) (e:=T) (o:=gY T) (h':=eP T s.heap) (t':=s.toks) (by rw[c];exact True.intro) (.inl Z) (λb u a q=>(Mn _ _$ ME a).trans q) #[_,g] (xw g h (by simp [(Array.getElem?_eq_some_iff.mp k).1]));have l:am H T (gY T)=H:=by
  funext b;by_cases a:b=T
  ·rw[a,jc,c]
  ·rw[ji a]
 rw[l]at this;exact this
theorem A4(I:ax (gA (gq P w) P w K mg base N qual scope f cd A outer s₀ H₀ E) pins σ H s)(g:H x=some (ig C d T x))(n:H T=some (gY T))(c:T≠x)
  (h:∀t,H t=none->E (.ref C) d (am (am H t$ gY t) x$ ig C d t x)):(gA (gq P w) P w K mg base N qual scope f cd A outer s₀ H₀ E).xe (.ref x) s:=by
 obtain⟨⟨O,V,o,D,G,F,p,q⟩,_⟩:=I.hok x _ g;obtain⟨⟨J,L,r,u,v⟩,_⟩:=I.hok T _ n;have i:=(Array.getElem?_eq_some_iff.mp q).1;have y:=I.cleared n r u v;refine YU (base:=base) I.ok.frames I.stack Z o p q c r u v λM z=>?_;have j:(eP T s.heap).get? x=some O:=(Mn _ _ c).trans o;obtain⟨t,B,a,k,l⟩:=di.hok (C:=C) (d:=d) (fl:=.none) y g j D F p i (λb m=>I.stkFree b m) z;have U:=di.un (C:=C) (d:=d) y Z g B k (λb m=>by
  rcases List.mem_cons.mp (I.stkSub b m) with e |e
  ·exact .inr (by rw[e];exact I.ok.above)
  ·exact .inl e) z
 exact#[x,C,d,t,_,Z,I.os,I.bare,U,l,jc,by rw[ji a,jc],a,h t B]
theorem Ae{j:XK}(m:∀x C d T t a,a x=some (ig C d T x)->a T=some (gY T)->a t=none->j (.ref C) d a->E (.ref C) d (am (am a t$ gY t) x$ ig C d t x)):
  dj (gq P w) (gA (gq P w) P w K mg base N qual scope f cd A outer s₀ H₀ E) j:=by
 intro pins σ H s e S I h;obtain⟨x,C,d,T,a,rfl,os,B,u,c,k,l,i,n⟩:=h;obtain⟨p,g,D,q,o⟩:=S;obtain rfl:o=s.os:=os;have r:=I.call (h':=p) (g':=g) (d':=D) (t':=q) (ch:=[]) u c B (λb z=>absurd z UP);exact A4 r k l i λt v=>m x C d T t a k l v n
end
section
open PySem.W
variable {prog:Program}{w:World}{A:Around}{E:Value->Shared->Prop}{K:Frag}{x C:Addr}{ox:Obj}{vs:Array Value}{env:Env}
theorem YV{ev:Sem Value}(e:A.handled=none)
  (h:wpAny (model prog w) A ev (λv S=>∃x C ox vs,v= .ref x/\K.In S.heap/\sS K C/\typeIn K (.ref C)=some (.type "type")/\S.heap.get? x=some ox/\ox.cls= .ref C/\ox.data= .fields vs/\vs[1]?=some .none/\E (.ref x) S) E s):
  wpAny (model prog w) A (raiseStmt env (some ev) none) Q E s:=by
 unfold raiseStmt;refine LO$ MZ h (λv S a=>?_) λ_ _ z=>z;obtain⟨x,C,ox,vs,rfl,X,f,i,b,j,c,m,n⟩:=a;obtain⟨H,g,d,T,os⟩:=S;have L:Looks (model prog w) H (typeOf$ .ref x) (.ref C):=j▸(UL b).andThen .now;have l:Looks (model prog w) H (isType$ .ref x) false:=by intro u y B D k q;unfold isType loadHead;refine LO$ R6 (k _ _ b) ?_;rw[c];exact LR q
 have _L:=Tg (M:=model prog w) X f.mb;have o:=looks_typeIn (M:=model prog w) X i;have L4:Looks (model prog w) H (isInstance (.ref x)$ .type "BaseException") true:=L.andThen _L;have p:Looks (model prog w) H (isExcClass$ .ref x) false:=by unfold isExcClass;exact l.andThen .now
 have r:Looks (model prog w) H (raisedInstance$ .ref x) (.ref x):=by unfold raisedInstance;exact L.andThen$ o.andThen (by rw[Mb UN];exact .now)
 have t:Looks (model prog w) H (excFromValue (.ref x) "exceptions must derive from BaseException") (.ref x):=by unfold excFromValue;exact p.andThen (by rw[Mf UN];exact L4.andThen (by rw[Mb Z];exact .now))
 refine LO$ LR ?_;refine LO$ Ms$ t.at ?_;dsimp only;refine LO$ l.at ?_;rw[Mf UN];refine LO$ r.at ?_;unfold setFlight;refine LO$ LO$ My b c m ?_;rw[Mf UN];exact LR$ wpAny_raiseNew_none e n
end
def Bc(X:Cx)(W:Addr->Addr->Option Addr->Hp->Prop):Prop:=∀(p:List (Addr×Obj)) (a:St) (H:Hp) (s:Shared) (x C:Addr) (d:Option Addr),ax X p a H s->H x=some (Bb C d x)->W x C d H->X.xe (.ref x) s
theorem QI{P:Program}{K:Frag}:
  Bc (gA (gq P w) P w K m b N q s f g A o a c E) (λx C d H=>∀T,H T=none->E (.ref C) d (am (am H T$ gY T) x$ ig C d T x)):=
 λ_ _ _ _ _ _ _ I e h=>xP I e h
inductive oN(K:Frag)(b:Addr->Addr->Option Addr->Hp->Prop)(v:V)(a:Hp):Prop
 |mk(x C d:_)(_:v= .ref x)(_:a x=some (Bb C d x))(_:sS K C)(_:typeIn K (.ref C)=some (.type "type"))(_:b x C d a)
def D9(K:Frag)(t:TE)(W:Addr->Addr->Option Addr->Hp->Prop):TS:=λ_u0 a H=>t a H (oN K W)
theorem XL{X:Cx}{e:Expr}{t:TE}{P:Pos}{W:Addr->Addr->Option Addr->Hp->Prop}(f:X.calm=true)(F:Bc X W)(g:PE X e t):PS X (.Raise (some e) none P) (D9 X.K t W):=by intro p s b H D I h;rw[arm_exec_Raise];refine LO$ Oq ?_;refine YV (K:=X.K) (ev:=do let v <- eval e X.env;standAt P;pure v) (I.ok.hd f)$ LO$ aV (g p s b H _ I h) λu S a=>LO (Oq$ LR ?_);obtain⟨v,j,i,r,x,C,d,ev,c,k,l,q⟩:=a;subst ev;obtain rfl:u=Value.ref x:=r;obtain⟨⟨o,m,n,z,A,V,w,y⟩,_⟩:=i.hok x _ c;exact#[x,C,o,V,Z,i.kIn,k,l,m,n,w,y,F p b j S x C d i c q]
section
variable {X:Cx}{pins:List (Addr×Obj)}{σ:St}{H:Hp}{s:Shared}{x C:Addr}{d:Option Addr}
theorem ax.noted{t':Nat}(I:ax X pins σ H s)(a:H x=some (.ext l))(p:s.heap.get? x=some O)(r:O.cls= .ref C)(t:O.dict=d)(v:O.data= .fields w)(c:1 < w.size)
  (N:di .none (lB X.stack) x O s.heap y):∃T,H T=none/\T≠x/\ax X pins σ (am (am H T$ gY T) x$ ig C d T x) { s with heap:=y,toks:=t' }:=by
 obtain⟨T,m,f,g,i⟩:=di.hok (C:=C) (d:=d) (fl:=.none) I a p r t v c (λb h=>I.stkFree b h) N;have j:∀b,H b=none->b≠x:=λb e z=>by rw[z,a]at e;cases e
 have U:∀b u,H b=some u->(∀l,u≠ .ext l)->am (am H T$ gY T) x (ig C d T x) b=some u:=λb u e z=>by rw[ji (λq=>by rw[q,a]at e;cases e;exact z _ Z),ji$ jk e m];exact e
 refine#[T,m,f,I.call (g':=s.gens) (d':=s.drawn) (ch:=[]) ?_ i I.bare (λb z=>absurd z UP)];refine#[λb o e n h _=>N.keep b o h (j b n) e,λb o e n _ _=>N.slot b o (j b n) e,λb o e n _=>?_,λb o e _=>?_,λb A e=>U b _ e (by intro _ q;cases q),λb o u e=>U b _ e (by intro _ q;cases q),λb P e=>#[(List.toArray []),by rw[U b _ e (by intro _ q;cases q)];simp]]
 ·rw[ji$ j b n,ji$ Me$ Mi (LW e) g];exact n
 ·by_cases h:b=x
  ·obtain⟨B,_,_,_,k,_⟩:=N.ex;exact#[_,by rw[h];exact k]
  ·obtain⟨S,q⟩:=N.slot b o h e;exact#[_,q]
end
noncomputable abbrev Cx.mark(X:Cx)(e:Value)(xe:Value->Shared->Prop):Cx:={ X with A:=X.A.mark (some e),calm:=false,xe:=xe }
theorem ax.mark{X:Cx}(I:ax X p a H s)(e:Value)(x:Value->Shared->Prop):ax (X.mark e x) p a H s:=
 #[#[I.ok.mod,I.ok.kind,I.ok.glob,I.ok.blt,I.ok.above,I.ok.inj,I.ok.has,I.ok.cab,(λz=>nomatch (show false=true from z)),I.ok.frames,I.ok.stk,I.ok.exf,I.ok.bs,I.ok.bsz,I.ok.noex,I.ok.exfs,I.ok.funs,I.ok.frf],I.os,I.bare,I.base,I.loc,I.cell,I.free,I.freeC,I.pin,I.hok,I.len]
theorem ax.unmark{X:Cx}(o:X.Ok)(I:ax (X.mark e x) p a H s):ax X p a H s:=
 #[o,I.os,I.bare,I.base,I.loc,I.cell,I.free,I.freeC,I.pin,I.hok,I.len]
section
open PySem.W
theorem Qd{K:Frag}(X:K.In h)(a:h.get? x=some o)(b:o.cls= .ref C)(H:clsIn K B≠none)(tB:typeIn K (.ref B)=some (.type "type"))(m:mroIn K B (.type "BaseException")=some true)(c:mroIn K C (.ref B)=some true):
  Looks M h (excMatches (.ref x)$ .ref B) true:=by
 have L:Looks M h (typeOf$ .ref x) (.ref C):=b▸(UL a).andThen .now;have l:=looks_typeIn (M:=M) X tB;have _L:Looks M h (isInstance (.ref B)$ .type "tuple") false:=l.andThen (Tu tc_notTuple);have d:Looks M h (isType$ .ref B) true:=by
  unfold clsIn at H;split at H
  ·rename_i e
   intro A Q E s k q;unfold isType loadHead;exact LO$ R6 (k _ _$ X _ _ e)$ LR q
  ·exact absurd Z H
 have L4:Looks M h (isExcClass$ .ref B) true:=by unfold isExcClass;exact d.andThen (by rw[Mb Z];exact Tg X m)
 have f:=Tg (M:=M) X c;intro A Q E s k q;unfold excMatches;refine LO$ _L A _ E s k ?_;rw[Mf UN];refine LO$ LR ?_;dsimp only;refine LO ?_;rw[NW];refine LO$ LO$ L4 A _ E s k ?_;simp only[OK,Mh,Nu];refine LR ?_;dsimp only;rw[OR];refine LR ?_;refine LO$ L A _ E s k ?_;refine LO ?_;rw[NW];refine LO$ LO$ f A _ E s k ?_;simp only[PR];refine LR$ LR ?_;exact LR q
end
abbrev XR:=Addr->Addr->Option Addr->Addr->Hp->Prop
def XW(X:Cx)(p:List (Addr×Obj))(a:St)(R:XR)(e:Value)(s:Shared):Prop:=
 ∃x C d T H,e= .ref x/\ax X p a H s/\H x=some (ig C d T x)/\H T=some (gY T)/\T≠x/\R x C d T H
abbrev Ib:=St->Hp->VK->XR->Prop
abbrev Ie:=a7->XR->St->Hp->Prop
def La(X:Cx)(e:Expr)(t:Ib):Prop:=
 ∀(p:List (Addr×Obj)) (s:Shared) (a:St) (H:Hp) (Q:VK) (R:XR),ax X p a H s->t a H Q R->wpAny (model X.prog X.w) X.A (eval e X.env) (EP X p a Q) (XW X p a R) s
def Ld(X:Cx)(st:Stmt)(t:Ie):Prop:=
 ∀(p:List (Addr×Obj)) (s:Shared) (a:St) (H:Hp) (D:a7) (R:XR),ax X p a H s->t D R a H->wpAny (model X.prog X.w) X.A (exec st X.env) (SP X p D) (XW X p a R) s
def Lo(R:XR):XK:=λc d H=>∀x C T,c= .ref C->H x=some (ig C d T x)->H T=some (gY T)->T≠x->R x C d T H
def En(s:Sp)(d:List V)(t:TA):Ib:=λa H Q R=>t a H λv h=>s (v++d) h Q (Lo R)
section
variable {X:Cx}{k:Nat}{f:Addr}{fd:FuncData}{ps:List Str}{sp:Sp}{dvs:List V}{ds:List Value}{x:Str}{p pos:Pos}{e:Expr}{es:List Expr}{t:TA}{te:Ib}
theorem vw(F:af X.prog X.w X.K X.mg X.base (gq X.prog X.w) k f fd ps sp)(y:bJ k X.A)(D:Gl X x)(E:X.mg x=some (.ref f))(G:keepIn X.K (.ref f)=true)(J:aD X.K fd ps ds)(L:aC dvs ds)
  (M:PA X.nox (e::es) t) (g:(x==("__debug__":Str))=false:=by decide) (N:starEach (e::es) X.env=(false,eval e X.env)::starEach es X.env:=by rfl) (j:(backTo pos$ starEach es X.env).any (·.1)=false:=by rfl):
  La X (.Call (.Name x p) (e::es) [] pos) (En sp dvs t):=by
 intro P s O H Q R I h;refine MT$ zN I D E ?_ g;refine Rm (h₀:=X.base) I.ok.mod.kin G (MZ (M pos P s O H _ (I.wish _) h) (λU S #[v,W,i,r,q]=>#[i.kIn,?_]) λ_ _ z=>z.elim) N j;have i:=i.unwish;have m:aC (v++dvs) (U++ds):=r.append L;have Y:(U++ds).length=ps.length:=by rw[<- m.length];exact F.len _ _ _ _ q
 refine R8$ Oh (F.run X.A X.stack S W #[U,[]] (U++ds) (v++dvs) Q (Lo R) y i.env0 (J S U i.kIn Y) m q) λr s' a=>?_;cases r with
 |error e=>obtain⟨x,C,d,T,H',rfl,os,B,un,l,n,o,c,hw⟩:=a;exact#[x,C,d,T,H',Z,i.call' os un l B (λb z=>absurd z UP),n,o,c,hw x C T Z n o c]
 |ok fl=>
  cases fl with
  |ret u=>exact i.after a
  |next=>exact False.elim a
  |brk=>exact False.elim a
  |cont=>exact False.elim a
theorem Al{i:Nat}{y:Str}{P:Pos}(d:X.N.Nodup)(g:X.N[i]?=some y)(j:sN X.env.scope y)(l:La X e te)(m:swapsWith e (some$ .Name y P) pos.line X.env=pure false:=by rfl)(n:X.fn y=true∨X.env.scope.names.lookup y=some .local:=by first |exact .inl Z |exact .inr Z |assumption):
  Ld X (.Assign [.Name y P] e pos) (λD R b H=>te b H (λv c=>D.nx (b.set i$ some v) c) R):=by
 intro a s b H D R I h;refine TR (aV (l a s b H _ R I h) λv S z=>?_) m;obtain⟨y,c,o,r,q⟩:=z;exact zI o d g j r (λw u=>#[_,c,u,q]) n
end
theorem aQ.ok1{P:Program}{K:Frag}{st:Stmt}{f:Addr}{k:Nat}{a:Sp}(F:aQ K x q st f g)(S:ai N p (ae st))(len:∀v H Q E,a v H Q E->v.length=p.length)
  (h:∀(c:Value) (A:Around) (o:List Env) (s:Shared) (H:Hp) (v:List V) (Q:VK) (E:XK),bJ k (A.deeper$ envOfC q (ae st) s.heap.objs.size f c)->a v H Q E->
   ∃t,mP (gA (gq P w) P w K m b N q (ae st) f c A o s H E) (bn st) t/\t { nx:=λ_ i=>Q .non i,rt:=Q } (gT N v) H):af P w K m b (gq P w) (k+1) f g p a:=by
 obtain⟨l,n,kV,D,r,u,c,C,O,rfl,lk,d⟩:=F.ex;exact Bs lk d S len λA o s H v Q E j e=>h c A o s H v Q E j e
end _L
namespace _L
open PySem PySem.Spec PyProof.Rows PySem.SeqAt
noncomputable def tO(x y:List V):Bool:=(List.range$ min x.length y.length).all (λj=>nM (x.getD j .non) (y.getD j .non))&&x.length==y.length
section
variable {X:Cx}
theorem sj(r:aC x i)(R:aC y I)(f:x.all c8=true)(F:y.all c8=true)(j:Nat)(c:j < i.toArray.size)(d:j < I.toArray.size):EqAt A s i.toArray[j] I.toArray[j] (nM (x.getD j .non)$ y.getD j .non):=by
 have L:=r.length;have p:=R.length;have H:j < x.length:=by simp at c;omega
 have h:j < y.length:=by simp at d;omega
 have a:x[j]?=some x[j]:=LP H;have b:y[j]?=some y[j]:=LP h;obtain⟨u,q,g⟩:=r.get a;obtain⟨U,Q,k⟩:=R.get b;have l:=List.all_eq_true.mp f _ (OE H);have m:=List.all_eq_true.mp F _ (OE h);have E:i.toArray[j]=u:=by obtain⟨_,e⟩:=List.getElem?_eq_some_iff.mp q;simpa using e
 have n:I.toArray[j]=U:=by obtain⟨_,e⟩:=List.getElem?_eq_some_iff.mp Q;simpa using e
 have G:x.getD j .non=x[j]:=by rw[M7,a];rfl
 have o:y.getD j .non=y[j]:=by rw[M7,b];rfl
 rw[E,n,G,o];exact tM g k l m
theorem DJ(f:X.A.units < cLine):fb X (compareOp .Eq) (λx y H Q=>∃a b c Y,x= .ref a/\y= .ref b/\aB X.K H a c/\aB X.K H b Y/\c.all c8=true/\Y.all c8=true/\Q (.bl$ tO c Y) H):=by
 intro p s z H x y v u Q I g k h;obtain⟨a,b,c,Y,rfl,rfl,l,m,F,n,q⟩:=h;cases g;cases k;obtain⟨i,r,P,_⟩:=I.tuple l;obtain⟨d,R,o,_⟩:=I.tuple m;refine eq_tupleAt (e:=λj=>nM (c.getD j .non) (Y.getD j .non)) (show s.heap.IsTuple a i.toArray from P) (show s.heap.IsTuple b d.toArray from o) f (λj t w=>sj r R F n j t w) ?_;have e:((List.range$ min i.toArray.size d.toArray.size).all (λj=>nM (c.getD j .non) (Y.getD j .non))&&i.toArray.size==d.toArray.size)=tO c Y:=by unfold tO;rw[LY,LY,<- r.length,<- R.length]
 rw[e];exact#[.bl _,H,I,Z,q]
end
end _L
namespace _L
open PySem PySem.Spec PyProof.Rows
section
variable {prog:Program}{w:World}{A:Around}{E:Value->Shared->Prop}{s:Shared}
theorem YW{Q:Nat->Shared->Prop}(H:n≠0)(h:∀i d,i < n->Q i { s with drawn:=d }):wpAny (model prog w) A (choose a n) Q E s:=by intro Γ p _;show Sem.wp _ Γ (.choose a n .pure) _ _ p s;rw[Sem.wp_choose];exact#[H,h _ _$ UK _$ Nat.pos_of_ne_zero H]
theorem Yk{α:Type}:∀(n:Nat) (xs:List α) (s:Shared) {Q:List α->Shared->Prop},xs.length=n->(∀ys d,ys.Perm xs->Q ys { s with drawn:=d })->
  wpAny (model prog w) A (drawOrder n xs) Q E s:=by
 intro n;induction n with
 |zero=>
  intro xs s Q hl h;cases xs with
  |nil=>unfold drawOrder;exact LR$ h [] s.drawn .rfl
  |cons _ _=>cases hl
 |succ n ih=>
  intro xs s Q hl h;cases xs with
  |nil=>cases hl
  |cons x r=>unfold drawOrder;refine LO$ YW UP λi d hi=>?_;have hg:(x::r)[i]?=some ((x::r)[i]'hi):=LP hi;rw[hg];dsimp only;refine LO$ ih _ _ (by rw[RD hi,hl];rfl) λys d' hp=>LR (h _ d' ?_);refine(List.Perm.cons _ hp).trans ?_;rw[Rc];refine List.perm_middle.symm.trans ?_;rw[Nt,NZ]
end
noncomputable def mJ:Value->Str
 | .str x _=>x
 |_=>#[(List.toArray [])]
theorem Qe(t:SetTable)(n:Nat):(t.orStandIn n).led=t.led:=by
 unfold SetTable.orStandIn;split
 ·rfl
 ·rfl
theorem YX(t:SetTable)(e:Array (Int×Value))(h:Int)(x:Value):(layNew t e h x).2.1.led=t.led:=by
 unfold layNew;split
 ·exact Qe _ _
 ·rfl
theorem Xo(t:SetTable)(E:Array (Int×Value))(n:Nat):(relayAll t E n).2.1.led=t.led:=by
 unfold relayAll;split
 ·rename_i T o e
  unfold SetTable.relaid SetTable.laid at e;cases h:SetTable.layClean (SetTable.sizeAbove n - 1) (E.map (·.1)) with
  |none=>rw[h]at e;cases e
  |some O=>rw[h]at e;cases e;dsimp only;split<;>rfl
 ·rfl
theorem K2(t:SetTable)(E:Array (Int×Value))(n:Nat)(H:t.plain=false):(relayAll t E n).2.1.plain=false:=by
 unfold relayAll;split
 ·rename_i T o e
  unfold SetTable.relaid SetTable.laid at e;cases h:SetTable.layClean (SetTable.sizeAbove n - 1) (E.map (·.1)) with
  |none=>rw[h]at e;cases e
  |some O=>
   rw[h]at e;cases e;dsimp only;split
   ·exact H
   ·rfl
 ·rfl
def c7(p:Program)(w:World)(h:Heap)(a:Addr)(L:List Str):Prop:=
 ∃o E b t,h.get? a=some o/\o.ExactSet/\o.data= .set E b t/\ElemsOf (PySem.strKind p w) E.toList/\(E.toList.map λe=>mJ e.2).Perm L/\L.Nodup
  /\E.size < scanBound/\t.fits E.size=true/\t.led=!(w.params.followText "set-order")/\(t.plain=false∨E.size=0)
theorem c7.at{H:Heap}{a:Addr}(x:c7 p w h a L)(e:∀o,h.get? a=some o->H.get? a=some o):c7 p w H a L:=
 let #[o,E,b,t,c,r]:=x;#[o,E,b,t,e o c,r]
section
variable {prog:Program}{w:World}{A:Around}{E:Value->Shared->Prop}{s:Shared}
theorem JV{a:Array (Int×Value)}(b:ElemsOf (PySem.strKind prog w) a.toList)(x:Str):
  (a.toList.findIdx? (λe=>(PySem.strKind prog w).is x e.2)=none↔¬x∈a.toList.map λe=>mJ e.2):=by
 rw[List.findIdx?_eq_none_iff];constructor
 ·intro h m;obtain⟨e,H,f⟩:=List.mem_map.mp m;obtain⟨⟨k,g,_⟩,_⟩:=b e H;obtain⟨t,c⟩:=OL g;have q:=h e H;rw[c]at f q;have d:k=x:=f;subst d;have Q:(PySem.strKind prog w).is k (.str k t)=true:=strKind_is prog w k t;rw[Q]at q;cases q
 ·intro h e H;cases q:(PySem.strKind prog w).is x e.2 with
  |false=>rfl
  |true=>obtain⟨t,c⟩:=OL q;exact absurd (List.mem_map.mpr #[e,H,by rw[c];rfl]) h
theorem JW{b:Array (Int×Value)}{T:SetTable}(d:s.heap.get? a=some o)(f:o.ExactSet)(h:o.data= .set p c t)
  (g:ElemsOf (PySem.strKind prog w) b.toList) (i:(b.toList.map λe=>mJ e.2).Perm L) (j:L.Nodup) (k:b.size < scanBound) (l:T.fits b.size=true)
  (m:T.led=!(w.params.followText "set-order")) (n:T.plain=false):
  (s.heap.update a$ Obj.putSet b T).get? a=some { o with data:=.set b (c+1) T }/\c7 prog w (s.heap.update a$ Obj.putSet b T) a L:=by
 have H:(s.heap.update a$ Obj.putSet b T).get? a=some { o with data:=.set b (c+1) T }:=by have q:=MH (Obj.putSet b T) d (by rw[putSet_of b T h];rfl);rwa [putSet_of b T h]at q
 exact#[H,_,b,c+1,T,H,f,Z,g,i,j,k,l,m,.inl n]
theorem Yl{Q : Bool -> Shared -> Prop}(hS : c7 prog w s.heap a L)(room : L.length + 1 < scanBound)
    (h : ∀ b R l, Heap.SameBut a s.heap R -> c7 prog w R a (if x ∈ L then L else L ++ [x]) -> s.toks <= l -> Q b { s with heap := R, toks := l }) :
    wpAny (model prog w) A (setAdd a$ .str x f) Q E s := by
  obtain ⟨o, g, ep, t, n, U, u, H, v, B, hb, V, X, Y⟩ := hS;have d : (PySem.strKind prog w).is x (.str x f) = true := strKind_is prog w x f;have C : g.size = L.length := by rw [<- v.length_eq, LU, Mq]
  unfold setAdd;refine Ms$ LO ((PySem.strKind prog w).pyHash (k := x) d ?_);unfold setAddHashed setAddHashedIn;refine Ms$ LO$ NA (s := { s with toks := s.toks + 1 }) n u V ?_;dsimp only;rw [byScan_of Z hb H];simp only [↓reduceIte];unfold setAddByScan;refine LO$ LO$ NP$ LO$ wpAny_setScan_of (knd := PySem.strKind prog w) d n u V H ?_;cases hr : List.findIdx? (λe => (PySem.strKind prog w).is x e.2) g.toList with
  | some j =>
    dsimp only;have D : x ∈ L := by refine Decidable.byContradiction λhn => ?_;have q := (JV (prog := prog) (w := w) H x).mpr λm => hn (v.mem_iff.mp m);rw [q] at hr; cases hr
    have q := h false s.heap (s.toks + 1) (RJ a s.heap) (by rw [Mb D]; exact #[o, g, ep, t, n, U, u, H, v, B, hb, V, X, Y]) (MU _);exact LR$ LR q
  | none =>
    dsimp only;have D : ¬ x ∈ L :=λm => (JV (prog := prog) (w := w) H x).mp hr (v.mem_iff.mpr m);have W : ∀ (b : Bool) {S : Shared} {Q' : Unit -> Shared -> Prop}, Q' () S -> wpAny (model prog w) A (match b with | true => rule "set.scan.the-table-gave-way" | false => pure ()) Q' E S := by
      intro b S Q' hq;cases b
      · exact LR hq
      · exact NP hq
    have p := layNew_perm t g ((PySem.strKind prog w).hash x) (.str x f);have M := layNew_fits t g ((PySem.strKind prog w).hash x) (.str x f);have O := YX t g ((PySem.strKind prog w).hash x) (.str x f);generalize layNew t g ((PySem.strKind prog w).hash x) (.str x f) = N at p M O ⊢;obtain ⟨c, t1, w0, g4⟩ := N;dsimp only at p M O ⊢;rw [Sx] at p;have F : ElemsOf (PySem.strKind prog w) c.toList := (H.push d Z).perm p;have P : (c.toList.map λe => mJ e.2).Perm (L ++ [x]) := by refine (p.map _).trans ?_;rw [Mz];exact v.append_right _
    have G : (L ++ [x]).Nodup := List.nodup_append.mpr #[B, by simp,λy hy z hz e => by rw [Om] at hz; subst hz; subst e; exact D hy];have iE : c.size = g.size + 1 := by rw [<- Mq, p.length_eq, LS, Mq]; rfl
    have b1 : c.size < scanBound := by rw [iE, C]; exact room
    refine LO$ W _ ?_;have i : ∀ T : SetTable, T.fits c.size = true -> T.led = t.led -> T.plain = false ->
        wpAny (model prog w) A (do
          storeSet a c T
          if (!w0 && T.tooFull) = true then do
              (match (relayAll T c$ SetTable.grown c.size).2.2 with | true => rule "set.scan.the-table-gave-way" | false => pure ())
              storeSet a (relayAll T c$ SetTable.grown c.size).1 (relayAll T c$ SetTable.grown c.size).2.1
              pure (some true)
            else pure (some true)) (λr s' => r = some true /\ Q true s') E { s with toks := s.toks + 1 } := by
      intro T g1 g2 g3;refine LO$ TK (s := { s with toks := s.toks + 1 }) n u ?_$ Pm b1;obtain ⟨o1, S1⟩ := JW (s := s) (prog := prog) (w := w) n U u F P G b1 g1 (g2.trans X) g3;have I := Nx s.heap a (Obj.putSet c T);split
      · have J := relayAll_perm T c (SetTable.grown c.size)
        have f2 := relayAll_fits T c (SetTable.grown c.size);have l2 := Xo T c (SetTable.grown c.size);have q2 := K2 T c (SetTable.grown c.size) g3;generalize relayAll T c (SetTable.grown c.size) = Z at J f2 l2 q2 ⊢;obtain ⟨K, t3, g0⟩ := Z;dsimp only at J f2 l2 q2 ⊢;have ci : K.size = c.size := by rw [<- Mq, J.length_eq, Mq]
        have b2 : K.size < scanBound := by rw [ci]; exact b1
        refine LO$ W _$ LO$ TK (s := { s with heap := s.heap.update a (Obj.putSet c T), toks := s.toks + 1 }) o1 Z ?_$ Pm b2;obtain ⟨_, S2⟩ := JW (s := { s with heap := s.heap.update a (Obj.putSet c T) }) (prog := prog) (w := w) o1 U Z (F.perm J) ((J.map _).trans P) G b2 f2 (l2.trans$ g2.trans X) q2;exact LR #[Z, h true _ _ (I.trans$ Nx _ a _) (by rw [Mf D]; exact S2) (MU _)]
      · exact LR #[Z, h true _ _ I (by rw [Mf D]; exact S1) (MU _)]
    split
    · rename_i tp
      refine LO ?_;rw [hashByValue_scannable 8 (x := .str x f) Z];refine LR ?_;have e0 : plainKind (.str x f) = false := rfl;rw [e0];simp only [Mh, ↓reduceIte];refine MZ (i { t1 with plain := false } (SetTable.fits_plain_off M) O Z) (λr s' q => ?_) λ_ _ z => z;obtain ⟨rfl, q⟩ := q;exact LR q
    · rename_i tp
      refine LO$ LR ?_;simp only [↓reduceIte];refine MZ (i t1 M O (by simpa using tp)) (λr s' q => ?_) λ_ _ z => z;obtain ⟨rfl, q⟩ := q;exact LR q
end
noncomputable def bu(w:World):Obj:={ cls:=.type "set",dict:=none,data:=.set (List.toArray []) 0 (.fresh 0 0 (!(w.params.followText "set-order"))) }
section
variable {prog:Program}{w:World}{A:Around}{E:Value->Shared->Prop}{s:Shared}
theorem Ym{h:Heap}(e:h.get? a=some (bu w)):c7 prog w h a []:=
 #[_,(List.toArray []),0,_,e,#[Z,Z,Z],Z,λ_ z=>by simp at z,UP,PL,(by decide:(0:Nat) < scanBound),Z,Z,.inr Z]
theorem Qg(a:Value){G:Value->Shared->Prop}(h:G (.ref s.heap.objs.size) { s with heap:=s.heap.push (bu w) }):
  codeAny (model prog w) A (.call (.builtin "set.__new__") #[[.type "set",a],[]]) (wants G E) s:=by
 refine RY ?_;show wpAny _ A.in1 (do checkBuiltinCall "set.__new__" _;again (.builtin "set.__new__" _)) _ _ s;refine LO$ PZ (PySem.F.newCall_set_1 a)$ LR #[NQ RQ _,No PySem.F.entry_set_new ?_];rw[MY RQ];unfold Builtin.«set.__new__» Builtin.Frozenset.newClass;have o:=sub_set_self;obtain⟨H,g,d,t,os⟩:=s;dsimp only;wp_walk;refine Og$ LR ?_;dsimp only;simp only[newObj];exact LO$ wpAny_alloc$ LR$ LR h
end
theorem StrsAre.at':∀{V:List Value} {s:List Str},StrsAre V s->∀(i:Nat) (v:Value),V[i]?=some v->∃x t,s[i]?=some x/\v= .str x t
 |_,_,.nil,i,v,h=>by simp at h
 |_,_,.cons y t r,0,v,h=>by simp at h;exact#[y,t,Z,h.symm]
 |_,_,.cons y t r,i+1,v,h=>by simp only[List.getElem?_cons_succ]at h;obtain⟨x,T,e,E⟩:=StrsAre.at' r i v h;exact#[x,T,by simpa using e,E]
theorem StrsAre.len:∀{v:List Value} {s:List Str},StrsAre v s->s.length=v.length
 |_,_,.nil=>rfl
 |_,_,.cons _ _ r=>by simp [StrsAre.len r]
theorem kC:Slot "set_iterator" "__next__" "set_iterator.__next__":=by
 refine .of (owner:="set_iterator") (n:="__next__") ?_ UQ UQ UQ ?_ ?_
 ·rw[Nl,MP];kernel_rfl
 ·first |exact .inl UQ |exact .inr UQ
 ·rw[Nz];kernel_rfl
theorem qw:Slot "set_iterator" "__iter__" "set_iterator.__iter__":=by
 refine .of (owner:="set_iterator") (n:="__iter__") ?_ UQ UQ UQ ?_ ?_
 ·rw[Nl,MP];kernel_rfl
 ·first |exact .inl UQ |exact .inr UQ
 ·rw[Nz];kernel_rfl
theorem JM:entryFor table "set_iterator.__next__"=some Builtin.«set_iterator.__next__»:=Py (by kernel_rfl)
theorem JN:entryFor table "set_iterator.__iter__"=some Builtin.«dict_keyiterator.__iter__»:=by refine P7 (id':="dict_keyiterator.__iter__") ?_ Z UQ ?_<;>kernel_rfl
theorem J2:entryFor table "set.__iter__"=some Builtin.«frozenset.__iter__»:=by refine P7 (id':="frozenset.__iter__") ?_ Z UQ ?_<;>kernel_rfl
theorem J3(a:Value):argsOk "set_iterator.__next__" #[[a],[]]:=by unfold argsOk;kernel_rfl
theorem J4(a:Value):argsOk "set_iterator.__iter__" #[[a],[]]:=by unfold argsOk;kernel_rfl
def cf(h:Heap)(I:Addr)(f:Value)(i:Nat)(S:Addr)(n e:Nat):Prop:=
 ∃o,h.get? I=some o/\o.cls= .type "set_iterator"/\o.data= .fields (List.toArray [f,.int i 0,.ref S,.int n 0,.int e 0])
theorem cf.at{H:Heap}{i:Nat}{S:Addr}(x:cf h I f i S n E)(e:∀o,h.get? I=some o->H.get? I=some o):cf H I f i S n E:=
 let #[o,a,r]:=x;#[o,e o a,r]
theorem cf.is{s:Shared}{S:Addr}(x:cf s.heap I f i S n e):s.TypeIs (.ref I) "set_iterator":=let #[o,h,H,_]:=x;#[o,h,H]
section
variable {prog:Program}{w:World}{A:Around}{E:Value->Shared->Prop}{s:Shared}
theorem J7{c:Type}{Q:c->Shared->Prop}(d:A.handled=none)
  (h:∀H e,(∀b o,s.heap.get? b=some o->H.get? b=some o)->Shared.TypeIs { s with heap:=H } e "StopIteration"->E e { s with heap:=H }):
  wpAny (model prog w) A (do raiseNew (<- newExc (.type "StopIteration") []):Sem c) Q E s:=by
 refine LO ?_;simp only[newExc,newTuple];refine LO$ MJ ?_ (by size_fits);refine LO (m:=firstArgMember _ _)$ PZ (a:=Value.none) ?_ ?_
 ·first |rfl | (simp only[firstArgMember];rfl)
 refine MJ ?_ (by size_fits);simp only[raiseNew];refine LO$ wpAny_handled ?_;rw[d];refine LO$ LR$ wpAny_throw$ h _ _ (λb o e=>LQ _ (LQ _ e)) ?_;exact#[_,LX _ Z,Z]
theorem J8{S:Addr}(H:cf s.heap I f i S n c)
  (h:wpAny (model prog w) A.in1 (Builtin.«set_iterator.__next__» #[[.ref I],[]]) (λF a=>∃v,F= .done (.ret v)/\Q (some v) a) (λe a=>a.TypeIs e "StopIteration"/\Q none a) s):
  wpAny (model prog w) A (pyNext$ .ref I) Q E s:=by
 unfold pyNext;refine LO$ Ou$ ML (name:=Str.ofString "__next__") H.is kC$ MG kC H.is JM ?_$ J3 _;refine MZ h (λF a q=>?_) λe a q=>?_
 ·obtain⟨v,e,q⟩:=q;exact#[v,e,LR q]
 ·exact LO$ NT (T:="StopIteration") (b:=true) q.1 P6$ LR q.2
theorem QJ{I:Addr}{f:Value}{i:Nat}{S:Addr}{n a:Nat}{o:Obj}{v:Array Value}(H:s.heap.get? I=some o)(b:o.cls= .type "set_iterator")(h:o.data= .fields v)(k:Nat)(x:Value)
  (e:v.setIfInBounds k x=(List.toArray [f,.int i 0,.ref S,.int n 0,.int a 0])):cf (s.heap.update I$ Obj.mapFields (·.setIfInBounds k x)) I f i S n a:=
 #[_,MH _ H$ M5$ MD h _,(Oz ..).trans b,by rw[MD h,e]]
theorem YY{I S P:Addr}{i:Nat}{O j:Obj}{e:Array (Int×Value)}{a:Nat}{t:SetTable}{k:Array Value}{c p:Nat}{hx:Int}{x:Value}{Q:Option Value->Shared->Prop}
  (h:cf s.heap I (.ref P) i S e.size a) (l:s.heap.get? S=some O) (H:O.data= .set e a t) (m:t.fits e.size=true) (n:s.heap.get? P=some j) (b:j.data= .seq k c)
  (q:k[i]?=some (.int p 0)) (r:e[p]?=some (hx,x)) (u:∀d,cf d I (.ref P) (i+1) S e.size a->Heap.SameBut I s.heap d->Q (some x) { s with heap:=d }):
  wpAny (model prog w) A (pyNext$ .ref I) Q E s:=by
 refine J8 h ?_;obtain⟨o,f,v,g⟩:=h;show wpAny _ _ (fieldsOf (.ref I) >>= _) _ _ s;refine LO$ P0 f g ?_;dsimp only;refine LO$ Oo l H m ?_;simp only[Np,Mh,↓reduceIte];refine LO$ M' n b ?_;simp only[M6,q];unfold setNextDrawn;refine LO$ LO$ NA l H m ?_;simp only[Np,Mh,↓reduceIte,r];refine LR ?_;refine LO$ MS f g UP$ LR #[x,Z,u _ ?_$ Nx ..];exact QJ f v g _ _ (by simp [rawInt])
theorem K3(q:A.handled=none){I S P:Addr}{i:Nat}{O l:Obj}{d:Array (Int×Value)}{m:Nat}{t:SetTable}{p:Array Value}{c:Nat}{Q:Option Value->Shared->Prop}
  (h:cf s.heap I (.ref P) i S d.size m) (r:s.heap.get? S=some O) (f:O.data= .set d m t) (u:t.fits d.size=true) (v:s.heap.get? P=some l) (g:l.data= .seq p c)
  (x:p[i]?=none) (y:∀H,(∀b o,b≠I->s.heap.get? b=some o->H.get? b=some o)->Q none { s with heap:=H }):
  wpAny (model prog w) A (pyNext$ .ref I) Q E s:=by
 refine J8 h ?_;obtain⟨o,j,B,a⟩:=h;show wpAny _ _ (fieldsOf (.ref I) >>= _) _ _ s;refine LO$ P0 j a ?_;dsimp only;refine LO$ Oo r f u ?_;simp only[Np,Mh,↓reduceIte];refine LO$ M' v g ?_;simp only[M6,x];refine LO$ MS j a UP ?_;refine LO$ MS (MH _ j$ M5$ MD a _) (MD a _) UP ?_;refine J7 (s:={ s with heap:=_ }) (by simpa using q) λH e k T=>#[T,y H λb o n z=>k b o ?_];exact(Mn _ _$ ME n).trans ((Mn _ _$ ME n).trans z)
end
section
variable {prog:Program}{w:World}{A:Around}{E:Value->Shared->Prop}{s:Shared}
theorem QK{I S:Addr}{i j nx:Nat}{O:Obj}{e:Array (Int×Value)}{a:Nat}{t:SetTable}{x:Value}{Q:Option Value->Shared->Prop}
  (h:cf s.heap I (.int j 0) i S e.size a) (f:s.heap.get? S=some O) (b:O.data= .set e a t) (k:t.fits e.size=true)
  (l:∀(q:Option (Value×Nat)->Shared->Prop) m,q (some (x,nx)) s->wpAny (model prog w) A.in1 (setNext S j i a) q m s)
  (n:∀c,cf c I (.int nx 0) (i+1) S e.size a->Heap.SameBut I s.heap c->Q (some x) { s with heap:=c }):
  wpAny (model prog w) A (pyNext$ .ref I) Q E s:=by
 refine J8 h ?_;obtain⟨o,d,p,H⟩:=h;show wpAny _ _ (fieldsOf (.ref I) >>= _) _ _ s;refine LO$ P0 d H ?_;dsimp only;refine LO$ Oo f b k ?_;simp only[Np,Mh,↓reduceIte];simp only[M6];refine LO$ l _ _ ?_;dsimp only;refine LO$ MS d H UP ?_;have g:=MH (Obj.mapFields (·.setIfInBounds 0 (rawInt nx))) d (M5$ MD H _);have D:=MD H (·.setIfInBounds 0 (rawInt nx));refine LO$ MS g D UP$ LR #[x,Z,n _ ?_ ((Nx ..).trans$ Nx ..)];exact QJ (s:={ s with heap:=_ }) g ((Oz ..).trans p) D _ _ (by simp [rawInt])
theorem qS(l:A.handled=none){I S:Addr}{i j:Nat}{O:Obj}{a:Array (Int×Value)}{c:Nat}{t:SetTable}{Q:Option Value->Shared->Prop}
  (h:cf s.heap I (.int j 0) i S a.size c) (m:s.heap.get? S=some O) (d:O.data= .set a c t) (n:t.fits a.size=true)
  (p:∀(q:Option (Value×Nat)->Shared->Prop) r,q none s->wpAny (model prog w) A.in1 (setNext S j i c) q r s)
  (u:∀H,(∀b o,b≠I->s.heap.get? b=some o->H.get? b=some o)->Q none { s with heap:=H }):
  wpAny (model prog w) A (pyNext$ .ref I) Q E s:=by
 refine J8 h ?_;obtain⟨o,f,y,g⟩:=h;show wpAny _ _ (fieldsOf (.ref I) >>= _) _ _ s;refine LO$ P0 f g ?_;dsimp only;refine LO$ Oo m d n ?_;simp only[Np,Mh,↓reduceIte];simp only[M6];refine LO$ p _ _ ?_;dsimp only;refine LO$ MS f g UP ?_;refine J7 (s:={ s with heap:=_ }) (by simpa using l) λH e k T=>#[T,u H λb o v x=>k b o ?_];exact(Mn _ _$ ME v).trans x
theorem Ju(a:w.params.followText "set-order"=true){S:Addr}(b:s.heap.get? S=some o)(H:o.data= .set c d t)
  (f:t.fits c.size=true) {Q:Option (Value×Nat)->Shared->Prop} (h:Q (((pickOrder (w.params.setOrder S d) c)[i]?).map λe=>(e.2,j)) s):
  wpAny (model prog w) A (setNext S j i d) Q E s:=by
 unfold setNext;refine LO$ NA b H f ?_;dsimp only;unfold setsByText;refine LO$ LO$ Og$ LR ?_;dsimp only;rw[show(model prog w).w.params.followText "set-order"=_ from a];simp only[↓reduceIte,Np,Mh];unfold setWalk;refine LO$ LO$ NA b H f ?_;dsimp only;unfold setsByText;refine LO$ LO$ Og$ LR ?_;dsimp only;rw[show(model prog w).w.params.followText "set-order"=_ from a];simp only[↓reduceIte];exact LO$ Og$ LR$ LR h
theorem JX(a:w.params.followText "set-order"=false){S:Addr}(b:s.heap.get? S=some o)(H:o.data= .set e c t)
  (d:t.fits e.size=true) (f:t.led=true) (l:e.size<=1) {Q:Option (Value×Nat)->Shared->Prop}
  (h:Q (match e[SetTable.below t.place j]?,t.place[SetTable.below t.place j]? with |some (_,x),some k=>some (x,k+1) |_,_=>none) s):
  wpAny (model prog w) A (setNext S j i c) Q E s:=by
 unfold setNext;refine LO$ NA b H d ?_;dsimp only;unfold setsByText;refine LO$ LO$ Og$ LR ?_;dsimp only;rw[show(model prog w).w.params.followText "set-order"=_ from a];simp only[Mh,↓reduceIte];split
 ·rename_i z
  have g:(!t.plain&&decide (e.size > 1))=true:=z;simp only[M9,decide_eq_true_eq]at g;omega
 ·refine LO ?_;show wpAny _ _ (if (!t.led&&!e.isEmpty)=true then _ else _) _ _ _;rw[f];simp only[OK,TC,Mh,↓reduceIte];exact LR$ LR h
end
theorem Yn{a:Type}(f:Nat->Nat):∀(n k:Nat) (l:List a) (o:Array a),l.length=n->(pickOrder.go f n k l o).toList.Perm (o.toList++l):=by
 intro n;induction n with
 |zero=>intro k l o h;rw[List.length_eq_zero_iff.mp h];unfold pickOrder.go;simp
 |succ n i=>intro k l o h;unfold pickOrder.go;have H:f k % l.length < l.length:=UK _ UO;rw[LP H];dsimp only;refine(i _ _ _ (by rw[RD H,h];rfl)).trans ?_;rw[Sx,NJ,List.singleton_append];refine List.Perm.append_left _ ?_;rw[Rc];refine List.perm_middle.symm.trans ?_;rw[Nt,NZ]
theorem kO{a:Type}(f:Nat->Nat)(x:Array a):(pickOrder f x).toList.Perm x.toList:=by have h:=Yn f x.size 0 x.toList (List.toArray []) (Mq ..);simpa [pickOrder] using h
theorem Jn{a:Type}(x:Array a)(d:a):(List.range x.size).map (λp=>(x[p]?).getD d)=x.toList:=by
 refine O7 UP λi b h=>?_;have H:i < x.size:=by simpa using h
 simp [H]
def nU(ord:List (Int×Value))(i:Nat)(v:Value):Prop:=∃e,ord[i]?=some e/\v=e.2
section
variable {prog:Program}{w:World}{A:Around}{E:Value->Shared->Prop}{s:Shared}
theorem q8{S:Addr}(H:cf s.heap I f i S n e){Q:Value->Shared->Prop}(h:Q (.ref I) s):wpAny (model prog w) A (pyIter$ .ref I) Q E s:=by refine Rr H.is qw$ MG qw H.is JN ?_$ J4 _;show wpAny _ _ (ret$ .ref I) _ _ s;exact LR #[_,Z,"set_iterator",_,H.is,kC.lookup,h]
theorem YZ(D:A.handled=none)(I S P:Addr)(l:S≠I)(m:P≠I){O oP:Obj}{y:List Nat}{c:Nat}(f:O.data= .set d G t)
  (u:t.fits d.size=true) (g:oP.data= .seq (y.map λ(i:Nat)=>rawInt i).toArray c) (n:y.Perm (List.range d.size)):
  WalksS prog w A I [I,S,P] [I] (λa b=>b=a) d.size (nU$ y.map λp=>(d[p]?).getD (0,.none))
   (λi s=>cf s.heap I (.ref P) i S d.size G/\s.heap.get? S=some O/\s.heap.get? P=some oP) where
 sub:=λb H=>by simp at H;simp [H]
 grefl:=λ_=>Z
 gtrans:=λ_ _ _ F J=>J.trans F
 frame:=λi s v T st _ k=>#[st.1.at λo e=>k I UP o e,k S UP _ st.2.1,k P UP _ st.2.2]
 item:=λi s Q E K st j=>by
  have B:y.length=d.size:=by rw[n.length_eq,OY]
  have h:i < y.length:=by omega
  have C:y[i] < d.size:=List.mem_range.mp (n.mem_iff.mp$ OE h);refine YY (p:=y[i]) (hx:=(d[y[i]]).1) (x:=(d[y[i]]).2) st.1 st.2.1 f u st.2.2 g (by simp [h,rawInt]) (by simp [C]) λv q r=>?_;refine j _ _ #[d[y[i]],by simp [h,C],Z] #[q,?_,?_] #[λb o H e=>?_,Z,Z,Z,LV _]
  ·rw[r.2 S l];exact st.2.1
  ·rw[r.2 P m];exact st.2.2
  ·rw[r.2 b (λz=>H (by simp [z]))];exact e
 done:=λs Q E st j=>by
  have B:y.length=d.size:=by rw[n.length_eq,OY]
  refine K3 D st.1 st.2.1 f u st.2.2 g (by simp [B]) λv k=>j _ #[λb o H e=>k b o (λz=>H (by simp [z])) e,Z,Z,Z,LV _]
 self:=λ_ _ _ _ st j=>q8 st.1 j
theorem sq(r:A.handled=none)(m:w.params.followText "set-order"=true)(I S:Addr)(l:S≠I){O:Obj}(h:O.data= .set c d t)
  (j:t.fits c.size=true):
  WalksS prog w A I [I,S] [I] (λa b=>b=a) c.size (nU (pickOrder (w.params.setOrder S d) c).toList)
   (λi s=>cf s.heap I (.int (0:Nat) 0) i S c.size d/\s.heap.get? S=some O) where
 sub:=λb H=>by simp at H;simp [H]
 grefl:=λ_=>Z
 gtrans:=λ_ _ _ u v=>v.trans u
 frame:=λi s n T st _ k=>#[st.1.at λo e=>k I UP o e,k S UP _ st.2]
 item:=λi s Q E D st f=>by
  have y:(pickOrder (w.params.setOrder S d) c).size=c.size:=by rw[<- Mq,(kO _ _).length_eq,Mq]
  have g:i < (pickOrder (w.params.setOrder S d) c).size:=by omega
  refine QK (x:=(pickOrder (w.params.setOrder S d) c)[i].2) (nx:=0) st.1 st.2 h j (λB C q=>Ju m st.2 h j (by rw[NE g];exact q)) λn q p=>?_;refine f _ _ #[(pickOrder (w.params.setOrder S d) c)[i],by rw[Nv];exact NE g,Z] #[q,?_] #[λb o H e=>?_,Z,Z,Z,LV _]
  ·rw[p.2 S l];exact st.2
  ·rw[p.2 b (λz=>H (by simp [z]))];exact e
 done:=λs Q E st f=>by
  have y:(pickOrder (w.params.setOrder S d) c).size=c.size:=by rw[<- Mq,(kO _ _).length_eq,Mq]
  refine qS r st.1 st.2 h j (λB C q=>Ju m st.2 h j (by rw[Pj UO];exact q)) λn k=>f _ #[λb o H e=>k b o (λz=>H (by simp [z])) e,Z,Z,Z,LV _]
 self:=λ_ _ _ _ st f=>q8 st.1 f
theorem Y0(p:Nat):SetTable.below (List.toArray [p]) 0=0:=by simp [SetTable.below,SetTable.below.go]
theorem Y1(p:Nat):SetTable.below (List.toArray [p]) (p+1)=1:=by simp [SetTable.below,SetTable.below.go]
theorem xH(G:A.handled=none)(u:w.params.followText "set-order"=false)(I S:Addr)(n:S≠I){O:Obj}(h:O.data= .set c L t)
  (g:t.fits c.size=true) (v:t.led=true) (y:c.size<=1):
  WalksS prog w A I [I,S] [I] (λa b=>b=a) c.size (nU c.toList)
   (λi s=>(∃j:Nat,cf s.heap I (.int j 0) i S c.size L/\(i=0->j=0)/\(i=1->∃p,t.place=(List.toArray [p])/\j=p+1))/\s.heap.get? S=some O) where
 sub:=λb d=>by simp at d;simp [d]
 grefl:=λ_=>Z
 gtrans:=λ_ _ _ K M=>M.trans K
 frame:=λi s B W st _ k=>#[let #[j,a,r]:=st.1;#[j,a.at λo e=>k I UP o e,r],k S UP _ st.2]
 item:=λi s Q E X st l=>by
  obtain⟨⟨j,H,J,C⟩,f⟩:=st;have N:i=0:=by omega
  subst N;cases J Z;have D:c.size=1:=by omega
  have P:t.place.size=1:=by simp only[SetTable.fits,M9,beq_iff_eq]at g;omega
  obtain⟨p,m⟩:=Array.size_eq_one_iff.mp P;refine QK (x:=(c[0]'UO).2) (nx:=p+1) H f h g (λR T q=>JX u f h g v y (by rw[m,Y0,NE UO];exact q)) λB q F=>?_;refine l _ _ #[c[0]'UO,by rw[Nv];exact NE UO,Z] #[#[_,q,λz=>by omega,λ_=>#[p,m,Z]],?_] #[λb o d e=>?_,Z,Z,Z,LV _]
  ·rw[F.2 S n];exact f
  ·rw[F.2 b (λz=>d (by simp [z]))];exact e
 done:=λs Q E st l=>by
  obtain⟨⟨j,H,J,C⟩,f⟩:=st;refine qS G H f h g (λR T q=>JX u f h g v y ?_) λB k=>l _ #[λb o d e=>k b o (λz=>d (by simp [z])) e,Z,Z,Z,LV _];by_cases z:c.size=0
  ·rw[Pj (show c.size<=_ by omega)];exact q
  ·have D:c.size=1:=by omega
   obtain⟨p,U,V⟩:=C D;subst V;rw[U,Y1,Pj (show c.size<=1 by omega)];exact q
 self:=λ_ _ _ _ st l=>let #[#[_,a,_],_]:=st;q8 a l
end
theorem qu{prog:Program}{w:World}(h:ElemsOf (PySem.strKind prog w) E)(i:Nat)(v:Value)(b:nU E i v):∃x t,(E.map λe=>mJ e.2)[i]?=some x/\v= .str x t:=by obtain⟨e,H,rfl⟩:=b;obtain⟨⟨k,c,_⟩,_⟩:=h e (Mr H);obtain⟨t,a⟩:=OL c;exact#[k,t,by rw[Mp,H];show some (mJ e.2)=_;rw[a];rfl,a]
def Cd(p:Program)(w:World)(s c:Shared)(S I:Addr)(L:List Str):Prop:=
 ∃(f:List Addr) (d:List Str) (P:Nat->Value->Prop) (St:Nat->Shared->Prop),(∀b o,s.heap.get? b=some o->c.heap.get? b=some o)/\c.gens=s.gens/\c.os=s.os/\s.toks<=c.toks/\
  s.heap.objs.size<=I/\I < c.heap.objs.size/\c.TypeIs (.ref I) "set_iterator"/\(∀b∈f,b=S∨s.heap.objs.size<=b)/\(∀A:Around,A.handled=none->WalksS p w A I f [I] (λa b=>b=a) d.length P St)/\St 0 c/\
  (∀i v,P i v->∃x t,d[i]?=some x/\v= .str x t)/\d.Perm L
section
variable {prog:Program}{w:World}{A:Around}{E:Value->Shared->Prop}{s:Shared}
theorem Y2{S:Addr}(V:c7 prog w s.heap S L){Q:Value->Shared->Prop}(h:∀f I,Cd prog w s f S I L->Q (.ref I) f):wpAny (model prog w) A (pyIter$ .ref S) Q E s:=by
 obtain⟨o,a,x,t,H,W,m,n,M,X,r,u,Y,N⟩:=V;have P:s.TypeIs (.ref S) "set":=#[o,H,W.1];have v:S < s.heap.objs.size:=LW H;refine Rr P RO$ MG RO P J2 ?_$ PySem.F.args_set_iter_1 _;unfold Builtin.«frozenset.__iter__»;show wpAny _ _ (Builtin.Frozenset.sizeOf S >>= _) _ _ s;unfold Builtin.Frozenset.sizeOf;refine LO$ LO$ Oo H m u$ LR ?_;unfold setDrawn;refine LO$ LO$ NA H m u ?_;dsimp only;unfold setsByText;refine LO$ LO$ Og$ LR$ LR ?_;split
 ·rename_i z
  have B:(!(w.params.followText "set-order")&&(!t.plain&&decide (a.size > 1)))=true:=z;simp only[M9,decide_eq_true_eq]at B;refine LO$ Yk a.size (List.range a.size) s UP λy d G=>?_;have C:y.length=a.size:=by rw[G.length_eq,OY]
  have O:((y.map λ(i:Nat)=>rawInt i).length)<=sizeLine:=by rw[LU,C];exact Pm r
  refine LO$ OG (s:={ s with drawn:=d }) ?_ O;refine LO ?_;unfold setEpoch;refine LO$ NA (LQ _ H) m u$ LR ?_;refine LO$ MJ$ LR #[_,Z,"set_iterator",_,#[_,LX _ Z,Z],kC.lookup,h _ _ ?_];generalize J:s.heap.push { cls:=.type "tuple",data:=.seq (y.map λ(i:Nat)=>rawInt i).toArray }=g;have R:g.objs.size=s.heap.objs.size+1:=by rw[<- J,MQ]
  have gP:g.get? s.heap.objs.size=some { cls:=.type "tuple",data:=.seq (y.map λ(i:Nat)=>rawInt i).toArray }:=by rw[<- J];exact LX _ Z
  have gS:g.get? S=some o:=by rw[<- J];exact LQ _ H
  refine#[[g.objs.size,S,s.heap.objs.size],(y.map λp=>(a[p]?).getD (0,.none)).map λe=>mJ e.2,nU$ y.map λp=>(a[p]?).getD (0,.none),
   (λi f=>cf f.heap g.objs.size (.ref s.heap.objs.size) i S a.size x/\f.heap.get? S=some o/\f.heap.get? s.heap.objs.size=some { cls:=.type "tuple",data:=.seq (y.map λ(i:Nat)=>rawInt i).toArray }),λb o e=>?_,Z,Z,LV _,?_,?_,#[_,LX _ Z,Z],λb r=>?_,
   λT D=>?_,#[#[_,LX _ Z,Z,Z],LQ _ gS,LQ _ gP],?_,?_]
  ·exact LQ _ (by rw[<- J];exact LQ _ e)
  ·show s.heap.objs.size<=g.objs.size;omega
  ·show g.objs.size < (g.push _).objs.size;rw[MQ];exact Na _
  ·simp only[NB,Mx,OZ]at r;rcases r with e |e |e
   ·subst e;exact .inr UO
   ·exact .inl e
   ·rw[e];exact .inr (LV _)
  ·have q:=YZ (prog:=prog) (w:=w) D g.objs.size S s.heap.objs.size (Me (by rw[R];exact NK v)) (Me (by rw[R];exact Na _)) m u (oP:={ cls:=.type "tuple",data:=.seq (y.map λ(i:Nat)=>rawInt i).toArray }) (c:=0) Z G;simpa [C] using q
  ·refine qu (prog:=prog) (w:=w)$ n.perm ?_;have q:=G.map λp=>(a[p]?).getD ((0:Int),Value.none);rwa [Jn]at q
  ·have q:=G.map λp=>(a[p]?).getD ((0:Int),Value.none);rw[Jn]at q;exact(q.map _).trans M
 ·rename_i z
  have B:¬(!(w.params.followText "set-order")&&(!t.plain&&decide (a.size > 1)))=true:=z;refine LO$ LR ?_;refine LO ?_;unfold setEpoch;refine LO$ NA H m u$ LR ?_;refine LO$ MJ$ LR #[_,Z,"set_iterator",_,#[_,LX _ Z,Z],kC.lookup,h _ _ ?_];have k:∀b∈[s.heap.objs.size,S],b=S∨s.heap.objs.size<=b:=λb r=>by
   simp only[NB,Mx,OZ]at r;rcases r with e |e
   ·subst e;exact .inr (LV _)
   ·exact .inl e
  have l:∀U:Obj,s.heap.objs.size < (s.heap.push U).objs.size:=λU=>by rw[MQ];exact Na _
  cases K:w.params.followText "set-order" with
  |true=>
   have pl:(pickOrder (w.params.setOrder S x) a).toList.length=a.size:=by rw[(kO _ _).length_eq,Mq]
   refine#[[s.heap.objs.size,S],(pickOrder (w.params.setOrder S x) a).toList.map λe=>mJ e.2,nU (pickOrder (w.params.setOrder S x) a).toList,
    (λi f=>cf f.heap s.heap.objs.size (.int (0:Nat) 0) i S a.size x/\f.heap.get? S=some o),λb o e=>LQ _ e,Z,Z,LV _,LV _,l _,#[_,LX _ Z,Z],k,
    λT D=>?_,#[#[_,LX _ Z,Z,Z],LQ _ H],?_,?_]
   ·have q:=sq (prog:=prog) (w:=w) D K s.heap.objs.size S (Me v) m u;rw[LU,pl];exact q
   ·exact qu (prog:=prog) (w:=w)$ n.perm$ kO _ _
   ·exact((kO _ _).map _).trans M
  |false=>
   have hs:a.size<=1:=by
    rw[K]at B;rcases N with e |e
    ·rw[e]at B;simp at B;exact B
    ·omega
   refine#[[s.heap.objs.size,S],a.toList.map λe=>mJ e.2,nU a.toList,
    (λi f=>(∃j:Nat,cf f.heap s.heap.objs.size (.int j 0) i S a.size x/\(i=0->j=0)/\(i=1->∃p,t.place=(List.toArray [p])/\j=p+1))/\f.heap.get? S=some o),λb o e=>LQ _ e,Z,Z,LV _,LV _,l _,#[_,LX _ Z,Z],k,
    λT D=>?_,#[#[0,#[_,LX _ Z,Z,Z],λ_=>Z,λz=>by cases z],LQ _ H],?_,?_]
   ·have q:=xH (prog:=prog) (w:=w) D K s.heap.objs.size S (Me v) m u (by rw[Y,K];rfl) hs;rw[LU,Mq];exact q
   ·exact qu (prog:=prog) (w:=w) n
   ·exact M
theorem qT:∀(V:List Value) (S:List Str),V.length=S.length->(∀(i:Nat) (v:Value),V[i]?=some v->∃x t,S[i]?=some x/\v=Value.str x t)->StrsAre V S
 | [],[],_,_=>.nil
 | [],_::_,h,_=>by cases h
 |_::_,[],h,_=>by cases h
 |v::V,y::S,h,k=>by obtain⟨x,t,e,rfl⟩:=k 0 v Z;cases e;exact .cons y t$ qT V S (by simpa using h) λi u H=>k (i+1) u (by simpa using H)
theorem Qh{S:Addr}(hh:A.handled=none)(y:c7 prog w s.heap S L){Q:List Value->Shared->Prop}
  (h:∀a V g,s.heap.objs.size<=a.heap.objs.size->(∀b o,s.heap.get? b=some o->a.heap.get? b=some o)->a.gens=s.gens->a.os=s.os->s.toks<=a.toks->StrsAre V g->g.Perm L->Q V a):wpAny (model prog w) A (collect$ .ref S) Q E s:=by
 have n:L.length < scanBound:=by obtain⟨o,es,ep,t,j,M,hd,h0,u,h1,k,hf,hl,h2⟩:=y;rw[<- u.length_eq,LU,Mq];exact k
 unfold collect;refine LO$ R4$ No Rj ?_;rw[MY Ri];show wpAny _ A.in1 (newList [] >>= λl=>again (.builtin "list.__iadd__" #[[l,.ref S],[]])) _ _ s;refine LO$ MJ$ LR #[NQ Oe _,No RB ?_];rw[MY Oe];show wpAny _ A.in1 (Builtin.List.listExtendWith (.ref s.heap.objs.size) (.ref S)$ .ref s.heap.objs.size) _ _ _;unfold Builtin.List.listExtendWith;have p:S < s.heap.objs.size:=by obtain⟨o,_,_,_,j,_⟩:=y;exact LW j
 generalize x:s.heap.push { cls:=.type "list",data:=.seq ([]:List Value).toArray }=H;have gl:H.get? s.heap.objs.size=some { cls:=.type "list",data:=.seq ([]:List Value).toArray }:=by rw[<- x];exact LX _ Z
 have R:c7 prog w H S L:=y.at λo e=>by rw[<- x];exact LQ _ e
 have gk:∀b o,s.heap.get? b=some o->H.get? b=some o:=λb o e=>by rw[<- x];exact LQ _ e
 have T:Shared.TypeIs { s with heap:=H } (.ref S) "set":=by obtain⟨o,_,_,_,j,M,_⟩:=R;exact#[o,j,M.1]
 refine LO$ N5 T ?_;have n1:Builtin.List.listSameRef (.ref s.heap.objs.size) (.ref S)=false:=by simp only[Builtin.List.listSameRef,beq_eq_false_iff_ne];exact MV p
 have n2:(Value.type "set"==Value.type "list")=false:=by decide
 have n3:(Value.type "set"==Value.type "tuple")=false:=by decide
 simp only[n1,n2,n3,RU,Mh,Nu];refine LO$ Y2 (s:={ s with heap:=H }) R λr I B=>?_;obtain⟨fp,g,P,St,K,kg,ko,kt,C,h3,h4,D,W,st,hv,u⟩:=B;have G:H.objs.size=s.heap.objs.size+1:=by rw[<- x,MQ]
 have f:r.TypeIs (.ref S) "set":=by obtain⟨o,j,hc⟩:=T;exact#[o,K _ _ j,hc]
 refine LO$ Ms ?_;unfold Builtin.List.listLengthHint;refine LO$ NN f PySem.F.slot_set_len.lookup ?_
 wp_delta
 refine LO$ NT (b:=true) f sub_set_self ?_;show wpAny _ A.in1 (typeOf (Value.ref S) >>= _) _ _ _;refine LO$ N5 f$ LR ?_;rw[Mb UN];refine LO$ NP ?_;have U:=K _ _ gl;refine LO ?_;show wpAny _ A.in1 (updateSeq s.heap.objs.size (·.push .none) >>= λ_=>updateSeq s.heap.objs.size (·.pop)) _ _ _;refine LO$ RV U Z ?_;have X:=MH (Obj.mapSeq (·.push Value.none)) U Z;refine RV X Z ?_;have g3:=MH (Obj.mapSeq (·.pop)) X Z;have N:¬s.heap.objs.size∈fp:=λm=>by
  rcases D _ m with e |e
  ·exact absurd p (by rw[<- e];exact MX _)
  ·have e':H.objs.size<=s.heap.objs.size:=e;omega
 have O:∀b o,b≠s.heap.objs.size->r.heap.get? b=some o->((r.heap.update s.heap.objs.size$ Obj.mapSeq (·.push Value.none)).update s.heap.objs.size$ Obj.mapSeq (·.pop)).get? b=some o:=
  λb o k e=>(Mn _ _$ ME k).trans ((Mn _ _$ ME k).trans e)
 have Y:=W A.in1 (by simpa using hh);have hn:g.length<=sizeLine:=by rw[u.length_eq];exact Pm n
 refine LR #[NQ Ro _,Th Y hn _ N _ g.length 0 _ _ _ Z (Ma _) (Y.frame 0 r _ r.toks st (LV _) λb k o e=>O b o (λz=>N (z▸k)) e) g3 (Tw P) λa J c m gS d=>?_];show wpAny _ A (load s.heap.objs.size >>= _) _ _ a;refine LO$ TF gS$ LR$ h a J.toList g (NM$ LW gS) (λb o e=>?_) ?_ ?_ ?_ ?_ u
 ·have ne:b≠s.heap.objs.size:=Me (LW e);refine m.heap b o ?_$ O b o ne$ K b o$ gk b o e;simp only[NB,Mx,OZ,not_or];refine#[ne,λz=>?_];have q:s.heap.objs.size+1<=I:=G▸C;have q2:=LW e;rw[z]at q2;exact absurd (Mi (NK q2) q)$ MX _
 ·exact m.gens.trans kg
 ·exact m.os.trans ko
 ·exact Mg kt m.toks
 ·refine qT _ _ (by rw[Mq,d.1]) λi v e=>hv i v (d.2 i v (by rwa [Nv]at e))
end
section
variable {prog:Program}{w:World}{A:Around}{E:Value->Shared->Prop}{s:Shared}
theorem Xp{S:Addr}(z:A.handled=none)(B:c7 prog w s.heap S L)(j:L.length < 64){Q:Value->Shared->Prop}
  (h:∀f a c v i,s.heap.objs.size<=a->(∀b o,s.heap.get? b=some o->f.heap.get? b=some o)->f.gens=s.gens->f.os=s.os->f.heap.get? a=some (seqObj "list" v c)->StrsAre v.toList i->i.Perm L->sortedS i=true->Q (.ref a) f):
  wpAny (model prog w) A (call (.builtin "sorted") [.ref S]) Q E s:=by
 refine N9 RL Rs Rt (Ru _) ?_;unfold Builtin.«sorted»;refine LO (m:=checkCount "sorted" 1 1 _)$ LR ?_;refine LO$ Qh (by simpa using z) B λd v i K k C D P H r=>?_;have F:v.length < 64:=by rw[<- _L.StrsAre.len H,r.length_eq];exact j
 refine LO$ Ot ?_ (by have q:sizeLine=1000000000∨64<=sizeLine:=.inr UN;omega);have g:=LX d.heap (o:=seqObj "list" v.toArray 0) Z;refine LO$ Ms$ MG P5 #[_,g,Z] PU (list_sort_treeK strKind_oneLt g H.keysOf (λV t R e=>keyKind_strs (by rw[<- e];exact H)) F λl G I=>#[_,Z,?_]) (P9 _);obtain⟨n,u,J,M⟩:=sorted_out_str H G I;generalize (arrOf l).map (·.2)=out at u ⊢;obtain⟨c,N⟩:=sortedHeap_at (out:=out) g;have O:∀b o,s.heap.get? b=some o->(sortedHeap (d.heap.push$ seqObj "list" v.toArray 0) d.heap.objs.size v out).get? b=some o:=by
  intro b o e;have x:=k b o e;have y:b < d.heap.objs.size:=LW x;have p:b < (d.heap.push$ seqObj "list" v.toArray 0).objs.size:=by rw[Sa];exact NK y
  rw[sortedHeap_old (Me y) p];exact LQ _ x
 exact LR #[_,Z,h { d with heap:=sortedHeap (d.heap.push$ seqObj "list" v.toArray 0) d.heap.objs.size v out } d.heap.objs.size c out n K O C D N u (J.trans r) M]
end
theorem Jv(h:StrsAre v s):aC (s.map V.str) v:=by
 induction h with
 |nil=>exact .nil
 |cons y t _ i=>exact .cons #[t,Z] i
noncomputable def Hw(P:Program)(w:World)(a:Addr)(L:List Str):HO:=.ext λh=>c7 P w h a L
section
variable {X:Cx}
theorem qv(i:X.calm=true):er X (.builtin "sorted") (λx H Q=>∃(p:Addr) (L:List Str),x=[.ref p]/\H p=some (Hw X.prog X.w p L)/\L.length < 64/\
  ∀l S,H l=none->S.Perm L->L.Nodup->sortedS S=true->Q (.ref l) (am H l$ .lst$ S.map V.str)):=by
 intro P s B H x U Q I r h;obtain⟨p,L,rfl,j,d,q⟩:=h;obtain⟨u,rfl,R⟩:=eY r;cases R;obtain⟨f,_,_⟩:=I.hok p _ j;have b:L.Nodup:=by obtain⟨_,_,_,_,_,_,_,_,_,b,_⟩:=f;exact b
 refine Xp (I.ok.hd i) f d λm a c v S e k K o t y g A=>?_;have len:(S.map V.str).length<=sizeLine:=by rw[LU,g.length_eq];exact Mg (NM d) UN
 have n:aN X.prog X.w (am H a$ .lst$ S.map V.str) m.heap a (.lst$ S.map V.str):=#[len,v.toList,c,Jv y,t];refine#[.ref a,_,I.call' (ch:=[]) o (Un.laid k e$ I.hok.fresh e) (I.hok.laid k e n) (by rw[K];exact I.bare) (λ_ z=>nomatch z),Z,q _ _ (I.hok.fresh e) g b A]
theorem Xq:er X (.builtin "sorted") (λx H Q=>∃(p:Addr) (a:List Str),x=[.ref p]/\aI X.K H p (a.map V.str)/\a.length < 64/\
  ∀l S,H l=none->S.Perm a->sortedS S=true->Q (.ref l) (am H l$ .lst$ S.map V.str)):=by
 intro P s v H x U Q I r h;obtain⟨p,a,rfl,f,b,q⟩:=h;obtain⟨u,rfl,R⟩:=eY r;cases R;obtain⟨i,g,j,y⟩:=I.list f;have d:=qp g;have k:i.length=a.length:=(_L.StrsAre.len d).symm;refine sorted_strs j.isList d (by rw[k];exact b) λo S m A n=>?_;obtain⟨c,t⟩:=sortedAll_at s.heap i o;have len:(S.map V.str).length<=sizeLine:=by rw[LU,A.length_eq];exact Mg (NM b) UN
 refine#[.ref$ s.heap.objs.size+1,_,I.laid (t':=s.toks) (λ_ _ e=>sortedAll_old e) (MU _) (show aN X.prog X.w _ _ _ (.lst$ S.map V.str) from #[len,o.toList,c,Jv m,t]),Z,q _ _ (I.hok.fresh$ MU _) A n]
end
theorem Zy:mroOf (.type "reversed")=pure [.type "reversed",.type "object"]:=by rw[mroOf_type];kernel_rfl
theorem K4:typeLookup (.type "reversed") "__new__"=pure (some$ .builtin "reversed.__new__"):=by rw[Nl,MP];kernel_rfl
theorem Qi:Slot "reversed" "__init__" "object.__init__":=by
 refine .of (owner:="object") (n:="__init__") ?_ UQ UQ UQ ?_ ?_
 ·rw[Nl,MP];kernel_rfl
 ·first |exact .inl UQ |exact .inr UQ
 ·rw[Nz];kernel_rfl
theorem Y3:TypeCalled "reversed" "reversed.__new__" "object.__init__":=by refine#[UQ,UQ,#[_,_,Zy],madeBy_type Zy K4 UQ,UQ,?_,Qi];rw[Nz];kernel_rfl
theorem Xr(a:Value):checkTypeCall "reversed" #[[a],[]]=pure ():=by kernel_rfl
theorem Yo(a:Value):checkBuiltinCall "reversed.__new__" #[[.type "reversed",a],[]]=pure ():=by kernel_rfl
theorem Qj:entryFor table "reversed.__new__"=some Builtin.«reversed.__new__»:=Py (by kernel_rfl)
theorem AW:isSubtype (.type "reversed") (.type "reversed")=pure true:=by rw[Nz];kernel_rfl
theorem Xs:typeLookup (.type "tuple") "__reversed__"=pure none:=by rw[Nl,MP];kernel_rfl
theorem K6:isSubtype (.type "tuple") (.type "dict")=pure false:=by rw[Nz];kernel_rfl
noncomputable def revObj(t:Addr)(n:Int):Obj:={ cls:=.type "reversed",data:=.fields (List.toArray [.ref t,.int (n - 1) 0]) }
section
variable {prog:Program}{w:World}{A:Around}{E:Value->Shared->Prop}{s:Shared}
theorem sZ{Q:Value->Shared->Prop}(H:IsTup s.heap t i)(c:(i.size:Int) < 2 ^ 63)
  (h:Q (.ref s.heap.objs.size) { s with heap:=s.heap.push (revObj t i.size),toks:=s.toks+1+1 }):wpAny (model prog w) A (call (.type "reversed") [.ref t]) Q E s:=by
 refine SM (S:=λ_ R a=>a=s/\R (.ok$ .ret$ .ref s.heap.objs.size) { s with heap:=s.heap.push (revObj t i.size),toks:=s.toks+1+1 }) Y3 UN (Xr _) (Yo _) (λo=>OM o _) Qj
  (.of_wp λp W f R a d=>?_) #[Z,#[_,LX _ Z,Z],h]
 obtain⟨rfl,e⟩:=d;unfold Builtin.«reversed.__new__» Builtin.SmallTypes.newClass;refine LO ?_;dsimp only;refine LO$ LR ?_;simp only[OK,Mh,Nu];refine LO$ PZ AW ?_;simp only[OK,Mh,Nu];refine LR ?_;refine LO (m:=Builtin.SmallTypes.refuseKeywords _ _ _)$ LR ?_;refine LO (m:=checkCount "reversed" 1 1 _)$ LR ?_;dsimp only;refine LO$ NN H.typeIs Xs ?_;dsimp only;refine LO ?_;show wpAny _ _ (isInstance (.ref t) (.type "dict") >>= _) _ _ _;refine LO$ NT (b:=false) H.typeIs K6 ?_;simp only[Mh,Nu];refine LO$ NN H.typeIs PyProof.Rows.slot_tuple_getitem.lookup ?_;dsimp only;rw[Mb UQ];refine LR ?_;simp only[OK,Mh,Nu];refine LO$ len_tuple H c ?_;refine LO (m:=asInt? _)$ LR ?_;dsimp only;show wpAny _ _ (newObj (.type "reversed") (.fields [Value.ref t,rawInt ((i.size:Int) - 1)].toArray) >>= _) _ _ _;exact LO$ MJ$ LR #[_,Z,e]
end
theorem zV:Slot "reversed" "__next__" "reversed.__next__":=by
 refine .of (owner:="reversed") (n:="__next__") ?_ UQ UQ UQ ?_ ?_
 ·rw[Nl,MP];kernel_rfl
 ·first |exact .inl UQ |exact .inr UQ
 ·rw[Nz];kernel_rfl
theorem qU:Slot "reversed" "__iter__" "reversed.__iter__":=by
 refine .of (owner:="reversed") (n:="__iter__") ?_ UQ UQ UQ ?_ ?_
 ·rw[Nl,MP];kernel_rfl
 ·first |exact .inl UQ |exact .inr UQ
 ·rw[Nz];kernel_rfl
theorem K7:entryFor table "reversed.__next__"=some Builtin.«reversed.__next__»:=Py (by kernel_rfl)
theorem K8:entryFor table "reversed.__iter__"=some Builtin.«dict_keyiterator.__iter__»:=by refine P7 (id':="dict_keyiterator.__iter__") ?_ Z UQ ?_<;>kernel_rfl
theorem Qk(a:Value):argsOk "reversed.__next__" #[[a],[]]:=by unfold argsOk;kernel_rfl
theorem Ql(a:Value):argsOk "reversed.__iter__" #[[a],[]]:=by unfold argsOk;kernel_rfl
def dI(h:Heap)(I t:Addr)(k:Int):Prop:=∃o,h.get? I=some o/\o.cls= .type "reversed"/\o.data= .fields (List.toArray [.ref t,.int k 0])
theorem dI.at{H:Heap}(x:dI h I t k)(e:∀o,h.get? I=some o->H.get? I=some o):dI H I t k:=let #[o,a,r]:=x;#[o,e o a,r]
theorem dI.is{s:Shared}(x:dI s.heap I t k):s.TypeIs (.ref I) "reversed":=let #[o,h,H,_]:=x;#[o,h,H]
section
variable {prog:Program}{w:World}{A:Around}{E:Value->Shared->Prop}{s:Shared}
theorem XN(H:dI s.heap I t k)
  (h:wpAny (model prog w) A.in1 (Builtin.«reversed.__next__» #[[.ref I],[]]) (λf S=>∃v,f= .done (.ret v)/\Q (some v) S) (λe S=>S.TypeIs e "StopIteration"/\Q none S) s):
  wpAny (model prog w) A (pyNext$ .ref I) Q E s:=by
 unfold pyNext;refine LO$ Ou$ ML (name:=Str.ofString "__next__") H.is zV$ MG zV H.is K7 ?_$ Qk _;refine MZ h (λf S q=>?_) λe S q=>?_
 ·obtain⟨v,e,q⟩:=q;exact#[v,e,LR q]
 ·exact LO$ NT (T:="StopIteration") (b:=true) q.1 P6$ LR q.2
theorem Ga{I t:Addr}{k:Nat}{items:Array Value}{x:Value}{Q:Option Value->Shared->Prop}(H:dI s.heap I t k)(c:IsTup s.heap t items)(d:items[k]?=some x)(e:(items.size:Int) < 2 ^ 63)
  (f:∀b,dI b I t ((k:Int) - 1)->Heap.SameBut I s.heap b->Q (some x) { s with heap:=b,toks:=s.toks+1 }):wpAny (model prog w) A (pyNext$ .ref I) Q E s:=by
 refine XN H ?_;obtain⟨o,a,g,h⟩:=H;have i:k < items.size:=(Array.getElem?_eq_some_iff.mp d).1;show wpAny _ _ (field (.ref I) 0 >>= _) _ _ s;refine LO$ My a h (x:=.ref t) Z$ LO$ My a h (x:=.int k 0) Z ?_;dsimp only;rw[Mf UO];refine LO$ NN c.typeIs PyProof.Rows.slot_tuple_getitem.lookup ?_;simp only[Se,Mh,Nu];refine LO$ wpAny_mkInt$ LO$ Ou ?_;refine getItem_tuple (s:={ s with toks:=s.toks+1 }) c UO UO (j:=k) ?_ d ?_
 ·unfold seqIndex?;simp;omega
 refine LO$ My (s:={ s with toks:=s.toks+1 }) a h (x:=.int k 0) Z ?_;dsimp only;refine LO$ MS a h UP$ LR #[x,Z,f _ ?_$ Nx ..];exact#[_,MH _ a$ M5$ MD h _,(Oz ..).trans g,by rw[MD h];simp [rawInt]]
theorem rm(f:A.handled=none){Q:Option Value->Shared->Prop}(h:dI s.heap I t (-1))
  (g:∀a,(∀b o,b≠I->s.heap.get? b=some o->a.get? b=some o)->Q none { s with heap:=a }):wpAny (model prog w) A (pyNext$ .ref I) Q E s:=by
 refine XN h ?_;obtain⟨o,c,j,H⟩:=h;show wpAny _ _ (field (.ref I) 0 >>= _) _ _ s;refine LO$ My c H (x:=.ref t) Z$ LO$ My c H (x:=.int (-1) 0) Z ?_;dsimp only;rw[Mb UN];refine LO$ NP$ LO ?_;show wpAny _ _ (setField (.ref I) 1 (rawInt (-1)) >>= λ_=>setField (.ref I) 0 .none) _ _ _;refine LO$ MS c H UP ?_;refine MS (MH _ c$ M5$ MD H _) (MD H _) UP ?_;refine LO ?_;refine J7 (s:={ s with heap:=_ }) (by simpa using f) λa e k T=>#[T,g a λb o d i=>k b o ?_];exact(Mn _ _$ ME d).trans ((Mn _ _$ ME d).trans i)
theorem Bx(H:dI s.heap I t k){Q:Value->Shared->Prop}(h:Q (.ref I) s):wpAny (model prog w) A (pyIter$ .ref I) Q E s:=by refine Rr H.is qU$ MG qU H.is K8 ?_$ Ql _;show wpAny _ _ (ret$ .ref I) _ _ s;exact LR #[_,Z,"reversed",_,H.is,zV.lookup,h]
end
theorem JY:entryFor table "dict.update.loop"=some Builtin.«dict.update.loop»:=Py (by kernel_rfl)
theorem zS:plainId "dict.update.loop"=true:=by decide+kernel
end _L
namespace _L
open PySem PySem.Spec PyProof.Rows Builtin Builtin.Str
section
variable {prog:Program}{w:World}{A:Around}{E:Value->Shared->Prop}{s:Shared}
theorem Jy{lo:Option Int}{Q:Value->Shared->Prop}(H:IsTup s.heap t i)(d:s.heap.IsSliceOf e v j .none)(p:IsPart v lo)(P:IsPart j f)
  (g:HT.sIx i.size 0 lo=0/\HT.sIx i.size i.size f=i.size) (h:Q (.ref t) s):wpAny (model prog w) A (getItem (.ref t)$ .ref e) Q E s:=by
 obtain⟨os,a,b,k⟩:=id d;have c:s.TypeIs (.ref e) "slice":=#[os,a,b];unfold getItem;try with_reducible refine Ms ?_
 first |refine LO (LR ?_) |skip
 refine LO$ TM H.typeIs UN ?_;refine LO (ML (name:=Str.ofString "__getitem__") H.typeIs ND
  (MG ND H.typeIs Uy ?_$ UD _ _))
 show wpAny _ _ (Builtin.Tuple.tupleItemsOf (.ref t) >>= _) _ _ s;refine LO$ Uw H ?_;refine LO$ N5 c ?_;rw[Mb UN];refine LO$ HT.sliceApplied_gen d p P ?_;show wpAny _ _ (if (((HT.sIx i.size 0 lo:Nat):Int)==0&&(1:Int)==1&&(HT.sIx i.size i.size f - HT.sIx i.size 0 lo)==i.size)=true then _ else _) _ _ s;rw[g.1,g.2,Mb UP];unfold Builtin.Tuple.tupleIsExact;refine LO$ LO$ N5 H.typeIs$ LR ?_;rw[Mb UN];first
  |exact NP (LR #[_,Z,LR h])
  |exact LO (NP (LR #[_,Z,LR h]))
  |exact LO (LR (LR #[_,Z,LR h]))
end
section
variable {X:Cx}
inductive vM(x y:V)(H:Hp)(Q:VK):Prop
 |mk(a b c d:_)(_:x= .ref a)(_:y= .ref b)(_:H a=some (.tup c))(_:H b=some (.tup d))(_:c.length+d.length<=sizeLine)(_:∀r H',H' r=some (.tup (c++d))->aa H H'->Q (.ref r) H')
theorem jQ:fb X (binaryOp .Add) vM:=by
 intro P s G H x y v u Q I r R h;obtain⟨a,b,m,Y,rfl,rfl,d,f,J,q⟩:=h;have t:=aB.of (K:=X.K) d;have w:=aB.of (K:=X.K) f;by_cases z:m=[]
 ·subst z;cases r;cases R;obtain⟨l,L,M,_⟩:=I.tuple t;obtain⟨i,r2,N,_⟩:=I.tuple w;have O:l=[]:=L.nil_iff.mpr Z;subst O;obtain⟨⟨T,U,A,V⟩,B,C,n,E⟩:=id M;obtain⟨⟨F,D,data2,S⟩,g,j,W,k⟩:=id N;simp only at C E j k;subst C E j k;exact SI #[_,B,Z] #[_,g,Z] RF Sj O3 OV (OS _ _)
   (tuple_addW0 a b ([]:List Value).toArray i.toArray n W U D V S Z) #[B,g,.ref b,H,I,Z,q b H f$ aa.refl H]
 ·refine Ac P s G H _ _ v u Q I r R #[a,b,m,Y,Z,Z,t,w,z,J,λe=>?_,λ_ p np=>?_]
  ·subst e;exact q a H (by rw[Mv];exact d)$ aa.refl H
  ·exact q p _ jc λc o e=>by rw[ji$ jk e np];exact e
inductive Ap(x:V)(c b:Option Int)(H:Hp)(Q:VK):Prop
 |mk(a d:_)(_:x= .ref a)(_:H a=some (.tup d))(_:∀r H',H' r=some (.tup (bZ d c b))->aa H H'->Q (.ref r) H')
theorem j8:Hv X Ap:=by
 intro P s u H x v V w lo j S Q I R k l m h;obtain⟨a,b,rfl,d,q⟩:=h;have n:=aB.of (K:=X.K) d;by_cases g:HT.sIx b.length 0 lo=0/\HT.sIx b.length b.length j=b.length
 ·cases R;obtain⟨i,r,t,y⟩:=I.tuple n;have f:i.toArray.size=b.length:=by rw[LY];exact r.length.symm
  refine#["tuple",_,PyProof.Rows.slot_tuple_getitem.lookup,t.typeIs,?_];refine Jy t k l m (by rw[f];exact g) #[.ref a,H,I,Z,q a H ?_$ aa.refl H];rw[d];unfold bZ;rw[g.1,g.2,NO,Po,MN]
 ·exact Ei P s u H _ v V w lo j S Q I R k l m #[a,b,Z,n,g,λp N=>q p _ jc λc o e=>by rw[ji$ jk e N];exact e]
end
end _L
namespace _L
open PySem PySem.Spec PyProof.Rows
theorem a8{A:Prop}(h:∀G:Prop,(A->G)->G):A:=h A λz=>z
section
variable {t u:TS}{D:a7}{σ:St}{H:Hp}
theorem gj(h:∀E:a7,(∀a b,u D a b->E.nx a b)->t E σ H):fh t u D σ H:=h { D with nx:=u D } λ_ _ h=>h
theorem ah(h:∀F:St->Hp->Prop,(∀a b,u D a b->F a b)->t { D with nx:=F } σ H):fh t u D σ H:=h _ λ_ _ h=>h
theorem HN{c:TT}(h:∀F:Bool->Hp->Prop,(∀b a,(if b=true then t D σ a else u D σ a)->F b a)->c σ H F):gU c t u D σ H:=h _ λ_ _ x=>x
theorem lO{c:TT}(h:∀F:Bool->Hp->Prop,(∀a,t D σ a->F true a)->(∀a,u D σ a->F false a)->c σ H F):gU c t u D σ H:=by
 refine h _ (λa x=>?_) λa x=>?_
 ·show if true=true then _ else _;rw[Mb Z];exact x
 ·show if false=true then _ else _;rw[Mf UN];exact x
theorem dZ(R:St->Hp->Prop)(c:∀E:a7,E.rt=D.rt->(∀a b,R a b->E.nx a b)->t E σ H)(d:∀a b,R a b->D.nx a b):Hj t D σ H:=#[R,c { D with nx:=R } Z λ_ _ h=>h,d]
theorem xJ{c:TT}{T:TS}(W:Nat->St->Hp->Prop)(d:Nat)(e:W d σ H)
  (f:∀m σ H,∀E:a7,E.rt=D.rt->(∀M a b,M < m->W M a b->E.nx a b)->∀F:Bool->Hp->Prop,(∀b,T E σ b->F true b)->(∀b,D.nx σ b->F false b)->∀G:Prop,(c σ H F->G)->W m σ H->G):xu c T D σ H:=by
 refine#[W,#[d,e],λm σ H w=>?_];refine f m σ H { D with nx:=λa b=>∃M,M < m/\W M a b,ct:=λa b=>∃M,M < m/\W M a b,bk:=D.nx } Z (λM a b l g=>#[M,l,g]) _ (λb x=>?_) (λb x=>?_) _ (λz=>z) w
 ·show if true=true then _ else _;rw[Mb Z];exact#[_,λ_ _ h=>h,x]
 ·show if false=true then _ else _;rw[Mf UN];exact x
def pH(J:It)(g:TG)(T:TS)(D:a7)(σ:St)(H:Hp):Prop:=∃W:Nat->Nat->St->Hp->Prop,(∃m,W 0 m σ H)/\∀i m σ H,W i m σ H->
 (J.stop i H/\D.nx σ H)∨(J.go i H/\∃N:St->Hp->Prop,(∀a h,N a h->∃M,M < m/\W (i+1) M a h)/\∀x h,J.yld i H x h->g x σ h λb c=>T { D with nx:=N,ct:=N,bk:=D.nx } b c)
theorem dW{w:TI}(h:∀F:It->Hp->Prop,(∀J a,pH J g T D σ a->F J a)->w σ H F):Hi w g T D σ H:=h _ λ_ _ z=>z
theorem zg{lo:Int}{n:Nat}{g:TG}{T:TS}{D:a7}{σ:St}{H:Hp}(Pv:Nat->St->Hp->Prop)(d:Pv 0 σ H)
  (e:∀E:a7,E.rt=D.rt->∀i σ H,i < n->(∀a c,Pv (i+1) a c->E.nx a c)->∀G:Prop,((g (.int$ lo+i) σ H λb f=>T E b f)->G)->Pv i σ H->G) (j:∀σ H,Pv n σ H->D.nx σ H):pH (sM lo n) g T D σ H:=
 Z7 Pv d (λi σ H k p=>e { D with nx:=Pv (i+1),ct:=Pv (i+1),bk:=D.nx } Z i σ H k (λ_ _ h=>h) _ (λz=>z) p) j
theorem JK{K:Frag}{a:Addr}{xs:List V}{g:TG}{T:TS}{D:a7}{σ:St}{H:Hp}(Pv:Nat->St->Hp->Prop)(e:Pv 0 σ H)(f:∀i σ H,i<=xs.length->Pv i σ H->aI K H a xs)
  (j:∀E:a7,E.rt=D.rt->∀i x σ H,xs[i]?=some x->(∀b d,Pv (i+1) b d->E.nx b d)->∀G:Prop,((g x σ H λc k=>T E c k)->G)->Pv i σ H->G) (l:∀σ H,Pv xs.length σ H->D.nx σ H):pH (xQ K a) g T D σ H:=
 ua Pv e f (λi x σ H m p=>j { D with nx:=Pv (i+1),ct:=Pv (i+1),bk:=D.nx } Z i x σ H m (λ_ _ h=>h) _ (λz=>z) p) l
theorem KG{K:Frag}{xs:List V}{g:TG}{T:TS}{D:a7}{σ:St}{H:Hp}(Pv:Nat->St->Hp->Prop)(e:Pv 0 σ H)(f:∀i σ H,i<=xs.length->Pv i σ H->aB K H a xs)
  (j:∀E:a7,E.rt=D.rt->∀i x σ H,xs[i]?=some x->(∀b d,Pv (i+1) b d->E.nx b d)->∀G:Prop,((g x σ H λc k=>T E c k)->G)->Pv i σ H->G) (l:∀σ H,Pv xs.length σ H->D.nx σ H):pH (Be K a) g T D σ H:=
 yt Pv e f (λi x σ H m p=>j { D with nx:=Pv (i+1),ct:=Pv (i+1),bk:=D.nx } Z i x σ H m (λ_ _ h=>h) _ (λz=>z) p) l
end
end _L
namespace _L
open PySem PySem.Spec PyProof.Rows PySem.SeqAt
section
variable {prog:Program}{w:World}{A:Around}{E:Value->Shared->Prop}{s:Shared}
theorem Y4{P:Fin->Shared->Prop}(H:s.heap.get? a=some (seqObj "list" [v].toArray n))
  (h:P (.done$ .ret .none) { s with heap:=sortedHeap s.heap a [v] (List.toArray [v]) }):wpAny (model prog w) A (Builtin.«list.sort» #[[.ref a],[]]) P E s:=by
 rw[RW];refine LO$ SH H Z ?_;refine LO$ ON H Z ?_;obtain⟨e,b⟩:∃e,(s.heap.update a$ Obj.mapSeq λ_=>(List.toArray [])).get? a=some (seqObj "list" (List.toArray []) e):=#[_,RX H (λ_=>(List.toArray []))];refine LO$ Pl b Z ?_;refine LO$ OG ?_;refine LO$ Ot ?_;refine Ms ?_;have g:(((s.heap.update a$ Obj.mapSeq λ_=>(List.toArray [])).push$ seqObj "tuple" [v].toArray 0).push$ seqObj "list" (List.toArray []) 0).get? a=some (seqObj "list" (List.toArray []) e):=LQ _ (LQ _ b);show wpAny (model prog w) A _ P E { s with heap:=((s.heap.update a$ Obj.mapSeq λ_=>(List.toArray [])).push$ seqObj "tuple" [v].toArray 0).push (seqObj "list" (List.toArray []) 0) };dsimp only;have S:[v].toArray.size < 2:=by show 1 < 2;decide
 rw[Mb S,Mb S];refine LO$ LR ?_;rw[SN];refine LO$ LR ?_;dsimp only;refine LO$ Pl g Z ?_;have c:(arrOf$ SortSt.mk' general' ([v].toArray.zip [v].toArray) (List.toArray []) 7 none).map (·.2)=(List.toArray [v]):=by show([v].toArray.zip [v].toArray).map (·.2)=(List.toArray [v]);simp
 rw[c];refine LO$ ON g Z ?_ (hsz2:=by show 1<=sizeLine+1;omega);simp only[Np,Mh,Nu];exact LR h
theorem AQ{Q:Value->Shared->Prop}(H:s.heap.IsList l [v].toArray)
  (h:Q (.ref$ s.heap.objs.size+1) { s with heap:=sortedAll s.heap [v] (List.toArray [v]) }):wpAny (model prog w) A (call (.builtin "sorted") [.ref l]) Q E s:=by
 refine N9 RL Rs Rt (Ru _) ?_;unfold Builtin.«sorted»;refine LO (m:=checkCount "sorted" 1 1 _)$ LR ?_;refine LO$ SJ H ?_;refine LO$ Ot ?_;have z:((s.heap.push$ seqObj "list" (List.toArray []) 0).update s.heap.objs.size$ Obj.mapSeq (·++[v].toArray)).objs.size=s.heap.objs.size+1:=by rw[Rk,Sa]
 have g:(((s.heap.push$ seqObj "list" (List.toArray []) 0).update s.heap.objs.size$ Obj.mapSeq (·++[v].toArray)).push$ seqObj "list" [v].toArray 0).get? (s.heap.objs.size+1)=some (seqObj "list" [v].toArray 0):=by rw[<- z];exact LX _ Z
 show wpAny _ _ _ _ _ { s with heap:=((s.heap.push$ seqObj "list" (List.toArray []) 0).update s.heap.objs.size$ Obj.mapSeq (·++[v].toArray)).push (seqObj "list" [v].toArray 0) };rw[z];refine LO$ Ms$ MG P5 #[_,g,Z] PU (Y4 g #[_,Z,?_]) (P9 _);exact LR #[_,Z,h]
end
inductive Tr where
 |lf (v:V) |tp (l:Tr) |nil |cons (h t:Tr)
noncomputable def Tr.dep:Tr->Nat
 | .lf _=>0
 | .tp l=>l.dep+1
 | .nil=>0
 | .cons h t=>max h.dep t.dep
noncomputable def Tr.isL:Tr->Bool
 | .nil=>true
 | .cons _ _=>true
 |_=>false
noncomputable def Lw:V->Bool
 | .byt _=>false
 | .flt _=>false
 |_=>true
end _L
namespace _L
open PySem PySem.Spec PyProof.Rows
noncomputable def HX(K:Frag)(a:Addr)(n:Nat):It:=
 #[λi H=>∃X x,aB K H a X/\X.length=n/\X.reverse[i]?=some x,λi H x h=>h=H/\∀X,aB K H a X->X.reverse[i]?=some x,λi H=>∃X,aB K H a X/\X.length=n/\i=n]
theorem xA{P:Program}{K:Frag}(a f:Addr)(n:Nat):nZ P w K tg (HX K a n) [f] f (λi h=>dI h f a ((n:Int) - 1 - i)) where
 mem:=by simp
 obj:=λi h st b j=>by
  have e:b=f:=by simpa using j
  subst e;obtain⟨o,e,c,d⟩:=st;exact#[o,e,λv z=>by rw[d]at z;cases z]
 keep:=λi h q st k=>st.at λo e=>k f UP o e
 item:=by
  intro X y A B O i g s Q H E I t st C;subst y A B;obtain⟨l,x,D,T,m⟩:=C;obtain⟨r,R,p,hz⟩:=I.tuple D;have hl:=R.length;have U:=eR;have V:i < l.length:=by
   rcases Pp i l.length with z |z
   ·exact z
   ·rw[M4 (by simpa using z)]at m;cases m
  have F:l[l.length - 1 - i]?=some x:=by rw[OD V]at m;exact m
  obtain⟨u,W,Y⟩:=R.get F;obtain⟨G,J,f2,L,M,N⟩:=t f UP;have e:((n:Int) - 1 - i)=((l.length - 1 - i:Nat):Int):=by omega
  rw[e]at st;refine Ga (items:=r.toArray) st (show IsTup s.heap a r.toArray from p) (x:=u) (by simpa using W) (by simp only[LY];omega) λq S sb=>?_;have I1:ax X g Q H { s with heap:=q,toks:=s.toks+1 }:=I.turned (t':=s.toks+1) (λb o j e=>(sb.2 b j).trans e) G J L M N;obtain⟨o,e',c,d⟩:=id S;refine#[u,Z,Zn (s:={ s with heap:=q,toks:=s.toks+1 }) e' c d UN #[x,H,I1,Y,#[Z,λys hy=>by rw[I.tuple_inj hy D];exact m],?_,λb j=>(t b j).1]];have e2:((n:Int) - 1 - ((i+1:Nat):Int))=((l.length - 1 - i:Nat):Int) - 1:=by omega
  show dI q f a ((n:Int) - 1 - ((i+1:Nat):Int));rw[e2];exact S
 done:=by
  intro X y A B O i g s Q H E I t st C;subst y A B;obtain⟨l,D,T,m⟩:=C;obtain⟨G,J,f2,L,M,N⟩:=t f UP;have e:((n:Int) - 1 - (i:Int))= -1:=by omega
  rw[e]at st;exact rm (I.ok.hd O) st λq eb=>#[Z,I.turned (t':=s.toks) (λb o j e=>eb b o j e) G J L M N]
 self:=λ_ _ _ _ _ st h=>Bx st h
section
variable {X:Cx}{tg:Expr}
inductive Bv(K:Frag)(R:It->Hp->Prop)(x:V)(b:Hp):Prop
 |mk(a c:_)(_:x= .ref a)(_:aB K b a c)(_:R (HX K a c.length) b)
def Iv(K:Frag)(t:TE):TI:=λa H R=>t a H (Bv K R)
theorem vA{e:Expr}{t:TE}{c:Str}{p P:Pos}(j:Gl X c)(k:X.mg c=none)(l:bootBuiltins c=some (.type "reversed"))(y:PE X e t)(m:c≠"__name__":=by decide)(n:(c==("__debug__":Str))=false:=by decide)
  (r:starEach [e] X.env=(false,eval e X.env)::starEach [] X.env:=by rfl) (A:(backTo P$ starEach [] X.env).any (·.1)=false:=by rfl):PI X tg (.Call (.Name c p) [e] [] P) (Iv X.K t):=by
 intro d s B H R I h;refine MT$ zE I j k l ?_ m n;refine MK ?_ r A;rw[r];show wpAny _ _ (spliced ((false,eval e X.env)::backTo P (starEach [] X.env))) _ _ s;refine NC$ aV (y d s B H _ I h) λu S z=>?_;obtain⟨x,C,g,D,a,v,E,F,q⟩:=z;subst E;cases (show u=Value.ref a from D);obtain⟨i,G,J,N⟩:=g.tuple F;have f:=G.length;have L:=eR;refine N4$ sZ (show IsTup S.heap a i.toArray from J) (by simp only[LY];omega) ?_;have w:dI (S.heap.push$ revObj a i.toArray.size) S.heap.objs.size a ((v.length:Int) - 1 - ((0:Nat):Int)):=#[_,LX _ Z,Z,by rw[LY,<- f];simp [revObj]];refine Bx (s:={ S with heap:=S.heap.push (revObj a i.toArray.size),toks:=S.toks+1+1 }) w ?_;refine#[S.heap.objs.size,[S.heap.objs.size],_,_,C,Z,g.kept (t':=S.toks+1+1) λb o e=>LQ _ e,xA a _ v.length,w,λb M=>?_,q];have e:b=S.heap.objs.size:=by simpa using M
 subst e;exact g.fpOk (LV _)$ g.hok.fresh$ LV _
end
theorem XO{K:Frag}{xs:List V}{g:TG}{t:TS}{D:a7}(Pv:Nat->St->Hp->Prop)(k:Pv 0 b H)(l:∀i b H,i<=xs.length->Pv i b H->aB K H a xs)
  (n:∀E:a7,E.rt=D.rt->∀i x b H,xs.reverse[i]?=some x->(∀c f,Pv (i+1) c f->E.nx c f)->∀G:Prop,((g x b H λj o=>t E j o)->G)->Pv i b H->G) (r:∀b H,Pv xs.length b H->D.nx b H):pH (HX K a xs.length) g t D b H:=by
 refine#[λi m b H=>m=xs.length - i/\i<=xs.length/\Pv i b H,#[xs.length,UP,Ma _,k],?_];rintro i m b H ⟨rfl,s,p⟩;have q:=l i b H s p;by_cases d:i < xs.length
 ·refine .inr #[#[xs,_,q,Z,LP (by simpa using d)],Pv$ i+1,λc f P=>#[xs.length - (i+1),UO,Z,d,P],λx f y=>?_];obtain⟨e,y⟩:=y;subst e;exact n { D with nx:=Pv (i+1),ct:=Pv (i+1),bk:=D.nx } Z i x b _ (y xs q) (λ_ _ h=>h) _ (λz=>z) p
 ·have e:i=xs.length:=by omega
  subst e;exact .inl #[#[xs,q,Z,Z],r b H p]
theorem wR:Slot "list_reverseiterator" "__length_hint__" "list_reverseiterator.__length_hint__":=by refine Slot.of (owner:="list_reverseiterator") (n:="__length_hint__") (by rw[Nl,MP];kernel_rfl) UQ UQ UQ ?_ (by rw[Nz];kernel_rfl);first |exact .inl UQ |exact .inr UQ
theorem rq:typeLookup (.type "list_reverseiterator") "__len__"=pure none:=by rw[Nl,MP];kernel_rfl
theorem El:isSubtype (.type "list_reverseiterator") (.type "list_reverseiterator")=pure true:=by rw[Nz];kernel_rfl
section
variable {prog:Program}{w:World}{A:Around}{E:Value->Shared->Prop}{s:Shared}
theorem CH(H:s.heap.IsRevIter I t k){Q:Bool->Shared->Prop}(h:Q false s):wpAny (model prog w) A (Builtin.List.listLengthHint$ .ref I) Q E s:=by
 unfold Builtin.List.listLengthHint;refine LO$ NN H.typeIs rq ?_;show wpAny _ A (specialOf (Value.ref I) (Str.ofString "__length_hint__") >>= _) _ _ _;refine LO$ NN H.typeIs wR.lookup ?_;have e:splitId "list_reverseiterator.__length_hint__"=some ("list_reverseiterator","__length_hint__"):=by decide+kernel
 dsimp only;rw[e];dsimp only;refine LO$ NT (b:=true) H.typeIs El ?_;simp only[OK,Mh,Nu];rw[Mb UQ,Mf UQ];exact LR h
theorem pK{a:Array Value}{Q:List Value->Shared->Prop}(z:A.handled=none)(f:s.heap.IsRevIter I t ((a.size:Int) - 1))(r:s.heap.IsList t a)(B:t≠I)(C:a.size<=sizeLine)
  (D:∀S,(∀b o,b≠I->s.heap.get? b=some o->S.heap.get? b=some o)->s.heap.objs.size<=S.heap.objs.size->S.gens=s.gens->S.os=s.os->Q a.toList.reverse S):wpAny (model prog w) A (collect$ .ref I) Q E s:=by
 have j:I < s.heap.objs.size:=by obtain⟨o,k,_⟩:=f;exact LW k
 have n:t < s.heap.objs.size:=by obtain⟨o,k,_⟩:=r;exact LW k
 have u:I≠s.heap.objs.size:=Me j;have F:t≠s.heap.objs.size:=Me n;unfold collect;refine LO (R4 (No Rj (by
  rw[MY Ri _];show wpAny _ A.in1 (newList [] >>= λl=>again (.builtin "list.__iadd__" #[[l,.ref I],[]])) _ _ s;refine LO$ MJ$ LR #[NQ Oe _,No RB ?_];rw[MY Oe _];generalize v:s.heap.push { cls:=.type "list",data:=.seq ([]:List Value).toArray }=H;have J:H.get? s.heap.objs.size=some { cls:=.type "list",data:=.seq (List.toArray []) }:=by rw[<- v];exact LX _ Z
  have G:∀b o,s.heap.get? b=some o->H.get? b=some o:=λb o e=>by rw[<- v];exact LQ _ e
  have h:H.IsRevIter I t ((a.size:Int) - 1):=f.at λo e=>G I o e;have p:H.IsList t a:=r.at λo e=>G t o e;show wpAny _ A.in1 (Builtin.List.listExtendWith (.ref s.heap.objs.size) (.ref I)$ .ref s.heap.objs.size) _ _ { s with heap:=H };unfold Builtin.List.listExtendWith;refine LO$ N5 (s:={ s with heap:=H }) h.typeIs ?_;have K:Builtin.List.listSameRef (.ref s.heap.objs.size) (.ref I)=false:=by simp only[Builtin.List.listSameRef,beq_eq_false_iff_ne];exact ME u
  have L:(Value.type "list_reverseiterator"==Value.type "list")=false:=by decide
  have M:(Value.type "list_reverseiterator"==Value.type "tuple")=false:=by decide
  simp only[K,L,M,RU,Mh,Nu];refine LO$ wpAny_pyIter_revIter (s:={ s with heap:=H }) h$ LO$ Ms$ CH (s:={ s with heap:=H }) h ?_;have N:¬s.heap.objs.size∈[I,t]:=by simp only[NB,Mx,OZ,not_or];exact#[ME u,ME F]
  rw[Mf UQ];refine LR #[NQ Ro _,?_];have W:=(Walks.listRev (prog:=prog) (w:=w) (A:=A.in1) (by simpa using z) I t B a).toS;refine Th W C _ N _ a.size 0 _ (List.toArray []) _ Z (Ma _) #[Ma _,by simpa using h,p] J (Tw _) λS d U m x c=>?_;have O:d=a.toList.reverse.toArray:=by
   apply Array.ext';refine List.ext_getElem? λi=>?_;by_cases y:i < a.size
   ·have g:i < d.size:=by rw[c.1];exact y
    have q:=c.2 i d[i] (by simp [g]);rw[Nv,NE g,<- q];show a[a.size - 1 - i]?=a.toList.reverse[i]?;rw[OD (by simpa using y)];simp
   ·rw[M4 (by rw[Mq,c.1];omega),M4 (by simp;omega)]
  subst O;show wpAny _ A (load s.heap.objs.size >>= _) _ _ S;refine LO$ TF x$ LR ?_;have P:a.toList.reverse.toArray.toList=a.toList.reverse:=by simp
  rw[P];refine D S (λb o R e=>?_) ?_ m.gens m.os
  ·have T:b≠s.heap.objs.size:=Me (LW e);exact m.heap b o (by simp only[NB,Mx,OZ,not_or];exact#[T,R])$ G b o e
  ·exact NM$ LW x)))
end
section
variable {prog:Program}{w:World}{A:Around}{E:Value->Shared->Prop}{s:Shared}
theorem Xt{i:Array Value}{Q:Value->Shared->Prop}(f:A.handled=none)(H:s.heap.IsRevIter I t ((i.size:Int) - 1))(g:s.heap.IsList t i)(j:t≠I)(d:i.size<=sizeLine)
  (h:∀S:Shared,(∀b o,b≠I->s.heap.get? b=some o->S.heap.get? b=some o)->s.heap.objs.size<=S.heap.objs.size->S.gens=s.gens->S.os=s.os->
   Q (.ref S.heap.objs.size) { S with heap:=S.heap.push { cls:=.type "tuple",data:=.seq i.toList.reverse.toArray } }):
  codeAny (model prog w) A (.call (.builtin "tuple.__new__") #[[.type "tuple",.ref I],[]]) (wants Q E) s:=by
 refine RY (show wpAny _ A.in1 (do checkBuiltinCall "tuple.__new__" #[[.type "tuple",.ref I],[]];again (.builtin "tuple.__new__" #[[.type "tuple",.ref I],[]])) _ _ s from ?_);refine LO (PZ (PySem.F.newCall_tuple_1 _) (LR #[NQ Ry _,No PySem.F.entry_tuple_new (by
  rw[MY Ry _];have e:=sub_tuple_self;have a:=init_tuple_lookup;have l:=madeHere_tuple;have c:=H.typeIs;wp_walk using N5 c,pK (by simpa using f) H g j d;intro S k z m n;show wpAny _ _ (Builtin.Tuple.tupleExact i.toList.reverse.toArray >>= λv=>ret v) _ _ _;unfold Builtin.Tuple.tupleExact;exact LO$ MJ (LR$ h S k z m n) (by show i.toList.reverse.toArray.size<=sizeLine;simpa using d))]))
theorem Xu{items:Array Value}{Q:Value->Shared->Prop}(d:A.handled=none)(c:s.heap.IsRevIter I t ((items.size:Int) - 1))(e:s.heap.IsList t items)(f:t≠I)(g:items.size<=sizeLine)
  (h:∀a:Shared,(∀b o,b≠I->s.heap.get? b=some o->a.heap.get? b=some o)->s.heap.objs.size<=a.heap.objs.size->a.gens=s.gens->a.os=s.os->
   Q (.ref a.heap.objs.size) { a with heap:=a.heap.push { cls:=.type "tuple",data:=.seq items.toList.reverse.toArray } }):wpAny (model prog w) A (call (.type "tuple") [.ref I]) Q E s:=by
 refine UF (Q₁:=λO S=>S.TypeIs O "tuple"/\Q O S) PySem.F.called_tuple (PySem.F.typeCall_tuple_1 _) PySem.F.entry_object_init (Xt (by simpa using d) c e f g λa k z i j=>#[#[_,LX _ Z,Z],h a k z i j]) λO S H=>?_;exact#[H.1,OM O _,object_init_meets PySem.F.called_tuple.init.lookup PySem.F.called_tuple.made UN prog w A.in1 _ S #[H.1,Z,H.2]]
end
section
variable {X:Cx}{e:Expr}{te:TE}{xl xr:Str}{p p2 pos pos2:Pos}
inductive nK(K:Frag)(Q:VK)(x:V)(b:Hp):Prop
 |mk(a c:_)(_:x= .ref a)(_:aI K b a c)(_:∀l,b l=none->Q (.ref l) (am b l (.tup c.reverse)))
def AZ(K:Frag)(te:TE):TE:=λa H Q=>te a H (nK K Q)
theorem rQ(M:X.calm=true)(g:Gl X xl)(j:X.mg xl=none)(l:bootBuiltins xl=some (.type "tuple"))(m:Gl X xr)(n:X.mg xr=none)(r:bootBuiltins xr=some (.type "reversed"))(O:PE X e te)
  (t:xl≠"__name__":=by decide) (v:(xl==("__debug__":Str))=false:=by decide) (y:xr≠"__name__":=by decide) (A:(xr==("__debug__":Str))=false:=by decide)
  (E:starEach [.Call (.Name xr p2) [e] [] pos2] X.env=(false,eval (.Call (.Name xr p2) [e] [] pos2) X.env)::starEach [] X.env:=by rfl) (T:(backTo pos$ starEach [] X.env).any (·.1)=false:=by rfl)
  (F:starEach [e] X.env=(false,eval e X.env)::starEach [] X.env:=by rfl) (U:(backTo pos2$ starEach [] X.env).any (·.1)=false:=by rfl):
  PE X (.Call (.Name xl p) [.Call (.Name xr p2) [e] [] pos2] [] pos) (AZ X.K te):=by
 intro P s V H Q I h;refine MT$ zE I g j l ?_ t v;refine MK ?_ E T;rw[E];show wpAny _ _ (spliced ((false,eval (.Call (.Name xr p2) [e] [] pos2) X.env)::backTo pos (starEach [] X.env))) _ _ s;refine NC ?_;refine MT$ zE I m n r ?_ y A;refine MK ?_ F U;rw[F];show wpAny _ _ (spliced ((false,eval e X.env)::backTo pos2 (starEach [] X.env))) _ _ s;refine NC$ aV (O P s V H _ I h) λu d B=>?_;obtain⟨x,W,f,Y,a,G,ex,hq,q⟩:=B;subst ex;cases (show u=Value.ref a from Y);obtain⟨i,R,C,hz⟩:=f.list hq;have J:=R.length;refine N4$ call_reversed_list C.isList$ N4 ?_;have D:a < d.heap.objs.size:=by obtain⟨o,ho,_⟩:=C.isList;exact LW ho
 refine Xu (s:={ d with heap:=d.heap.push (PySem.revObj a ((i.toArray.size:Int) - 1)) }) (items:=i.toArray) (I.ok.hd M) #[_,LX _ Z,Z,Z] (C.isList.at λo e=>LQ _ e) (Me D)
  (by simp only[LY];omega) λS k hl kg ko=>?_
 have c:d.heap.objs.size<=S.heap.objs.size:=Mg (by show _<=(d.heap.push _).objs.size;rw[MQ];exact MU _) hl;have L:∀b o,d.heap.get? b=some o->(S.heap.push { cls:=.type "tuple",data:=.seq i.toArray.toList.reverse.toArray }).get? b=some o:=λb o e=>LQ _ (k b o (Me$ LW e)$ LQ _ e);have hg:(S.heap.push { cls:=.type "tuple",data:=.seq i.toArray.toList.reverse.toArray }).get? S.heap.objs.size=some { cls:=.type "tuple",data:=.seq i.toArray.toList.reverse.toArray }:=LX _ Z;have N:aN X.prog X.w (am W S.heap.objs.size$ .tup G.reverse) (S.heap.push { cls:=.type "tuple",data:=.seq i.toArray.toList.reverse.toArray }) S.heap.objs.size (.tup G.reverse):=by
  refine#[by rw[Sn];exact hz,i.reverse,aC.reverse R,?_];have ee:i.toArray.toList.reverse.toArray=i.reverse.toArray:=by simp
  rw[<- ee];exact#[_,hg,Z,_,Z]
 exact#[.ref S.heap.objs.size,_,f.call' (ch:=[]) ko (Un.laid L c$ f.hok.fresh c) (f.hok.laid L c N) (by show AllBare S.gens;rw[kg];exact f.bare) (λ_ z=>nomatch z),Z,q _$ f.hok.fresh c]
end
section
variable {prog:Program}{w:World}{A:Around}{E:Value->Shared->Prop}{s:Shared}
theorem KU{x:Value}{Q:Value->Shared->Prop}(a:s.heap.IsTupleIter J T i)(e:s.heap.IsTuple T I)(f:I[i]?=some x)
  (q:∀b,b.IsTupleIter J T (i+1)->Heap.SameBut J s.heap b->Q x { s with heap:=b }):wpAny (model prog w) A (Builtin.SmallTypes.nextOf$ .ref J) Q E s:=by
 obtain⟨o,H,g,h⟩:=id a;obtain⟨O,c,_,n,d⟩:=e;unfold Builtin.SmallTypes.nextOf;refine LO$ ML (name:=Str.ofString "__next__") a.typeIs M3$ MG M3 a.typeIs Oi (show wpAny _ _ (field (.ref J) 0 >>= _) _ _ s from ?_)$ Od _;refine LO$ My H h (x:=.ref T) Z (show wpAny _ _ (if (Value.ref T==Value.none)=true then _ else _) _ _ s from ?_);rw[Mf (show ¬((Value.ref T==Value.none)=true) from Md)];refine(show wpAny _ _ (field (.ref J) 1 >>= _) _ _ s from LO$ My H h (x:=.int i 0) Z (show wpAny _ _ (seqItems? (.ref T) >>= _) _ _ s from LO$ M' c d ?_));simp only[M6,f];refine LO$ MS H h UP$ LR #[x,Z,LR$ q _ #[_,MH _ H$ M5$ MD h _,(Oz ..).trans g,by rw[MD h];simp [rawInt]] (Nx ..)]
theorem rn(g:A.handled=none)(H:s.heap.IsTupleIter J T i)(j:s.heap.IsTuple T I)(l:I[i]?=none)
  (q:∀h e,Heap.ExtBut J s.heap h->Shared.TypeIs { s with heap:=h } e "StopIteration"->E e { s with heap:=h }):wpAny (model prog w) A (Builtin.SmallTypes.nextOf$ .ref J) Q E s:=by
 obtain⟨o,a,p,c⟩:=id H;obtain⟨O,d,_,N,f⟩:=j;unfold Builtin.SmallTypes.nextOf;refine LO$ ML (name:=Str.ofString "__next__") H.typeIs M3$ MG M3 H.typeIs Oi (show wpAny _ _ (field (.ref J) 0 >>= _) _ _ s from ?_)$ Od _;refine LO$ My a c (x:=.ref T) Z (show wpAny _ _ (if (Value.ref T==Value.none)=true then _ else _) _ _ s from ?_);rw[Mf (show ¬((Value.ref T==Value.none)=true) from Md)];refine(show wpAny _ _ (field (.ref J) 1 >>= _) _ _ s from LO$ My a c (x:=.int i 0) Z (show wpAny _ _ (seqItems? (.ref T) >>= _) _ _ s from LO$ M' d f ?_));simp only[M6,l];refine LO$ NP$ LO$ MS a c UP ?_;refine J7 (by simpa using g) λh e k t=>q h e (λb o m n=>k b o ?_) t;exact(Mn _ _$ ME m).trans n
end
def hZ(b:Bool)(h:Heap)(i l:Addr)(k:Nat):Prop:=match b with
 |true=>h.IsListIter i l k
 |false=>h.IsTupleIter i l k
def i6(b:Bool)(h:Heap)(l:Addr)(x:Array Value):Prop:=match b with
 |true=>h.IsList l x
 |false=>h.IsTuple l x
noncomputable def gB:Bool->String
 |true=>"list_iterator"
 |false=>"tuple_iterator"
theorem hZ.kp{b:Bool}{H:Heap}(x:hZ b h i l k)(e:∀o,h.get? i=some o->H.get? i=some o):hZ b H i l k:=by
 cases b
 ·exact Tz x e
 ·obtain⟨o,a,r⟩:=x;exact#[o,e o a,r]
theorem i6.kp{b:Bool}{H:Heap}(x:i6 b h l a)(e:∀o,h.get? l=some o->H.get? l=some o):i6 b H l a:=by
 cases b
 ·obtain⟨o,c,r⟩:=x;exact#[o,e o c,r]
 ·exact UM x e
theorem hZ.ob(x:hZ b h i l k):∃o,h.get? i=some o/\o.cls= .type (gB b)/\∀v,o.data≠ .cell v:=by
 cases b
 ·obtain⟨o,H,c,d⟩:=x;exact#[o,H,c,λv z=>by rw[d]at z;cases z]
 ·obtain⟨o,H,c,d⟩:=x;exact#[o,H,c,λv z=>by rw[d]at z;cases z]
section
variable {prog:Program}{w:World}{A:Around}{E:Value->Shared->Prop}{s:Shared}
theorem qr{Q:Value->Shared->Prop}(H:hZ b s.heap J T i)(a:i6 b s.heap T I)(c:I[i]?=some x)
  (q:∀h,hZ b h J T (i+1)->Heap.SameBut J s.heap h->Q x { s with heap:=h }):wpAny (model prog w) A (Builtin.SmallTypes.nextOf$ .ref J) Q E s:=by
 cases b
 ·exact KU H a c q
 ·exact wpAny_nextOf_list_item H a c q
theorem QL(H:A.handled=none)(a:hZ b s.heap J T i)(c:i6 b s.heap T I)(d:I[i]?=none)
  (q:∀h e,Heap.ExtBut J s.heap h->Shared.TypeIs { s with heap:=h } e "StopIteration"->E e { s with heap:=h }):wpAny (model prog w) A (Builtin.SmallTypes.nextOf$ .ref J) Q E s:=by
 cases b
 ·exact rn H a c d q
 ·exact wpAny_nextOf_list_end H a c d λh e k #[o,f,g]=>q h (.ref e) k #[o,f,g]
theorem Bz{Q:Value->Shared->Prop}(h:i6 b s.heap T i)
  (q:Q (.ref s.heap.objs.size) { s with heap:=s.heap.push { cls:=.type (gB b),data:=.fields (List.toArray [.ref T,.int 0 0]) } }):wpAny (model prog w) A (pyIter$ .ref T) Q E s:=by
 cases b
 ·exact Oy h q
 ·exact Pk h q
structure yc(z u v c d a b:Addr):Prop where
 uz:u≠z
 vz:v≠z
 cz:c≠z
 dz:d≠z
 uv:u≠v
 uc:u≠c
 ud:u≠d
 vc:v≠c
 vd:v≠d
 cd:c≠d
 az:a≠z
 av:a≠v
 ac:a≠c
 ad:a≠d
 bz:b≠z
 bv:b≠v
 bc:b≠c
 bd:b≠d
theorem A6{Q:Option Value->Shared->Prop}(D:yc z u v c d a b)
  (H:IsZip s.heap z u v .none) (hu:IsPair s.heap u (.ref c) (.ref d)) (hv:IsPair s.heap v p q) (h1:hZ B s.heap c a k) (h2:hZ C s.heap d b k) (g1:i6 B s.heap a xs) (g2:i6 C s.heap b ys) (hx:xs[k]?=some x) (hy:ys[k]?=some y)
  (hQ:∀h,IsZip h z u v (rawInt s.heap.objs.size)->IsPair h v x y->hZ B h c a (k+1)->hZ C h d b (k+1)->IsPair h s.heap.objs.size x y->h.objs.size=s.heap.objs.size+1->
   (∀e o,e≠z->e≠v->e≠c->e≠d->s.heap.get? e=some o->h.get? e=some o)->Q (some$ .ref s.heap.objs.size) { s with heap:=h }):wpAny (model prog w) A (pyNext$ .ref z) Q E s:=by
 have W:s.TypeIs (.ref z) "zip":=#[_,H,Z];unfold pyNext;refine LO$ Ou$ ML (name:=Str.ofString "__next__") W Nb$ MG Nb W Op (show wpAny _ _ (field (.ref z) 2 >>= _) _ _ _ from ?_)$ Of _;refine LO$ My H Z (x:=.bool false) Z (show wpAny _ _ (field (.ref z) 3 >>= _) _ _ _ from LO$ My H Z (x:=.ref u) Z$ LO$ M' hu Z ?_);refine(show wpAny _ _ (Builtin.SmallTypes.ownedTupleIsFree (.ref z) >>= _) _ _ _ from LO ?_);unfold Builtin.SmallTypes.ownedTupleIsFree;refine LO$ My H Z (x:=.none) Z$ LR ?_;simp only[PR];refine LO$ NP$ LO$ My H Z (x:=.ref v) Z$ LO$ N6 H UP λX F S=>?_;replace F:IsZip X z u v .ellipsis:=F;refine LO ?_;simp only[SY,Ti,NW,OR];refine LO$ LO$ Sf (show wpAny _ _ (Builtin.SmallTypes.nextOf (.ref c) >>= _) _ _ _ from ?_);refine LO$ qr (s:={ s with heap:=X }) (h1.kp λo e=>S.extBut _ _ D.cz e) (g1.kp λo e=>S.extBut _ _ D.az e) hx λG i2 l=>LR ?_;have Y:IsPair G v p q:=l.extBut _ _ D.vc (S.extBut _ _ D.vz hv);refine LO$ M' (s:={ s with heap:=G }) Y Z$ LO$ Td (s:={ s with heap:=G }) Y λI J r=>?_;replace J:IsPair I v x q:=J;refine LO$ wpAny_letGo$ LR$ LO$ LO$ Sf (show wpAny _ _ (Builtin.SmallTypes.nextOf (.ref d) >>= _) _ _ _ from ?_);have K:∀e o,e≠z->e≠c->e≠v->s.heap.get? e=some o->I.get? e=some o:=λe o N f g w=>r.extBut _ _ g (l.extBut _ _ f$ S.extBut _ _ N w);refine LO$ qr (s:={ s with heap:=I }) (h2.kp λo e=>K _ _ D.dz D.cd.symm D.vd.symm e) (g2.kp λo e=>K _ _ D.bz D.bc D.bv e) hy λL i4 i=>LR ?_;have v4:IsPair L v x q:=i.extBut _ _ D.vd J;refine LO$ M' (s:={ s with heap:=L }) v4 Z$ LO$ Td (s:={ s with heap:=L }) v4 λm V j=>?_;replace V:IsPair m v x y:=V;refine LO$ wpAny_letGo$ LR$ LR$ LO$ M' (s:={ s with heap:=m }) V Z$ LO$ OG ?_;have e5:m.objs.size=s.heap.objs.size:=by rw[j.1,i.1,r.1,l.1,S.1]
 have k5:∀e o,e≠z->e≠v->e≠c->e≠d->s.heap.get? e=some o->m.get? e=some o:=λe o N f g O w=>j.extBut _ _ f (i.extBut _ _ O$ K e o N g f w);have z5:IsZip m z u v .ellipsis:=j.extBut _ _ D.vz.symm (i.extBut _ _ D.dz.symm$ r.extBut _ _ D.vz.symm$ l.extBut _ _ D.cz.symm F);have j1:hZ B m c a (k+1):=i2.kp λo e=>j.extBut _ _ D.vc.symm (i.extBut _ _ D.cd$ r.extBut _ _ D.vc.symm e);have j2:hZ C m d b (k+1):=i4.kp λo e=>j.extBut _ _ D.vd.symm e;have lz:z < m.objs.size:=LW z5;refine(show wpAny _ _ (Builtin.SmallTypes.ownedTupleHandOut (.ref z) (.ref m.objs.size) >>= _) _ _ _ from LO ?_);unfold Builtin.SmallTypes.ownedTupleHandOut;have z6:IsZip (m.push { cls:=.type "tuple",data:=.seq (List.toArray [x,y]) }) z u v .ellipsis:=LQ _ z5;refine LO$ N6 z6 UP λm7 P R=>?_;replace P:IsZip m7 z u v (rawInt m.objs.size):=P;refine N6 P UP λM t T=>?_;replace t:IsZip M z u v (rawInt m.objs.size):=t;have U:∀e o,e≠z->m.get? e=some o->M.get? e=some o:=λe o n w=>T.extBut _ _ n (R.extBut _ _ n$ LQ _ w);have t8:IsPair M m.objs.size x y:=T.extBut _ _ (MV lz) (R.extBut _ _ (MV lz)$ LX _ Z);have e8:M.objs.size=m.objs.size+1:=by rw[T.1,R.1,MQ]
 rw[e5]at t t8 e8;refine LR #[_,Z,LR ?_];show Q (some$ .ref m.objs.size) _;rw[e5];exact hQ M t (U _ _ D.vz V) (j1.kp λo e=>U _ o D.cz e) (j2.kp λo e=>U _ o D.dz e) t8 e8 λe o N f g O w=>U e o N (k5 e o N f g O w)
theorem Ez{b2:Bool}{ys:Array Value}{p q:Value}{Q:Option Value->Shared->Prop}(C:A.handled=none)(D:yc z u v c d a b)
  (h:IsZip s.heap z u v .none) (F:IsPair s.heap u (.ref c) (.ref d)) (G:hZ I s.heap c a k) (J:i6 I s.heap a L) (K:L[k]?=none)
  (O:∀H,(∀e o,e≠z->e≠v->e≠c->e≠d->s.heap.get? e=some o->H.get? e=some o)->Q none { s with heap:=H }):wpAny (model prog w) A (pyNext$ .ref z) Q E s:=by
 have g:s.TypeIs (.ref z) "zip":=#[_,h,Z];unfold pyNext;refine LO$ Ou$ ML (name:=Str.ofString "__next__") g Nb$ MG Nb g Op (show wpAny _ _ (field (.ref z) 2 >>= _) _ _ _ from ?_)$ Of _;refine LO$ My h Z (x:=.bool false) Z (show wpAny _ _ (field (.ref z) 3 >>= _) _ _ _ from LO$ My h Z (x:=.ref u) Z$ LO$ M' F Z ?_);refine(show wpAny _ _ (Builtin.SmallTypes.ownedTupleIsFree (.ref z) >>= _) _ _ _ from LO ?_);unfold Builtin.SmallTypes.ownedTupleIsFree;refine LO$ My h Z (x:=.none) Z$ LR ?_;simp only[PR];refine LO$ NP$ LO$ My h Z (x:=.ref v) Z$ LO$ N6 h UP λm f S=>?_;replace f:IsZip m z u v .ellipsis:=f;refine LO ?_;simp only[SY,Ti,NW,OR];refine LO$ LO$ Sf (show wpAny _ _ (Builtin.SmallTypes.nextOf (.ref c) >>= _) _ _ _ from ?_);refine LO$ QL (s:={ s with heap:=m }) (by simpa using C) (G.kp λo e=>S.extBut _ _ D.cz e) (J.kp λo e=>S.extBut _ _ D.az e) K λM e i j=>?_;have l:IsZip M z u v .ellipsis:=i _ _ D.cz.symm f;refine N6 (s:={ s with heap:=M }) l UP λn U r=>?_;have t:Shared.TypeIs { s with heap:=n } e "StopIteration":=by
  cases e with
  |ref x=>
   obtain⟨o,y,B⟩:=j;have P:x≠z:=λw=>by subst w;have:=y.symm.trans l;cases this;injection B with w;exact absurd w UN
   exact#[o,r.extBut _ _ P y,B]
  |_=>exact j
 exact LO$ NT (T:="StopIteration") (b:=true) t P6$ LR$ O n λe o N V R W w=>r.extBut _ _ N (i _ _ R$ S.extBut _ _ N w)
theorem EA{b1 b2:Bool}{xs ys:Array Value}{Q:Value->Shared->Prop}(J:i6 b1 s.heap a xs)(L:i6 b2 s.heap b ys)
  (h:∀H,IsZip H (s.heap.objs.size+4) (s.heap.objs.size+2) (s.heap.objs.size+3) .none->IsPair H (s.heap.objs.size+2) (.ref s.heap.objs.size) (.ref$ s.heap.objs.size+1)->
   IsPair H (s.heap.objs.size+3) .none .none->hZ b1 H s.heap.objs.size a 0->hZ b2 H (s.heap.objs.size+1) b 0->(∀e o,s.heap.get? e=some o->H.get? e=some o)->Q (.ref$ s.heap.objs.size+4) { s with heap:=H }):
  wpAny (model prog w) A (call (.type "zip") [.ref a,.ref b]) Q E s:=by
 refine SM (S:=λ_ R c=>c=s/\R (.ok$ .ret$ .ref$ s.heap.objs.size+4) { s with heap:=((((s.heap.push { cls:=.type (gB b1),data:=.fields (List.toArray [.ref a,.int 0 0]) }).push { cls:=.type (gB b2),data:=.fields (List.toArray [.ref b,.int 0 0]) }).push { cls:=.type "tuple",data:=.seq (List.toArray [.ref s.heap.objs.size,.ref$ s.heap.objs.size+1]) }).push { cls:=.type "tuple",data:=.seq (List.toArray [.none,.none]) }).push { cls:=.type "zip",data:=.fields (List.toArray [.none,.bool false,.bool false,.ref$ s.heap.objs.size+2,.ref$ s.heap.objs.size+3]) } })
  PySem.F.called_zip UN (PySem.F.typeCall_zip_2 _ _) (PySem.F.newCall_zip_2 _ _) (λO=>PySem.F.args_object_init_3 O _ _) PySem.F.entry_zip_new (.of_wp λp w' A' R c P=>?_) #[Z,?_]
 ·obtain⟨rfl,q⟩:=P;obtain⟨r,g,D,t,os⟩:=c;have u:=sub_zip;have T:i6 b1 (Shared.heap #[r,g,D,t,os]) a xs:=J;have _L:i6 b2 (Shared.heap #[r.push { cls:=.type (gB b1),data:=.fields (List.toArray [.ref a,.int 0 0]) },g,D,t,os]) b ys:=L.kp λo e=>LQ _ e;wp_walk using Bz T,Bz _L;refine#[_,Z,?_];simp only[MQ]at q ⊢;exact q
 ·have z (h:Heap) (o:Obj):(h.push o).objs.size=h.objs.size+1:=MQ ..;generalize d:s.heap.push { cls:=.type (gB b1),data:=.fields (List.toArray [.ref a,.int 0 0]) }=M;generalize f:M.push { cls:=.type (gB b2),data:=.fields (List.toArray [.ref b,.int 0 0]) }=i;generalize j:i.push { cls:=.type "tuple",data:=.seq (List.toArray [.ref s.heap.objs.size,.ref$ s.heap.objs.size+1]) }=k;generalize l:k.push { cls:=.type "tuple",data:=.seq (List.toArray [.none,.none]) }=n;generalize v:n.push { cls:=.type "zip",data:=.fields (List.toArray [.none,.bool false,.bool false,.ref$ s.heap.objs.size+2,.ref$ s.heap.objs.size+3]) }=m;have N:M.objs.size=s.heap.objs.size+1:=by rw[<- d,z]
  have x:i.objs.size=s.heap.objs.size+2:=by rw[<- f,z,N]
  have y:k.objs.size=s.heap.objs.size+3:=by rw[<- j,z,x]
  have U:n.objs.size=s.heap.objs.size+4:=by rw[<- l,z,y]
  have K:∀e o,n.get? e=some o->m.get? e=some o:=λe o w=>by rw[<- v];exact LQ _ w
  have B:∀e o,k.get? e=some o->m.get? e=some o:=λe o w=>K e o (by rw[<- l];exact LQ _ w);have C:∀e o,i.get? e=some o->m.get? e=some o:=λe o w=>B e o (by rw[<- j];exact LQ _ w);have G:∀e o,M.get? e=some o->m.get? e=some o:=λe o w=>C e o (by rw[<- f];exact LQ _ w);have V:∀e o,s.heap.get? e=some o->m.get? e=some o:=λe o w=>G e o (by rw[<- d];exact LQ _ w);have I:IsZip m (s.heap.objs.size+4) (s.heap.objs.size+2) (s.heap.objs.size+3) .none:=by rw[<- U,<- v];exact LX _ Z
  have W:IsPair m (s.heap.objs.size+3) .none .none:=K _ _ (by rw[<- y,<- l];exact LX _ Z);have X:IsPair m (s.heap.objs.size+2) (.ref s.heap.objs.size) (.ref$ s.heap.objs.size+1):=B _ _ (by rw[<- x,<- j];exact LX _ Z);have Y:m.get? (s.heap.objs.size+1)=some { cls:=.type (gB b2),data:=.fields (List.toArray [.ref b,.int 0 0]) }:=C _ _ (by rw[<- N,<- f];exact LX _ Z);have q1:m.get? s.heap.objs.size=some { cls:=.type (gB b1),data:=.fields (List.toArray [.ref a,.int 0 0]) }:=G _ _ (by rw[<- d];exact LX _ Z);refine#[#[_,I,Z],h m I X W ?_ ?_ V]
  ·cases b1<;>exact#[_,q1,Z,Z]
  ·cases b2<;>exact#[_,Y,Z,Z]
end
theorem A7(n a b:Nat)(h:a < n)(H:b < n):yc (n+4) (n+2) (n+3) n (n+1) a b:=by refine#[?_,?_,?_,?_,?_,?_,?_,?_,?_,?_,?_,?_,?_,?_,?_,?_,?_,?_]<;>(show(_:Nat)≠_;omega)
section
variable {prog:Program}{w:World}{A:Around}{E:Value->Shared->Prop}
theorem Bm(h:l≠J):∀(n i:Nat) (s:Shared) (Q:List Value->Shared->Prop),s.heap.IsListIter J l i->s.heap.IsList l I->i+n<=I.size->
  (∀a,a.IsListIter J l (i+n)->Heap.SameBut J s.heap a->Q ((I.toList.drop i).take n) { s with heap:=a })->wpAny (model prog w) A (draw (.ref J) n) Q E s
 |0,i,s,Q,b,_,_,q=>show wpAny _ _ (pure []) Q E s from LR (by simpa using q s.heap b (RJ ..))
 |n+1,i,s,Q,b,c,d,q=>by
  have H:i < I.size:=by omega
  refine(show wpAny _ _ (pyNext (.ref J) >>= _) Q E s from LO$ SA b c (x:=I[i]) (by simp [H]) λm j S=>?_);refine LO$ Ms$ Bm h n (i+1) _ _ j (c.extBut S.extBut h) UO λf g k=>LR ?_;have e:=q f (by rw[show i+(n+1)=i+1+n by omega];exact g) (S.trans k);rwa [show I.toList.drop i=I[i]::I.toList.drop (i+1) by simp [List.drop_eq_getElem_cons,H],List.take_succ_cons]at e
theorem A1{s:Shared}{Q:List Value->Shared->Prop}(f:A.handled=none)(h:s.heap.IsList l i)(a:i.size=n)
  (q:∀c,Heap.ExtBut s.heap.objs.size s.heap c->Q i.toList { s with heap:=c }):wpAny (model prog w) A (unpackItems (.ref l) n none) Q E s:=by
 have H:l≠s.heap.objs.size:=by obtain⟨o,g,_⟩:=h;exact Me$ LW g
 unfold unpackItems;refine LO ?_;unfold notIterableAtAll;refine LO$ NN h.typeIs slot_list_iter.lookup ?_;refine LR ?_;simp only[Mh,Nu];refine LO$ Ms$ Pk h ?_;have I:(s.heap.push { cls:=.type "list_iterator",data:=.fields (List.toArray [.ref l,.int 0 0]) }).IsListIter s.heap.objs.size l 0:=#[_,LX _ Z,Z,Z];refine LO$ Ms$ Bm H n 0 _ _ I (h.push _) UO λj J S=>?_;have k:(i.toList.drop 0).take n=i.toList:=by rw[NO,Pn (by simp [a])]
 rw[k,Mf (by simp [a])];have L:j.IsList l i:=(h.push _).extBut S.extBut H;refine LO$ Ms$ SV f J L (by simp [a]) λm p=>?_;simp only[Option.isSome_none,Mh,Nu];exact LR$ q m λb o d e=>p b o d (S.extBut b o d$ LQ _ e)
end
section
variable {X:Cx}{pos:Pos}
inductive HM(K:Frag)(n:Nat)(t:yb)(v:V)(c:St)(H:Hp)(Q:St->Hp->Prop):Prop
 |mk(a b:_)(_:v= .ref a)(_:aI K H a b)(_:b.length=n)(_:t b c H Q)
theorem Xf{E:List Expr}{k n:Nat}{t:yb}(g:X.calm=true)(h:EH X E t)
  (i:(assignEach E X.env).length=n:=by rfl) (c:(assignEach E X.env).findIdx? (·.1)=none:=by rfl):PG X (.Tuple E k pos) (HM X.K n t):=by
 intro P s f H v u Q I r d;obtain⟨a,x,j,l,m,d⟩:=d;subst j;cases r;obtain⟨q,R,p,A⟩:=I.list l;rw[assign_Tuple];refine LO$ Oq ?_;unfold unpack;rw[i,c];refine LO$ Ms$ A1 (I.ok.hd g) p.isList (by simp [<- m,R.length]) λw y=>?_;have z:ax X P f H { s with heap:=w }:=I.kept (t':=s.toks) λb o e=>y b o (Me$ LW e) e;exact h P _ f H x _ Q z (by simpa using R) d
inductive wZ(K:Frag)(i j k:Nat)(D:a7)(f:St)(x:V)(b:Hp):Prop
 |mk(a c d e:_)(_:x= .ref a)(_:aB K b a [c,d,e])(_:D.nx (((f.set k (some e)).set j (some d)).set i (some c)) b)
def BU(K:Frag)(t:TE)(i j k:Nat):TS:=λD a H=>t a H (wZ K i j k D a)
theorem Aj{t e:Expr}{T:TE}{x y z:Str}{i j k:Nat}(n:X.calm=true)(c:X.N.Nodup)(w:X.N[i]?=some x)(A:X.N[j]?=some y)(B:X.N[k]?=some z)(L:sN X.env.scope x)(C:sN X.env.scope y)(E:sN X.env.scope z)(F:PE X e T)
  (G:X.fn x=true∨X.env.scope.names.lookup x=some .local:=by first |exact .inl Z |exact .inr Z) (J:X.fn y=true∨X.env.scope.names.lookup y=some .local:=by first |exact .inl Z |exact .inr Z) (M:X.fn z=true∨X.env.scope.names.lookup z=some .local:=by first |exact .inl Z |exact .inr Z)
  (O:swapsWithSole [t] e pos.line X.env=pure false:=by rfl) (P:swappedStores [t] e X.env=pure (some [x,y,z]):=by rfl):PS X (.Assign [t] e pos) (BU X.K T i j k):=by
 intro p s f H D I h;rw[exec_Assign_arm];refine LO$ Oq ?_;rw[O];refine LO$ LR ?_;rw[Mf UN];refine LO$ aV (F p s f H _ I h) λv S d=>?_;obtain⟨xv,g,l,R,a,v1,v2,v3,Q,V,q⟩:=d;rw[P];refine LO$ LR ?_;subst Q;cases R;obtain⟨W,r,Y,hz⟩:=l.tuple V;cases r with
 |cons q1 r=>
  cases r with
  |cons q2 r=>
   cases r with
   |cons q3 r=>
    cases r
    rename_i u U m
    unfold assignStores;refine LO$ NP$ LO$ wpAny_unpackItems_tuple (items:=(List.toArray [u,U,m])) (I.ok.hd n) Y λh' hx=>?_;have I2:ax X p f g { S with heap:=h' }:=l.kept (t':=S.toks) λb o e=>hx b o (Me$ LW e) e;refine LO ?_;show wpAny _ _ (assignInOrder [λv=>bindName X.env z v,λv=>bindName X.env y v,λv=>bindName X.env x v] [m,U,u]) _ _ _;refine LO$ Ms$ R9$ zI I2 c B E q3 (λs2 I3=>?_) M;refine LO$ Ms$ R9$ zI I3 c A C q2 (λs3 I4=>?_) J;refine LO$ Ms$ R9$ zI I4 c w L q1 (λs4 I5=>?_) G;exact LR$ LR #[_,g,I5,q]
end
theorem yr(l b:Addr)(I i:Array Value)(n N:Nat)(D:Option Addr)(S:Array (Option Value))(e:¬(!I.isEmpty&&Builtin.List.listTooLong (I.size+i.size))=true)(W:I.size<=sizeLine)(a:I.size+i.size<=sizeLine+1):
  Meets (Builtin.«list.extend» #[[.ref l,.ref b],[]]) (λ_ R s=>s.heap.get? l=some { cls:=.type "list",dict:=none,data:=.seq I n,slots:=(List.toArray []) }/\s.heap.get? b=some #[.type "tuple",D,.seq i N,S]/\R (.ok$ .ret Value.none) { s with heap:=s.heap.update l (Obj.mapSeq λx=>x++i),toks:=s.toks }):=by
 refine TW λp w A R s h=>?_;obtain⟨f,g,d,t,os⟩:=s;obtain⟨H,c,h⟩:=h;have F:=AutoSeq1.idx_int;have j:=AutoSeq1.sub_tuple_tuple;have k:=AutoSeq1.sub_list_list;have m:=AutoSeq1.sub_tuple_list;have o:=AutoSeq1.sub_list_tuple;have hz:(I++i).size<=sizeLine+1:=by rw[Sz];exact a
 wp_walk using (RV H Z (hz:=W) (_hz':=hz)),Nw H,Nw c;exact#[_,Z,h]
section
variable {X:Cx}
inductive iG(K:Frag)(x:V)(a:List V)(H:Hp)(Q:VK):Prop
 |mk(l b c d:_)(_:x= .ref l)(_:a=[.ref b])(_:H l=some (.lst c))(_:aB K H b d)(_:c.length+d.length<=sizeLine)(_:Q .non (am H l (.lst (c++d))))
theorem Y5:EY X "list.extend" (iG X.K):=by
 intro p s A H x V v U Q I g j h;obtain⟨l,b,B,C,rfl,rfl,f,k,D,q⟩:=h;cases g;obtain⟨u,rfl,m⟩:=j.one;cases m;obtain⟨z,a,n,r,E,e⟩:=I.lstM f;obtain⟨i,R,P,F⟩:=I.tuple k;have o:=R.length;have d:a.toArray.size+i.toArray.size<=sizeLine:=by rw[LY,LY];omega
 have c:¬(!a.toArray.isEmpty&&Builtin.List.listTooLong (a.toArray.size+i.toArray.size))=true:=by rw[mX d,PQ];exact Md
 obtain⟨⟨G,O,J,S⟩,t,w,N,y⟩:=P;cases w;cases y;refine Rl Tn #[_,e,Z] Tc (SR _ _) (yr l b a.toArray i.toArray n N O S c (by rw[LY];omega) UO) #[e,t,?_];refine#[.non,_,I.lset (its':=a++i) f e UP (r.append R) (by rw[LS];omega),Z,q]
end
section
variable {prog:Program}{w:World}{A:Around}{E:Value->Shared->Prop}{s:Shared}
theorem Jz{R:Result->Shared->Prop}{P:Nat->Value->Prop}{St:Nat->Shared->Prop}
  (W:WalksS prog w A.in1 I N j G n P St) (S:Addr) (H:¬S∈N) (c:List Str) (O:c.length=n) (Q:∀i v,P i v->∃x t,c[i]?=some x/\v= .str x t) (d:∀L:List Str,L.Nodup->(∀x∈L,x∈c)->L.length+1 < scanBound):
  ∀(k i:Nat) (s:Shared) (L:List Str),n - i=k->i<=n->St i s->c7 prog w s.heap S L->(∀x,x∈L↔x∈c.take i)->L.length<=i->
   (∀a l,Moved (S::j) G s a->c7 prog w a.heap S l->(∀x,x∈l↔x∈c)->l.length<=n->R (.ok$ .ret .none) a)->
   codeAny (model prog w) A (.builtin "set.update.loop" #[[.ref S,.ref I],[]]) R s:=by
 have f:¬S∈j:=λz=>H (W.sub _ z);have sub:∀b∈j,b∈S::j:=λb z=>Mt _ z;intro k;induction k with
 |zero=>
  intro i s L T U st p q F r;have e:i=n:=by omega
  subst e;refine No O0 ?_;rw[MY NV];show wpAny _ A.in1 (pyNext (.ref I) >>= _) _ _ s;refine LO$ W.done s _ _ st λa m=>?_;show wpAny _ A.in1 (ret Value.none) _ _ a;refine LR$ r a L (m.mono sub) (p.at λo e=>m.heap S o f e) (λx=>?_) F;rw[q x,<- O,MN]
 |succ k V=>
  intro i s L T U st p q F r;have J:i < n:=by omega
  refine No O0 ?_;rw[MY NV];show wpAny _ A.in1 (pyNext (.ref I) >>= _) _ _ s;refine LO$ W.item i s _ _ J st λv a X u m=>?_;obtain⟨x,t,B,rfl⟩:=Q i v X;show wpAny _ A.in1 (holding [Value.str x t] (setAdd S$ .str x t) >>= _) _ _ a;refine LO$ Ms ?_;have h:L.Nodup:=by obtain⟨_,_,_,_,_,_,_,_,_,h,_⟩:=p;exact h
  refine Yl (p.at λo e=>m.heap S o f e) (d L h λx B=>Ny ((q x).mp B)) λb h' Y K S2 g=>?_;refine LR #[NQ NV _,V (i+1) _ _ UO J (W.frame _ a _ _ u g λb d o e=>?_) S2 (λy=>?_) ?_ λC l M D q1 q2=>?_]
  ·rw[K.2 b (λz:b=S=>H (by rw[<- z];exact d))];exact e
  ·have tk:c.take (i+1)=c.take i++[x]:=by rw[PJ,B];rfl
   rw[tk,NF,Om,<- q y];split
   ·rename_i hm
    exact#[.inl,λz=>z.elim id λe=>e▸hm]
   ·rw[NF,Om]
  ·split
   ·omega
   ·rw[LS,N0];omega
  ·refine r C l (Moved.trans W.gtrans ((m.mono sub).then_heap g λb o d e=>?_) M) D q1 q2;rw[K.2 b (λz:b=S=>d (by rw[z];exact Mm))];exact e
end
section
variable {prog:Program}{w:World}{A:Around}{E:Value->Shared->Prop}{s:Shared}
set_option maxHeartbeats 3200000 in
theorem J5{Q:Value->Shared->Prop}
  (hh:A.handled=none) (hl:s.heap.IsList l I) (hi:StrsAre I.toList n) (C:∀L:List Str,L.Nodup->(∀x∈L,x∈n)->L.length+1 < scanBound)
  (h:∀(a:Heap) (t:Nat) L,c7 prog w a s.heap.objs.size L->(∀x,x∈L↔x∈n)->L.length<=I.size->
   (∀b o,b < s.heap.objs.size->s.heap.get? b=some o->a.get? b=some o)->s.toks<=t->Q (.ref s.heap.objs.size) { s with heap:=a,toks:=t }):
  wpAny (model prog w) A (call (.type "set") [.ref l]) Q E s:=by
 obtain⟨c,tl,m1⟩:=PySem.F.called_set.mro;have m0:=PySem.F.called_set.made;have sb:=PySem.F.called_set.sub;refine R8$ RY ?_;show wpAny _ _ (callAny (.type "set") _) _ _ _;refine LR #[Code.quiet_builtin _ UQ,No PySem.F.entry_type_call ?_];rw[Around.under_plain (weight_type_call_type "set" [.ref l] []) Z];have n1:=PySem.F.called_set.notType;have n2:=PySem.F.called_set.canCreate;have ct:=PySem.F.typeCall_set_1 (.ref l);repeat (any_goals (first |assumption |wp_step))
 refine Oh (Qg (.ref l) (E:=E) (G:=λv S=>v= .ref s.heap.objs.size/\S={ s with heap:=s.heap.push (bu w) }) #[Z,Z]) λr S D=>?_;cases r with
 |error e=>exact D
 |ok fl=>
  cases fl with
  |ret o2=>
   obtain⟨rfl,rfl⟩:=D;have J:(s.heap.push$ bu w).get? s.heap.objs.size=some (bu w):=LX _ Z;have hT:Shared.TypeIs { s with heap:=s.heap.push (bu w) } (.ref s.heap.objs.size) "set":=#[_,J,Z];have li:=PySem.F.called_set.init.lookup;have bi:=PySem.F.called_set.init.bind (.ref s.heap.objs.size);repeat (any_goals (first |assumption |wp_step))
   refine Oh (codeAny_call_builtin (R:=wants (λr d=>r= .none/\∃a t L,d={ s with heap:=a,toks:=t }/\c7 prog w a s.heap.objs.size L/\(∀x,x∈L↔x∈n)/\L.length<=I.size/\
     (∀b o,b < s.heap.objs.size->s.heap.get? b=some o->a.get? b=some o)/\s.toks<=t) E) PySem.F.called_set.init.plain PySem.F.entry_set_init (check_set_init_1 hT ?_)) λp d H=>?_
   ·obtain⟨ol,q,u,nl,y⟩:=hl;obtain⟨o1,g,K,O⟩:=ol;simp only at u y;subst u;subst y;have f:(s.heap.push$ bu w).get? l=some { cls:=.type "list",dict:=g,data:=.seq I nl,slots:=O }:=LQ _ q;have ns:=PySem.F.sub_list_set;have nf:=PySem.F.sub_list_frozenset;have ne:(Value.type "list"==Value.type "dict")=false:=by decide
    have j:(s.heap.push$ bu w).IsList l I:=#[_,f,Z,nl,Z];unfold bu at J hT f j ⊢;unfold Builtin.«set.__init__» noKeywords Builtin.Frozenset.updateFrom;generalize M:pyIter=PI;wp_walk;subst M;refine Pk j ?_;refine LO$ R4 ?_;have z:l < s.heap.objs.size:=LW q;have h3:A.in1.in1.in1.handled=none:=by simp [hh]
    have N:l≠(s.heap.push$ bu w).objs.size:=by rw[MQ];exact Me$ NK z
    have P:¬s.heap.objs.size∈[(s.heap.push$ bu w).objs.size,l]:=by rw[MQ];simp only[NB,Mx,OZ,not_or];exact#[Me$ Na _,MV z]
    have B:n.length=I.size:=by rw[_L.StrsAre.len hi,Mq]
    refine Jz ((Walks.list h3 _ l N I).toS) s.heap.objs.size P n B (λi v hv=>StrsAre.at' hi i v (by rw[Nv];exact hv)) C (I.size - 0) 0 _ [] UO (Ma _)
     #[#[_,LX _ Z,Z,Z],j.push _] (Ym$ LQ _ J) (λx=>by simp) (LV _) λs' L m T U V=>?_
    obtain⟨a,g',d',W,X⟩:=s';have eg:g'=s.gens:=m.gens;have ed:d'=s.drawn:=m.drawn;have eo:X=s.os:=m.os;subst eg;subst ed;subst eo;show wpAny _ _ _ _ _ _;refine LR ?_;show wpAny _ _ (ret Value.none) _ _ _;refine LR #[Z,a,W,L,Z,T,U,V,λb o C e=>?_,m.toks];have b1:b≠s.heap.objs.size:=Me C;have b2:b≠(s.heap.push$ bu w).objs.size:=by rw[MQ];exact Me$ NK C
    exact m.heap b o (by simp only[NB,Mx,OZ,not_or];exact#[b1,b2])$ LQ _$ LQ _ e
   ·cases p with
    |error e=>exact H
    |ok k=>
     cases k with
     |ret r=>
      obtain⟨rfl,a,t,L,rfl,T,U,V,Y,q3⟩:=H;repeat (any_goals (first |assumption |wp_step))
      exact h _ _ _ T U V Y q3
     |_=>exact H.elim
  |_=>exact D.elim
end
section
variable {X:Cx}
theorem q9(m:X.calm=true):er X (.type "set") (λg H Q=>∃(p:Addr) (S:List Str),g=[.ref p]/\aI X.K H p (S.map V.str)/\(∀L:List Str,L.Nodup->(∀x∈L,x∈S)->L.length+1 < scanBound)/\
  ∀l L,H l=none->L.Nodup->(∀x,x∈L↔x∈S)->Q (.ref l) (am H l$ Hw X.prog X.w l L)):=by
 intro P s B H g U Q I r h;obtain⟨p,S,rfl,n,t,q⟩:=h;obtain⟨u,rfl,R⟩:=eY r;cases R;obtain⟨i,v,y,C⟩:=I.list n;have j:=qp v;have D:i.length=S.length:=(_L.StrsAre.len j).symm;refine J5 (I.ok.hd m) y.isList (by simpa using j) t λc T L d z E k _=>?_;have a:L.Nodup:=by obtain⟨_,_,_,_,_,_,_,_,_,a,_⟩:=d;exact a
 have A:∀b o,s.heap.get? b=some o->c.get? b=some o:=λb o e=>k b o (LW e) e;obtain⟨o,f⟩:∃o,c.get? s.heap.objs.size=some o:=let #[o,_,_,_,f,_]:=d;#[o,f]
 exact#[.ref s.heap.objs.size,_,I.laid A (LV _) (show aN X.prog X.w _ c _ (Hw X.prog X.w s.heap.objs.size L) from #[d,#[o,f],λF G x e=>c7.at x e]),Z,q _ _ (I.hok.fresh$ LV _) a z]
end
section
variable {X:Cx}{CX:pF}{k:Nat}{f C:Addr}{fd:FuncData}{ps:List Str}{sp:Sp}{dvs:List V}{ds:List Value}{E:XK}{x m:Str}{p pos apos:Pos}{e:Expr}{es:List Expr}{t:TA}
structure B0(K:Frag)(C:Addr)(m:Str)(f:Addr):Prop where
 rd:PySem.W.readsIn K C (.type "type")=true
 ga:specialIn K (.ref C) "__getattribute__"=some (some$ .builtin "type.__getattribute__")
 at_:PySem.W.findCls K (.ref C) (.type "type") m=some (.val$ .ref f)
 kp:keepIn K (.ref f)=true
theorem Af{pl:Sem Bool}(j:Gl X x)(l:X.mg x=some (.ref C))(M:B0 X.K C m f)(F:af X.prog X.w X.K X.mg X.base CX k f fd ps sp)(n:bJ k X.A)(q:aD X.K fd ps ds)(u:aC dvs ds)(v:dj CX X E)(y:PA X (e::es) t)
  (a:(x==("__debug__":Str))=false:=by decide)
  (c:starEach (e::es) X.env=(false,eval e X.env)::starEach es X.env:=by rfl) (d:(backTo pos$ starEach es X.env).any (·.1)=false:=by rfl)
  (z:eval (.Call (.Attribute (.Name x p) m apos) (e::es) [] pos) X.env=(do
   let O <- eval (.Name x p) X.env
   standAt apos.atName
   let (f,first) <- holding [O] (getMethod O m pl)
   callWith pos f first (backTo pos$ starEach (e::es) X.env) (backToKw pos$ keywordEach [] X.env)):=by rfl):
  PE X (.Call (.Attribute (.Name x p) m apos) (e::es) [] pos) (gf sp dvs E t):=by
 intro P s g H Q I h;refine Pa (pl:=pl) (zN I j l ?_ a) z;refine PySem.W.method_cls I.kIn M.ga$ PySem.W.cls_value I.kIn M.rd M.at_ Z ?_;have B:ax X P g H { s with toks:=s.toks+1 }:=I.kept (h':=s.heap) λb o e=>e;refine Rm (h₀:=X.base) I.ok.mod.kin M.kp (aV (y pos P _ g H _ B h) λU S #[G,J,i,r,D]=>#[i.kIn,?_]) c d;exact QW F n q u v i r D
end
abbrev gg(h:Heap)(z u v T:Addr)(f:Bool):Prop:=
 h.get? z=some { cls:=.type "zip",dict:=none,data:=.fields (List.toArray [rawInt T,.bool f,.bool false,.ref u,.ref v]),slots:=(List.toArray []) }
section
variable {prog:Program}{w:World}{A:Around}{E:Value->Shared->Prop}{s:Shared}
theorem sH{Q:Option Obj->Shared->Prop}(h:Q (s.heap.get? a) s):wpAny M A (loadIfAlive a) Q E s:=λ_ _ _=>h
theorem Fi{Q:Bool->Shared->Prop}(H:gg s.heap z u v T f)(a:∃o,s.heap.get? T=some o)
  (q:∀h,gg h z u v T true->Heap.ExtBut z s.heap h->h.objs.size=s.heap.objs.size->Q false { s with heap:=h }):wpAny (model prog w) A (Builtin.SmallTypes.ownedTupleIsFree$ .ref z) Q E s:=by
 unfold Builtin.SmallTypes.ownedTupleIsFree;refine LO$ My H Z (x:=rawInt T) Z ?_;show wpAny _ _ (loadIfAlive ((T:Int).toNat) >>= _) _ _ s;refine LO$ sH ?_;obtain⟨o,c⟩:=a;rw[M6,c];simp only[Se,Mh,Nu];refine LO$ My H Z (x:=.bool f) Z ?_;cases f with
 |true=>simp only[Np,Mh,Nu];exact LO$ LR$ LR$ q s.heap H (λb o _ e=>e) Z
 |false=>rw[Mb UN];refine LO$ N6 H UP λh d S=>LR (q h d S.extBut S.1)
theorem A5{Q:Option Value->Shared->Prop}(D:yc z u v c d a b)
  (g:gg s.heap z u v T f) (p:∃o,s.heap.get? T=some o) (q:IsPair s.heap u (.ref c) (.ref d)) (r:hZ B s.heap c a k) (t:hZ l s.heap d b k) (G:i6 B s.heap a C) (F:i6 l s.heap b Y) (I:C[k]?=some x) (J:Y[k]?=some y)
  (L:∀h,gg h z u v T true->hZ B h c a (k+1)->hZ l h d b (k+1)->IsPair h s.heap.objs.size x y->h.objs.size=s.heap.objs.size+1->
   (∀e o,e≠z->e≠c->e≠d->s.heap.get? e=some o->h.get? e=some o)->Q (some$ .ref s.heap.objs.size) { s with heap:=h }):wpAny (model prog w) A (pyNext$ .ref z) Q E s:=by
 have H:s.TypeIs (.ref z) "zip":=#[_,g,Z];unfold pyNext;refine LO$ Ou$ ML (name:=Str.ofString "__next__") H Nb$ MG Nb H Op (show wpAny _ _ (field (.ref z) 2 >>= _) _ _ _ from ?_)$ Of _;refine LO$ My g Z (x:=.bool false) Z (show wpAny _ _ (field (.ref z) 3 >>= _) _ _ _ from LO$ My g Z (x:=.ref u) Z$ LO$ M' q Z ?_);refine(show wpAny _ _ (Builtin.SmallTypes.ownedTupleIsFree (.ref z) >>= _) _ _ _ from LO$ Fi g p λO P i n=>?_);simp only[Mh,Nu];refine LO ?_;simp only[Sv,NW,OR];refine LO$ LO$ Ms (show wpAny _ _ (Builtin.SmallTypes.nextOf (.ref c) >>= _) _ _ _ from ?_);refine LO$ qr (s:={ s with heap:=O }) (r.kp λo e=>i _ _ D.cz e) (G.kp λo e=>i _ _ D.az e) I λM R j=>LR (LR ?_);refine LO$ LO$ Ms (show wpAny _ _ (Builtin.SmallTypes.nextOf (.ref d) >>= _) _ _ _ from ?_);have K:∀e o,e≠z->e≠c->s.heap.get? e=some o->M.get? e=some o:=λe o n U w=>j.extBut _ _ U (i _ _ n w);refine LO$ qr (s:={ s with heap:=M }) (t.kp λo e=>K _ _ D.dz D.cd.symm e) (F.kp λo e=>K _ _ D.bz D.bc e) J λm V S=>LR (LR$ LR ?_);show wpAny _ _ (newTuple [x,y] >>= _) _ _ _;refine LO$ OG$ LR #[_,Z,LR ?_];have N:m.objs.size=s.heap.objs.size:=by rw[S.1,j.1];exact n
 have W:gg m z u v T true:=S.extBut _ _ D.dz.symm (j.extBut _ _ D.cz.symm P);show Q (some$ .ref m.objs.size) _;rw[N];refine L _ (LQ _ W) (R.kp λo e=>LQ _ (S.extBut _ _ D.cd e)) (V.kp λo e=>LQ _ e) (by rw[<- N];exact LX _ Z) (by rw[MQ,N]) λe o X a2 a3 w=>LQ _ (S.extBut _ _ a3$ K _ _ X a2 w)
theorem Ey{b2:Bool}{ys:Array Value}{Q:Option Value->Shared->Prop}(j:A.handled=none)(D:yc z u v c d a b)
  (H:gg s.heap z u v T f) (l:∃o,s.heap.get? T=some o) (m:IsPair s.heap u (.ref c) (.ref d)) (p:hZ B s.heap c a k) (G:i6 B s.heap a q) (r:q[k]?=none)
  (t:∀i,(∀e o,e≠z->e≠c->e≠d->s.heap.get? e=some o->i.get? e=some o)->Q none { s with heap:=i }):wpAny (model prog w) A (pyNext$ .ref z) Q E s:=by
 have h:s.TypeIs (.ref z) "zip":=#[_,H,Z];unfold pyNext;refine LO$ Ou$ ML (name:=Str.ofString "__next__") h Nb$ MG Nb h Op (show wpAny _ _ (field (.ref z) 2 >>= _) _ _ _ from ?_)$ Of _;refine LO$ My H Z (x:=.bool false) Z (show wpAny _ _ (field (.ref z) 3 >>= _) _ _ _ from LO$ My H Z (x:=.ref u) Z$ LO$ M' m Z ?_);refine(show wpAny _ _ (Builtin.SmallTypes.ownedTupleIsFree (.ref z) >>= _) _ _ _ from LO$ Fi H l λM F g n=>?_);simp only[Mh,Nu];refine LO ?_;simp only[Sv,NW,OR];refine LO$ LO$ Ms (show wpAny _ _ (Builtin.SmallTypes.nextOf (.ref c) >>= _) _ _ _ from ?_);refine LO$ QL (s:={ s with heap:=M }) (by simpa using j) (p.kp λo e=>g _ _ D.cz e) (G.kp λo e=>g _ _ D.az e) r λy e S C=>?_;exact LO$ NT (T:="StopIteration") (b:=true) C P6$ LR$ t y λe o n N I w=>S _ _ N (g _ _ n w)
end
theorem JO:typeLookup (.type "zip") "__getattr__"=pure none:=by rw[Nl,MP];kernel_rfl
theorem Yp:typeLookup (.type "zip") "keys"=pure none:=by rw[Nl,MP];kernel_rfl
theorem Xv:entryFor table "zip.__getattribute__"=some Builtin.«object.__getattribute__»:=
 P7 (id':="object.__getattribute__") (by kernel_rfl) UQ UQ (by kernel_rfl)
theorem K9(a:Addr)(x:Array Value)(S:Array (Option Value))(u:Tok):
  Meets (Builtin.«object.__getattribute__» #[[.ref a,.str "keys" u],[]]) (λA R s=>s.heap.get? a=some { cls:=.type "zip",dict:=none,data:=.fields x,slots:=S }/\raisesAttr (.ref a) "keys" A R s):=
 TW λp w A R s H=>by
  obtain⟨c,g,d,t,os⟩:=s;obtain⟨e,H⟩:=H;have f:(#[c,g,d,t,os]:Shared).TypeIs (.ref a) "zip":=#[_,e,Z];have b:=Yp;have h:(["__module__","__name__","__qualname__","__doc__","__annotations__"]:List Str).contains "keys"=false:=by decide+kernel
  unfold Builtin.«object.__getattribute__»;repeat (any_goals (first |assumption |wp_step))
  try simp only[h,Mh,Nu]
  repeat (any_goals (first |assumption |wp_step))
  exact wpAny_raiseAttrError H.1 H.2$ attrMsg_fits UQ (by size_fits)
section
variable {prog:Program}{w:World}{A:Around}{E:Value->Shared->Prop}{s:Shared}
theorem yJ{Q:Option Value->Shared->Prop}(f:s.heap.get? a=some { cls:=.type "zip",dict:=none,data:=.fields x,slots:=j })(k:A.handled=none)
  (h:∀c T,(∀b o,s.heap.get? b=some o->c.get? b=some o)->Q none { s with heap:=c,toks:=T }):wpAny (model prog w) A (getAttr? (.ref a) "keys") Q E s:=by
 obtain⟨l,g,d,T,os⟩:=s;have i:∀t,(#[l,g,d,t,os]:Shared).TypeIs (.ref a) "zip":=λ_=>#[_,f,Z];have m:=sub_AttributeError;have n:=PySem.F.slot_zip_getattribute.lookup;have p:=PySem.F.slot_zip_getattribute.bind (.ref a);have q:=JO;unfold getAttr? getAttrBy? getAttrBy;repeat (any_goals (first |assumption |exact i _ | ((with_reducible show wpAny _ _ (call (Value.builtin "zip.__getattribute__") _ _) _ _ _);refine Rl PySem.F.slot_zip_getattribute (i _) Xv (PySem.F.args_zip_getattribute_2 _ _) (K9 a x j _) #[f,by simpa using k,λc t e H=>?_]) |wp_step))
 obtain⟨r,u,v⟩:=H.there;show wpAny _ _ (getattributeRaised _ _ _ _ _ _ _) _ _ _;unfold getattributeRaised;repeat (any_goals (first |assumption |wp_step))
 exact h _ _ H.keeps
def Ci(h:Heap)(z u v c d a b Dd:Addr)(x y:Array Value)(i:Nat):Prop:=
 ((IsZip h z u v .none/\∃p q,IsPair h v p q)∨∃T f o,gg h z u v T f/\h.get? T=some o/\T≠z/\T≠c/\T≠d/\T≠Dd)/\IsPair h u (.ref c) (.ref d)/\hZ false h c a i/\hZ false h d b i/\i6 false h a x/\i6 false h b y
theorem A8{Dd:Addr}{Q:Option Value->Shared->Prop}(D:yc z u v c d a b)(l:Dd < s.heap.objs.size)(S:Ci s.heap z u v c d a b Dd J Y k)(L:J[k]?=some x)(M:Y[k]?=some y)
  (N:∀h,Ci h z u v c d a b Dd J Y (k+1)->IsPair h s.heap.objs.size x y->h.objs.size=s.heap.objs.size+1->(∀e o,e≠z->e≠v->e≠c->e≠d->s.heap.get? e=some o->h.get? e=some o)->Q (some$ .ref s.heap.objs.size) { s with heap:=h }):wpAny (model prog w) A (pyNext$ .ref z) Q E s:=by
 obtain⟨H,g,j,m,G,i⟩:=S;obtain⟨oc,n,_⟩:=j.ob;obtain⟨od,r,_⟩:=m.ob;rcases H with ⟨H,p,q,U⟩ | ⟨T,f,o,H,O,t,P,R,V⟩
 ·refine A6 D H g U j m G i L M λh B v1 I C t F K=>N h #[.inr #[s.heap.objs.size,false,_,B,t,MV$ LW H,MV$ LW n,MV$ LW r,MV l],K _ _ D.uz D.uv D.uc D.ud g,I,C,G.kp λo e=>K _ _ D.az D.av D.ac D.ad e,i.kp λo e=>K _ _ D.bz D.bv D.bc D.bd e] t F K
 ·refine A5 D H #[o,O] g j m G i L M λh B I C W F K=>N h #[.inr #[T,true,o,B,K _ _ t P R O,t,P,R,V],K _ _ D.uz D.uc D.ud g,I,C,G.kp λo e=>K _ _ D.az D.ac D.ad e,i.kp λo e=>K _ _ D.bz D.bc D.bd e] W F λe o X n2 n3 n4 w=>K e o X n3 n4 w
theorem EB{Dd:Addr}{Q:Option Value->Shared->Prop}(g:A.handled=none)(D:yc z u v c d a b)(n:Ci s.heap z u v c d a b Dd x ys k)(i:x[k]?=none)
  (j:∀H,(∀e o,e≠z->e≠v->e≠c->e≠d->s.heap.get? e=some o->H.get? e=some o)->Q none { s with heap:=H }):wpAny (model prog w) A (pyNext$ .ref z) Q E s:=by
 obtain⟨h,l,m,B,G,C⟩:=n;rcases h with ⟨h,p,q,F⟩ | ⟨T,f,o,h,r,I,J,L,M⟩
 ·exact Ez (b2:=false) (p:=p) (q:=q) (ys:=ys) g D h l m G i j
 ·exact Ey (b2:=false) (ys:=ys) g D h #[o,r] l m G i λH K=>j H λe o N O t y w=>K e o N t y w
structure HW(D z u v c d a b:Addr):Prop where
 z:D≠z
 u:D≠u
 v:D≠v
 c:D≠c
 d:D≠d
 a:D≠a
 b:D≠b
theorem Ci.keep{h j:Heap}{Dd:Addr}(F:HW Dd z u v c d a b)(k:∀e o,e≠Dd->h.get? e=some o->j.get? e=some o)(st:Ci h z u v c d a b Dd x y i):Ci j z u v c d a b Dd x y i:=by
 obtain⟨H,l,m,n,G,r⟩:=st;refine#[?_,k _ _ F.u.symm l,m.kp λo e=>k _ _ F.c.symm e,n.kp λo e=>k _ _ F.d.symm e,G.kp λo e=>k _ _ F.a.symm e,r.kp λo e=>k _ _ F.b.symm e];rcases H with ⟨H,p,q,B⟩ | ⟨T,f,o,H,g,C,D,I,t⟩
 ·exact .inl #[k _ _ F.z.symm H,p,q,k _ _ F.v.symm B]
 ·exact .inr #[T,f,o,k _ _ F.z.symm H,k _ _ t g,C,D,I,t]
theorem Qa{K:Type}[DecidableEq K]{knd:KeyKind prog w K}{R:Result->Shared->Prop}{Dd:Addr}{x:Array Value}(X:A.handled=none)(D:yc z u v c d a b)(F:HW Dd z u v c d a b)(m:List (K×Value))(Y:m.length=x.size)(h0:x.size<=sizeLine)
  (hP:∀(i:Nat),i < x.size->∃f V k,x[i]?=some f/\ys[i]?=some V/\knd.is k f=true/\m[i]?=some (k,V)):
  ∀(j i:Nat) (s:Shared) (n:Int),x.size - i=j->i<=x.size->Ci s.heap z u v c d a b Dd x ys i->s.heap.DictOf knd Dd (merged []$ m.take i)->
   (∀h T,(∀e o,e≠Dd->e≠z->e≠v->e≠c->e≠d->s.heap.get? e=some o->h.get? e=some o)->h.DictOf knd Dd (merged [] m)->R (.ok$ .ret .none) { s with heap:=h,toks:=T })->
   codeAny (model prog w) A (.builtin "dict.update.loop" #[[.ref Dd,.ref z,.int n 0,.none],[]]) R s:=by
 intro j;induction j with
 |zero=>
  intro i s n hj hi st q C;have e:i=x.size:=by omega
  subst e;refine No JY ?_;rw[MY zS];show wpAny _ A.in1 (pyNext (.ref z) >>= _) _ _ s;refine LO$ EB (by simpa using X) D st UP λh g=>?_;show wpAny _ A.in1 (Builtin.Dict.addKeywords Dd [] >>= λ_=>ret Value.none) _ _ { s with heap:=h };refine LO ?_;unfold Builtin.Dict.addKeywords;refine LR$ LR$ C h s.toks (λe o _ N t y B w=>g e o N t y B w) ?_;rw[<- Y,MN]at q;obtain⟨o,es,ep,ho,r⟩:=q;exact#[o,es,ep,g _ _ F.z F.v F.c F.d ho,r]
 |succ j ih=>
  intro i s n hj hi st q C;have M:i < x.size:=by omega
  obtain⟨f,V,k,hx,hy,O,hm⟩:=hP i M;refine No JY ?_;rw[MY zS];show wpAny _ A.in1 (pyNext (.ref z) >>= _) _ _ s;obtain⟨oD,G,I,H,rD⟩:=id q;have L:Dd < s.heap.objs.size:=LW H;refine LO$ A8 D L st hx hy λl S P N g=>?_;have hb:Shared.TypeIs { s with heap:=l } (.ref s.heap.objs.size) "tuple":=#[_,P,Z];have J:l.DictOf knd Dd (merged []$ m.take i):=#[oD,G,I,g _ _ F.z F.v F.c F.d H,rD];dsimp only;refine LO$ Ms ?_;refine LO$ wpAny_tryCatch ?_;unfold Builtin.Dict.pairItems;refine LO$ N5 hb ?_;rw[Mb UN];refine LO$ M' P Z$ LR ?_;show wpAny _ A.in1 (holding [f,V]$ dictSet Dd f V) _ _ { s with heap:=l };unfold dictSet;refine Ms$ Ms$ LO$ knd.pyHash O ?_;have Q:(merged ([]:List (K×Value))$ m.take i).length<=i:=by have:=T2 ([]:List (K×Value)) (m.take i);rw[Mw]at this;simp only[Rq]at this;omega
  refine wpAny_dictSetHashed_pairs (s:={ s with heap:=l,toks:=s.toks+1 }) O J (λh p sb=>?_) UO;rw[<- merged_take_succ [] m i (k,V) hm]at p;have U:∀e o,e≠Dd->l.get? e=some o->h.get? e=some o:=λe o ne w=>(sb.2 e ne).trans w;refine LR #[NQ zS _,ih (i+1) _ (n+1) UO M (S.keep F U) p λh2 T k2 d2=>C h2 T (λe o W N t y B w=>k2 e o W N t y B (U _ _ W$ g e o N t y B w)) d2]
theorem Qm{K:Type}[DecidableEq K]{knd:KeyKind prog w K}{more:List (K×Value)}{Q:Value->Shared->Prop}(N:A.handled=none)(D:yc z u v c d a b)
  (j:IsZip s.heap z u v .none) (P:IsPair s.heap u (.ref c) (.ref d)) (m:∃p q,IsPair s.heap v p q) (U:hZ false s.heap c a 0) (V:hZ false s.heap d b 0) (W:i6 false s.heap a x) (X:i6 false s.heap b ys)
  (hn:more.length=x.size) (n:x.size<=sizeLine) (hP:∀(i:Nat),i < x.size->∃Y vu k,x[i]?=some Y/\ys[i]?=some vu/\knd.is k Y=true/\more[i]?=some (k,vu))
  (h:∀l t,l.DictOf knd s.heap.objs.size (merged [] more)->(∀e o,e≠z->e≠v->e≠c->e≠d->s.heap.get? e=some o->l.get? e=some o)->Q (.ref s.heap.objs.size) { s with heap:=l,toks:=t }):
  wpAny (model prog w) A (call (.type "dict") [.ref z]) Q E s:=by
 refine UF (Q₁:=λO S=>O= .ref s.heap.objs.size/\S={ s with heap:=s.heap.push { cls:=.type "dict",data:=.dict (List.toArray []) } }) PySem.F.kt_called_dict (PySem.F.kt_typeCall_dict_1 _) PySem.F.entry_dict_init (kt_code_dict_new _ #[Z,Z]) ?_;rintro O S ⟨rfl,rfl⟩;have f:(s.heap.push { cls:=.type "dict",data:=.dict (List.toArray []) }).DictOf knd s.heap.objs.size []:=R3 s.heap;refine#[f.typeIs,PySem.F.args_dict_init_2 _ _,?_];unfold Builtin.«dict.__init__»;refine LO ?_;unfold Builtin.Dict.selfAndRest;refine LO$ wpAny_notOrdered_dict f.typeIs ?_;show wpAny _ _ (pure (s.heap.objs.size,[Value.ref z])) _ _ _;refine LR ?_;show wpAny _ _ (Builtin.Dict.updateFrom "dict.__init__" s.heap.objs.size (.ref z) [] .none) _ _ _;unfold Builtin.Dict.updateFrom;generalize hH:s.heap.push { cls:=.type "dict",data:=.dict (List.toArray []) }=H at f ⊢;have G:∀b o,s.heap.get? b=some o->H.get? b=some o:=λb o e=>by rw[<- hH];exact LQ _ e
 refine LO$ N5 #[_,G _ _ j,Z] ?_;rw[Mb UN];refine LO$ yJ (s:={ s with heap:=H }) (G _ _ j) (by simpa using N) λM t k1=>?_;simp only[Option.isNone_none,PR];refine LO$ NP ?_;have g:∀b o,s.heap.get? b=some o->M.get? b=some o:=λb o e=>k1 _ _ (G _ _ e);refine LO$ wpAny_pyIter_zip (s:={ s with heap:=M,toks:=t }) (g _ _ j) ?_;obtain⟨oD,eD,y,B,rD⟩:=f;obtain⟨p,q,m⟩:=m;obtain⟨oc,C,_⟩:=U.ob;obtain⟨od,I,_⟩:=V.ob;obtain⟨oa,J,_⟩:=id W;obtain⟨ob,L,_⟩:=id X;have F:HW s.heap.objs.size z u v c d a b:=#[MV$ LW j,MV$ LW P,MV$ LW m,MV$ LW C,MV$ LW I,MV$ LW J,MV$ LW L];refine LR #[NQ zS _,Oh (Qa (knd:=knd) (A:=A.in1) (R:=λr s'=>r= .ok (.ret .none)/\Q (.ref s.heap.objs.size) s') (by simpa using N) D F more hn n hP x.size 0 { s with heap:=M,toks:=t } 0 Z (Ma _)
  #[.inl #[g _ _ j,p,q,g _ _ m],g _ _ P,U.kp λo e=>g _ _ e,V.kp λo e=>g _ _ e,W.kp λo e=>g _ _ e,X.kp λo e=>g _ _ e] #[oD,eD,y,k1 _ _ B,rD] λl T k2 d2=>#[Z,?_]) λr s' q=>?_]
 ·exact h l T d2 λe o n1 n2 n3 n4 w=>k2 e o (Me$ LW w) n1 n2 n3 n4 (g _ _ w)
 ·obtain⟨rfl,q⟩:=q;exact#[Z,q]
end
section
variable {X:Cx}{e1 e2:Expr}{ta:TA}{p p2 pos pos2:Pos}
inductive Hh(K:Frag)(Q:VK)(e:List V)(c:Hp):Prop
 |mk(a b:Addr)(d:List bH)(f:List V)(_:e=[.ref a,.ref b])(_:aB K c a (d.map kV))(_:aB K c b f)(_:d.length=f.length)(_:∀l,c l=none->Q (.ref l) (am c l (.dK (dq [] (d.zip f)))))
def Lz(K:Frag)(ta:TA):TE:=λa H Q=>ta a H (Hh K Q)
theorem Zz{P:Program}{w:World}:∀{K:List bH} {U:List Value},aC (K.map kV) U->∀(i:Nat) (k:bH),K[i]?=some k->∃u,U[i]?=some u/\(aW P w).is k u=true
 | [],_,_,i,k,h=>by simp at h
 |k0::K,_,.cons (b:=u) h t,0,k,e=>by
  have E:k0=k:=by simpa using e
  subst E;exact#[u,Z,Km h]
 |k0::K,_,.cons h t,i+1,k,e=>by simpa using Zz (P:=P) (w:=w) t i k (by simpa using e)
theorem uC:∀{K:List bH} {y:List V} {u:List Value},aC y u->KV (K.zip y) (K.zip u)
 | [],_,_,_=>by simp only[List.zip_nil_left];exact .nil
 |_::_,_,_,.nil=>by simp only[List.zip_nil_right];exact .nil
 |k::K,_,_,.cons h t=>.cons #[Z,h] (uC t)
theorem ZA(m:Gl X "dict")(n:X.mg "dict"=none)(t:Gl X "zip")(v:X.mg "zip"=none)(N:X.calm=true)(O:PA X [e1,e2] ta)
  (T:starEach [e1,e2] X.env=(false,eval e1 X.env)::starEach [e2] X.env:=by rfl) (U:(backTo pos2$ starEach [e2] X.env).any (·.1)=false:=by rfl)
  (f:starEach [Expr.Call (.Name "zip" p2) [e1,e2] [] pos2] X.env=(false,eval (.Call (.Name "zip" p2) [e1,e2] [] pos2) X.env)::starEach [] X.env:=by rfl) (x:(backTo pos$ starEach [] X.env).any (·.1)=false:=by rfl):
  PE X (.Call (.Name "dict" p) [.Call (.Name "zip" p2) [e1,e2] [] pos2] [] pos) (Lz X.K ta):=by
 intro P s V H Q I h;refine MT$ zE I m n UC ?_;refine MK ?_ f x;rw[f];show wpAny _ _ (spliced ((false,eval _ X.env)::backTo pos (starEach [] X.env))) _ _ s;refine NC ?_;refine MT$ zE I t v UA ?_;refine MK (aV (O pos2 P s V H _ I h) λus S z=>?_) T U;obtain⟨vs,H1,d,W,Y⟩:=z;obtain⟨a,b,c,ys,e,gx,gy,hl,q⟩:=Y;subst e;cases W with
 |cons r rr=>
  cases rr with
  |cons r' y=>
   cases y;cases r;cases r';obtain⟨A,F,G,z1⟩:=d.tuple gx;obtain⟨j,R,C,z2⟩:=d.tuple gy;have l1:=F.length;have l2:=R.length;rw[LU]at l1 z1;have la:a < S.heap.objs.size:=by obtain⟨o,D,_⟩:=G;exact LW D
   have lb:b < S.heap.objs.size:=by obtain⟨o,D,_⟩:=C;exact LW D
   refine EA (b1:=false) (b2:=false) (xs:=A.toArray) (ys:=j.toArray) G C λE J u' v' i1 i2 k=>?_;refine N4 ?_;have Dz:=A7 S.heap.objs.size a b la lb;refine Qm (s:={ S with heap:=E }) (knd:=aW X.prog X.w) (more:=c.zip j) (d.ok.hd N) Dz J u' #[_,_,v'] i1 i2 (i6.kp (b:=false) G λo e=>k _ _ e) (i6.kp (b:=false) C λo e=>k _ _ e) (by rw[Rp,LY];omega) (by rw[LY];omega) (λi hi=>?_) λh2 tk dd k2=>?_
   ·rw[LY]at hi;have L:i < c.length:=by omega
    have M:i < j.length:=by omega
    obtain⟨u,hu,ku⟩:=Zz F i _ (LP L);refine#[u,j[i],c[i],by simpa using hu,by simp [M],ku,?_];rw[RI];exact#[LP L,LP M]
   ·have g:KV (dq []$ c.zip ys) (merged []$ c.zip j):=KV.merge (uC R) .nil;have zl:(dq []$ c.zip ys).length<=sizeLine:=by rw[g.length];have:=T2 ([]:List (bH×Value)) (c.zip j);rw[Rp]at this;simp only[Rq]at this;omega
    have k3:∀e o,S.heap.get? e=some o->h2.get? e=some o:=λe o w=>by have l:=LW w;exact k2 e o (Me$ Mi l$ OH _ _) (Me$ Mi l$ OH _ _) (Me l) (Me$ Mi l$ OH _ _)$ k _ _ w
    have B:S.heap.objs.size<=E.objs.size:=NM (Nj (OH _ 4)$ LW J);exact#[.ref E.objs.size,_,d.laid k3 B$ QY zl (beq_eq_false_iff_ne.mpr$ ME$ Me$ Mi d.big B) g dd,Z,q _$ d.hok.fresh B]
end
section
variable {X:Cx}{st:Stmt}{ss:List Stmt}{e:Expr}{es:List Expr}
def Lx:TS:=λ_ _ _=>False
theorem vF:mP X ss Lx:=λ_ _ _ _ _ _ h=>False.elim h
end
end _L
namespace _L
open PySem PySem.Spec PyProof.Rows PySem.SeqAt
inductive Gy(K:Frag)(x y:V)(H:Hp)(Q:VK):Prop
 |mk(a b d e:_)(_:x= .ref a)(_:y= .ref b)(_:aB K H a d)(_:aB K H b e)(_:(d.all c8=true/\e.all c8=true/\Q (.bl (tO d e)) H)∨∃(w:Str) (c:Addr) (zs:List V) (u:Str) (i:Int),d=[.str w,.ref c]/\aB K H c zs/\e=[.str u,.int i]/\Q (.bl false) H)
theorem DK{X:Cx}(d:X.A.units+1 < cLine):fb X (compareOp .Eq) (Gy X.K):=by
 intro p s m H x y v U Q I f g h;obtain⟨a,b,n,Y,rfl,rfl,k,l,h | ⟨w,c,M,u,i,rfl,o,rfl,q⟩⟩:=h
 ·exact DJ (OA d) p s m H _ _ v U Q I f g #[a,b,n,Y,Z,Z,k,l,h]
 cases f;cases g;obtain⟨N,r,P,_⟩:=I.tuple k;obtain⟨O,R,t,_⟩:=I.tuple l;obtain⟨S,V,z,_⟩:=I.tuple o;cases r with
 |cons B r=>
  cases r with
  |cons C r=>
   cases r;cases R with
   |cons D R=>
    cases R with
    |cons E R=>
     cases R;obtain⟨T,rfl⟩:=B;cases C;obtain⟨F,rfl⟩:=D;obtain⟨G,rfl⟩:=E;refine eq_tupleAt (e:=λj=>if j=0 then w==u else false) (show s.heap.IsTuple a _ from P) (show s.heap.IsTuple b _ from t) (OA d) (λj J L=>?_) ?_
     ·match j,J,L with
      |0,_,_=>exact T0 w T u F
      |1,_,_=>exact TB i G (show s.heap.IsTuple c _ from z) (by simpa [Around.in1,Around.units] using d)
     ·have e:((List.range$ min 2 2).all (λj=>if j=0 then w==u else false)&&(2:Nat)==2)=false:=by show((if 0=0 then w==u else false)&&((if 1=0 then w==u else false)&&true)&&true)=false;simp
      exact#[.bl false,H,I,Ng Value.bool e,q]
end _L
namespace _L
open PySem PySem.Spec PyProof.Rows
theorem Yq(l:Addr)(i:Array Value)(n:Nat)(D:Option Addr)(S:Array (Option Value)):
  Meets (Builtin.«enumerate.__new__» #[[.type "enumerate",.ref l],[]]) (λ_ R s=>s.heap.get? l=some { cls:=.type "tuple",dict:=D,data:=.seq i n,slots:=S }/\
   R (.ok$ .ret$ .ref (s.heap.push { cls:=.type "tuple_iterator",data:=.fields (List.toArray [.ref l,.int 0 0]) }).objs.size)
    { s with heap:=(s.heap.push { cls:=.type "tuple_iterator",data:=.fields (List.toArray [.ref l,.int 0 0]) }).push { cls:=.type "enumerate",data:=.fields (List.toArray [.none,.bool false,.ref s.heap.objs.size,rawInt 0,.none,.none]) } }):=
 .of_wp λp w A R s h=>by
  obtain⟨e,g,d,t,os⟩:=s;obtain⟨H,h⟩:=h;have b:=sub_enumerate;have a:Heap.IsTuple (Shared.heap #[e,g,d,t,os]) l i:=#[_,H,Z,n,Z];wp_walk using Nw H;refine wpAny_stack_any λst=>LR ?_;split
  ·rename_i c _ _ _ _ _
   cases (c==Value.type "enumerate")
   ·wp_walk using Nw H,Oy a;exact#[_,Z,h]
   ·wp_walk using Nw H,Oy a;exact#[_,Z,h]
  ·wp_walk using Nw H,Oy a;exact#[_,Z,h]
section
variable {prog:Program}{w:World}{A:Around}{E:Value->Shared->Prop}{s:Shared}
theorem Y6{Q:Value->Shared->Prop}(j:s.heap.IsTuple l i)
  (h:∀H,IsEnum H (s.heap.objs.size+1) s.heap.objs.size 0 .none->H.IsTupleIter s.heap.objs.size l 0->(∀b o,s.heap.get? b=some o->H.get? b=some o)->Q (.ref$ s.heap.objs.size+1) { s with heap:=H }):
  wpAny (model prog w) A (call (.type "enumerate") [.ref l]) Q E s:=by
 obtain⟨⟨c,d,D,S⟩,k,a,n,e⟩:=j;replace a:c= .type "tuple":=a;replace e:D= .seq i n:=e;subst a e;refine SM PySem.F.called_enumerate UN (PySem.F.typeCall_enumerate_1 _) (PySem.F.newCall_enumerate_1 _) (λO=>OM O _) PySem.F.entry_enumerate_new (Yq l i n d S) #[k,?_];have f:(s.heap.push { cls:=.type "tuple_iterator",data:=.fields (List.toArray [.ref l,.int 0 0]) }).objs.size=s.heap.objs.size+1:=MQ ..;show _/\_;rw[f];have g:IsEnum ((s.heap.push { cls:=.type "tuple_iterator",data:=.fields (List.toArray [.ref l,.int 0 0]) }).push { cls:=.type "enumerate",data:=.fields (List.toArray [.none,.bool false,.ref s.heap.objs.size,rawInt 0,.none,.none]) }) (s.heap.objs.size+1) s.heap.objs.size 0 .none:=by have:=LX (s.heap.push { cls:=.type "tuple_iterator",data:=.fields (List.toArray [.ref l,.int 0 0]) }) (o:={ cls:=.type "enumerate",data:=.fields (List.toArray [.none,.bool false,.ref s.heap.objs.size,rawInt 0,.none,.none]) }) Z;rw[f]at this;exact this
 exact#[#[_,g,Z],h _ g #[_,LQ _$ LX _ Z,Z,Z] λb o x=>LQ _ (LQ _ x)]
theorem xM{c:Type}{Q:c->Shared->Prop}(d:A.handled=none)
  (h:∀H (e:Addr),(∀b o,s.heap.get? b=some o->H.get? b=some o)->Shared.TypeIs { s with heap:=H } (.ref e) "StopIteration"->E (.ref e) { s with heap:=H }):
  wpAny (model prog w) A (do raiseNew (<- newExc (.type "StopIteration") []):Sem c) Q E s:=by
 refine LO ?_;simp only[newExc,newTuple];refine LO$ MJ ?_ (by size_fits);refine LO (m:=firstArgMember _ _)$ PZ (a:=Value.none) ?_ ?_
 ·first |rfl | (simp only[firstArgMember];rfl)
 refine MJ ?_ (by size_fits);simp only[raiseNew];refine LO$ wpAny_handled ?_;rw[d];refine LO$ LR$ wpAny_throw$ h _ _ (λb o e=>LQ _ (LQ _ e)) ?_;exact#[_,LX _ Z,Z]
theorem KW{J T:Addr}{i:Nat}{I:Array Value}{Q:Value->Shared->Prop}(g:A.handled=none)(H:s.heap.IsTupleIter J T i)(j:s.heap.IsTuple T I)(l:I[i]?=none)
  (q:∀h (e:Addr),Heap.ExtBut J s.heap h->Shared.TypeIs { s with heap:=h } (.ref e) "StopIteration"->E (.ref e) { s with heap:=h }):wpAny (model prog w) A (Builtin.SmallTypes.nextOf$ .ref J) Q E s:=by
 obtain⟨o,a,p,c⟩:=id H;obtain⟨O,d,_,N,f⟩:=j;unfold Builtin.SmallTypes.nextOf;refine LO$ ML (name:=Str.ofString "__next__") H.typeIs M3$ MG M3 H.typeIs Oi (show wpAny _ _ (field (.ref J) 0 >>= _) _ _ s from ?_)$ Od _;refine LO$ My a c (x:=.ref T) Z (show wpAny _ _ (if (Value.ref T==Value.none)=true then _ else _) _ _ s from ?_);rw[Mf (show ¬((Value.ref T==Value.none)=true) from Md)];refine(show wpAny _ _ (field (.ref J) 1 >>= _) _ _ s from LO$ My a c (x:=.int i 0) Z (show wpAny _ _ (seqItems? (.ref T) >>= _) _ _ s from LO$ M' d f ?_));simp only[M6,l];refine LO$ NP$ LO$ MS a c UP ?_;refine xM (by simpa using g) λh e k t=>q h e (λb o m n=>k b o ?_) t;exact(Mn _ _$ ME m).trans n
theorem pR(m:A.handled=none)(a l:Addr)(d:l≠a)(I:Array Value):
  Draws prog w A a [a,l] I.size (λi v=>I[i]?=some v) (λi h=>h.IsTupleIter a l i/\h.IsTuple l I) where
 live:=λ_ _ st=>let #[o,H,_]:=st.1;#[o,H]
 frame:=λ_ _ _ st g=>#[st.1.at λo e=>g a UP o e,let #[o,H,r]:=st.2;#[o,g l UP o H,r]]
 item:=λi s Q E j st n=>KU st.1 st.2 (x:=I[i]) (by simp [j]) λf b c=>n _ f s.toks (by simp [j]) #[b,let #[o,H,r]:=st.2;#[o,c.extBut l o d H,r]] c
 done:=λs Q E st p=>KW m st.1 st.2 UP λf e k t=>p f e k t
theorem Y7(c:A.handled=none)(a l:Addr)(I:Array Value)(i:Nat)(d:I[i]?=none):
  Draws prog w A a [a,l] i (λ_ _=>True) (λj h=>j=i/\h.IsTupleIter a l i/\h.IsTuple l I) where
 live:=λ_ _ st=>let #[o,H,_]:=st.2.1;#[o,H]
 frame:=λ_ _ _ st b=>#[st.1,st.2.1.at λo e=>b a UP o e,let #[o,H,r]:=st.2.2;#[o,b l UP o H,r]]
 item:=λj s Q E f st n=>absurd st.1 (Me f)
 done:=λs Q E st g=>KW c st.2.1 st.2.2 d λm e k t=>g m e k t
end
noncomputable def B9(K:Frag)(a:Addr):It:=
 #[λi H=>∃X x,aB K H a X/\X[i]?=some x,λi H x h=>∃p v,x= .ref p/\H p=none/\h=am H p (.tup [.int i,v])/\∀X,aB K H a X->X[i]?=some v,λi H=>∃X,aB K H a X/\X.length<=i]
theorem Y8{P:Program}{K:Frag}(a e g:Addr)(r:e≠g):nZ P w K (.Tuple e0 kx tp) (B9 K a) [e,g] e (λi h=>(∃O,IsEnum h e g i O)/\h.IsTupleIter g a i) where
 mem:=by simp
 obj:=λi h st b hb=>by
  obtain⟨⟨O,j⟩,⟨o,ei,c,d⟩⟩:=st;rcases List.mem_cons.mp hb with rfl |hb
  ·exact#[_,j,λv z=>by cases (show Data.fields _=Data.cell v from z)]
  ·have q:b=g:=by simpa using hb
   subst q;exact#[o,ei,λv z=>by rw[d]at z;cases z]
 keep:=λi h A st k=>#[let #[O,j]:=st.1;#[O,k e UP _ j],st.2.at λo q=>k g UP o q]
 item:=by
  intro X Q S T U i f s J H E I L st W;subst Q S T;obtain⟨⟨O,j⟩,l⟩:=st;obtain⟨xs,x,M,N⟩:=W;obtain⟨m,R,p,hz⟩:=I.tuple M;obtain⟨u,hu,ru⟩:=R.get N;have Y:e < s.heap.objs.size:=LW j;have l0:g < s.heap.objs.size:=by obtain⟨_,q,_⟩:=l;exact LW q
  have h0:a≠g:=λz=>by rw[z]at p;obtain⟨o1,e1,c1,_⟩:=l;obtain⟨o2,B,c2,_⟩:=p;rw[e1]at B;cases B;exact absurd (c1.symm.trans c2) UN
  have h1:e∉[g,a]:=λz=>by
   rcases List.mem_cons.mp z with z |z
   ·exact r z
   ·rw[List.mem_singleton.mp z]at j;obtain⟨o2,B,c2,_⟩:=p;unfold IsEnum at j;rw[j]at B;cases B;exact absurd (show Value.type "enumerate"=Value.type "tuple" from c2) UN
  refine wpAny_pyNext_enum_itemD (pR (by simpa using I.ok.hd U) g a h0 m.toArray) j #[l,p] (by have:=R.length;have:=(List.getElem?_eq_some_iff.mp N).1;simp;omega) r h1 λx' A t C ho y hT h4 hk=>#[_,Z,?_];have D:=y.1;have ex:u=x':=by
   have h2:m.toArray[i]?=some u:=by simpa using hu
   rw[h2]at C;exact MM C
  subst ex;have hn:H s.heap.objs.size=none:=I.hok.fresh (LV _);have I1:ax X f J H { s with heap:=A,toks:=t+1 }:=I.turnedN L λb o hb q=>hk b o (λz=>hb (by simp [z])) (λz=>hb (by simp [z])) q;have r2:aC [V.int i,x] [Value.int i t,u]:=.cons #[_,Z] (.cons ru .nil);have I2:ax X f J (am H s.heap.objs.size$ .tup [.int i,x]) { s with heap:=A,toks:=t+1 }:=
   I1.track (I.fpOk (LV _) hn) I.sz #[by show 2<=sizeLine;decide,_,r2,_,hT,Z,_,Z]
  have F:∀b∈[e,g],gw X f (am H s.heap.objs.size$ .tup [.int i,x]) b:=λb hb=>by
   obtain⟨f0,f1⟩:=L b hb;refine#[?_,f1];rw[ji]
   ·exact f0
   ·rcases List.mem_cons.mp hb with rfl |hb
    ·exact Me Y
    ·have q:b=g:=by simpa using hb
     subst q;exact Me l0
  refine wpAny_letOwnedTupleGo_enum (s:={ s with heap:=A,toks:=t+1 }) ho λG h3 n=>?_;replace n:Heap.SameBut e A G:=n;have I3:ax X f J (am H s.heap.objs.size$ .tup [.int i,x]) { s with heap:=G,toks:=t+1 }:=I2.turnedN F λb o hb q=>(n.2 b λz=>hb (by simp [z])).trans q;refine#[.ref s.heap.objs.size,_,I3,Z,#[_,x,Z,hn,Z,λys hy=>by rw[I.tuple_inj hy M];exact N],#[#[u,by simpa using h3],D.at λo q=>(n.2 g r.symm).trans q],λb hb=>(F b hb).1]
 done:=by intro X Q S T U i f s J H E I L st W;subst Q S T;obtain⟨⟨O,j⟩,l⟩:=st;obtain⟨xs,M,N⟩:=W;obtain⟨m,R,p,hz⟩:=I.tuple M;have hl:=R.length;refine wpAny_pyNext_enum_endD (Y7 (by simpa using I.ok.hd U) g a m.toArray i (by simp;omega)) j #[Z,l,p] λA eb=>#[Z,?_];exact I.turnedN (t':=s.toks) L λb o hb q=>eb b o (λz=>hb (by simp [z])) q
 self:=λ_ _ _ _ _ st h=>by obtain⟨⟨O,j⟩,_⟩:=st;exact TN j h
section
variable {X:Cx}{elts:List Expr}{kx:Nat}{tp:Pos}
inductive oF(K:Frag)(R:It->Hp->Prop)(c:List V)(b:Hp):Prop
 |mk(a:_)(_:c=[.ref a])(_:∃xs,aB K b a xs)(_:R (B9 K a) b)
def CJ(K:Frag)(t:TA):TI:=λa H R=>t a H (oF K R)
theorem Jo(g:Gl X "enumerate")(j:X.mg "enumerate"=none)(k:PA X [a] t)(m:starEach [a] X.env=[(false,eval a X.env)]:=by rfl):PI X (.Tuple elts kx tp) (.Call (.Name "enumerate" p) [a] [] c) (CJ X.K t):=by
 intro P s n H R I h;refine Call_$ zE I g j UB$ MK (aV (k c P s n H _ I h) λU S z=>?_) m Z;obtain⟨V,o,i,u,Q⟩:=z;obtain⟨l,e,⟨A,v⟩,q⟩:=Q;subst e;cases u with
 |cons r w=>
  cases w;cases r;obtain⟨x,B,p,C⟩:=i.tuple v;refine Y6 p λD f d y=>?_;refine TN f ?_;refine#[S.heap.objs.size+1,[S.heap.objs.size+1,S.heap.objs.size],_,_,o,Z,i.kept (t':=S.toks) y,Y8 l _ _$ MV$ Na _,#[#[_,f],d],λb hb=>?_,q];rcases List.mem_cons.mp hb with rfl |hb
  ·exact i.fpOk (MU _)$ i.hok.fresh$ MU _
  ·have e:b=S.heap.objs.size:=by simpa using hb
   subst e;exact i.fpOk (LV _)$ i.hok.fresh$ LV _
end
theorem qt{K:Frag}{xs:List V}{g:TG}{t:TS}{D:a7}(Pv:Nat->St->Hp->Prop)(j:Pv 0 b H)(k:∀i b H,i<=xs.length->Pv i b H->aB K H a xs)
  (l:∀E:a7,E.rt=D.rt->∀i x p b H,xs[i]?=some x->H p=none->(∀c e,Pv (i+1) c e->E.nx c e)->∀G:Prop,((g (.ref p) b (am H p$ .tup [.int i,x]) λf n=>t E f n)->G)->Pv i b H->G) (o:∀b H,Pv xs.length b H->D.nx b H):pH (B9 K a) g t D b H:=by
 refine#[λi m b H=>m=xs.length - i/\i<=xs.length/\Pv i b H,#[xs.length,UP,Ma _,j],?_];rintro i m b H ⟨rfl,s,p⟩;have q:=k i b H s p;by_cases d:i < xs.length
 ·refine .inr #[#[xs,xs[i],q,LP d],Pv$ i+1,λc e P=>#[xs.length - (i+1),UO,Z,d,P],λx e y=>?_];obtain⟨r,v,rfl,u,rfl,w⟩:=y;exact l { D with nx:=Pv (i+1),ct:=Pv (i+1),bk:=D.nx } Z i v r b H (w xs q) u (λ_ _ h=>h) _ (λz=>z) p
 ·exact .inl #[#[xs,q,UO],o _ _ (by rw[show xs.length=i by omega];exact p)]
abbrev Lq(K:Frag)(i j:Nat):TG:=pY K 2 (cj (aU i)$ cj (aU j) pX)
theorem FV{t:St}(h:t.length=2):∃a b,t=[a,b]:=by
 cases t with
 |nil=>cases h
 |cons a r=>
  cases r with
  |nil=>cases h
  |cons b R=>
   cases R with
   |nil=>exact#[a,b,Z]
   |cons _ _=>cases h
theorem Yr{K:Frag}{X:List V}{t:TE}{n:List V->Hp->Prop}(f:Nat->V)(u:X.length<=sizeLine)(b:aI K H a X)
  (p:∀(i:Nat) (x:V),X[i]?=some x->∃q y z,x= .ref q/\aB K H q [y,z]/\∀Q:VK,Q (f i) H->t (some y::some z::c) H Q) (r:n ((List.range X.length).map f) H):
  eN (xQ K a) 2 c (Lq K 0 1) mH t n H:=by
 refine#[λi m o d=>m=X.length - i/\i<=X.length/\o=(List.range i).map f/\d=H,#[X.length,UP,Ma _,UP,Z],?_];rintro i m o d ⟨rfl,w,rfl,rfl⟩;by_cases h:i < X.length
 ·refine .inr #[#[X,X[i],b,LP h],?_,λY g=>Y=(List.range$ i+1).map f/\g=d,λY g #[P,s]=>#[X.length - (i+1),UO,Z,h,P,s],λv g T j y=>?_]
  ·rw[LU,OY];omega
  obtain⟨e,y⟩:=y;subst e;obtain⟨q,A,B,rfl,k,l⟩:=p i v (y X b);obtain⟨C,D,rfl⟩:=FV j;refine#[q,_,Z,k,Z,_,_,Z,_,_,Z,Z,#[[some _,some _],Z,Z],l _ #[?_,Z]];rw[List.range_succ,Mz];rfl
 ·have e:i=X.length:=by omega
  subst e;exact .inl #[#[X,b,LV _],r]
def BY(K:Frag)(A:Addr)(t:Ie)(b:TS):TS:=λD a H=>t D (λx C d _ h=>mroIn K C (.ref A)=some true/\∀T,h T=none->b D a (am (am h T$ gY T) x$ ig C d T x)) a H
section
variable {X:Cx}{st a₀ b₀:Stmt}{as bs:List Stmt}{tb:Ie}{ta tc:TS}{ca cb:Str}{np np' hp hp' pos:Pos}{A B:Addr}
theorem Ak(a:X.stack=X.env::X.outer)(J:X.env.frame=some X.env.locals)(hb:Ld X st tb)(hg:Gl X ca)(hm:X.mg ca=some (.ref A))(hA:clsIn X.K A≠none)(tA:typeIn X.K (.ref A)=some (.type "type"))(mA:mroIn X.K A (.type "BaseException")=some true)
  (hs:∀e,mP (X.mark e λ_ _=>False) (a₀::as) ta) (L:(ca==("__debug__":Str))=false:=by decide):
  PS X (.Try [st] [.ExceptHandler (some$ .Name ca np) none (a₀::as) hp] [] [] pos) (BY X.K A tb ta):=by
 intro p s M H D I h;refine wpAny_Try_except$ RE$ MZ (hb p s M H D _ I h) (λf b q=>?_) λe b q=>?_
 ·cases f with
  |next=>exact Ov (Ov q)
  |ret v=>exact q
  |brk=>exact q
  |cont=>exact q
 obtain⟨x,C,d,T,N,rfl,l,Y,hT,m,q⟩:=q;obtain⟨⟨ox,vs,h1,h2,h3,h4,O,h6⟩,_⟩:=l.hok x _ Y;obtain⟨⟨oT,G,t1,t2,t3⟩,_⟩:=l.hok T _ hT;have o:=(Array.getElem?_eq_some_iff.mp h6).1;have P:X.A.frames=some (X.env::X.outer):=by rw[<- a];exact l.ok.frames
 have R:b.heap.FunFrames X.base (X.env::X.outer):=by rw[<- a];exact l.stack
 refine QH (base:=X.base) P R J h1 O h6 m t1 t2 t3 λg2 Nd=>?_;have u:(eP T b.heap).get? x=some ox:=(Mn _ _ m).trans h1;refine CU (s:={ b with heap:=g2 }) Nd u O o λg3 U=>?_;obtain⟨t,hn,E,i⟩:=(l.cleared hT t1 t2 t3).noted (C:=C) (d:=d) (t':=b.toks) Y u h2 h4 O o (by unfold lB;rw[a];exact U);have i:ax X p M (am (am N t$ gY t) x$ ig C d t x) { b with heap:=g3 }:=i;obtain⟨⟨o1,v0,k1,k2,k3,k4,k5,k6⟩,_⟩:=i.hok x _ jc;have F:am (am N t$ gY t) x (ig C d t x) t=some (gY t):=by rw[ji E,jc]
 obtain⟨⟨o2,t0,u1,u2,u3⟩,_⟩:=i.hok t _ F;have g:∀{E':Value->Shared->Prop} {c:Stmt} {V:List Stmt} {G:TS} {hp:Pos},(∀e,mP (X.mark e λ_ _=>False) (c::V) G)->G D M (am (am N t$ gY t) x$ ig C d t x)->codeAny (model X.prog X.w) (X.A.mark$ some$ .ref x) (Code.handlers (.ref x) [.ExceptHandler none none (c::V) hp] X.env) (λr S=>match r with | .ok f=>SP X p D f S | .error y=>cameBackBy (model X.prog X.w) X.A X.env E' y S) { b with heap:=g3 }:=by
  intro E' c V G hp hz qz;refine codeAny_handlers_suite ?_;unfold setFlight;refine LO$ My k1 k5 k6 ?_;rw[Mb (show(Value.ref t != Value.none)=true from by simp)];refine MS u1 u2 (Array.getElem?_eq_some_iff.mp u3).1 ?_;have I4:=i.cleared F u1 u2 u3;refine MZ (hz (.ref x) p _ _ _ D (I4.mark (.ref x) λ_ _=>False) qz) (λf s6 Q=>?_) λ_ _ z=>z.elim;cases f with
  |next=>obtain⟨j,W,k,n⟩:=Q;exact#[_,_,k.unmark I.ok,n]
  |brk=>obtain⟨j,W,k,n⟩:=Q;exact#[_,_,k.unmark I.ok,n]
  |cont=>obtain⟨j,W,k,n⟩:=Q;exact#[_,_,k.unmark I.ok,n]
  |ret v=>obtain⟨y,j,W,k,rv,n⟩:=Q;exact#[y,_,_,k.unmark I.ok,rv,n]
 obtain⟨mC,q⟩:=q;refine wpAny_handleBy_cons (codeAny_handlers_test ?_) (by intro z;cases z);refine zN (i.mark (.ref x) λ_ _=>False) hg hm ?_ L;refine Qd i.kIn k1 k2 hA tA mA mC _ _ _ _ (λ_ _ e=>e) ?_;exact g hs$ q t hn
end
section
variable {X:Cx}
theorem yE:EY X "dict.pop" (λx b H Q=>∃(a:Addr) (K:List (bH×V)) (k:bH) (v:V),x= .ref a/\b=[kV k]/\H a=some (.dK K)/\b6 K k=some v/\Q v (am H a$ .dK$ lv K k)):=by intro p s g H x b v U Q I r R h;obtain⟨a,K,k,c,rfl,rfl,e,l,q⟩:=h;obtain⟨u,rfl,d⟩:=aC.one R;cases r;exact Fs I e d l (.inl Z) λw S i f=>#[c,_,i,f,q]
end
end _L
namespace _L
open PySem PySem.Spec PyProof.Rows PySem.SeqAt PySem.W
noncomputable def lR:List Int->List Int->Bool
 | [],[]=>false
 | [],_::_=>true
 |_::_,[]=>false
 |a::p,b::q=>if a=b then lR p q else decide (a < b)
theorem XQ:∀{p q:List Int},lR p q=true->lR q p=false
 | [],[],h=>by cases h
 | [],_::_,_=>rfl
 |_::_,[],h=>by cases h
 |a::p,b::q,h=>by
  have h:(if a=b then lR p q else decide (a < b))=true:=h;show(if b=a then lR q p else decide (b < a))=false;by_cases e:a=b
  ·rw[Mb e]at h;rw[Mb e.symm];exact XQ h
  ·rw[Mf e]at h;rw[Mf$ ME e];have:=Nn h;exact LZ UO
section
variable {prog:Program}{w:World}{A:Around}{E:Value->Shared->Prop}{s:Shared}{Q:Bool->Shared->Prop}
theorem rO(f:Bool)(h:Q (decide$ a < b) s):wpAny (model prog w) A (oneLt' f (.int a t)$ .int b u) Q E s:=by
 cases f with
 |true=>exact oneLt_int h
 |false=>exact kat_one _ _ (lt_int h)
theorem XS:∀{p q:List Int} {U v:List Value},aC (p.map V.int) U->aC (q.map V.int) v->∀i,f=decide (p.length < q.length)->Q (lR p q) s->KatLex prog w A b f Q (U.zip v) i s
 | [],[],_,_,.nil,.nil,_,e,h=>by subst e;exact h
 | [],_::_,_,_,.nil,.cons _ _,_,e,h=>by subst e;exact h
 |_::_,[],_,_,.cons _ _,.nil,_,e,h=>by subst e;exact h
 |x::p,y::q,_,_,.cons #[t,c] r,.cons #[u,d] R,i,e,h=>by
  subst c;subst d;have h:Q (if x=y then lR p q else decide (x < y)) s:=h;refine kat_cons$ T1 x t y u prog w _ _ ?_;by_cases H:x=y
  ·rw[Mb H]at h;rw[beq_iff_eq.mpr H];refine kat_yes$ XS r R (i+1) ?_ h;rw[e];show decide (p.length+1 < q.length+1)=_;by_cases a:p.length < q.length
   ·rw[Mc a,Mc UO]
   ·rw[LZ a,LZ UO]
  ·rw[Mf H]at h;rw[beq_eq_false_iff_ne.mpr H];exact kat_no$ rO _ h
def Bh(h:Heap)(v:Value)(p:List Int):Prop:=∃a o u n,v= .ref a/\h.get? a=some o/\o.cls= .type "tuple"/\o.data= .seq u n/\aC (p.map V.int) u.toList
theorem Hl(c:Bh s.heap x p)(d:Bh s.heap y q)(h:Q (lR p q) s):wpAny (model prog w) A (keyLt' (tuples' b) x y) Q E s:=by obtain⟨a,o,U,n,rfl,e,_,f,H⟩:=c;obtain⟨i,O,u,N,rfl,K,_,g,k⟩:=d;refine kat_lt e f K g$ XS H k 0 ?_ h;have l:=H.length;have L:=k.length;rw[LU]at l L;rw[<- Mq,<- Mq,<- l,<- L]
def eJ(l:Nat->Nat->Bool)(n:Nat){b:Type}(R:b->Prop):KasT b->Prop
 | .ret a=>R a
 | .ask i j k=>i < n/\j < n/\eJ l n R (k (l i j))
theorem eJ.bind{b c:Type}{R:b->Prop}{S:c->Prop}{f:b->KasT c}(H:∀a,R a->eJ l n S (f a)):∀{t:KasT b},eJ l n R t->eJ l n S (t.bind f)
 | .ret _,h=>H _ h
 | .ask _ _ _,z=>by obtain⟨d,e,g⟩:=z;exact #[d,e,eJ.bind H g]
theorem eJ.wp{l:Nat->Nat->Bool}{n:Nat}{b:Type}{R:b->Prop}{c:Nat->Nat->(Bool->Shared->Prop)->Shared->Prop}(H:∀i j (C:Bool->Shared->Prop),i < n->j < n->C (l i j) s->c i j C s){G:b->Shared->Prop}(d:∀a,R a->G a s):∀{t:KasT b},eJ l n R t->t.kasWp c G s
 | .ret _,h=>d _ h
 | .ask i j _,z=>by obtain⟨e,f,g⟩:=z;exact H i j _ e f (eJ.wp H d g)
theorem ZB:∀{vs:List Value} {ps:List (List Int)},vs.length=ps.length->(∀(i:Nat) (v:Value) (p:List Int),vs[i]?=some v->ps[i]?=some p->Bh h v p/\p≠[])->∃F:List Value,F.length=vs.length/\(∀f∈F,∃i t,f= .int i t)/\KatTups h vs F
 | [],[],_,_=>#[[],Z,λ_ z=>(nomatch z),trivial]
 | [],_::_,e,_=>by cases e
 |_::_,[],e,_=>by cases e
 |v::vs,p::ps,e,k=>by
  obtain⟨F,g,j,l⟩:=ZB (vs:=vs) (ps:=ps) (by simpa using e) λi v p b c=>k (i+1) v p (by simpa using b) (by simpa using c);obtain⟨⟨a,o,U,n,rfl,b,c,m,H⟩,q⟩:=k 0 v p Z Z;cases p with
  |nil=>exact absurd Z q
  |cons i p=>
   cases d:U.toList with
   |nil=>rw[d]at H;cases H
   |cons u r=>
    rw[d]at H;cases H with
    |cons R y=>
     obtain⟨t,rfl⟩:=(show ∃t,u=Value.int i t from R);have x:U[0]?=some (Value.int i t):=by rw[<- Nv,d];rfl
     exact#[Value.int i t::F,by simp [g],λf hf=>by
      rcases List.mem_cons.mp hf with rfl |hf
      ·exact#[_,_,Z]
      ·exact j f hf,KatTups.cons b c m x l]
theorem Y9{V:List Value}{d:List (List Int)}{P:Fin->Shared->Prop}(u:s.heap.get? a=some (seqObj "list" V.toArray n))(I:V.length=d.length)(N:2<=V.length)(y:V.length < 64)
  (O:∀(i:Nat) (v:Value) (p:List Int),V[i]?=some v->d[i]?=some p->Bh s.heap v p/\p≠[]/\v≠ .ref a) {R:Array Nat->Prop} (U:eJ (λi j=>lR (d.getD i []) (d.getD j [])) d.length R (kas_sort d.length))
  (h:∀p,R p->P (.done$ .ret .none) { s with heap:=sortedHeap s.heap a V (p.toList.map λi=>V.getD i Value.none).toArray }):
  wpAny (model prog w) A (Builtin.«list.sort» #[[.ref a],[]]) P E s:=by
 rw[RW];have la:a < s.heap.objs.size:=LW u;refine LO$ SH u Z ?_;refine LO$ ON u Z ?_;obtain⟨g,J⟩:∃g,(s.heap.update a$ Obj.mapSeq λ_=>(List.toArray [])).get? a=some (seqObj "list" (List.toArray []) g):=#[_,RX u (λ_=>(List.toArray []))];refine LO$ Pl J Z ?_;refine LO$ OG ?_ (by show V.length<=_;rw[NY];omega);refine LO$ Ot ?_;refine Ms ?_;have K:(((s.heap.update a$ Obj.mapSeq λ_=>(List.toArray [])).push$ seqObj "tuple" V.toArray 0).push$ seqObj "list" (List.toArray []) 0).get? a=some (seqObj "list" (List.toArray []) g):=LQ _ (LQ _ J);have k:∀c v,c≠a->s.heap.get? c=some v->(((s.heap.update a$ Obj.mapSeq λ_=>(List.toArray [])).push$ seqObj "tuple" V.toArray 0).push$ seqObj "list" (List.toArray []) 0).get? c=some v:=λc v W e=>
  LQ _ (LQ _ (by rw[So _ _ _ _ W];exact e))
 show wpAny (model prog w) A _ P E { s with heap:=((s.heap.update a$ Obj.mapSeq λ_=>(List.toArray [])).push$ seqObj "tuple" V.toArray 0).push (seqObj "list" (List.toArray []) 0) };dsimp only;have H:∀(i:Nat) (v:Value) (p:List Int),V[i]?=some v->d[i]?=some p->Bh (((s.heap.update a$ Obj.mapSeq λ_=>(List.toArray [])).push$ seqObj "tuple" V.toArray 0).push$ seqObj "list" (List.toArray []) 0) v p/\p≠[]:=λi v p B x=>by obtain⟨⟨b,o,X,m,rfl,Y,b2,b3,b4⟩,l,D⟩:=O i v p B x;exact#[#[b,o,X,m,Z,k _ _ (λz=>D (by rw[z])) Y,b2,b3,b4],l]
 obtain⟨fs,f1,f2,f3⟩:=ZB I H;have q:¬V.toArray.size < 2:=by rw[LY];omega
 rw[Mf q,Mf q];refine LO$ kat_kind (T:=.type "int") f3 UO (λf hf=>?_) UN ?_
 ·obtain⟨i,t,rfl⟩:=f2 f hf;exact Tu Z
 refine LO (MZ (kat_run (Q:=λS r=>r={ s with heap:=((s.heap.update a$ Obj.mapSeq λ_=>(List.toArray [])).push$ seqObj "tuple" V.toArray 0).push (seqObj "list" (List.toArray []) 0) }/\∃p,R p/\(arrOf S).map (·.2)=(p.toList.map λi=>V.getD i Value.none).toArray/\failedOf S=none/\(arrOf S).size=V.length)
  (G:=λp r=>r={ s with heap:=((s.heap.update a$ Obj.mapSeq λ_=>(List.toArray [])).push$ seqObj "tuple" V.toArray 0).push (seqObj "list" (List.toArray []) 0) }/\R p) Z N y (λp S r B x a3 L=>#[L.1,p,L.2,?_,a3,?_]) (eJ.wp (n:=d.length) (R:=R) (λi j C F hj hC=>?_) (λp l=>#[Z,l]) (by rw[I];exact U))) ?_ λ_ _ e=>e)
 ·rw[kat_snds Z x]
 ·rw[x,To,B]
 ·have M:∀i,i < d.length->Bh (((s.heap.update a$ Obj.mapSeq λ_=>(List.toArray [])).push$ seqObj "tuple" V.toArray 0).push$ seqObj "list" (List.toArray []) 0) (V.getD i Value.none) (d.getD i []):=λi F=>by
   have g:V[i]?=some (V.getD i Value.none):=by rw[M7,LP (by omega:i < V.length)];rfl
   have e2:d[i]?=some (d.getD i []):=by rw[M7,LP F];rfl
   exact(H i _ _ g e2).1
  exact Hl (M i F) (M j hj) hC
 rintro ⟨⟨⟩,S⟩ r ⟨rfl,p,l,q1,q2,q3⟩;dsimp only;refine LO$ Pl K Z ?_;refine LO$ ON K Z ?_ (hsz2:=by rw[To,q3,NY];omega);rw[q2];simp only[Np,Mh,Nu];refine LR ?_;rw[q1];exact h p l
theorem ZC{l:Nat->Nat->Bool}{p:Array Nat}(H:∀i,i < n->p.getD i 0=i)(h:∀i,i+1 < n->l (i+1) i=false):∀f m,1<=m->m+f=n->eJ l n (λr=>r=n) (kas_asc p f m)
 |0,m,_,e=>by show m=n;omega
 |f+1,m,d,e=>by have a:=H m UO;have b:=H (m - 1) UO;have c:=h (m - 1) UO;rw[show m - 1+1=m by omega]at c;refine#[by rw[a];omega,by rw[b];omega,?_];rw[a,b,c];exact ZC H h f (m+1) UO UO
theorem wS{l:Nat->Nat->Bool}(b:2<=n)(h:∀i,i+1 < n->l (i+1) i=false):eJ l n (λp=>p=List.toArray (List.range n)) (kas_sort n):=by
 refine eJ.bind (R:=λr=>r=(n,List.toArray$ List.range n)) (λr H=>?_)$ eJ.bind (R:=λr=>r=n) (λr H=>?_)$ ZC (p:=List.toArray (List.range n)) (λi a=>by simp [Array.getD,a]) h (n - 1) 1 (LV 1) UO
 ·subst H;show eJ l n _ (if n < n then _ else _);rw[Mf$ MX n];rfl
 ·subst H;show eJ l r _ (if (r==r)=true then _ else _);rw[Mb$ PY r];rfl
end
section
variable {prog:Program}{w:World}{A:Around}{E:Value->Shared->Prop}{s:Shared}
theorem Za{P:Fin->Shared->Prop}(H:s.heap.get? a=some (seqObj "list" ([]:List Value).toArray n))
  (h:P (.done$ .ret .none) { s with heap:=sortedHeap s.heap a ([]:List Value) (List.toArray []) }):wpAny (model prog w) A (Builtin.«list.sort» #[[.ref a],[]]) P E s:=by
 rw[RW];refine LO$ SH H Z ?_;refine LO$ ON H Z ?_;obtain⟨e,b⟩:∃e,(s.heap.update a$ Obj.mapSeq λ_=>(List.toArray [])).get? a=some (seqObj "list" (List.toArray []) e):=#[_,RX H (λ_=>(List.toArray []))];refine LO$ Pl b Z ?_;refine LO$ OG ?_;refine LO$ Ot ?_;refine Ms ?_;have g:(((s.heap.update a$ Obj.mapSeq λ_=>(List.toArray [])).push$ seqObj "tuple" ([]:List Value).toArray 0).push$ seqObj "list" (List.toArray []) 0).get? a=some (seqObj "list" (List.toArray []) e):=LQ _ (LQ _ b);show wpAny (model prog w) A _ P E { s with heap:=((s.heap.update a$ Obj.mapSeq λ_=>(List.toArray [])).push$ seqObj "tuple" ([]:List Value).toArray 0).push (seqObj "list" (List.toArray []) 0) };dsimp only;have S:([]:List Value).toArray.size < 2:=by show 0 < 2;decide
 rw[Mb S,Mb S];refine LO$ LR ?_;rw[SN];refine LO$ LR ?_;dsimp only;refine LO$ Pl g Z ?_;have c:(arrOf$ SortSt.mk' general' (([]:List Value).toArray.zip ([]:List Value).toArray) (List.toArray []) 7 none).map (·.2)=(List.toArray []):=by show(([]:List Value).toArray.zip ([]:List Value).toArray).map (·.2)=(List.toArray []);simp
 rw[c];refine LO$ ON g Z ?_ (hsz2:=by show 0<=sizeLine+1;omega);simp only[Np,Mh,Nu];exact LR h
theorem AR{vs:List Value}{ps:List (List Int)}{Q:Value->Shared->Prop}(q:s.heap.IsList l vs.toArray)(H:vs.length=ps.length)(r:2<=vs.length)(b:vs.length < 64)
  (t:∀(i:Nat) (v:Value) (p:List Int),vs[i]?=some v->ps[i]?=some p->Bh s.heap v p/\p≠[]) {R:Array Nat->Prop} (u:eJ (λi j=>lR (ps.getD i []) (ps.getD j [])) ps.length R (kas_sort ps.length))
  (h:∀p,R p->Q (.ref$ s.heap.objs.size+1) { s with heap:=sortedAll s.heap vs (p.toList.map λi=>vs.getD i Value.none).toArray }):wpAny (model prog w) A (call (.builtin "sorted") [.ref l]) Q E s:=by
 refine N9 RL Rs Rt (Ru _) ?_;unfold Builtin.«sorted»;refine LO (m:=checkCount "sorted" 1 1 _)$ LR ?_;refine LO$ SJ q ?_ (by rw[NY];omega);refine LO$ Ot ?_ (by rw[NY];omega);have f:((s.heap.push$ seqObj "list" (List.toArray []) 0).update s.heap.objs.size$ Obj.mapSeq (·++vs.toArray)).objs.size=s.heap.objs.size+1:=by rw[Rk,Sa]
 have g:(((s.heap.push$ seqObj "list" (List.toArray []) 0).update s.heap.objs.size$ Obj.mapSeq (·++vs.toArray)).push$ seqObj "list" vs.toArray 0).get? (s.heap.objs.size+1)=some (seqObj "list" vs.toArray 0):=by rw[<- f];exact LX _ Z
 have k:∀c v,s.heap.get? c=some v->(((s.heap.push$ seqObj "list" (List.toArray []) 0).update s.heap.objs.size$ Obj.mapSeq (·++vs.toArray)).push$ seqObj "list" vs.toArray 0).get? c=some v:=λc v e=>
  LQ _ (by rw[So _ _ _ _$ Me$ LW e];exact LQ _ e)
 show wpAny _ _ _ _ _ { s with heap:=((s.heap.push$ seqObj "list" (List.toArray []) 0).update s.heap.objs.size$ Obj.mapSeq (·++vs.toArray)).push (seqObj "list" vs.toArray 0) };rw[f];refine LO$ Ms$ MG P5 #[_,g,Z] PU (Y9 g H r b (λi v p x y=>?_) u λp d=>#[_,Z,?_]) (P9 _)
 ·obtain⟨⟨a,o,U,n,rfl,B,C,D,F⟩,d⟩:=t i v p x y;exact#[#[a,o,U,n,Z,k _ _ B,C,D,F],d,λz=>by injection z with z;exact absurd z$ Me$ NK$ LW B]
 ·exact LR #[_,Z,h p d]
theorem AO{Q:Value->Shared->Prop}(H:s.heap.IsList l ([]:List Value).toArray)
  (h:Q (.ref$ s.heap.objs.size+1) { s with heap:=sortedAll s.heap [] (List.toArray []) }):wpAny (model prog w) A (call (.builtin "sorted") [.ref l]) Q E s:=by
 refine N9 RL Rs Rt (Ru _) ?_;unfold Builtin.«sorted»;refine LO (m:=checkCount "sorted" 1 1 _)$ LR ?_;refine LO$ SJ H ?_;refine LO$ Ot ?_;have z:((s.heap.push$ seqObj "list" (List.toArray []) 0).update s.heap.objs.size$ Obj.mapSeq (·++([]:List Value).toArray)).objs.size=s.heap.objs.size+1:=by rw[Rk,Sa]
 have g:(((s.heap.push$ seqObj "list" (List.toArray []) 0).update s.heap.objs.size$ Obj.mapSeq (·++([]:List Value).toArray)).push$ seqObj "list" ([]:List Value).toArray 0).get? (s.heap.objs.size+1)=some (seqObj "list" ([]:List Value).toArray 0):=by rw[<- z];exact LX _ Z
 show wpAny _ _ _ _ _ { s with heap:=((s.heap.push$ seqObj "list" (List.toArray []) 0).update s.heap.objs.size$ Obj.mapSeq (·++([]:List Value).toArray)).push (seqObj "list" ([]:List Value).toArray 0) };rw[z];refine LO$ Ms$ MG P5 #[_,g,Z] PU (Za g #[_,Z,?_]) (P9 _);exact LR #[_,Z,h]
end
section
variable {X:Cx}
theorem Et(I:ax X b f H s){p:List Int}(h:H a=some (.tup$ p.map V.int)):Bh s.heap (.ref a) p:=by obtain⟨i,r,P,_⟩:=I.tuple (aB.of (K:=X.K) h);obtain⟨o,c,d,n,e⟩:=P;exact#[a,o,i.toArray,n,Z,c,d,e,r]
inductive vO(K:Frag)(d:List V)(H:Hp)(Q:VK):Prop
 |mk(l:Addr)(c:List V)(b:List (List Int))(_:d=[.ref l])(_:aI K H l c)(_:c.length=b.length)(_:c.length < 64)(_:∀(i:Nat) (v:V) (p:List Int),c[i]?=some v->b[i]?=some p->(∃a,v= .ref a/\H a=some (.tup (p.map V.int)))/\p≠[])(_:∀(i:Nat) (p q:List Int),b[i]?=some p->b[i+1]?=some q->lR p q=true)(_:∀r,H r=none->Q (.ref r) (am H r (.lst c)))
theorem Xw:er X (.builtin "sorted") (vO X.K):=by
 intro g s x H T U Q I r h;obtain⟨l,vs,ps,rfl,y,n,z,B,C,k⟩:=h;obtain⟨u,rfl,D⟩:=eY r;cases D;obtain⟨b,d,P,_⟩:=I.list y;have L:=d.length;have f:∀(o:Array Value),o=b.toArray->EP X g x Q (.ref$ s.heap.objs.size+1) { s with heap:=sortedAll s.heap b o }:=λo E=>by subst E;obtain⟨c,F⟩:=sortedAll_at s.heap b b.toArray;exact#[.ref$ s.heap.objs.size+1,_,I.laid (t':=s.toks) (λ_ _ e=>sortedAll_old e) (MU _) (show aN X.prog X.w _ _ _ (.lst vs) from #[by rw[NY];omega,b,c,d,F]),Z,k _$ I.hok.fresh$ MU _]
 match b,d,P,L,f with
 | [],d,P,L,f=>exact AO (by simpa using P.isList) (f _ Z)
 | [v],d,P,L,f=>exact AQ (by simpa using P.isList) (f _ Z)
 |v1::V::R,d,P,L,f=>
  have W:(v1::V::R).length=R.length+2:=rfl;refine AR (vs:=v1::V::R) (ps:=ps) P.isList UO UO UO (λi v p A G=>?_) (wS UO λi j=>?_) λp m=>f _ ?_
  ·have j:i < vs.length:=by have:=(List.getElem?_eq_some_iff.mp A).1;omega
   obtain⟨⟨a,J,M⟩,m⟩:=B i _ p (LP j) G;obtain⟨Y,q,t⟩:=d.get (LP j);rw[A]at q;cases q;rw[J]at t;cases t;exact#[Et I M,m]
  ·have N:ps[i]?=some (ps.getD i []):=by rw[M7,LP (by omega:i < ps.length)];rfl
   have O:ps[i+1]?=some (ps.getD (i+1) []):=by rw[M7,LP j];rfl
   exact XQ$ C i _ _ N O
  ·subst m;congr 1;refine O7 (by simp;omega) λi h1 S=>?_;simp [LP S]
end
end _L
namespace _L
open PySem PySem.Spec PyProof.Rows
theorem bJ.m(r:bJ k A)(h:j<=k:=by omega):bJ j A:=r.mono h
theorem bP{N P:List Str}{s:Scope}(a:s.kind=.function:=by rfl)(b:s.isCoroutine=false:=by rfl)(c:s.isGenerator=false:=by rfl)(d:N.Nodup:=by decide +kernel)(e:N.take P.length=P:=by rfl)(f:∀x∈P,s.names.lookup x=some .local ∨ s.names.lookup x=some .cell:=by decide +kernel)(g:∀y∈s.names,y.2≠.free:=by decide +kernel):ai N P s:=#[a,b,c,d,e,f,g]
theorem pO{N:List Str}{s t:Scope}{M:List Str}{i:List Nat}(a:∀y∈t.names,y.2≠.cell:=by decide +kernel)(b:t.kind=.function:=by rfl)(c:∀y∈t.names,y.2=.local->t.names.lookup y.1=some .local:=by decide +kernel)(d:∀y∈t.names,y.2=.free->s.names.lookup y.1=some .cell:=by decide +kernel)(e:M.drop n=i.map (λi=>N.getD i Str.empty):=by decide +kernel)(f:M.length=n+i.length:=by rfl)(g:∀j∈i,t.names.lookup (N.getD j Str.empty)=some .free:=by decide +kernel):bh N s t M n i:=#[a,b,c,d,e,f,g]
end _L
local macro_rules|`(tactic|obtain $p:rcasesPat:=$t)=>`(tactic|(refine _L.a8 λG k=>?_;rcases $t:term with $p:rcasesPat<;>(refine k ?_;clear k)))
namespace _K
open PySem PySem.Spec PyProof.Rows _L
abbrev z0z:List Str:=["term"]
abbrev z1z:List Str:=["statement","behind"]
abbrev z2z:List Str:=["_law_box_here","_law_wide"]
abbrev z3z:List Str:=["self","old_path","old","new_path","new"]
abbrev z4z:List Str:=["_law_box_here"]
abbrev z5z:List Str:=["statement"]
abbrev z6z:List Str:=["path","what"]
abbrev z7z:List Str:=["self","statement","behind"]
abbrev z8z:List Str:=["term","held"]
abbrev z9z:List Str:=["self","body","behind"]
abbrev z10z:List Str:=["part","n","held"]
abbrev z11z:List Str:=["self","part","args","deep"]
abbrev z12z:List Str:=["_law_chain","_law_at"]
abbrev z13z:List Str:=["_law_box_here","_law_a","_law_b"]
abbrev z14z:List Str:=["body","behind"]
abbrev z15z:List Str:=["_law_old","_law_new","_law_old_at","_law_new_at","_law_found_here"]
abbrev z16z:List Str:=["name","params","body"]
abbrev z17z:List Str:=["_law_box_here","_law_f","_law_inner_here","_law_w"]
abbrev z18z:List Str:=["self","deed","deep"]
abbrev z19z:List Str:=["self","path","chain","begin","end"]
abbrev z20z:List Str:=["self","statement","place","behind"]
abbrev z21z:List Str:=["sign","left","right"]
abbrev z22z:List Str:=["self","cells","most"]
abbrev z23z:List Str:=["self","parts","cells","most"]
abbrev z24z:List Str:=["_law_box_here","_law_total"]
abbrev z25z:List Str:=["parts","f","args","cells","most"]
abbrev z26z:List Str:=["_law_j","_law_old","_law_step"]
abbrev z27z:List Str:=["_law_box_here","_law_total","_law_letters","_law_wide","_law_spot_here","_law_signs","_law_first","_law_form","_law_found_here","_law_k","_law_one","_law_word","_law_some","_law_odd"]
abbrev z28z:List Str:=["_law_k","_law_box_here","_law_letters"]
abbrev z29z:List Str:=["_law_j","_law_box_here","_law_letters"]
abbrev z30z:List Str:=["num","var","op","go","ask","back","chain","sets","iff","ends","calls","reads","gives"]
abbrev z31z:List Str:=["_law_box_here","_law_f","_law_g","_law_w"]
abbrev z32z:List Str:=["_law_parts","_law_f","_law_args","_law_cells_here"]
abbrev z33z:List Str:=["_law_old","_law_new","_law_old_at","_law_new_at","_law_found_here","_law_mark","_law_k","_law_step","_law_path","_law_j","_law_some","_law_lenders","_law_calls","_law_pair","_law_both"]
abbrev z34z:List Str:=["_law_box_here","_law_f","_law_inner_here","_law_w","_law_n","_law_i","_law_s","_law_x","_law_y","_law_body_here","_law_spot_here","_law_start","_law_loop"]
abbrev z35z:List Str:=["_law_box_here","_law_f","_law_inner_here","_law_w","_law_n","_law_i","_law_s","_law_x","_law_y","_law_spot_here","_law_body_here","_law_kept","_law_some","_law_start","_law_loop"]
abbrev z36z:List Str:=["_law_box_here","_law_w","_law_n","_law_i","_law_s","_law_x","_law_y","_law_calls","_law_body_here","_law_start","_law_top","_law_inner_here"]
variable {P:Program}{w:World}{K:Frag}{mg:Str->Option Value}{base:Heap}
noncomputable def bQ(i:Nat):Stmt:=PySem.Challenge.pw_againbook_k33_lent_chains.main.body.getD i (.Pass #[0,0,0,0])
noncomputable abbrev D2:Stmt:=bQ 58
noncomputable abbrev wn:Stmt:=bQ 59
noncomputable abbrev iJ:Stmt:=bQ 61
def aP(p:Addr)(H h:Hp):Prop:=∀b o,b≠p->H b=some o->h b=some o
theorem aP.refl:aP p H H:=λ_ _ _ h=>h
theorem aP.trans(a:aP p H d)(b:aP p d e):aP p H e:=λc o n h=>b c o n (a c o n h)
theorem aP.of_eq{H a:Hp}(h:∀b,b≠p->a b=H b):aP p H a:=λb o n e=>by rw[h b n];exact e
theorem aP.upd_new(a:aP p H h)(n:h r=none):aP p H (am h r o):=λb u N e=>by have q:=a b u N e;rw[ji$ jk q n];exact q
theorem aP.upd_own(a:aP p H h)(n:H r=none):aP p H (am h r o):=λb u N e=>by rw[ji$ jk e n];exact a b u N e
structure aG(H:Hp)(p:Addr):Prop where
 ob:∃a b:Int,0<=a/\1<=b/\b<=2147483646/\H p=some (.lst [.int a,.int b])
theorem aG.eq{c:Hp}(B:aG H p)(e:c p=H p):aG c p:=by obtain⟨a,b,d,f,g,h⟩:=B.ob;exact#[a,b,d,f,g,by rw[e];exact h]
theorem aG.upd_new(B:aG H p)(n:H r=none):aG (am H r o) p:=by obtain⟨a,b,c,d,e,h⟩:=B.ob;exact B.eq (by rw[ji$ jk h n])
theorem aG.ne(B:aG H p)(n:H r=none):r≠p:=by obtain⟨a,b,c,d,e,h⟩:=B.ob;exact ME$ jk h n
inductive bN(c:List V)(H:Hp)(Q:VK)(a:XK):Prop
 |mk(p:Addr)(w:Int)(_:c=[.ref p,.int w])(_:aG H p)(_:0 < w)(_:w<=1000000000000000000)(_:∀(d:Int) (H':Hp),0<=d->d < w->aG H' p->(∀b,b≠p->H' b=H b)->Q (.int d) H')
inductive oY(K:Frag)(e:List V)(H:Hp)(Q:VK)(c:XK):Prop
 |mk(a:Addr)(d:List Int)(k:Int)(_:e=[.ref a,.int k])(_:aI K H a (d.map V.int))(_:0<=k)(_:k < 1000)(_:∀(r:Addr) (H':Hp),H r=none->aG H' r->(∀b,b≠r->H' b=H b)->Q (.ref r) H')
theorem pE:(10:Int) ^ (18:Int).toNat=1000000000000000000:=by decide
theorem ut{ns:List Int}{k:Int}(H:0<=k)(a:k < (ns.length:Int)):∃v:Int,fq (ns.map V.int) k=some (.int v):=by
 have h:k.toNat < ns.length:=by omega
 have e:k=((k.toNat:Nat):Int):=by omega
 have q:fq (ns.map V.int) ((k.toNat:Nat):Int)=some (.int ns[k.toNat]):=jL (by rw[Mp,LP h];rfl);rw[<- e]at q;exact#[_,q]
structure Cl(P:Program)(w:World)(K:Frag)(mg:Str->Option Value)(base:Heap)(L:Nat)(f:Addr)(fd:FuncData)(ps:List Str)(sp:Sp)(py:Str):Prop where
 g:af P w K mg base aE L f fd ps sp
 b:aD K fd ps []
 k:keepIn K (.ref f)=true
 m:mg py=some (.ref f)
theorem Cl.e{X:Cx}{e:Expr}(c:Cl X.prog X.w X.K X.mg X.base L f o q s a)(i:bJ L X.A)(j:PA X (e::E) t)(l:Gl X a:=by rfl)(h:(a==("__debug__":Str))=false:=by decide)(n:starEach (e::E) X.env=(false,eval e X.env)::starEach E X.env:=by rfl)(H:(backTo d$ starEach E X.env).any (·.1)=false:=by rfl):PE X (.Call (.Name a p) (e::E) [] d) (gf s [] E0 t):=zb c.g i l c.m c.k c.b .nil ba j h n H
theorem jy{X:Cx}(h:PE X a t):PE X (.Subscript a (.Constant (.int i) j p) b) (dQ (cw X.K) t$ tC$ .int i):=jo jH h jf λ_ _=>Z
theorem jB{X:Cx}{p:Pos}(i:Nat)(h:X.N.Nodup)(H:PE X e t)(b:X.N[i]?=some x:=by rfl)(c:sN X.env.scope x:=by exact Or.inl Z)(d:swapsWith e (some$ .Name x a) p.line X.env=pure false:=by rfl)(f:X.fn x=true∨X.env.scope.names.lookup x=some .local:=by first |exact .inl Z |exact .inr Z |assumption):PS X (.Assign [.Name x a] e p) (dP t$ aU i):=ze h b c H d f
theorem jv{K:Frag}{H:Hp}{Q:VK}(h:H p=some (.tup x))(a:fq x n=some v)(q:Q v H)(e:b[i]?=some (some$ .ref p):=by rfl):dQ (cw K) (aZ i) (tC$ .int n) b H Q:=#[_,e,p,x,n,v,Z,Z,aB.of h,a,q]
theorem ki{X:Cx}(h:PE X a t):PT X (.Compare a [.Eq] [.Constant (.str x) j p] b) (lJ$ dQ Gw t$ tC$ .str x):=jE Ja h jl Z
theorem zW{X:Cx}(h:PE X a t):PT X (.Compare a [.Eq] [.Constant (.int x) j p] b) (lJ$ dQ Gw t$ tC$ .int x):=jE Ja h jf Z
theorem iN:ai ["_law_box_here","_law_wide","_law_digit","_law_one","_law_mixed"] z2z (ae wn):=bP
theorem y8(F:aQ K "_law_take" "_law_take" wn f x):af P w K mg base aE 1 f x z2z bN:=by
 refine F.ok iN ?_ λC A o s H V Q E z h=>?_
 ·rintro _ _ _ _ ⟨p,w,rfl,_⟩;rfl
 obtain⟨p,W,rfl,B,d,g,q⟩:=h;obtain⟨a,b,l,i,j,e⟩:=B.ob;refine#[_,jd (jz (jE vm (jo jr (pv 0) jf (λ_ _=>Z)) jf$ aL _)
   (jd (jB 2 iN.nd$ jw zk (jo jr (pv 0) jf (λ_ _=>Z))$ pv 1)
   (jd (qD (jw KE (jo jr (pv 0) jf (λ_ _=>Z))$ pv 1)$ JB (pv 0) jf zY)
   (jg$ jp$ pv 2))) ju)
  (jd (jB 3 iN.nd$ jw zk (jw zF (jo jr (pv 0) jf (λ_ _=>Z)) jf) jf)
  (jd (qD (jw ke (jw zk (jw ke (jw zF (pv 3) jf) jf) jf) jf)$ JB (pv 0) jf zY)
  (jd (jB 4 iN.nd$ jw KE (jw ke (jw zF (pv 3) jf)$ jo jr (pv 0) jf (λ_ _=>Z)) jf)
  (jd (jz (jE vm (pv 1) (jw Kv jf jf)$ aL _) (jg$ jB 4 iN.nd$ jw zF (pv 4)$ pv 4) ju)
  (jg$ jp$ jw zk (pv 4)$ pv 1))))),?_]
 refine#[_,Z,p,_,_,_,Z,Z,aI.of e,Z,_,_,Z,Z,_,Z,?_];refine fe (λc=>?_) (λc=>?_)
 ·have D:(0:Int) < a:=Nn c;refine#[_,Z,p,_,_,_,Z,Z,aI.of e,Z,_,Z,_,_,Z,Z,d,?_];refine#[_,Z,p,_,_,_,Z,Z,aI.of e,Z,_,Z,_,_,Z,Z,#[d,g],_,Z,p,_,_,0,Z,Z,e,Z,_,Z,?_];refine q (a % W) _ (M0 _ UO) (MO _ d) #[a / W,b,Tx l UO,i,j,jc] λb n=>ji n
 ·have I:0<=b*69621 % 2147483647:=M0 _ UN;have J:b*69621 % 2147483647 < 2147483647:=MO _ UN;refine#[_,Z,p,_,_,_,Z,Z,aI.of e,Z,_,_,Z,Z,.inr #[UN,UN],_,_,Z,Z,(by show(0:Int) < 2147483647;decide),?_];refine#[_,Z,_,_,Z,Z,.inr #[UN,UN],_,_,Z,Z,_,_,Z,Z,(by show(0:Int) < 2147483646;decide),_,_,Z,Z,_,Z,p,_,_,1,Z,Z,e,Z,?_];generalize m:b*69621 % 2147483647=one at*;have N:0<=(one*48271+30103) % 2147483646:=M0 _ UN;have L:(one*48271+30103) % 2147483646 < 2147483646:=MO _ UN;generalize r:(one*48271+30103) % 2147483646=t at*;refine#[_,Z,_,_,Z,Z,.inr #[UN,UN],_,Z,p,_,_,_,Z,Z,aI.of jc,Z,_,_,Z,Z,_,_,Z,Z,#[UN,UN],?_];have X:0<=(one*2147483647+(t+1)) / 8191:=by omega
  have O:(one*2147483647+(t+1)) / 8191 < 18446744073709551616:=by omega
  generalize u:(one*2147483647+(t+1)) / 8191=M at*;refine#[_,Z,_,_,Z,Z,#[UN,UN,UN],_,_,Z,Z,_,Z,?_];have v:aG (am H p$ .lst [.int a,.int$ t+1]) p:=#[a,t+1,l,UO,UO,jc];refine fe (λy=>?_) (λy=>?_)
  ·refine#[_,Z,_,Z,_,_,Z,Z,.inl #[UO,UO],?_];refine#[_,Z,_,Z,_,_,Z,Z,d,?_];exact q _ _ (M0 _ UO) (MO _ d) v λb n=>ji n
  ·refine#[_,Z,_,Z,_,_,Z,Z,d,?_];exact q _ _ (M0 _ UO) (MO _ d) v λb n=>ji n
theorem m6:ai ["_law_script","_law_k","_law_cell","_law_seed"] ["_law_script","_law_k"] (ae D2):=bP
theorem Dj(F:aQ K "_law_box" "_law_box" D2 f I)(m:mg "len"=none)(M:mg "int"=none):af P w K mg base aE 1 f I ["_law_script","_law_k"] (oY K):=by
 refine F.ok m6 ?_ λJ A o s H W Q E X h=>?_
 ·rintro _ _ _ _ ⟨a,ns,k,rfl,_⟩;rfl
 obtain⟨a,ns,k,rfl,d,i,L,q⟩:=h;refine#[_,jd (jB 2 m6.nd$ jw ke (jw zF jf$ pv 1) jf)
  (jd (jz (jE BE (pv 1) (jR jO Z m Nh$ ja (pv 0) jb)$ aL _)
   (jg$ jB 2 m6.nd$ jo jr (pv 0) (pv 1) (λ_ _=>Z))
   (jg (jz (jE vm (jR jO Z m Nh$ ja (pv 0) jb) jf$ aL _)
    (jg$ jB 2 m6.nd$ jw ke (pv 2)$ jw zF (jw zk (jo jr (pv 0) (jw zk (pv 1)$ jR jO Z m Nh$ ja (pv 0) jb) (λ_ _=>Z)) jf) jf) ju)))
  (jd (jB 3 m6.nd$ jw ke (jw zk (jw ke (jw zF (jw zk (pv 2) jf) jf)$ jw zF jf$ pv 1) jf) jf)
  (jg$ jp$ jG$ ja (jw zF (pv 2)$ jN JI Z M UH$ ja (Q9 vk (pv 2) (jw Kv jf jf)$ aL _) jb)$ ja (pv 3) jb))),?_]
 have e:(ns.map V.int).length=ns.length:=LU _;have T:∀c:Int,∃v:V,∃x:Int,v= .int x/\1<=x/\x<=2147483646/\v= .int ((c % 2147483629*48271+40692*k) % 2147483646+1):=λc=>by have N:0<=(c % 2147483629*48271+40692*k) % 2147483646:=M0 _ UN;have O:(c % 2147483629*48271+40692*k) % 2147483646 < 2147483646:=MO _ UN;exact#[_,_,Z,UO,UO,Z]
 have j:∀(c:Int) (r:Addr),H r=none->Q (.ref r) (am H r$ .lst [.int$ c*(if decide ((10:Int) ^ (18:Int).toNat<=c)=true then 1 else 0),.int ((c % 2147483629*48271+40692*k) % 2147483646+1)]):=λc r R=>by
  refine q r _ R #[_,_,?_,?_,?_,jc] λb n=>ji n
  ·rw[pE];by_cases h:(1000000000000000000:Int)<=c
   ·rw[Mc h,Mb Z];omega
   ·rw[LZ h,Mf Md];omega
  ·have N:0<=(c % 2147483629*48271+40692*k) % 2147483646:=M0 _ UN;omega
  ·have O:(c % 2147483629*48271+40692*k) % 2147483646 < 2147483646:=MO _ UN;omega
 have B:∀c:Int,xX c (if decide ((10:Int) ^ (18:Int).toNat<=c)=true then 1 else 0):=λc=>.inr (by split<;>decide);refine ah λF0 u=>#[_,Z,_,_,Z,Z,.inl #[UN,UN],_,_,Z,Z,u _ _ ?_];clear u;refine ah λS y=>?_;have l:∀c:Int,S [some$ .ref a,some$ .int k,some$ .int c,none] H:=λc=>y _ _ (ah λF2 U=>#[_,Z,_,_,Z,Z,(by show(0:Int) < 2147483629;decide),_,_,Z,Z,.inr #[UN,UN],_,Z,_,_,Z,Z,.inl #[UN,UN],_,_,Z,Z,_,_,Z,Z,(by show(0:Int) < 2147483646;decide),_,_,Z,Z,U _ _ (#[_,Z,_,Z,_,_,Z,Z,#[UN,UN,UN],_,_,Z,Z,.inr #[_,Z,_,_,Z,Z,B c,_,Z,ci,j c]])]);clear y;refine HN λG g=>#[_,Z,_,Z,a,_,Z,.inl d,_,_,Z,Z,_,Z,g _ _ ?_];clear g;refine fe (λc=>?_) (λc=>?_)
 ·have C:k < (((ns.map V.int).length:Nat):Int):=Nn c;rw[e]at C;obtain⟨v,p⟩:=ut (ns:=ns) i C;exact#[_,Z,_,Z,a,_,_,_,Z,Z,d,p,l v]
 ·have C:¬k < (((ns.map V.int).length:Nat):Int):=of_decide_eq_false (Bool.eq_false_iff.mpr c);rw[e]at C;refine HN λG g=>#[_,Z,a,_,Z,.inl d,_,_,Z,Z,_,Z,g _ _ ?_];clear g;refine fe (λz=>?_) (λz=>?_)
  ·have D:(0:Int) < (((ns.map V.int).length:Nat):Int):=Nn z;obtain⟨v,p⟩:=ut (ns:=ns) (k:=k % (((ns.map V.int).length:Nat):Int)) (M0 _ UO) (by have:=MO k D;rw[e]at this;rw[e];exact this);exact#[_,Z,_,Z,_,Z,_,Z,a,_,Z,.inl d,_,_,Z,Z,D,a,_,_,_,Z,Z,d,p,_,_,Z,Z,(by show(0:Int) < 2147483629;decide),_,_,Z,Z,.inr #[UN,UN],_,_,Z,Z,l _]
  ·exact l _
theorem oA(i j:Str):(i++j).length=i.length+j.length:=by show(i.cps++j.cps).size=i.cps.size+j.cps.size;exact Sz
theorem zZ:1000000<=sizeLine:=by rw[NY];decide
theorem aq{H:Hp}(h:H b=some u)(n:H r=none):am H r o b=some u:=by rw[ji$ jk h n];exact h
theorem wW{z:Str}{k:Int}(H:0<=k)(a:k < (z.length:Int)):∃c:Nat,fq z.cps.toList k=some c:=by
 have b:z.cps.toList.length=z.length:=Mq;have h:k.toNat < z.cps.toList.length:=by omega
 have e:k=((k.toNat:Nat):Int):=by omega
 have q:fq z.cps.toList ((k.toNat:Nat):Int)=some z.cps.toList[k.toNat]:=jL (LP h);rw[<- e]at q;exact#[_,q]
theorem Yy{ys:List Str}{k:Int}(H:0<=k)(a:k < (ys.length:Int)):∃y∈ys,fq (ys.map V.str) k=some (.str y):=by
 have h:k.toNat < ys.length:=by omega
 have e:k=((k.toNat:Nat):Int):=by omega
 have q:fq (ys.map V.str) ((k.toNat:Nat):Int)=some (.str ys[k.toNat]):=jL (by rw[Mp,LP h];rfl);rw[<- e]at q;exact#[_,OE h,q]
noncomputable def dm(s:List Str)(lo h:Option Int):List Str:=(s.drop$ HT.sIx s.length 0 lo).take (HT.sIx s.length s.length h - HT.sIx s.length 0 lo)
theorem KH(s:List Str)(lo h:Option Int):bZ (s.map V.str) lo h=(dm s lo h).map V.str:=by unfold bZ dm;rw[LU,PX,List.map_drop]
theorem z9{lo:Option Int}(h:y∈dm s lo H):y∈s:=List.mem_of_mem_drop (Ny h)
theorem XT(s:List Str)(lo h:Option Int):(dm s lo h).length<=s.length:=by unfold dm;rw[Mw,M8];omega
theorem Jf:∀{ys:List Str},(∀y∈ys,y.length<=1)->(ys.map (·.length)).sum<=ys.length
 | [],_=>LV _
 |y::r,h=>by have a:=h y Mm;have b:=Jf (ys:=r) λz H=>h z (Mt _ H);rw[Ni,List.sum_cons,Mu];omega
theorem Jg{z:Str}{ys:List Str}(H:z.length=0)(h:∀y∈ys,y.length<=1):(Txt.join z ys).length<=ys.length:=by show(Builtin.Str.glued z ys).length<=_;rw[size_glued,H,Nat.mul_zero,Ue];exact Jf h
noncomputable def dD:Str:="abcdefghijklmnopqrstuvwxyz"
theorem JZ:dD.length=26:=by decide+kernel
noncomputable def re(d:Int)(k:Nat):Nat:=97+((d+5*(0+(k:Int))) % 26).toNat
theorem yB(H:i < 20)(a:j < 20)(h:re d i=re d j):i=j:=by unfold re at h;omega
theorem CY(H:0<=k)(a:k < 26)(h:fq dD.cps.toList k=some c):c=97+k.toNat:=by
 have q:∀m:Fin 26,fq dD.cps.toList (m.val:Int)=some (97+m.val):=by decide+kernel
 have e:=q #[k.toNat,UO];have E:((k.toNat:Nat):Int)=k:=by omega
 dsimp only at e;rw[E,h]at e;injection e
def Sh(A S:Str)(d:Int)(c:Nat)(w:Str):Prop:=if d=2 then ∃R:Str,w=R++#[(List.toArray [c])] else w=A++#[(List.toArray [c])]++S∨w=A++#[(List.toArray [c])]++S++"z"∨w="qqqqqqq"++#[(List.toArray [c])]
theorem zc(a b:Str):(a++b).cps.toList=a.cps.toList++b.cps.toList:=by show(a.cps++b.cps).toList=_;exact Array.toList_append
theorem XU{R:Str}(h:R++(#[(List.toArray [c])]:Str)=r++#[(List.toArray [C])]):c=C:=by have e:=Ng (Array.toList ∘ Str.cps) h;have e:(R++(#[(List.toArray [c])]:Str)).cps.toList=(r++(#[(List.toArray [C])]:Str)).cps.toList:=e;rw[zc,zc]at e;have:=List.append_inj_right' e Z;injection this
theorem yC{S:Str}(h:A++(#[(List.toArray [c])]:Str)++S=A++#[(List.toArray [C])]++S):c=C:=by have e:=Ng (Array.toList ∘ Str.cps) h;have e:(A++(#[(List.toArray [c])]:Str)++S).cps.toList=(A++(#[(List.toArray [C])]:Str)++S).cps.toList:=e;rw[zc,zc,zc,zc]at e;have:=O8 (O1 e);injection this
theorem G2{A S : Str}{d : Int}{c C : Nat}{w : Str}(i : A.length + S.length <= 5)(h : Sh A S d c w)(H : Sh A S d C w) : c = C := by
  unfold Sh at h H;have l : ∀ c : Nat, (#[(List.toArray [c])] : Str).length = 1 :=λ_ => Z;have L : (Str.ofString "z").length = 1 := by decide +kernel
  have f : (Str.ofString "qqqqqqq").length = 7 := by decide +kernel
  split at h
  · rename_i a
    rw [Mb a] at H;obtain ⟨R, rfl⟩ := h;obtain ⟨r, e⟩ := H;exact XU e
  · rename_i a
    rw [Mf a] at H;rcases h with rfl | rfl | rfl <;> rcases H with e | e | e
    · exact yC e
    all_goals first
      | exact XU e
      | (have g := Ng Str.length e
         simp only [oA, l, L, f] at g;omega)
      | skip
    have E := Ng (Array.toList ∘ Str.cps) e;have E : (A ++ (#[(List.toArray [c])] : Str) ++ S ++ ("z" : Str)).cps.toList = (A ++ (#[(List.toArray [C])] : Str) ++ S ++ ("z" : Str)).cps.toList := E;rw [zc, zc (A ++ _ ++ S)] at E;have b := O1 E;rw [zc, zc, zc, zc] at b;have := O8 (O1 b);injection this
theorem XV{y:List Str}:y.Nodup↔∀i j:Nat,i < j->j < y.length->y[i]?≠y[j]?:=by
 unfold List.Nodup;rw[List.pairwise_iff_getElem];refine#[λh i j H a e=>?_,λh i j b a H e=>h i j H a ?_]
 ·rw[LP (by omega:i < y.length),LP a]at e;injection e with e;exact h i j UO a H e
 ·rw[LP b,LP a,e]
theorem wO{A S:Str}{d D:Int}{Y:List Str}(b:A.length+S.length<=5)(g:Y.length<=20)(h:∀j y,Y[j]?=some y->Sh A S D (re d j) y):Y.Nodup:=by rw[XV];intro i j c H e;have a:=h i _ (LP (by omega:i < Y.length));have f:=h j _ (LP H);rw[LP (by omega:i < Y.length),LP H]at e;injection e with e;rw[e]at a;have:=yB UO UO (G2 b a f);omega
theorem rA{y:List Str}(h:y.Nodup)(b:a∉y):(y.set n a).Nodup:=by
 rw[XV]at h ⊢;intro i j H c e;rw[Pt]at c;by_cases d:n=i
 ·rw[d,Ox UO,NH UO]at e;exact b$ Mr e.symm
 ·by_cases f:n=j
  ·rw[f,Ox UO,NH UO]at e;exact b$ Mr e
  ·rw[NH d,NH f]at e;exact h i j H c e
theorem yL{y:List Str}(h:oG (.str a) (y.map V.str)=false):a∉y:=λm=>by unfold oG at h;rw[SO]at h;exact h (.str a) (List.mem_map.mpr #[a,m,Z]) (by simp [nM])
theorem yl{ss:List Str}{d1 d2:Int}(h:ss.length=(1+d1).toNat)(a:0<=d2)(b:d2 < 1+d1):(dm ss none$ some d2).length+(dm ss (some$ d2+1) none).length<=d1.toNat:=by
 obtain⟨k,rfl⟩:∃k:Nat,d2=k:=#[d2.toNat,(Sw a).symm];obtain⟨n,rfl⟩:∃n:Nat,d1=n:=#[d1.toNat,(Sw UO).symm];have H:k<=n:=by omega
 have h:ss.length=n+1:=by rw[h];omega
 clear a b;unfold dm;rw[show((k:Int)+1)=((k+1:Nat):Int) from Z,HT.sIx_nat,HT.sIx_nat,Mw,Mw,M8,h,NG$ Nq H,NG$ Nat.le_succ_of_le H];refine Mg (Nat.add_le_add (Rv _ _)$ Rv _ _) ?_;show k - 0+(n+1 - (k+1))<=n;rw[Po,Nat.add_sub_add_right,Sr H];exact LV _
theorem II{S:Str}:Sh A S d c ("qqqqqqq"++#[(List.toArray [c])]):=by
 unfold Sh;split
 ·exact#[_,Z]
 ·exact .inr$ .inr Z
theorem IJ{A S:Str}{d:Int}{c:Nat}{w:Str}(h:if d=2 then ∃R:Str,w=R++#[(List.toArray [c])] else w=A++#[(List.toArray [c])]++S∨w=A++#[(List.toArray [c])]++S++"z"):Sh A S d c w:=by
 unfold Sh;split at h
 ·rename_i e;rw[Mb e];exact h
 ·rename_i e;rw[Mf e];exact h.elim .inl λz=>.inr (.inl z)
noncomputable def pre(s:List Str)(d:Int):Str:=Txt.join "" (dm s none$ some d)
noncomputable def gm(s:List Str)(d:Int):Str:=Txt.join "" (dm s (some$ d+1) none)
inductive gM(b:List V)(H:Hp)(Q:VK)(a:XK):Prop
 |mk(p:Addr)(n:Int)(_:b=[.ref p,.int n])(_:aG H p)(_:1<=n)(_:n<=20)(_:∀(r:Addr) (ys:List Str) (H':Hp),H r=none->H' r=some (.lst (ys.map V.str))->(ys.length:Int)=n->(∀y∈ys,y.length<=20)/\ys.Nodup->aG H' p->aP p H H'->Q (.ref r) H')
theorem be:ai z27z z24z (ae iJ):=bP
noncomputable def Qn:Scope:=#[.function,[(".0",.local),("_law_k",.local),("_law_take",.globalImplicit),("_law_box_here",.free),("_law_letters",.free)],false,false,[]]
theorem Zb:(z28z:List Str).Nodup:=by decide+kernel
theorem Zc:bh z27z (ae iJ) Qn z28z 1 [0,2]:=pO
noncomputable def Qo:Scope:=#[.function,[(".0",.local),("_law_j",.local),("_law_take",.globalImplicit),("_law_box_here",.free),("_law_letters",.free)],false,false,[]]
theorem Zd:(z29z:List Str).Nodup:=by decide+kernel
theorem Ze:bh z27z (ae iJ) Qo z29z 1 [0,2]:=pO
theorem Jw{p:Addr}{Q:List V->Hp->Prop}(o:n<=20)(B:aG f p)
  (q:∀(S:List Str) (H:Hp),S.length=n->(∀s∈S,s.length<=1)->aG H p->(∀b,b≠p->H b=f b)->Q (S.map V.str) H):
  eN (sM 0 n) 1 [some$ .ref p,some$ .str dD] (aU 0) mH (dQ Ao (aZ 2)$ gf bN [] E0$ aj (aZ 1)$ aj (tC$ .int 26) aM) Q f:=by
 refine Yh (λi y H=>∃S:List Str,y=S.map V.str/\S.length=i/\(∀s∈S,s.length<=1)/\aG H p/\∀b,b≠p->H b=f b)
  #[[],Z,Z,(λ_ h=>nomatch h),B,λ_ _=>Z] (Mg o UN) (λi y H #[S,e,l,_]=>by rw[e,LU,l];exact LV _) ?_ ?_
 ·intro i y H x a;obtain⟨S,rfl,g,j,m,E⟩:=a;refine#[_,Z,_,Z,p,26,Z,m,UN,UN,λd A D r t u=>?_];obtain⟨c,v⟩:=wW (z:=dD) D (by rw[JZ];exact r);refine#[_,_,c,Z,Z,UN,v,S++[#[(List.toArray [c])]],by rw[Mz];rfl,by rw[LS,g];rfl,λs hs=>?_,t,λb N=>(u b N).trans (E b N)];rcases List.mem_append.mp hs with hs |hs
  ·exact j s hs
  ·rw[List.mem_singleton.mp hs];exact LV 1
 ·intro y H a;obtain⟨S,rfl,g,j,m,E⟩:=a;exact q S H g j m E
def Rw(p g r:Addr)(n d D b e:Int)(i c:Nat)(s y:List Str)(H:Hp)(L:Nat)(Z:Str->Prop):_L.St->Hp->Prop:=λa h=>∃W:Str,(W.length<=L/\Z W)/\
 a=[some$ .ref p,some$ .int n,some$ .str dD,some$ .int (1+d),some$ .int D,some$ .ref g,some$ .int b,some$ .int e,some$ .ref r,some$ .int (0+(i:Int)),some$ .str #[(List.toArray [c])],some$ .str W,none,none]/\
 h g=some (.lst$ s.map V.str)/\h r=some (.lst$ y.map V.str)/\aG h p/\aP p H h
def Rf(p r:Addr)(n:Int)(H:Hp):_L.St->Hp->Prop:=λa h=>a[8]?=some (some$ .ref r)/\∃Y:List Str,h r=some (.lst$ Y.map V.str)/\(Y.length:Int)=n/\((∀y∈Y,y.length<=20)/\Y.Nodup)/\aG h p/\aP p H h
theorem QM(Y:List Str):(Y.map V.str).all c8=true:=by rw[O9];intro v h;obtain⟨y,_,rfl⟩:=List.mem_map.mp h;rfl
theorem wM(Y:List Str)(j:Nat)(y:Str):(Y.map V.str).set j (V.str y)=(Y.set j y).map V.str:=(TX ..).symm
inductive NI(p g r:Addr)(n b c d e:Int)(v:List Str)(H:Hp)(i:Nat)(x:_L.St)(a:Hp):Prop
 |mk(s t u:Option V)(w:List Str)(f:x=[some (.ref p),some (.int n),some (.str dD),some (.int (1+b)),some (.int c),some (.ref g),some (.int d),some (.int e),some (.ref r),s,t,u,none,none])(h:a g=some (.lst (v.map V.str)))(k:a r=some (.lst (w.map V.str)))(l:w.length=i)(m:(∀y∈w,y.length<=20)/\∀j y,w[j]?=some y->Sh (pre v c) (gm v c) e (re d j) y)(o:aG a p)(q:aP p H a)
theorem u7(F:aQ K "_law_names" "_law_names" iJ f fd)(GT:af P w K mg base aE 1 fT f4 z2z bN)(x:aD K f4 z2z [])(C:keepIn K (.ref fT)=true)
  (M:mg "_law_take"=some (.ref fT)) (mr:mg "range"=none):af P w K mg base aE 2 f fd z24z gM:=by
 refine F.ok be ?_ λc1 A o1 s H vs Q E D h=>?_
 ·rintro _ _ _ _ ⟨p,n,rfl,_⟩;rfl
 obtain⟨p,n,rfl,B,a5,a',q⟩:=h;refine#[_,(@jd _ _ _ _ _ (@ze _ _ (2) _ _ _ _ be.nd Z (Or.inr Z) (@jl _ _ _ _) UR$ .inl Z)$ @jd _ _ _ _ _ (@ze _ _ (3) _ _ _ _ be.nd Z (Or.inl Z) (@jw _ _ _ _ _ _ _ _ ke (@jf _ _ _ _)$ @zb _ _ _ _ _ _ _ _ _ _ _ _ _ _ _ _ GT D Z M C x .nil ba (@ja _ _ _ _ _ (@pv _ 0 _ _ UR (.inr$ .inl Z) UN UN) (@ja _ _ _ _ _ (@jf _ _ _ _) (@jb _) UR) UR) UN UR UR) UR$ .inl Z)$ @jd _ _ _ _ _ (@ze _ _ (4) _ _ _ _ be.nd Z (Or.inl Z) (@zb _ _ _ _ _ _ _ _ _ _ _ _ _ _ _ _ GT D Z M C x .nil ba (@ja _ _ _ _ _ (@pv _ 0 _ _ UR (.inr$ .inl Z) UN UN) (@ja _ _ _ _ _ (@pv _ 3 _ _ UR (.inl Z) UN UN) (@jb _) UR) UR) UN UR UR) UR$ .inl Z)$ @jd _ _ _ _ _ (@qL _ _ _ _ _ _ _ _ _ _ (5) (z28z) (1) ([0,2]) _ _ _ _ be.nd Z (Or.inl Z) Z (@zA _ _ _ _ _ _ Z mr (@ja _ _ _ _ _ (@pv _ 3 _ _ UR (by first |exact Or.inl Z |exact Or.inr (Or.inl Z) |exact Or.inr$ Or.inr Z) UN UN) (@jb _) UR) UR) Zc (λ_ _ _ _ _=>(@jx _ _ (0) _ Zb Z (Or.inl Z) (by first |exact .inl Z |exact .inr Z))) (λ_ _ _ _ _=>(@qj _)) (λ_ _ _ _ _=>(@jo _ _ _ _ _ _ _ QX (@pv _ 2 _ _ UR (by first |exact Or.inl Z |exact Or.inr (Or.inl Z) |exact Or.inr$ Or.inr Z) UN UN) (@zb _ _ _ _ _ _ _ _ _ _ _ _ _ _ _ _ GT D Z M C x .nil ba (@ja _ _ _ _ _ (@pv _ 1 _ _ UR (by first |exact Or.inl Z |exact Or.inr (Or.inl Z) |exact Or.inr$ Or.inr Z) UN UN) (@ja _ _ _ _ _ (@jf _ _ _ _) (@jb _) UR) UR) UN UR UR) (λ_ _=>Z))) UR (by first |exact .inl Z |exact .inr Z) (by intro _;rfl))$ @jd _ _ _ _ _ (@ze _ _ (6) _ _ _ _ be.nd Z (Or.inl Z) (@zb _ _ _ _ _ _ _ _ _ _ _ _ _ _ _ _ GT D Z M C x .nil ba (@ja _ _ _ _ _ (@pv _ 0 _ _ UR (.inr$ .inl Z) UN UN) (@ja _ _ _ _ _ (@jf _ _ _ _) (@jb _) UR) UR) UN UR UR) UR$ .inl Z)$ @jd _ _ _ _ _ (@ze _ _ (7) _ _ _ _ be.nd Z (Or.inl Z) (@zb _ _ _ _ _ _ _ _ _ _ _ _ _ _ _ _ GT D Z M C x .nil ba (@ja _ _ _ _ _ (@pv _ 0 _ _ UR (.inr$ .inl Z) UN UN) (@ja _ _ _ _ _ (@jf _ _ _ _) (@jb _) UR) UR) UN UR UR) UR$ .inl Z)$ @jd _ _ _ _ _ (@ze _ _ (8) _ _ _ _ be.nd Z (Or.inl Z) (@jG _ _ _ _$ @jb _) UR$ .inl Z)$ @jd _ _ _ _ _ (@kH _ _ _ _ _ _ _ _ MF Z (@zA _ _ _ _ _ _ Z mr (@ja _ _ _ _ _ (@pv _ 1 _ _ UR (.inl Z) UN UN) (@jb _) UR) UR) (@jx _ _ (9) _ be.nd Z (Or.inl Z)$ .inl Z) (@jd _ _ _ _ _ (@ze _ _ (10) _ _ _ _ be.nd Z (Or.inl Z) (@jo _ _ _ _ _ _ _ QX (@pv _ 2 _ _ UR (.inr$ .inl Z) UN UN) (@jw _ _ _ _ _ _ _ _ zk (@jw _ _ _ _ _ _ _ _ ke (@pv _ 6 _ _ UR (.inl Z) UN UN)$ @jw _ _ _ _ _ _ _ _ zF (@jf _ _ _ _)$ @pv _ 9 _ _ UR (.inl Z) UN UN)$ @jf _ _ _ _) (λ_ _=>Z)) UR$ .inl Z)$ @jd _ _ _ _ _ (@kj _ _ _$ @ze _ _ (11) _ _ _ _ be.nd Z (Or.inl Z) (@jw _ _ _ _ _ _ _ _ zL (@jw _ _ _ _ _ _ _ _ zL (@jZ _ _ _ _ _ _ _ _ _ _ _ _ O4 Pd Pb Xc (@jl _ _ _ _) (@ja _ _ _ _ _ (@jJ _ _ _ _ _ _ _ _ _ _ zu (@pv _ 5 _ _ UR (.inl Z) UN UN) (@jT _)$ @jK _ _ _$ @pv _ 4 _ _ UR (.inl Z) UN UN) (@jb _) UR) UR UR UR UR UR)$ @pv _ 10 _ _ UR (.inl Z) UN UN)$ @jZ _ _ _ _ _ _ _ _ _ _ _ _ O4 Pd Pb Xc (@jl _ _ _ _) (@ja _ _ _ _ _ (@jJ _ _ _ _ _ _ _ _ _ _ zu (@pv _ 5 _ _ UR (.inl Z) UN UN) (@jK _ _ _$ @jw _ _ _ _ _ _ _ _ ke (@pv _ 4 _ _ UR (.inl Z) UN UN)$ @jf _ _ _ _)$ @jT _) (@jb _) UR) UR UR UR UR UR) UR$ .inl Z)$ @jd _ _ _ _ _ (@kj _ _ _$ @jz _ _ _ _ _ _ _ _ (@PW.pt _ _ _$ @Yw _ _ _ _ _ _ _ (zW$ @pv _ 7 _ _ UR (.inl Z) UN UN)$ @Q8 _ _ _ _$ zW$ @jw _ _ _ _ _ _ _ _ zk (@pv _ 9 _ _ UR (.inl Z) UN UN)$ @jf _ _ _ _) (@jg _ _ _$ @ze _ _ (11) _ _ _ _ be.nd Z (Or.inl Z) (@jw _ _ _ _ _ _ _ _ zL (@pv _ 11 _ _ UR (.inl Z) UN UN)$ @jl _ _ _ _) UR$ .inl Z)$ @ju _)$ @jd _ _ _ _ _ (@kj _ _ _$ @jz _ _ _ _ _ _ _ _ (zW$ @pv _ 7 _ _ UR (.inl Z) UN UN) (@jg _ _ _$ @ze _ _ (11) _ _ _ _ be.nd Z (Or.inl Z) (@jw _ _ _ _ _ _ _ _ zL (@jZ _ _ _ _ _ _ _ _ _ _ _ _ O4 Pd Pb Xc (@jl _ _ _ _) (@ja _ _ _ _ _ (@zO _ _ _ _ _ _ _ (z29z) (1) ([0,2]) _ _ _ _ Z (@zA _ _ _ _ _ _ Z mr (@ja _ _ _ _ _ (@zb _ _ _ _ _ _ _ _ _ _ _ _ _ _ _ _ GT D Z M C x .nil ba (@ja _ _ _ _ _ (@pv _ 0 _ _ UR (by first |exact Or.inl Z |exact Or.inr (Or.inl Z) |exact Or.inr$ Or.inr Z) UN UN) (@ja _ _ _ _ _ (@jf _ _ _ _) (@jb _) UR) UR) UN UR UR) (@jb _) UR) UR) Ze (λ_ _ _ _ _=>(@jx _ _ (0) _ Zd Z (Or.inl Z) (by first |exact .inl Z |exact .inr Z))) (λ_ _ _ _ _=>(@qj _)) (λ_ _ _ _ _=>(@jo _ _ _ _ _ _ _ QX (@pv _ 2 _ _ UR (by first |exact Or.inl Z |exact Or.inr (Or.inl Z) |exact Or.inr$ Or.inr Z) UN UN) (@zb _ _ _ _ _ _ _ _ _ _ _ _ _ _ _ _ GT D Z M C x .nil ba (@ja _ _ _ _ _ (@pv _ 1 _ _ UR (by first |exact Or.inl Z |exact Or.inr (Or.inl Z) |exact Or.inr$ Or.inr Z) UN UN) (@ja _ _ _ _ _ (@jf _ _ _ _) (@jb _) UR) UR) UN UR UR) (λ_ _=>Z))) (by intro _;rfl)) (@jb _) UR) UR UR UR UR UR)$ @pv _ 10 _ _ UR (.inl Z) UN UN) UR$ .inl Z)$ @ju _)$ @jd _ _ _ _ _ (@kj _ _ _$ @jz _ _ _ _ _ _ _ _ (@jE _ _ _ _ _ _ _ _ zB (@pv _ 11 _ _ UR (.inl Z) UN UN) (@jh _ _ _ _ _$ @Xd _ _ UR) Z) (@jg _ _ _$ @ze _ _ (11) _ _ _ _ be.nd Z (Or.inl Z) (@jw _ _ _ _ _ _ _ _ zL (@jl _ _ _ _)$ @pv _ 10 _ _ UR (.inl Z) UN UN) UR$ .inl Z)$ @ju _)$ @jg _ _ _$ @jF _ _ _ _ (@jZ _ _ _ _ _ _ _ _ _ _ _ _ L9 Ml Mj jM (@pv _ 8 _ _ UR (.inl Z) UN UN) (@ja _ _ _ _ _ (@pv _ 11 _ _ UR (.inl Z) UN UN) (@jb _) UR) UR UR UR UR UR) UR) (by intro _;rfl))$ @jd _ _ _ _ _ (@kj _ _ _$ @jz _ _ _ _ _ _ _ _ (@jE _ _ _ _ _ _ _ _ Ja (@zb _ _ _ _ _ _ _ _ _ _ _ _ _ _ _ _ GT D Z M C x .nil ba (@ja _ _ _ _ _ (@pv _ 0 _ _ UR (.inr$ .inl Z) UN UN) (@ja _ _ _ _ _ (@jf _ _ _ _) (@jb _) UR) UR) UN UR UR) (@jf _ _ _ _)$ aL _) (@jd _ _ _ _ _ (@ze _ _ (12) _ _ _ _ be.nd Z (Or.inl Z) (@jG _ _ _ _$ @Xd _ _ UR) UR$ .inl Z)$ @jd _ _ _ _ _ (@ze _ _ (13) _ _ _ _ be.nd Z (Or.inl Z) (@jo _ _ _ _ _ _ _ jr (@pv _ 12 _ _ UR (.inl Z) UN UN) (@zb _ _ _ _ _ _ _ _ _ _ _ _ _ _ _ _ GT D Z M C x .nil ba (@ja _ _ _ _ _ (@pv _ 0 _ _ UR (.inr$ .inl Z) UN UN) (@ja _ _ _ _ _ (@jf _ _ _ _) (@jb _) UR) UR) UN UR UR) (λ_ _=>Z)) UR$ .inl Z)$ @jg _ _ _$ @jz _ _ _ _ _ _ _ _ (@jE _ _ _ _ _ _ _ _ Jr (@pv _ 13 _ _ UR (.inl Z) UN UN) (@pv _ 8 _ _ UR (.inl Z) UN UN) Z) (@jg _ _ _$ @qD _ _ _ _ _ _ (@pv _ 13 _ _ UR (.inl Z) UN UN) (@JB _ _ _ _ _ _ _ (@pv _ 8 _ _ UR (.inl Z) UN UN) (@zb _ _ _ _ _ _ _ _ _ _ _ _ _ _ _ _ GT D Z M C x .nil ba (@ja _ _ _ _ _ (@pv _ 0 _ _ UR (.inr$ .inl Z) UN UN) (@ja _ _ _ _ _ (@pv _ 1 _ _ UR (.inl Z) UN UN) (@jb _) UR) UR) UN UR UR) zY (by intro _;rfl)) UR UR UR)$ @ju _)$ @ju _)$ @jg _ _ _$ @jp _ _ _ _$ @pv _ 8 _ _ UR (.inl Z) UN UN),?_];refine gj λE0 f0=>f0 _ _ ?_;refine gj λG a=>#[_,Z,p,6,Z,B,UN,UN,λd1 H1 b0 b1 U e1=>#[_,_,Z,Z,a _ _ ?_]];refine gj λE2 f2=>#[_,Z,_,Z,p,_,Z,U,UO,UO,λd2 H2 b2 b3 B2 e2=>f2 _ _ ?_];clear f0 a f2;refine gj λG a=>#[_,Z,_,Z,UO,UO,?_];refine Jw (p:=p) UO B2 λss H3 a4 e B3 e3 g hg=>a _ _ ?_;clear a;have k3:aP p H H3:=(aP.of_eq e1).trans ((aP.of_eq e2).trans$ aP.of_eq e3);have v:g≠p:=B3.ne hg;refine gj λG a=>#[_,Z,p,26,Z,B3.upd_new hg,UN,UN,λW H4 b4 b5 B4 e4=>a _ _ ?_];refine gj λE2 f2=>#[_,Z,p,3,Z,B4,UN,UN,λI H5 b7 b8 B5 e5=>f2 _ _ ?_];clear a f2;have h2:H5 g=some (.lst$ ss.map V.str):=by rw[e5 g v,e4 g v];exact jc
 have k5:aP p H H5:=(k3.upd_new hg).trans ((aP.of_eq e4).trans$ aP.of_eq e5);refine gj λG a=>#[UN,λr u=>a _ _ ?_];clear a;have m:r≠p:=B5.ne u;have h4:g≠r:=jk h2 u;have n3:H g=none:=by
  cases z:H g with
  |none=>rfl
  |some o=>have:=k3 g o v z;rw[hg]at this;cases this
 have X:H r=none:=by
  cases z:H r with
  |none=>rfl
  |some o=>have:=k5 r o m z;rw[u]at this;cases this
 have b9:=zZ;refine gj λG a=>dW λJ j=>#[_,Z,_,Z,UO,UO,j _ _ ?_];clear j;refine zg (lo:=0) (NI p g r n d1 d2 W I ss H) #[none,none,none,[],Z,aq h2 u,jc,Z,#[(λ_ h=>nomatch h),(λ_ _ h=>nomatch h)],B5.upd_new u,k5.upd_new u] ?_ ?_
 ·intro E0 _ i σ H' hi fE Gq T b;obtain⟨ok,oo,ow,ys,rfl,L,Y,h0,d,B',k'⟩:=b;clear a;obtain⟨c,hc⟩:=wW (z:=dD) (k:=(W+5*(0+(i:Int))) % 26) (M0 _ UN) (by rw[JZ];exact MO _ UN);refine T ?_;clear T;show fh (dP _ _) _ E0 _ _;refine gj λG a=>#[_,Z,_,Z,_,Z,_,_,Z,Z,.inl #[UN,UN],_,_,Z,Z,_,_,Z,Z,(by show(0:Int) < 26;decide),_,_,c,Z,Z,UN,hc,a _ _ ?_];clear a;have b':(#[(List.toArray [c])]:Str).length=1:=rfl;have h5:c=re W i:=CY (M0 _ UN) (MO _ UN) hc;refine gj λG a=>dZ (Rw p g r n d1 d2 W I i c ss ys H 13 (·=pre ss d2++#[(List.toArray [c])]++gm ss d2)) (λE2 _ t=>?_) λO H1 b=>?_
  ·clear a fE;refine#[Z,_,Z,_,Z,_,Z,g,_,Z,aI.of L,λs1 n1=>?_];have z1:=Jf (ys:=dm ss none (some d2)) λy d=>e y (z9 d);have z2:=XT ss none (some d2);refine#[_,s1,dm ss none$ some d2,Z,Z,aI.of (by rw[jc,KH]),UN,UO,?_];have j1:=Jg (z:="") (ys:=dm ss none (some d2)) UQ λy d=>e y (z9 d);refine#[_,Z,_,_,Z,Z,UO,?_];refine#[Z,_,Z,_,Z,_,_,Z,Z,_,Z,g,_,Z,aI.of$ aq L n1,λs2 n2=>?_];have z3:=Jf (ys:=dm ss (some$ d2+1) none) λy d=>e y (z9 d);have z4:=XT ss (some$ d2+1) none;refine#[_,s2,dm ss (some$ d2+1) none,Z,Z,aI.of (by rw[jc,KH]),UN,UO,?_];have j2:=Jg (z:="") (ys:=dm ss (some$ d2+1) none) UQ λy d=>e y (z9 d);refine#[_,_,Z,Z,by rw[oA];omega,?_];exact t _ _ #[_,#[by show(Txt.join ("":Str) (dm ss none$ some d2)++(#[(List.toArray [c])]:Str)++Txt.join ("":Str) (dm ss (some$ d2+1) none)).length<=13;rw[oA,oA];omega,Z],Z,aq (aq L n1) n2,aq (aq Y n1) n2,(B'.upd_new n1).upd_new n2,(k'.upd_new n1).upd_new n2]
  obtain⟨w1,⟨c2,z1⟩,rfl,g1,r1,U,k1⟩:=b;refine a _ _ ?_;clear a;refine gj λG a=>dZ (Rw p g r n d1 d2 W I i c ss ys H 14 (λw=>w=pre ss d2++#[(List.toArray [c])]++gm ss d2∨w=pre ss d2++#[(List.toArray [c])]++gm ss d2++"z")) (λE2 _ t=>?_) λO H2 b=>?_
  ·clear a fE;refine#[_,Z,Z,_,Z,?_];refine fe (λS=>?_) (λS=>?_)
   ·refine#[_,Z,_,_,Z,Z,(by show(0:Int) < 2;decide),Z,_,Z,?_];refine fe (λcb=>?_) (λcb=>?_)
    ·have hz:(Str.ofString "z").length=1:=by decide+kernel
     refine#[_,Z,_,_,Z,Z,by rw[hz];omega,?_];exact t _ _ #[_,#[by rw[oA,hz];omega,.inr (by rw[z1])],Z,g1,r1,U,k1]
    ·exact t _ _ #[w1,#[UO,.inl z1],Z,g1,r1,U,k1]
   ·exact uA$ t _ _ #[w1,#[UO,.inl z1],Z,g1,r1,U,k1]
  obtain⟨w2,⟨c3,z2⟩,rfl,g2,r2,B2,k2⟩:=b;refine a _ _ ?_;clear a;refine gj λG a=>dZ (Rw p g r n d1 d2 W I i c ss ys H 14 (λw=>if I=2 then ∃R:Str,w=R++#[(List.toArray [c])] else w=pre ss d2++#[(List.toArray [c])]++gm ss d2∨w=pre ss d2++#[(List.toArray [c])]++gm ss d2++"z")) (λE2 _ t=>?_) λO H3 b=>?_
  ·clear a fE;refine#[_,Z,Z,_,Z,?_];refine fe (λS=>?_) (λS=>?_)
   ·refine#[Z,_,Z,p,8,Z,B2,UN,UN,λd6 H6 d0 d3 B6 e6=>?_];refine#[_,Z,UO,UO,?_];refine Jw (p:=p) UO B6 λtt H7 c4 h3 B7 e7 g7 n7=>?_;have jt:=Jg (z:="") (ys:=tt) UQ h3;have zt:=Jf h3;refine#[_,g7,tt,Z,Z,aI.of jc,UN,UO,?_];refine#[_,Z,_,_,Z,Z,UO,?_];have g8:H7 g=some (.lst$ ss.map V.str):=by rw[e7 g v,e6 g v];exact g2
    have r8:H7 r=some (.lst$ ys.map V.str):=by rw[e7 r m,e6 r m];exact r2
    have e5:I=2:=by injection Nn S
    exact t _ _ #[_,#[by rw[oA];omega,(Mb e5).mpr #[_,Z]],Z,aq g8 n7,aq r8 n7,B7.upd_new n7,(k2.trans ((aP.of_eq e6).trans$ aP.of_eq e7)).upd_new n7]
   ·have e5:I≠2:=λz=>S (by rw[z];exact Mc Z);exact t _ _ #[w2,#[UO,(Mf e5).mpr z2],Z,g2,r2,B2,k2]
  obtain⟨w3,⟨c5,z3⟩,rfl,g3,r3,B3,k3⟩:=b;refine a _ _ ?_;clear a;refine gj λG a=>dZ (Rw p g r n d1 d2 W I i c ss ys H 14$ Sh (pre ss d2) (gm ss d2) I c) (λE2 _ t=>?_) λO H4 b=>?_
  ·clear a fE;refine#[_,Z,UN,λt0 N=>?_];refine#[t0,_,Z,.inr$ aB.of jc,Z,pT UR,_,Z,?_];refine fe (λS=>?_) (λS=>?_)
   ·have hq:(Str.ofString "qqqqqqq").length=7:=by decide+kernel
    refine#[_,Z,_,_,Z,Z,by rw[hq];omega,?_];exact t _ _ #[_,#[by rw[oA,hq];omega,II],Z,aq g3 N,aq r3 N,B3.upd_new N,k3.upd_new N]
   ·exact t _ _ #[w3,#[UO,IJ z3],Z,aq g3 N,aq r3 N,B3.upd_new N,k3.upd_new N]
  obtain⟨w4,⟨c6,z4⟩,rfl,g4,r4,B4,k4⟩:=b;refine a _ _ ?_;clear a;refine#[_,Z,.inl #[Z,_,aI.of r4],_,Z,r,_,_,Z,Z,r4,by rw[LU];omega,?_];refine fE _ _ #[_,_,_,ys++[w4],Z,by rw[ji h4];exact g4,by rw[jc,Mz];rfl,by rw[LS,h0];rfl,#[λy hm=>?_,λj y hj=>?_],B4.eq$ ji$ ME m,k4.upd_own X]
  ·rcases List.mem_append.mp hm with hm |hm
   ·exact d.1 y hm
   ·rw[List.mem_singleton.mp hm];omega
  ·by_cases h6:j < ys.length
   ·rw[OT h6]at hj;exact d.2 j y hj
   ·have lj:=(List.getElem?_eq_some_iff.mp hj).1;rw[LS,N0]at lj;have ej:j=ys.length:=by omega
    rw[ej,OQ$ LV _,Rb]at hj;injection hj with hj;rw[<- hj,ej,h0,<- h5];exact z4
 ·intro σ H' b;obtain⟨ok,oo,ow,ys,rfl,L,Y,h0,d,B',k'⟩:=b;have h1:(ys.length:Int)=n:=by omega
  have f5:=yl (ss:=ss) (d1:=d1) (d2:=d2) UO UO UO;have j1:(pre ss d2).length<=_:=Jg (z:="") (ys:=dm ss none (some d2)) UQ λy d=>e y (z9 d);have j2:(gm ss d2).length<=_:=Jg (z:="") (ys:=dm ss (some$ d2+1) none) UQ λy d=>e y (z9 d);have nd:=wO UO UO d.2;have d:=d.1;refine a _ _ ?_;clear a;refine ah λF1 a=>dZ (Rf p r n H) (λE2 _ t=>?_) λO H1 b=>?_
  ·clear a;refine HN λG' g'=>#[_,Z,p,6,Z,B',UN,UN,λd6 H6 d0 d3 B6 e6=>#[Z,_,Z,g' _ _ ?_]];clear g';have r6:H6 r=some (.lst$ ys.map V.str):=by rw[e6 r m];exact Y
   have k6:aP p H H6:=k'.trans (aP.of_eq e6);refine fe (λS=>?_) (λS=>?_)
   ·refine gj λE3 f3=>#[UN,λt0 N=>f3 _ _ ?_];clear f3;have t1:t0≠p:=B6.ne N;refine gj λE4 f3=>#[_,Z,_,Z,p,13,Z,B6.upd_new N,UN,UN,λd7 H7 d' a0 B7 e7=>?_];have t7:H7 t0=some (.lst ((z30z:List Str).map V.str)):=((e7 t0 t1).trans jc).trans (Ng (λl=>some (HO.lst l)) UQ);have r7:H7 r=some (.lst$ ys.map V.str):=by rw[e7 r m];exact aq r6 N
    have k7:aP p H H7:=(k6.upd_new N).trans (aP.of_eq e7);obtain⟨od,h7,h'⟩:=Yy (ys:=(z30z:List Str)) d' (by simpa using a0);refine#[t0,_,_,_,Z,Z,aI.of t7,h',f3 _ _ ?_];clear f3;have a1:od.length<=20:=by
     have:∀y∈(z30z:List Str),y.length<=20:=by decide+kernel
     exact this od h7
    refine HN λG' g'=>#[_,Z,_,Z,r,_,Z,.inl$ aI.of r7,Z,QM _,_,Z,g' _ _ ?_];clear g';refine fe (λcb=>?_) (λcb=>?_)
    ·refine#[_,Z,_,Z,_,Z,_,Z,p,n,Z,B7,UO,UO,λd8 H8 a2 c9 B8 e8=>?_];have r8:H8 r=some (.lst$ ys.map V.str):=by rw[e8 r m];exact r7
     have k8:aP p H H8:=k7.trans (aP.of_eq e8);refine#[r,_,d8,d8.toNat,Z,Z,r8,?_,?_]
     ·unfold oe;rw[Mb a2,LU,Mb UO]
     refine t _ _ #[Z,ys.set d8.toNat od,by rw[jc,wM],by rw[Pt];exact h1,#[λy hm=>?_,rA nd$ yL (by have c0:(!oG (.str od) (ys.map V.str))=true:=cb;rw[SS]at c0;exact c0)],B8.eq$ ji$ ME m,k8.upd_own X];rcases List.mem_or_eq_of_mem_set hm with hm |hm
     ·exact d y hm
     ·rw[hm];exact a1
    ·exact t _ _ #[Z,ys,r7,h1,#[d,nd],B7,k7]
   ·exact t _ _ #[Z,ys,r6,h1,#[d,nd],B6,k6]
  obtain⟨a3,y0,r1,l1,y1,U,k1⟩:=b;refine a _ _ ?_;exact#[_,a3,q r y0 H1 X r1 l1 y1 U k1]
def ap(H h:Hp):Prop:=∀b x,H b=some (.tup x)->h b=some (.tup x)
theorem aa.tm(a:aa H c):ap H c:=λb x h=>a b _ h
theorem je{H:Hp}{o:HO}(n:H p=none):aa H (am H p o):=λb u e=>aq e n
theorem cX{b:Bool}{A B:Prop}(h:b=true)(x:A):if b=true then A else B:=by rw[Mb h];exact x
theorem aX{b:Bool}{A B:Prop}(h:b=false)(x:B):if b=true then A else B:=by rw[h,Mf Md];exact x
theorem aH:sizeLine=16777216:=by rw[NY]
theorem aG.same(B:aG H p)(s:aa H c):aG c p:=by obtain⟨a,b,d,e,f,h⟩:=B.ob;exact#[a,b,d,e,f,s _ _ h]
theorem aP.of_same(s:aa H h):aP p H h:=λb o _ e=>s _ _ e
theorem aP.tm(k:aP p H h)(B:aG H p):ap H h:=λb x e=>by obtain⟨a,c,_,_,_,f⟩:=B.ob;exact k b _ (jW e f (by intro w;cases w)) e
theorem aP.none(k:aP p H h)(B:aG h p)(n:h r=none):H r=none:=by
 cases z:H r with
 |none=>rfl
 |some o=>have:=k _ _ (B.ne n) z;rw[n]at this;cases this
theorem QN{K:Frag}{a:Addr}{xs:List V}{t:TE}{Q:List V->Hp->Prop}(u:xs.length<=sizeLine)(Pv:Nat->List V->Hp->Prop)(l:Pv 0 [] H)
  (n:∀i Y h,Pv i Y h->aI K h a xs/\Y.length<=i) (o:∀i x Y h,xs[i]?=some x->Pv i Y h->t (some x::d) h λy c=>Pv (i+1) (Y++[y]) c) (q:∀Y h,Pv xs.length Y h->Q Y h):
  eN (xQ K a) 1 d (aU 0) mH t Q H:=by
 refine#[λi m Y h=>m=xs.length - i/\i<=xs.length/\Pv i Y h,#[xs.length,UP,Ma _,l],?_];intro i m Y h f;obtain⟨rfl,z,p⟩:=f;obtain⟨g,A⟩:=n i Y h p;by_cases b:i < xs.length
 ·refine .inr #[#[xs,xs[i],g,LP b],UO,Pv$ i+1,λr c s=>#[xs.length - (i+1),UO,Z,b,s],λv c T j y=>?_];obtain⟨e,y⟩:=y;subst e;obtain⟨w,rfl⟩:=p8 j;exact#[#[[some _],Z,Z],o i v Y c (y xs g) p]
 ·have e:i=xs.length:=by omega
  subst e;exact .inl #[#[xs,g,LV _],q Y h p]
theorem QO{K:Frag}{xs:List V}{t:TE}{Q:List V->Hp->Prop}(u:xs.length<=sizeLine)(Pv:Nat->List V->Hp->Prop)(l:Pv 0 [] H)
  (n:∀i Y h,Pv i Y h->aB K h a xs/\Y.length<=i) (o:∀i x Y h,xs[i]?=some x->Pv i Y h->t (some x::d) h λy c=>Pv (i+1) (Y++[y]) c) (q:∀Y h,Pv xs.length Y h->Q Y h):
  eN (Be K a) 1 d (aU 0) mH t Q H:=by
 refine#[λi m Y h=>m=xs.length - i/\i<=xs.length/\Pv i Y h,#[xs.length,UP,Ma _,l],?_];intro i m Y h f;obtain⟨rfl,z,p⟩:=f;obtain⟨g,A⟩:=n i Y h p;by_cases b:i < xs.length
 ·refine .inr #[#[xs,xs[i],g,LP b],UO,Pv$ i+1,λr c s=>#[xs.length - (i+1),UO,Z,b,s],λv c T j y=>?_];obtain⟨e,y⟩:=y;subst e;obtain⟨w,rfl⟩:=p8 j;exact#[#[[some _],Z,Z],o i v Y c (y xs g) p]
 ·have e:i=xs.length:=by omega
  subst e;exact .inl #[#[xs,g,LV _],q Y h p]
noncomputable abbrev l9:Stmt:=bQ 60
inductive Tm where
 |num (n:Int) |var (x:Str) |op (i:Nat) (a b:Tm)
noncomputable def Tm.depth:Tm->Nat
 | .num _=>0
 | .var _=>0
 | .op _ a b=>max a.depth b.depth+1
noncomputable def IH:Str:="+-*/<="
noncomputable def IG(i:Nat):Str:=#[(List.toArray [IH.cps.toList.getD i 0])]
def Tm.Good(y:List Str):Tm->Prop
 | .num n=>0<=n/\n < 1000000000000000000
 | .var x=>x∈y
 | .op i a b=>i < 6/\a.Good y/\b.Good y
def cq(H:Hp):Tm->Addr->Prop
 | .num n,p=>H p=some (.tup [.str "num",.int n])
 | .var x,p=>H p=some (.tup [.str "var",.str x])
 | .op i a b,p=>∃q r,H p=some (.tup [.str "op",.str (IG i),.ref q,.ref r])/\cq H a q/\cq H b r
theorem cq.mono{H a:Hp}(h:∀b x,H b=some (.tup x)->a b=some (.tup x)):∀{t:Tm} {p:Addr},cq H t p->cq a t p
 | .num _,_,e=>h _ _ e
 | .var _,_,e=>h _ _ e
 | .op _ _ _,_,z=>by obtain⟨q,r,e,E,c⟩:=z;exact #[q,r,h _ _ e,cq.mono h E,cq.mono h c]
theorem cq.same(h:aa H a)(e:cq H t p):cq a t p:=e.mono λb x z=>h b _ z
inductive nD(c:List V)(H:Hp)(Q:VK)(a:XK):Prop
 |mk(p:Addr)(_:c=[.ref p])(_:aG H p)(_:∀(d:Int) (H':Hp),0<=d->d < 1000000000000000000->aG H' p->(∀b,b≠p->H' b=H b)->Q (.int d) H')
theorem sW{Y:List Str}(B:aG H p)(h:H g=some (.lst$ Y.map V.str)):g≠p:=by
 obtain⟨x,y,_,_,_,b⟩:=B.ob;refine jW h b λz=>?_;injection z with z
 match Y,z with
 |a::r,z=>injection z with c _;cases c
theorem wG:ai z4z z4z (ae l9):=bP
theorem rK(F:aQ K "_law_number" "_law_number" l9 f t)(C:Cl P w K mg base 1 I u z2z bN "_law_take"):af P w K mg base aE 2 f t z4z nD:=by
 refine F.ok wG (λv H Q E h=>?_) (λx A o s H v Q E a h=>?_)
 ·obtain⟨p,rfl,_⟩:=h;rfl
 obtain⟨p,rfl,B,q⟩:=h;refine#[_,(jd (jz (zW$ C.e a$ ja (pv 0)$ ja jf jb) (jg$ jp$ C.e a$ ja (pv 0)$ ja (jw Kv jf jf) jb) ju)$ jg$ jp$ C.e a$ ja (pv 0)$ ja jf jb),?_];refine#[_,Z,p,4,Z,B,UN,UN,λL M y G m r=>#[Z,_,Z,?_]];refine fe (λc=>?_) (λc=>?_)
 ·refine#[_,Z,_,_,Z,Z,#[UN,UN,UN],p,_,Z,m,UN,UN,λD g d i j k=>?_];have z:=pE;exact q D g d UO j λb n=>(k b n).trans (r b n)
 ·refine#[_,Z,p,9,Z,m,UN,UN,λD g d i j k=>?_];exact q D g d UO j λb n=>(k b n).trans (r b n)
end _K
namespace _K
open PySem PySem.Spec PyProof.Rows _L
variable {P:Program}{w:World}{K:Frag}{mg:Str->Option Value}{base:Heap}
noncomputable def Tm.vars:Tm->List Str
 | .num _=>[]
 | .var x=>[x]
 | .op _ a b=>a.vars++b.vars
theorem kP:∀{t:Tm},t.Good y->∀x∈t.vars,x∈y
 | .num _,_,_,h=>nomatch h
 | .var _,g,_,h=>by rw[List.mem_singleton.mp h];exact g
 | .op _ _ _,g,_,h=>(List.mem_append.mp h).elim (kP g.2.1 _) (kP g.2.2 _)
theorem kG:∀{l m:List Str},l.Nodup->(∀x∈l,x∈m)->l.length<=m.length
 | [],_,_,_=>Ma _
 |x::l,m,n,h=>by rw[Tj]at n;have H:=h x Mm;have q:=kG (l:=l) (m:=m.erase x) n.2 λy a=>(List.mem_erase_of_ne (λe=>n.1 (by rw[<- e];exact a))).mpr (h y$ Mt _ a);rw[List.length_erase_of_mem H]at q;have:0 < m.length:=List.length_pos_of_mem H;rw[Mu];omega
theorem KY:∀{l m:List Str},l.Nodup->m.Nodup->(∀x,x∈l↔x∈m)->l.Perm m
 | [],[],_,_,_=>.nil
 | [],y::m,_,_,h=>absurd ((h y).mpr Mm) UP
 |x::l,m,n,N,h=>by
  rw[Tj]at n;have a:x∈m:=(h x).mp Mm;refine(List.Perm.cons x$ KY n.2 (N.erase x) λy=>?_).trans (List.perm_cons_erase a).symm;rw[N.mem_erase_iff];constructor
  ·intro H;exact#[λe=>n.1 (by rw[<- e];exact H),(h y).mp$ Mt _ H]
  ·rintro ⟨b,H⟩;exact(List.mem_cons.mp ((h y).mpr H)).resolve_left b
theorem QP:∀{p:Str} {l:List Str},risingS p l=true->(p::l).Pairwise λa b=>a.cps.toList<=b.cps.toList
 |p,[],_=>by simp
 |p,x::r,h=>by
  have H:(!ltCps x.cps.toList p.cps.toList&&risingS x r)=true:=h;rw[M9]at H;have i:=QP H.2;have c:p.cps.toList<=x.cps.toList:=by have z:=H.1;rw[ltCps_eq]at z;simpa using z
  rw[List.pairwise_cons]at i ⊢;refine#[λy hy=>?_,List.pairwise_cons.mpr i];rcases List.mem_cons.mp hy with rfl |hy
  ·exact c
  ·exact List.le_trans c$ i.1 y hy
theorem QQ(h:sortedS l=true):l.Pairwise λa b=>a.cps.toList<=b.cps.toList:=by
 cases l with
 |nil=>exact .nil
 |cons x r=>exact QP h
theorem Ys{l:List Str}(p:l.Perm m)(h:sortedS l=true)(H:sortedS m=true):l=m:=by refine List.Perm.eq_of_pairwise (λa b _ _ x y=>?_) (QQ h) (QQ H) p;have e:=List.le_antisymm x y;cases a;cases b;exact Ng Str.mk$ Array.toList_inj.mp e
inductive Lf where
 |rd (x:Str) (t:Addr) (T:Tm)
 |st (x:Str) (t:Addr) (T:Tm)
 |wr (t u:Addr) (T U:Tm)
 |cl (x f:Str) (q:Addr) (ts:List (Addr×Tm))
 |gv (t:Addr) (T:Tm)
def Bf(H:Hp):Lf->List V->Prop
 | .rd x t T,v=>v=[.str "read",.str x,.ref t]/\cq H T t
 | .st x t T,v=>v=[.str "set",.str x,.ref t]/\cq H T t
 | .wr t u T U,v=>v=[.str "write",.ref t,.ref u]/\cq H T t/\cq H U u
 | .cl x f q a,v=>v=[.str "call",.str x,.str f,.ref q]/\H q=some (.tup (a.map λc=>V.ref c.1))/\∀c∈a,cq H c.2 c.1
 | .gv t T,v=>v=[.str "give",.ref t]/\cq H T t
theorem Bf.mono(k:ap H a)(h:Bf H l v):Bf a l v:=by
 cases l with
 |rd x t T |st x t T |gv t T=>exact#[h.1,h.2.mono k]
 |wr t u T U=>exact#[h.1,h.2.1.mono k,h.2.2.mono k]
 |cl x f q d=>exact#[h.1,k _ _ h.2.1,λc b=>(h.2.2 c b).mono k]
inductive Bd where
 |nil
 |lf (p:Addr) (l:Lf) (r:Bd)
 |ite (p t:Addr) (T:Tm) (a b r:Bd)
 |loop (p t:Addr) (T:Tm) (a r:Bd)
noncomputable def Bd.app:Bd->Bd->Bd
 | .nil,s=>s
 | .lf p l r,s=>.lf p l (r.app s)
 | .ite p t T a b r,s=>.ite p t T a b (r.app s)
 | .loop p t T a r,s=>.loop p t T a (r.app s)
noncomputable def Bd.size:Bd->Nat
 | .nil=>0
 | .lf _ _ r=>r.size+1
 | .ite _ _ _ a b r=>a.size+b.size+r.size+1
 | .loop _ _ _ a r=>a.size+r.size+1
noncomputable def Bd.dep:Bd->Nat
 | .nil=>0
 | .lf _ _ r=>r.dep
 | .ite _ _ _ a b r=>max (max a.dep b.dep+1) r.dep
 | .loop _ _ _ a r=>max (a.dep+1) r.dep
def eO(y:List Str)(T:Tm):Prop:=T.Good y/\T.depth < 6
def Lf.Ok(y:List Str):Lf->Prop
 | .rd x _ T=>x∈y/\eO y T
 | .st x _ T=>x∈y/\eO y T
 | .wr _ _ T U=>eO y T/\eO y U
 | .cl x _ _ t=>x∈y/\t.length<=6/\∀c∈t,eO y c.2
 | .gv _ T=>eO y T
def Bd.Ok(y:List Str):Bd->Prop
 | .nil=>True
 | .lf _ l r=>l.Ok y/\r.Ok y
 | .ite _ _ T a b r=>eO y T/\a.Ok y/\b.Ok y/\r.Ok y
 | .loop _ _ T a r=>eO y T/\a.Ok y/\r.Ok y
abbrev h8:=List (Str×Nat)
def Lf.Cs(F:h8):Lf->Prop
 | .cl _ f _ t=>(f,t.length)∈F
 |_=>True
def Bd.Cs(F:h8):Bd->Prop
 | .nil=>True
 | .lf _ l r=>l.Cs F/\r.Cs F
 | .ite _ _ _ a b r=>a.Cs F/\b.Cs F/\r.Cs F
 | .loop _ _ _ a r=>a.Cs F/\r.Cs F
theorem QZ{F:h8}:∀{a b:Bd},a.Cs F->b.Cs F->(a.app b).Cs F
 | .nil,_,_,h=>h
 | .lf _ _ _,_,h,k=>#[h.1,QZ h.2 k]
 | .ite _ _ _ _ _ _,_,h,k=>#[h.1,h.2.1,QZ h.2.2 k]
 | .loop _ _ _ _ _,_,h,k=>#[h.1,QZ h.2 k]
theorem kQ{F:h8}(k:∀f∈F,f∈G):∀{a:Bd},a.Cs F->a.Cs G
 | .nil,_=>trivial
 | .lf _ l _,h=>#[by cases l<;>first |exact k _ h.1 |trivial,kQ k h.2]
 | .ite _ _ _ _ _ _,h=>#[kQ k h.1,kQ k h.2.1,kQ k h.2.2]
 | .loop _ _ _ _ _,h=>#[kQ k h.1,kQ k h.2]
noncomputable def Lf.calls:Lf->h8
 | .cl _ f _ t=>[(f,t.length)]
 |_=>[]
noncomputable def Bd.calls:Bd->h8
 | .nil=>[]
 | .lf _ l r=>l.calls++r.calls
 | .ite _ _ _ a b r=>a.calls++(b.calls++r.calls)
 | .loop _ _ _ a r=>a.calls++r.calls
theorem zJ:∀b:Bd,b.Cs b.calls
 | .nil=>trivial
 | .lf _ l r=>#[by cases l<;>first |exact List.mem_append_left _ List.mem_cons_self |trivial,kQ (λ_ h=>List.mem_append_right _ h) (zJ r)]
 | .ite _ _ _ a b r=>#[kQ (λ_ h=>List.mem_append_left _ h) (zJ a),kQ (λ_ h=>List.mem_append_right _ (List.mem_append_left _ h)) (zJ b),kQ (λ_ h=>List.mem_append_right _ (List.mem_append_right _ h)) (zJ r)]
 | .loop _ _ _ a r=>#[kQ (λ_ h=>List.mem_append_left _ h) (zJ a),kQ (λ_ h=>List.mem_append_right _ h) (zJ r)]
theorem zK{F:h8}:∀{b:Bd},b.Cs F->∀f∈b.calls,f∈F
 | .nil,_,_,h=>nomatch h
 | .lf _ l r,k,f,h=>(List.mem_append.mp h).elim (λh=>by cases l<;>first | (rw[List.mem_singleton.mp h];exact k.1) |exact nomatch h) (zK k.2 f)
 | .ite _ _ _ a b r,k,f,h=>(List.mem_append.mp h).elim (zK k.1 f) λh=>(List.mem_append.mp h).elim (zK k.2.1 f) (zK k.2.2 f)
 | .loop _ _ _ a r,k,f,h=>(List.mem_append.mp h).elim (zK k.1 f) (zK k.2 f)
theorem ky:∀(a b:Bd),(a.app b).size=a.size+b.size
 | .nil,b=>by show b.size=0+b.size;omega
 | .lf _ _ r,b=>by have:=ky r b;show(r.app b).size+1=r.size+1+b.size;omega
 | .ite _ _ _ x y r,b=>by have:=ky r b;show x.size+y.size+(r.app b).size+1=x.size+y.size+r.size+1+b.size;omega
 | .loop _ _ _ x r,b=>by have:=ky r b;show x.size+(r.app b).size+1=x.size+r.size+1+b.size;omega
theorem zP:∀(a b:Bd),(a.app b).dep=max a.dep b.dep
 | .nil,b=>(Nat.zero_max b.dep).symm
 | .lf _ _ r,b=>zP r b
 | .ite _ _ _ x y r,b=>by show max _ (r.app b).dep=max (max _ r.dep) b.dep;rw[zP r b,TU]
 | .loop _ _ _ x r,b=>by show max _ (r.app b).dep=max (max _ r.dep) b.dep;rw[zP r b,TU]
theorem Q0:∀{a b:Bd},a.Ok y->b.Ok y->(a.app b).Ok y
 | .nil,_,_,h=>h
 | .lf _ _ _,_,g,h=>#[g.1,Q0 g.2 h]
 | .ite _ _ _ _ _ _,_,g,h=>#[g.1,g.2.1,g.2.2.1,Q0 g.2.2.2 h]
 | .loop _ _ _ _ _,_,g,h=>#[g.1,g.2.1,Q0 g.2.2 h]
def em(H:Hp):Bd->List V->Prop
 | .nil,x=>x=[]
 | .lf p l r,x=>∃v y,x= .ref p::y/\H p=some (.tup v)/\Bf H l v/\em H r y
 | .ite p t T a b r,x=>∃q Q A B y,x= .ref p::y/\H p=some (.tup [.str "if",.ref t,.ref q,.ref Q])/\cq H T t/\H q=some (.tup A)/\H Q=some (.tup B)/\em H a A/\em H b B/\em H r y
 | .loop p t T a r,x=>∃q A y,x= .ref p::y/\H p=some (.tup [.str "while",.ref t,.ref q])/\cq H T t/\H q=some (.tup A)/\em H a A/\em H r y
theorem em.mono(k:ap H m):∀{x:List V},em H a x->em m a x:=by
 induction a with
 |nil=>exactλh=>h
 |lf p l r n=>rintro x ⟨v,y,e,c,d,f⟩;exact#[v,y,e,k _ _ c,d.mono k,n f]
 |ite p t T a b r i o I=>rintro x ⟨q,Q,A,B,y,e,c,g,d,f,j,s,u⟩;exact#[q,Q,A,B,y,e,k _ _ c,g.mono k,k _ _ d,k _ _ f,i j,o s,I u]
 |loop p t T a r i I=>rintro x ⟨q,A,y,e,c,g,d,f,j⟩;exact#[q,A,y,e,k _ _ c,g.mono k,k _ _ d,i f,I j]
theorem em.app(k:em H b y):∀{x:List V},em H a x->em H (a.app b) (x++y):=by
 induction a with
 |nil=>intro x h;have e:x=[]:=h;rw[e];exact k
 |lf p l r I=>rintro x ⟨v,z,e,c,d,f⟩;exact#[v,z++y,by rw[e];rfl,c,d,I f]
 |ite p t T a b r _ _ i=>rintro x ⟨q,Q,A,B,z,e,c,g,d,f,j,m,n⟩;exact#[q,Q,A,B,z++y,by rw[e];rfl,c,g,d,f,j,m,i n]
 |loop p t T a r _ i=>rintro x ⟨q,A,z,e,c,g,d,f,j⟩;exact#[q,A,z++y,by rw[e];rfl,c,g,d,f,i j]
theorem em.len{a:Bd}:∀{xs:List V},em H a xs->xs.length<=a.size:=by
 induction a with
 |nil=>intro xs h;have e:xs=[]:=h;rw[e];exact LV 0
 |lf p l r I=>rintro xs ⟨v,y,e,d,f,c⟩;rw[e];exact Nq (I c)
 |ite p t T a b r _ _ i=>rintro xs ⟨q,Q,A,B,y,e,d,j,f,c,g,m,k⟩;rw[e];exact Nq (Mg (i k) (Tt _ _))
 |loop p t T a r _ i=>rintro xs ⟨q,A,y,e,d,j,f,c,g⟩;rw[e];exact Nq (Mg (i g) (Tt _ _))
inductive io(H:Hp):V->Bd->Prop
 |lf (p:Addr) (l:Lf) (vs:List V) (h1:H p=some (.tup vs)) (h2:Bf H l vs):io H (.ref p) (.lf p l .nil)
 |ite (p t:Addr) (T:Tm) (a b:Bd) (qa qb:Addr) (as bs:List V) (h1:H p=some (.tup [.str "if",.ref t,.ref qa,.ref qb])) (h0:cq H T t) (h2:H qa=some (.tup as)) (h3:H qb=some (.tup bs)) (h4:em H a as) (h5:em H b bs):io H (.ref p) (.ite p t T a b .nil)
 |loop (p t:Addr) (T:Tm) (a:Bd) (qa:Addr) (as:List V) (h1:H p=some (.tup [.str "while",.ref t,.ref qa])) (h0:cq H T t) (h2:H qa=some (.tup as)) (h3:em H a as):io H (.ref p) (.loop p t T a .nil)
theorem io.bd(h:io H v s):em H s [v]:=by
 cases h with
 |lf p l V c d=>exact#[V,[],Z,c,d,Z]
 |ite p t T a b q Q A B c e d f g i=>exact#[q,Q,A,B,[],Z,c,e,d,f,g,i,Z]
 |loop p t T a q A c e d f=>exact#[q,A,[],Z,c,e,d,f,Z]
theorem io.mono(k:ap H g)(h:io H v s):io g v s:=by
 cases h with
 |lf p l V c d=>exact .lf p l V (k _ _ c) (d.mono k)
 |ite p t T a b q Q A B c e d f i j=>exact .ite p t T a b q Q A B (k _ _ c) (e.mono k) (k _ _ d) (k _ _ f) (i.mono k) (j.mono k)
 |loop p t T a q A c e d f=>exact .loop p t T a q A (k _ _ c) (e.mono k) (k _ _ d) (f.mono k)
theorem em.last:∀{x:List V},em H a x->x=[]/\a= .nil∨∃z v b s,x=z++[v]/\a=b.app s/\em H b z/\io H v s:=by
 induction a with
 |nil=>exactλh=>.inl #[h,Z]
 |lf p l r i=>
  rintro x ⟨u,y,e,f,g,n⟩;rcases i n with ⟨E,d⟩ | ⟨z,v,b,s,E,d,j,k⟩
  ·exact .inr #[[],.ref p,.nil,.lf p l .nil,by rw[e,E];rfl,by rw[d];rfl,Z,.lf p l u f g]
  ·exact .inr #[.ref p::z,v,.lf p l b,s,by rw[e,E];rfl,by rw[d];rfl,#[u,z,Z,f,g,j],k]
 |ite p t T a b r _ _ i=>
  rintro x ⟨q,Q,A,B,y,e,f,m,g,n,G,C,o⟩;rcases i o with ⟨E,d⟩ | ⟨z,v,c,s,E,d,j,k⟩
  ·exact .inr #[[],.ref p,.nil,.ite p t T a b .nil,by rw[e,E];rfl,by rw[d];rfl,Z,.ite p t T a b q Q A B f m g n G C]
  ·exact .inr #[.ref p::z,v,.ite p t T a b c,s,by rw[e,E];rfl,by rw[d];rfl,#[q,Q,A,B,z,Z,f,m,g,n,G,C,j],k]
 |loop p t T a r _ i=>
  rintro x ⟨q,A,y,e,f,m,g,G,o⟩;rcases i o with ⟨E,d⟩ | ⟨z,v,c,s,E,d,j,k⟩
  ·exact .inr #[[],.ref p,.nil,.loop p t T a .nil,by rw[e,E];rfl,by rw[d];rfl,Z,.loop p t T a q A f m g G]
  ·exact .inr #[.ref p::z,v,.loop p t T a c,s,by rw[e,E];rfl,by rw[d];rfl,#[q,A,z,Z,f,m,g,G,j],k]
theorem zT:∀{a b:Bd},(a.app b).Ok y->a.Ok y/\b.Ok y
 | .nil,_,h=>#[trivial,h]
 | .lf _ _ _,_,h=>#[#[h.1,(zT h.2).1],(zT h.2).2]
 | .ite _ _ _ _ _ _,_,h=>#[#[h.1,h.2.1,h.2.2.1,(zT h.2.2.2).1],(zT h.2.2.2).2]
 | .loop _ _ _ _ _,_,h=>#[#[h.1,h.2.1,(zT h.2.2).1],(zT h.2.2).2]
structure Nm(ss:List Str)(M:Str->Prop):Prop where
 nd:ss.Nodup
 so:sortedS ss=true
 mem:∀x,x∈ss↔M x
theorem Nm.uniq(h:Nm a M)(g:Nm s M):a=s:=Ys (KY h.nd g.nd λx=>(h.mem x).trans (g.mem x).symm) h.so g.so
open Classical in
noncomputable def canon(M:Str->Prop):List Str:=if h:∃s,Nm s M then Classical.choose h else []
theorem Nm.canon(h:Nm s M):s=canon M:=by have e:∃s,Nm s M:=#[s,h];unfold _K.canon;rw[dif_pos e];exact h.uniq$ Classical.choose_spec e
theorem Nm.len{s y:List Str}{M:Str->Prop}(h:Nm s M)(H:∀x,M x->x∈y):s.length<=y.length:=kG h.nd λx a=>H x ((h.mem x).mp a)
def Lf.use(M:Str->Prop):Lf->Str->Prop
 | .rd x _ T,y=>(M y/\y≠x)∨y∈T.vars
 | .st x _ T,y=>(M y/\y≠x)∨y∈T.vars
 | .wr _ _ T U,y=>M y∨y∈T.vars∨y∈U.vars
 | .cl x _ _ t,y=>(M y/\y≠x)∨∃c∈t,y∈c.2.vars
 | .gv _ T,y=>y∈T.vars
def Bd.use:Bd->(Str->Prop)->Str->Prop
 | .nil,M=>M
 | .lf _ l r,M=>l.use (r.use M)
 | .ite _ _ T a b r,M=>λy=>(a.use (r.use M) y∨b.use (r.use M) y)∨y∈T.vars
 | .loop _ _ T a r,M=>λy=>(a.use (λ_=>False) y∨r.use M y)∨y∈T.vars
theorem J9:∀(a b:Bd) (M:Str->Prop),(a.app b).use M=a.use (b.use M)
 | .nil,_,_=>rfl
 | .lf _ l r,b,M=>by show l.use ((r.app b).use M)=l.use (r.use (b.use M));rw[J9 r b M]
 | .ite _ _ T x y r,b,M=>by show(λz=>(x.use ((r.app b).use M) z∨y.use ((r.app b).use M) z)∨z∈T.vars)=λz=>(x.use (r.use (b.use M)) z∨y.use (r.use (b.use M)) z)∨z∈T.vars;rw[J9 r b M]
 | .loop _ _ T x r,b,M=>by show(λz=>(x.use (λ_=>False) z∨(r.app b).use M z)∨z∈T.vars)=λz=>(x.use (λ_=>False) z∨r.use (b.use M) z)∨z∈T.vars;rw[J9 r b M]
theorem Lf.use_in{M:Str->Prop}{l:Lf}(h:l.Ok Y)(a:∀x,M x->x∈Y):∀y,l.use M y->y∈Y:=by
 intro y H;cases l with
 |rd x t T |st x t T=>exact H.elim (λz=>a y z.1) (kP h.2.1 y)
 |wr t u T U=>exact H.elim (a y) λz=>z.elim (kP h.1.1 y) (kP h.2.1 y)
 |cl x f q d=>exact H.elim (λz=>a y z.1) λ#[c,b,z]=>kP (h.2.2 c b).1 y z
 |gv t T=>exact kP h.1 y H
theorem Bd.use_in:∀{b:Bd} {M:Str->Prop},b.Ok Y->(∀x,M x->x∈Y)->∀y,b.use M y->y∈Y
 | .nil,_,_,H,y,c=>H y c
 | .lf _ l r,_,h,H,y,c=>Lf.use_in h.1 (Bd.use_in h.2 H) y c
 | .ite _ _ T a b r,_,h,H,y,c=>c.elim (λz=>z.elim (Bd.use_in h.2.1 (Bd.use_in h.2.2.2 H) y) (Bd.use_in h.2.2.1 (Bd.use_in h.2.2.2 H) y)) (kP h.1.1 y)
 | .loop _ _ T a r,_,h,H,y,c=>c.elim (λz=>z.elim (Bd.use_in h.2.1 (λ_ w=>w.elim) y) (Bd.use_in h.2.2 H y)) (kP h.1.1 y)
end _K
namespace _K
open PySem PySem.Spec PyProof.Rows _L
variable {P:Program}{w:World}{K:Frag}{mg:Str->Option Value}{base:Heap}
noncomputable abbrev eV:Stmt:=bQ 14
noncomputable abbrev D8:Stmt:=bQ 39
noncomputable abbrev wq:Stmt:=bQ 40
noncomputable abbrev AD:Stmt:=bQ 41
noncomputable abbrev AC:Stmt:=bQ 42
inductive dC(n:Nat)(c:List V)(H:Hp)(Q:VK)(b:XK):Prop
 |mk(a:Addr)(T:Tm)(d:List Str)(_:c=[.ref a])(_:cq H T a)(_:T.depth < n)(_:T.Good d)(_:d.length<=21)(_:∀(r:Addr) (ss:List Str) (H':Hp),H r=none->H' r=some (.lst (ss.map V.str))->ss.Nodup->(∀x,x∈ss↔x∈T.vars)->sortedS ss=true->aa H H'->Q (.ref r) H')
theorem wF:ai z0z z0z (ae eV):=bP
theorem yX{f:Addr}{o:FuncData}(F:aQ K "names_in" "names_in" eV f o){n:Nat}(C:Cl P w K mg base (n+1) f o z0z (dC n) "names_in")(M:mg "set"=none)(p:mg "sorted"=none):af P w K mg base aE (n+2) f o z0z (dC$ n+1):=by
 refine F.ok wF (λvs H Q E h=>?_) (λc0 A O s H vs Q E v h=>?_)
 ·obtain⟨a,T,Y,rfl,_⟩:=h;rfl
 obtain⟨a,T,Y,rfl,t,dp,g,j,q⟩:=h;refine#[_,(jd (jz (ki$ jy$ pv 0) (jg$ jp$ jG jb) ju)$ jd (jz (ki$ jy$ pv 0) (jg$ jp$ jG$ ja (jy$ pv 0) jb) ju)$ jg$ jp$ jR (qv Z) Z p P8$ ja (jN (q9 Z) Z M UG$ ja (jw qi (C.e v$ ja (jy$ pv 0) jb)$ C.e v$ ja (jy$ pv 0) jb) jb) jb),?_];cases T with
 |num m=>have b:H a=some (.tup [.str "num",.int m]):=t;refine(jv b Z #[Z,_,Z,cX UQ ?_]);exact#[UN,λr N=>q r [] _ N jc PL (λx=>Rg) Z (je N)]
 |var x=>have b:H a=some (.tup [.str "var",.str x]):=t;refine(jv b Z #[Z,_,Z,aX UQ ?_]);refine(jv b Z #[Z,_,Z,cX UQ ?_]);exact(jv b Z #[iE,λr N=>q r [x] _ N jc UP (λy=>Rg) Z (je N)])
 |op i B D=>obtain⟨p1,p2,b,h1,h2⟩:=t;have d0:max B.depth D.depth+1 < n+1:=dp;refine(jv b Z #[Z,_,Z,aX UQ ?_]);refine(jv b Z #[Z,_,Z,aX UQ ?_]);refine(jv b Z #[p1,B,Y,Z,h1,UO,g.2.1,j,λr1 S H1 n1 e1 d1 G o1 u=>?_]);refine(jv (u _ _ b) Z #[p2,D,Y,Z,h2.same u,UO,g.2.2,j,λr2 k H2 n2 e2 d2 I o2 J=>?_]);have l1:S.length<=21:=Mg (kG d1 λx d=>kP g.2.1 x ((G x).mp d)) j;have l2:k.length<=21:=Mg (kG d2 λx d=>kP g.2.2 x ((I x).mp d)) j;have b0:=zZ;refine#[r1,r2,_,_,Z,Z,J _ _ e1,e2,(by rw[LU,LU];omega),λc nc=>?_];refine#[c,S++k,Z,aI.of (by rw[jc,Mz]),(λL nd hs=>Nj (Nq$ kG nd hs) (by rw[LS];show S.length+k.length+1 < 4096;omega)),λl L nl dL R=>?_];have lL:=kG dL λx d=>(R x).mp d;rw[LS]at lL;refine#[l,L,Z,jc,UO,λz ss U W dz oz=>?_];have X:aa H (am (am H2 c$ .lst$ S.map V.str++k.map V.str) l$ Hw P w l L):=(u.trans J).trans ((je nc).trans$ je nl);refine q z ss _ (X.free U) jc (W.nodup_iff.mpr dz) (λx=>?_) oz$ X.trans$ je U;rw[W.mem_iff,R x,NF,G x,I x];exact List.mem_append.symm
theorem yK:af P w K mg base aE 1 f d z0z (dC 0):=by
 have n:∀v H Q E,¬dC 0 v H Q E:=λv H Q E h=>by obtain⟨a,T,y,_,_,c,_⟩:=h;exact absurd c$ Pw _
 exact#[λv H Q E h=>absurd h (n v H Q E),λA o s H b u v Q E _ _ _ _ h=>absurd h (n v H Q E)]
theorem BD(F:aQ K "names_in" "names_in" eV f a)(b:aD K a z0z [])(c:mg "names_in"=some (.ref f))(m:mg "set"=none)(M:mg "sorted"=none):
  ∀n:Nat,af P w K mg base aE (n+1) f a z0z (dC n)
 |0=>yK
 |n+1=>yX F #[(BD F b c m M n),b,F.kp,c] m M
noncomputable def Lf.own:Lf->List (Addr×Tm)
 | .rd _ t T=>[(t,T)]
 | .st _ t T=>[(t,T)]
 | .wr t u T U=>[(t,T),(u,U)]
 | .cl _ _ _ a=>a
 | .gv t T=>[(t,T)]
noncomputable def Bd.own:Bd->List (Addr×Tm)
 | .nil=>[]
 | .lf _ l _=>l.own
 | .ite _ t T _ _ _=>[(t,T)]
 | .loop _ t T _ _=>[(t,T)]
noncomputable def rT(c:Addr×Tm):V:=.ref c.1
inductive nE(b:List V)(H:Hp)(Q:VK)(a:XK):Prop
 |mk(v:V)(s:Bd)(_:b=[v])(_:io H v s)(_:∀(r:Addr) (H':Hp),H' r=some (.tup (s.own.map rT))->aa H H'->Q (.ref r) H')
theorem ZD:bZ (a::b::r) (some 1) (some 2)=[b]:=by
 unfold bZ;have e:(1:Int)=((1:Nat):Int):=rfl;have E:(2:Int)=((2:Nat):Int):=rfl;rw[E,e,HT.sIx_nat,HT.sIx_nat,Mu,Mu];have c:min 1 (r.length+1+1)=1:=by omega
 have d:min 2 (r.length+1+1) - 1=1:=by omega
 rw[c,d];rfl
theorem BN:ai ["statement","word"] z5z (ae D8):=bP
theorem Dw{f:Addr}{j:FuncData}(F:aQ K "own_terms" "own_terms" D8 f j):af P w K mg base aE 1 f j z5z nE:=by
 refine F.ok BN ?_ λC A o s H V Q E d h=>?_
 ·rintro _ _ _ _ ⟨v,s,rfl,_⟩;rfl
 obtain⟨v,st,rfl,m,q⟩:=h;refine#[_,(jd (jB 1 BN.nd$ jy$ pv 0)$ jd (jz (jE zB (pv 1) (jh$ ja jl$ ja jl jb) Z) (jg$ jp$ jJ j8 (pv 0) (jK jf) jT) ju)$ jd (jz (ki$ pv 1) (jg$ jp$ jJ j8 (pv 0) (jK jf) jT) ju)$ jd (jz (ki$ pv 1) (jg$ jp$ jy$ pv 0) ju)$ jg$ jp$ jJ j8 (pv 0) (jK jf)$ jK jf),?_];cases m with
 |lf p l V c g=>
  cases l with
  |rd x t T |st x t T=>obtain⟨rfl,i⟩:=g;refine(jv c Z #[_,Z,ci,λl n=>#[l,_,Z,.inr$ aB.of jc,Z,Z,_,Z,cX UQ ?_]]);exact#[_,Z,_,Z,p,_,Z,aq c n,λr e d s=>q r e d ((je n).trans s)]
  |wr t u T U=>obtain⟨rfl,i,L⟩:=g;refine(jv c Z #[_,Z,ci,λl n=>#[l,_,Z,.inr$ aB.of jc,Z,Z,_,Z,aX UQ ?_]]);refine#[_,Z,Z,_,Z,cX UQ ?_];exact#[_,Z,_,Z,p,_,Z,aq c n,λr e d s=>q r e d ((je n).trans s)]
  |cl x M y N=>obtain⟨rfl,z,i⟩:=g;refine(jv c Z #[_,Z,ci,λl n=>#[l,_,Z,.inr$ aB.of jc,Z,Z,_,Z,aX UQ ?_]]);refine#[_,Z,Z,_,Z,aX UQ ?_];refine#[_,Z,Z,_,Z,cX UQ ?_];exact(jv (aq c n) Z$ q y _ (aq z n)$ je n)
  |gv t T=>obtain⟨rfl,i⟩:=g;refine(jv c Z #[_,Z,ci,λl n=>#[l,_,Z,.inr$ aB.of jc,Z,Z,_,Z,aX UQ ?_]]);refine#[_,Z,Z,_,Z,aX UQ ?_];refine#[_,Z,Z,_,Z,aX UQ ?_];exact#[_,Z,_,Z,_,Z,p,_,Z,aq c n,λr e d s=>q r e (by rw[ZD]at d;exact d) ((je n).trans s)]
 |ite p t T a b B O D R c G g I S W |loop p t T a B D c G g I=>refine(jv c Z #[_,Z,ci,λl n=>#[l,_,Z,.inr$ aB.of jc,Z,Z,_,Z,aX UQ ?_]]);refine#[_,Z,Z,_,Z,aX UQ ?_];refine#[_,Z,Z,_,Z,aX UQ ?_];exact#[_,Z,_,Z,_,Z,p,_,Z,aq c n,λr e d s=>q r e (by rw[ZD]at d;exact d) ((je n).trans s)]
theorem KZ{K:Frag}{a:Addr}{Y:List Str}{t:TT}{T:TE}{q:List V->Hp->Prop}{b:_L.St}{H:Hp}(f:Str->Bool)(L:Y.length<=1000)(A:H a=some (.lst$ Y.map V.str))
  (B:∀y g (Q:Bool->Hp->Prop),y∈Y->aa H g->(∀j,aa g j->Q (f y) j)->t (some (.str y)::b) g Q)
  (C:∀y g (Q:VK),y∈Y->Q (.str y) g->T (some (.str y)::b) g Q) (D:∀c,aa H c->q ((Y.filter f).map V.str) c):eN (xQ K a) 1 b (aU 0) t T q H:=by
 have F:=zZ;refine#[λi m n c=>m=Y.length - i/\i<=Y.length/\n=((Y.take i).filter f).map V.str/\aa H c,#[Y.length,UP,Ma _,UP,aa.refl H],?_];rintro i m n c ⟨rfl,M,rfl,k⟩;have d:aI K c a (Y.map V.str):=aI.of (k _ _ A);by_cases h:i < Y.length
 ·have o:(Y.map V.str)[i]?=some (.str Y[i]):=by rw[Mp,LP h];rfl
  refine .inr #[#[_,_,d,o],?_,λz j=>z=((Y.take$ i+1).filter f).map V.str/\aa H j,λz j #[G,I]=>#[Y.length - (i+1),UO,Z,h,G,I],λv j N l y=>?_]
  ·rw[LU];have:=OB f (Y.take i);rw[Mw]at this;omega
  obtain⟨e,y⟩:=y;subst e;have p:=y _ d;rw[o]at p;cases p;obtain⟨w,rfl⟩:=p8 l;have r:Y[i]∈Y:=OE h;have s:Y.take (i+1)=Y.take i++[Y[i]]:=by rw[MW,LP h];rfl
  refine#[#[[some _],Z,Z],B Y[i] _ _ r k λJ u=>?_];cases x:f Y[i] with
  |true=>
   refine cX Z$ C Y[i] J _ r #[?_,k.trans u];rw[s,On,Mz];have E:[Y[i]].filter f=[Y[i]]:=by simp [x]
   rw[E];rfl
  |false=>
   refine aX Z #[?_,k.trans u];rw[s,On,Mz];have E:[Y[i]].filter f=[]:=by simp [x]
   rw[E];simp
 ·have e:i=Y.length:=by omega
  subst e;refine .inl #[#[_,d,UP],?_];rw[Pn$ LV _];exact D c k
def Lf.bt(M:Str->Prop):Lf->Str->Prop
 | .rd x _ _,y=>M y/\y≠x
 | .st x _ _,y=>M y/\y≠x
 | .wr _ _ _ _,y=>M y
 | .cl x _ _ _,y=>M y/\y≠x
 | .gv _ _,_=>False
def Bd.bt(M:Str->Prop):Bd->Str->Prop
 | .nil,y=>M y
 | .lf _ l _,y=>l.bt M y
 | .ite _ _ _ a b _,y=>a.use M y∨b.use M y
 | .loop _ _ _ a _,y=>a.use (λ_=>False) y∨M y
theorem xE(h:io H v s)(M:Str->Prop)(y:Str):s.use M y↔s.bt M y∨∃c∈s.own,y∈c.2.vars:=by
 cases h with
 |lf p l V _ _=>
  cases l with
  |rd x t T |st x t T=>exact#[λz=>z.elim .inl λw=>.inr #[_,List.mem_singleton.mpr Z,w],λz=>z.elim .inl λ#[c,hc,w]=>.inr (by rw[List.mem_singleton.mp hc]at w;exact w)]
  |wr t u T U=>
   refine#[λz=>z.elim .inl λw=>.inr (w.elim (λw=>#[_,Mm ..,w]) λw=>#[_,Mt _$ List.mem_singleton.mpr Z,w]),λz=>z.elim .inl λ#[c,hc,w]=>.inr ?_];rcases List.mem_cons.mp hc with e |hc
   ·rw[e]at w;exact .inl w
   ·rw[List.mem_singleton.mp hc]at w;exact .inr w
  |cl x f q d=>exact Rg
  |gv t T=>exact#[λw=>.inr #[_,List.mem_singleton.mpr Z,w],λz=>z.elim False.elim λ#[c,hc,w]=>by rw[List.mem_singleton.mp hc]at w;exact w]
 |ite p t T a b Q g A B _ _ _ _ _ _ |loop p t T a Q A _ _ _ _=>exact#[λz=>z.elim .inl λw=>.inr #[_,List.mem_singleton.mpr Z,w],λz=>z.elim .inl λ#[c,hc,w]=>.inr (by rw[List.mem_singleton.mp hc]at w;exact w)]
structure NL(H:Hp)(g:Addr)(ss:List Str)(M:Str->Prop)(ys:List Str):Prop where
 at':H g=some (.lst$ ss.map V.str)
 nm:Nm ss M
 sub:∀x,M x->x∈ys
 y20:ys.length<=21
theorem NL.len{H:Hp}{g:Addr}{s:List Str}{M:Str->Prop}{y:List Str}(h:NL H g s M y):s.length<=21:=Mg (h.nm.len h.sub) h.y20
theorem NL.same(h:NL H g a M y)(s:aa H b):NL b g a M y:=#[s _ _ h.at',h.nm,h.sub,h.y20]
structure NU(H:Hp)(g:Addr)(ss:List Str)(M:Str->Prop)(ys:List Str):Prop where
 at':H g=some (.lst$ ss.map V.str)
 nd:ss.Nodup
 mem:∀x,x∈ss↔M x
 sub:∀x,M x->x∈ys
 y20:ys.length<=21
theorem NL.nu(h:NL H g s M y):NU H g s M y:=#[h.at',h.nm.nd,h.nm.mem,h.sub,h.y20]
inductive wU(n:Nat)(c:List V)(H:Hp)(Q:VK)(a:XK):Prop
 |mk(v:V)(g:Addr)(s:Bd)(b:List Str)(M:Str->Prop)(d:List Str)(_:c=[v,.ref g])(_:io H v s)(_:NL H g b M d)(_:s.Ok d)(_:s.dep < n+1)(_:s.size<=10000000)(_:∀(r:Addr) (zs:List Str) (H':Hp),H' r=some (.lst (zs.map V.str))->(∀y,y∈zs↔s.bt M y)->zs.length<=50->aa H H'->Q (.ref r) H')
inductive gQ(n:Nat)(c:List V)(H:Hp)(Q:VK)(a:XK):Prop
 |mk(v:V)(g:Addr)(s:Bd)(b:List Str)(M:Str->Prop)(d:List Str)(_:c=[v,.ref g])(_:io H v s)(_:NL H g b M d)(_:s.Ok d)(_:s.dep < n+1)(_:s.size<=10000000)(_:∀(r:Addr) (zs:List Str) (H':Hp),H r=none->NL H' r zs (s.use M) d->aa H H'->Q (.ref r) H')
inductive iX(n:Nat)(e:List V)(H:Hp)(Q:VK)(c:XK):Prop
 |mk(a g:Addr)(b:Bd)(f:List V)(d:List Str)(M:Str->Prop)(h:List Str)(_:e=[.ref a,.ref g])(_:H a=some (.tup f))(_:em H b f)(_:NU H g d M h)(_:b.Ok h)(_:b.dep < n)(_:b.size<=10000000)(_:∀(r:Addr) (zs:List Str) (H':Hp),H r=none->NL H' r zs (b.use M) h->aa H H'->Q (.ref r) H')
theorem Nm.empty:Nm [] (λ_=>False):=#[PL,Z,λx=>#[λh=>absurd h Mx,False.elim]]
theorem BR:ai ["statement","behind","word"] z1z (ae wq):=bP
noncomputable def wL:Scope:=#[.function,[(".0",.local),("name",.local),("statement",.free)],false,false,[]]
theorem F':(["name","statement"]:List Str).Nodup:=by decide+kernel
theorem Fm:bh ["statement","behind","word"] (ae wq) wL ["name","statement"] 1 [0]:=pO
theorem ve{L n:Nat}(F:aQ K "used_behind_terms" "used_behind_terms" wq f fd)(J:Cl P w K mg base L fA f0 z14z (iX n) "used_ahead"):af P w K mg base aE (L+1) f fd z1z (wU n):=by
 refine F.ok BR ?_ λc0 A O s H vs Q E R h=>?_
 ·rintro _ _ _ _ ⟨v,g,s,G,M,Y,rfl,_⟩;rfl
 obtain⟨v,g,st,G,M,Y,rfl,hs,c,W,hd,hz,q⟩:=h;refine#[_,(jd (jB 2 BR.nd$ jy$ pv 0)$ jd (jz (jE zB (pv 2) (jh$ ja jl$ ja jl$ ja jl jb) Z) (jg$ jp$ @zO _ _ _ _ _ _ _ (["name","statement"]) (1) ([0]) _ _ _ _ Z (zr$ pv 1) Fm (λ_ _ _ _ _=>(jx (i:=0) F' Z$ Or.inl Z)) (λ_ _ _ _ _=>(@Kw _ _ _$ jE Xx (pv 0) (jo (r:=cw K) jH (pv 1) jf (λ_ _=>Z))$ aL _)) (λ_ _ _ _ _=>(pv 0)) (by intro _;rfl)) ju)$ jd (jz (ki$ pv 2) (jg$ jp$ jw qi (J.e R.m$ ja (jy$ pv 0)$ ja (pv 1) jb)$ J.e R.m$ ja (jy$ pv 0)$ ja (pv 1) jb) ju)$ jd (jz (ki$ pv 2) (jg$ jp$ jw qi (J.e R.m$ ja (jy$ pv 0)$ ja (jG jb) jb)$ pv 1) ju)$ jd (jz (ki$ pv 2) (jg$ jp$ jG jb) ju)$ jg$ jp$ pv 1),?_];have g0:=c.len;cases hs with
 |lf p l vs d B=>
  cases l with
  |rd x t T |st x t T=>
   obtain⟨rfl,X⟩:=B;refine(jv d Z #[_,Z,i8,λl N=>#[l,_,Z,.inr$ aB.of jc,Z,Z,_,Z,cX UQ ?_]]);have S:aa H (am H l$ .tup [.str "set",.str "read",.str "call"]):=je N;refine#[_,Z,g,Z,#[_,aI.of$ S _ _ c.at'],KZ (λy=>!decide (V.str y=V.str x)) UO (S _ _ c.at') (λy I Q' hy k C=>?_) (λy I Q' hy C=>#[_,Z,C]) λH' k r j=>?_]
   ·exact#[_,Z,jv (k _ _$ S _ _ d) Z #[Z,_,Z,C _$ aa.refl _]]
   ·refine q r _ _ jc (λy=>?_) (Mg (OB ..) UO) ((S.trans k).trans$ je j);rw[Tl,c.nm.mem y];exact and_congr_right λ_=>by simp
  |wr t u T U=>obtain⟨rfl,X,hU⟩:=B;refine(jv d Z #[_,Z,i8,λl N=>#[l,_,Z,.inr$ aB.of jc,Z,Z,_,Z,aX UQ ?_]]);refine#[_,Z,Z,_,Z,aX UQ ?_];refine#[_,Z,Z,_,Z,aX UQ ?_];refine#[_,Z,Z,_,Z,aX UQ ?_];exact#[_,Z,q g G _ (aq c.at' N) c.nm.mem UO$ je N]
  |cl x f' q' ts=>
   obtain⟨rfl,h',X⟩:=B;refine(jv d Z #[_,Z,i8,λl N=>#[l,_,Z,.inr$ aB.of jc,Z,Z,_,Z,cX UQ ?_]]);have S:aa H (am H l$ .tup [.str "set",.str "read",.str "call"]):=je N;refine#[_,Z,g,Z,#[_,aI.of$ S _ _ c.at'],KZ (λy=>!decide (V.str y=V.str x)) UO (S _ _ c.at') (λy I Q' hy k C=>?_) (λy I Q' hy C=>#[_,Z,C]) λH' k r j=>?_]
   ·exact#[_,Z,jv (k _ _$ S _ _ d) Z #[Z,_,Z,C _$ aa.refl _]]
   ·refine q r _ _ jc (λy=>?_) (Mg (OB ..) UO) ((S.trans k).trans$ je j);rw[Tl,c.nm.mem y];exact and_congr_right λ_=>by simp
  |gv t T=>obtain⟨rfl,X⟩:=B;refine(jv d Z #[_,Z,i8,λl N=>#[l,_,Z,.inr$ aB.of jc,Z,Z,_,Z,aX UQ ?_]]);refine#[_,Z,Z,_,Z,aX UQ ?_];refine#[_,Z,Z,_,Z,aX UQ ?_];refine#[_,Z,Z,_,Z,cX UQ ?_];exact#[fg,λr j=>q r [] _ jc (λy=>#[λh=>absurd h Mx,λh=>(show False from h).elim]) (Ma _) ((je N).trans$ je j)]
 |ite p t T a b qa qb as bs d h0 B h3 h4 h5=>refine(jv d Z #[_,Z,i8,λl N=>#[l,_,Z,.inr$ aB.of jc,Z,Z,_,Z,aX UQ ?_]]);refine#[_,Z,Z,_,Z,cX UQ ?_];have S:aa H (am H l$ .tup [.str "set",.str "read",.str "call"]):=je N;have h6:max (max a.dep b.dep+1) 0 < n+1:=hd;have h7:a.size+b.size+0+1<=10000000:=hz;refine(jv (S _ _ d) Z #[_,Z,qa,g,a,as,G,M,Y,Z,S _ _ B,h4.mono$ aa.tm S,(c.same S).nu,W.2.1,UO,UO,λr1 z1 I _ D k1=>?_]);have z:=S.trans k1;refine(jv (z _ _ d) Z #[_,Z,qb,g,b,bs,G,M,Y,Z,z _ _ h3,h5.mono$ aa.tm z,(c.same z).nu,W.2.2.1,UO,UO,λr2 z2 H2 _ n2 k2=>?_]);have l1:=D.len;have l2:=n2.len;have b0:=zZ;refine#[r1,r2,_,_,Z,Z,k2 _ _ D.at',n2.at',by rw[LU,LU];omega,λr j=>q r (z1++z2) _ (by rw[jc,Mz]) (λy=>?_) (by rw[LS];omega) ((z.trans k2).trans$ je j)];rw[NF,D.nm.mem y,n2.nm.mem y];exact Rg
 |loop p t T a qa as d h0 B h3=>refine(jv d Z #[_,Z,i8,λl N=>#[l,_,Z,.inr$ aB.of jc,Z,Z,_,Z,aX UQ ?_]]);refine#[_,Z,Z,_,Z,aX UQ ?_];refine#[_,Z,Z,_,Z,cX UQ ?_];have S:aa H (am H l$ .tup [.str "set",.str "read",.str "call"]):=je N;have h6:max (a.dep+1) 0 < n+1:=hd;have h7:a.size+0+1<=10000000:=hz;refine(jv (S _ _ d) Z #[fg,λe ne=>?_]);have z:=S.trans (je (o:=.lst []) ne);refine#[qa,e,a,as,[],λ_=>False,Y,Z,z _ _ B,h3.mono$ aa.tm z,(NL.nu #[jc,Nm.empty,λ_ w=>w.elim,c.y20]),W.2.1,UO,UO,λr1 z1 I _ D k1=>?_];have l1:=D.len;have s3:=z.trans k1;have b0:=zZ;refine#[_,Z,r1,g,_,_,Z,Z,D.at',s3 _ _ c.at',by rw[LU,LU];omega,λr j=>q r (z1++G) _ (by rw[jc,Mz]) (λy=>?_) (by rw[LS];omega) (s3.trans$ je j)];rw[NF,D.nm.mem y,c.nm.mem y];exact Rg
theorem DO(h:io H v s):∀c∈s.own,cq H c.2 c.1:=by
 cases h with
 |lf p l V _ d=>
  cases l with
  |rd x t T |st x t T |gv t T=>intro c hc;rw[List.mem_singleton.mp hc];exact d.2
  |wr t u T U=>
   intro c hc;rcases List.mem_cons.mp hc with e |hc
   ·rw[e];exact d.2.1
   ·rw[List.mem_singleton.mp hc];exact d.2.2
  |cl x f q i=>exact d.2.2
 |ite p t T a b Q j A B _ g _ _ _ _ |loop p t T a Q A _ g _ _=>intro c hc;rw[List.mem_singleton.mp hc];exact g
theorem DP(h:io H v s)(o:s.Ok y):s.own.length<=100/\∀c∈s.own,eO y c.2:=by
 have one:∀(t:Addr) (T:Tm),eO y T->[(t,T)].length<=100/\∀c∈[(t,T)],eO y c.2:=λt T h=>#[by show 1<=100;omega,λc hc=>by rw[List.mem_singleton.mp hc];exact h];cases h with
 |lf p l V _ g=>
  cases l with
  |rd x t T |st x t T=>exact one t T o.1.2
  |wr t u T U=>
   refine#[by show 2<=100;omega,λc hc=>?_];rcases List.mem_cons.mp hc with e |hc
   ·rw[e];exact o.1.1
   ·rw[List.mem_singleton.mp hc];exact o.1.2
  |cl x f q i=>exact#[Mg o.1.2.1 UN,o.1.2.2]
  |gv t T=>exact one t T o.1
 |ite p t T a b Q j A B _ d _ _ _ _ |loop p t T a Q A _ d _ _=>exact one t T o.1
theorem app_assoc:∀(a b c:Bd),(a.app b).app c=a.app (b.app c)
 | .nil,_,_=>rfl
 | .lf p l r,b,c=>by show Bd.lf p l ((r.app b).app c)=_;rw[app_assoc r b c];rfl
 | .ite p t T x y r,b,c=>by show Bd.ite p t T x y ((r.app b).app c)=_;rw[app_assoc r b c];rfl
 | .loop p t T x r,b,c=>by show Bd.loop p t T x ((r.app b).app c)=_;rw[app_assoc r b c];rfl
theorem app_nil:∀(a:Bd),a.app .nil=a
 | .nil=>rfl
 | .lf p l r=>by show Bd.lf p l (r.app .nil)=_;rw[app_nil r]
 | .ite p t T x y r=>by show Bd.ite p t T x y (r.app .nil)=_;rw[app_nil r]
 | .loop p t T x r=>by show Bd.loop p t T x (r.app .nil)=_;rw[app_nil r]
inductive OI(v:V)(g r k:Addr)(s:Bd)(M:Str->Prop)(b:Hp)(i:Nat)(n:_L.St)(a:Hp):Prop
 |mk(l:Option V)(m:List Str)(d:n=[some v,some (.ref g),some (.ref k),l])(e:a k=some (.lst (m.map V.str)))(f:∀y,y∈m↔s.bt M y∨∃c∈s.own.take i,y∈c.2.vars)(h:m.length<=50+21*i)(j:aP k b a)
theorem wI:ai ["statement","behind","names","term"] z1z (ae AD):=bP
theorem vf{L:Nat}(F:aQ K "used_ahead_of" "used_ahead_of" AD f fd)(cB:Cl P w K mg base (L+9) fB f0 z1z (wU n) "used_behind_terms")(cO:Cl P w K mg base 1 fO f2 z5z nE "own_terms")(cN:Cl P w K mg base 7 fN f3 z0z (dC 6) "names_in")(m0:mg "list"=none)(m2:mg "set"=none)(m3:mg "sorted"=none):af P w K mg base aE (L+10) f fd z1z (gQ n):=by
 refine F.ok wI ?_ λc0 A o1 s H vs Q E t h=>?_
 ·rintro _ _ _ _ ⟨v,g,s,ss,M,Y,rfl,_⟩;rfl
 obtain⟨v,g,st,ss,M,Y,rfl,j,u,U,hd,hz,q⟩:=h;refine#[_,(jd (jB 2 wI.nd$ jN Js Z m0 T3$ ja (cB.e t.m$ ja (pv 0)$ ja (pv 1) jb) jb)$ jd (kH MF Z (JC$ cO.e t.m$ ja (pv 0) jb) (jx (i:=3) wI.nd Z$ Or.inl Z)$ jg$ jF$ jZ L9 Nf Nc zC (pv 2)$ ja (cN.e t.m$ ja (pv 3) jb) jb)$ jg$ jp$ jR (qv Z) Z m3 P8$ ja (jN (q9 Z) Z m2 UG$ ja (pv 2) jb) jb),?_];refine ah λF1 C=>#[_,Z,_,Z,v,g,st,ss,M,Y,Z,j,u,U,hd,hz,λr1 G H1 e1 m1 l1 k1=>#[r1,_,Z,.inl$ aI.of e1,λN I=>C _ _ ?_]];clear C;have s2:aa H (am H1 N$ .lst$ G.map V.str):=k1.trans (je I);have J:=j.mono (aa.tm s2);obtain⟨o2,O⟩:=DP j U;have a:am H1 N (.lst$ G.map V.str) N=some (.lst$ G.map V.str):=jc;have h0:H N=none:=k1.free I;generalize am H1 N (.lst$ G.map V.str)=H2 at s2 J a;refine ah λF1 C=>?_;refine dW λF kF=>#[_,Z,v,st,Z,J,λr H3 t W=>#[r,Z,#[_,aB.of t],kF _ _ ?_]];clear kF;have r0:r≠N:=jW t (W _ _ a) (by intro z;cases z);have s3:=s2.trans W;have b0:=zZ;refine KG (K:=K) (xs:=st.own.map rT) (OI v g r N st M H3) #[_,G,Z,W _ _ a,λy=>?_,UO,aP.refl] (λi σ H' hi h=>?_) ?_ (λσ H' h=>C _ _ ?_)
 ·rw[m1 y];exact#[.inl,λz=>z.elim (λw=>w) λ#[c,p,_]=>absurd p Mx]
 ·obtain⟨_,_,_,_,_,_,k⟩:=h;exact aB.of$ k _ _ r0 t
 ·clear C;intro E _ i x σ H4 B fE Gq D h;obtain⟨o3,X,rfl,h1,R,h3,k4⟩:=h;rw[Mp]at B;cases p:st.own[i]? with
  |none=>rw[p]at B;cases B
  |some c=>
   rw[p]at B;cases B;refine D ?_;clear D;have cm:=Mr p;have hi:i < st.own.length:=by
    rcases Pp i st.own.length with z |z
    ·exact z
    ·rw[M4 z]at p;cases p
   have tm:ap H3 H4:=λb xs e=>k4 b _ (jW e (W _ _ a) (by intro z;cases z)) e;show nJ _ E [some v,some$ .ref g,some$ .ref N,some$ .ref c.1] H4;refine#[_,Z,.inl #[Z,_,aI.of h1],_,Z,c.1,c.2,Y,Z,((DO j c cm).mono$ aa.tm s3).mono tm,(O c cm).2,(O c cm).1,u.y20,λr5 s5 H5 n5 e5 d5 m5 o5 k5=>?_];have l5:s5.length<=21:=Mg (kG d5 λx B=>kP (O c cm).1 x ((m5 x).mp B)) u.y20;refine#[N,r5,_,_,Z,Z,k5 _ _ h1,e5,by rw[LU,LU];omega,fE _ _ #[_,X++s5,Z,by rw[jc,Mz],λy=>?_,by rw[LS];omega,λb o nb e=>?_]]
   ·rw[NF,R y,m5 y,MW,p];refine#[λz=>z.elim (λz=>z.elim .inl λ#[d,hd,w]=>.inr #[d,Nk _ hd,w]) λw=>.inr #[c,Mo _$ List.mem_singleton.mpr Z,w],λz=>z.elim (λw=>.inl (.inl w)) λ#[d,hd,w]=>?_];rcases List.mem_append.mp hd with hd |hd
    ·exact .inl$ .inr #[d,hd,w]
    ·have ed:d=c:=List.mem_singleton.mp hd;rw[ed]at w;exact .inr w
   ·rw[ji nb];exact k5 _ _$ k4 b o nb e
 ·obtain⟨o3,X,rfl,h1,R,h3,k4⟩:=h;clear C;rw[LU]at R h3;have s4:aa H H':=λb o e=>k4 b o (jk e h0) (s3 _ _ e);refine#[_,Z,N,X,Z,aI.of h1,(λL nd j=>Nj (Nq$ kG nd j) (by show X.length+1 < 4096;omega)),λl L S h4 hm=>?_];have sub:∀y∈L,y∈Y:=λy hy=>Bd.use_in U u.sub y ((xE j M y).mpr (by have:=(R y).mp ((hm y).mp hy);rwa [MN]at this));have lL:=Mg (kG h4 sub) u.y20;refine#[l,L,Z,jc,UO,λr' s0 T pm nd so=>?_];refine q r' s0 _ ((s4.trans$ je S).free T) #[jc,#[pm.nodup_iff.mpr nd,so,λy=>?_],Bd.use_in U u.sub,u.y20] ((s4.trans$ je S).trans$ je T);rw[pm.mem_iff,hm y,R y,xE j M y,MN]
theorem none_of(s:aa H h)(n:h r=none):H r=none:=by
 cases z:H r with
 |none=>rfl
 |some o=>have:=s _ _ z;rw[n]at this;cases this
inductive UI(a g:Addr)(b:Bd)(p:List V)(M:Str->Prop)(q:List Str)(H:Hp)(i:Nat)(s:_L.St)(d:Hp):Prop
 |mk(m:Addr)(o:Option V)(c n:Bd)(r:List Str)(e:s=[some (.ref a),some (.ref g),some (.ref m),o])(f:b=c.app n)(h:em H c (p.take (p.length - i)))(j:NL d m r (n.use M) q)(k:aa H d)(l:H m=none)
theorem oW:ai ["body","behind","names","statement"] z14z (ae AC):=bP
theorem DE{L:Nat}(F:aQ K "used_ahead" "used_ahead" AC f fd)(cU:Cl P w K mg base (L+10) fU f0 z1z (gQ n) "used_ahead_of")(J:mg "sorted"=none)(N:mg "reversed"=none):af P w K mg base aE (L+11) f fd z14z (iX$ n+1):=by
 refine F.ok oW ?_ λc0 A O s H vs Q E hr h=>?_
 ·rintro _ _ _ _ ⟨a,g,b,xs,R,M,Y,rfl,_⟩;rfl
 obtain⟨a,g,b,xs,R,M,Y,rfl,ha,hb,d,ho,hd,hz,q⟩:=h;refine#[_,(jd (jB 2 oW.nd$ jR Xq Z J P8$ ja (pv 1) jb)$ jd (kH MF Z (@vA _ _ _ _ _ _ _ Z N Sl (pv 0) UN UN UR UR) (jx (i:=3) oW.nd Z$ Or.inl Z)$ jg$ jB 2 oW.nd$ cU.e hr.m$ ja (pv 3)$ ja (pv 2) jb)$ jg$ jp$ pv 2),?_];have g0:R.length<=21:=Mg (kG d.nd λx o=>d.sub x ((d.mem x).mp o)) d.y20;have b0:=aH;refine ah λF1 t=>#[_,Z,g,R,Z,aI.of d.at',UO,λl c nl pm so=>t _ _ ?_];clear t;have T:Nm c M:=#[pm.nodup_iff.mpr d.nd,so,λx=>pm.mem_iff.trans (d.mem x)];have U:aa H (am H l$ .lst$ c.map V.str):=je nl;have u:NL (am H l$ .lst$ c.map V.str) l c M Y:=#[jc,T,d.sub,d.y20];generalize am H l (.lst$ c.map V.str)=H1 at U u;have xl:=hb.len;refine ah λF1 t=>?_;refine dW λF kF=>#[_,Z,a,xs,Z,aB.of$ U _ _ ha,kF _ _ ?_];clear kF;refine XO (K:=K) (xs:=xs) (UI a g b xs M Y H) #[l,_,b,.nil,c,Z,(app_nil b).symm,by rw[Po,MN];exact hb,u,U,nl] (λi σ H' hi h=>?_) ?_ (λσ H' h=>t _ _ ?_)
 ·obtain⟨_,_,_,_,_,_,_,_,_,k,_⟩:=h;exact aB.of$ k _ _ ha
 ·clear t;intro E _ i x σ H2 o fE Gq p h;obtain⟨I,o3,pre,gm,W,rfl,j,y,X,B,n2⟩:=h;have hi:i < xs.length:=by
   rcases Pp i xs.length with z |z
   ·exact z
   ·rw[M4 (by simpa using z)]at o;cases o
  rw[OD hi]at o;have et:xs.take (xs.length - i)=xs.take (xs.length - (i+1))++[x]:=by
   have C:xs.length - i=(xs.length - 1 - i)+1:=by omega
   have e2:xs.length - (i+1)=xs.length - 1 - i:=by omega
   rw[C,e2,MW,o];rfl
  rw[et]at y;rcases y.last with ⟨e,_⟩ | ⟨ws,v,D,S,C,e2,h4,h5⟩
  ·exact absurd e UP
  obtain⟨ew,ev⟩:=Ta C Z;cases ev;subst e2;have h0:=zT (j▸ho);have G:=zT h0.1;have a1:b.dep=max (D.app S).dep gm.dep:=by rw[j,zP]
  have a2:(D.app S).dep=max D.dep S.dep:=zP ..;have h6:S.dep<=b.dep:=by rw[a1,a2];exact Mg (Ob ..)$ Ol ..
  clear a1 a2;have h7:S.size<=b.size:=by rw[j,ky,ky];omega
  refine p ?_;clear p;show dP _ _ E [some$ .ref a,some$ .ref g,some$ .ref I,some x] H2;refine#[_,Z,_,Z,x,I,S,W,gm.use M,Y,Z,h5.mono$ aa.tm B,X,G.2,UO,UO,λr z H3 nr n3 k3=>fE _ _ #[r,_,D,S.app gm,z,Z,by rw[j,app_assoc],?_,by rw[J9];exact n3,B.trans k3,none_of B nr]];rw[ew];exact h4
 ·obtain⟨I,o3,pre,gm,W,rfl,j,y,X,B,n2⟩:=h;rw[Rb]at y;have ep:pre= .nil:=by
   rcases y.last with ⟨_,e⟩ | ⟨ws,v,D,S,C,_⟩
   ·exact e
   ·exact absurd C UP
  rw[ep]at j;refine#[_,Z,q I W H' n2 ?_ B];rw[j];exact X
theorem C8:af P w K mg base aE k f e z14z (iX 0):=by
 have n:∀v H Q E,¬iX 0 v H Q E:=λv H Q E h=>by obtain⟨a,g,b,x,S,M,y,_,_,_,_,_,d,_⟩:=h;exact absurd d$ Pw _
 exact#[λv H Q E h=>absurd h (n v H Q E),λA o s H c u v Q E _ _ _ _ h=>absurd h (n v H Q E)]
theorem Hm(F:aQ K "used_ahead" "used_ahead" AC f e)(FB:aQ K "used_behind_terms" "used_behind_terms" wq r g)(d:aQ K "used_ahead_of" "used_ahead_of" AD o b)
  (B:aD K e z14z []) (i:mg "used_ahead"=some (.ref f)) (j:aD K g z1z []) (k:mg "used_behind_terms"=some (.ref r)) (p:aD K b z1z []) (q:mg "used_ahead_of"=some (.ref o)) (C:Cl P w K mg base 1 u s z5z nE "own_terms") (l:Cl P w K mg base 7 v t z0z (dC 6) "names_in") (M:mg "list"=none) (a:mg "set"=none) (m:mg "sorted"=none) (c:mg "reversed"=none):
  ∀n:Nat,af P w K mg base aE (3*n+8) f e z14z (iX n)/\af P w K mg base aE (3*n+10) o b z1z (gQ n)
 |0=>by have h:af P w K mg base aE 8 f e z14z (iX 0):=C8;have H:=ve (L:=8) (n:=0) FB #[h,B,F.kp,i];exact#[h,vf (L:=0) d #[H,j,FB.kp,k] C l M a m]
 |n+1=>by
  have I:=(Hm F FB d B i j k p q C l M a m c n).2;have h:=DE (L:=3*n) F #[I,p,d.kp,q] m c;have E:3*n+11=3*(n+1)+8:=by omega
  rw[E]at h;have H:=ve (L:=3*(n+1)+8) (n:=n+1) FB #[h,B,F.kp,i];exact#[h,vf (L:=3*(n+1)) d #[H,j,FB.kp,k] C l M a m]
noncomputable abbrev DZ:Stmt:=bQ 44
noncomputable abbrev we:Stmt:=bQ 47
noncomputable abbrev vW:Stmt:=bQ 48
noncomputable abbrev me:Stmt:=bQ 49
noncomputable abbrev wg:Stmt:=bQ 50
noncomputable def Lf.cut:Lf->Nat
 | .st _ _ _=>0
 | .gv _ _=>0
 |_=>1
noncomputable def Bd.cuts:Bd->Nat
 | .nil=>0
 | .lf _ l r=>l.cut+r.cuts
 | .ite _ _ _ a b r=>1+a.cuts+b.cuts+r.cuts
 | .loop _ _ _ a r=>1+a.cuts+r.cuts
noncomputable def Bd.inn:Bd->Bd
 | .ite _ _ _ a b _=>a.app b
 | .loop _ _ _ a _=>a
 |_=>.nil
theorem qc:∀(a b:Bd),(a.app b).cuts=a.cuts+b.cuts
 | .nil,b=>by show b.cuts=0+b.cuts;omega
 | .lf _ l r,b=>by have:=qc r b;show l.cut+(r.app b).cuts=l.cut+r.cuts+b.cuts;omega
 | .ite _ _ _ x y r,b=>by have:=qc r b;show 1+x.cuts+y.cuts+(r.app b).cuts=1+x.cuts+y.cuts+r.cuts+b.cuts;omega
 | .loop _ _ _ x r,b=>by have:=qc r b;show 1+x.cuts+(r.app b).cuts=1+x.cuts+r.cuts+b.cuts;omega
inductive ni(b:List V)(H:Hp)(Q:VK)(a:XK):Prop
 |mk(v:V)(s:Bd)(_:b=[v])(_:io H v s)(_:s.size<=10000000)(_:∀(r:Addr) (xs:List V) (H':Hp),H' r=some (.tup xs)->em H' s.inn xs->aa H H'->Q (.ref r) H')
inductive hV(d:List V)(H:Hp)(Q:VK)(c:XK):Prop
 |mk(a:Addr)(b:Bd)(e:List V)(_:d=[.ref a])(_:H a=some (.tup e))(_:em H b e)(_:b.size<=10000000)(_:∀H',aa H H'->Q (.int (b.cuts:Int)) H')
theorem GK:ai z5z z5z (ae DZ):=bP
theorem Di(F:aQ K "bodies_in" "bodies_in" DZ f y):af P w K mg base aE 1 f y z5z ni:=by
 refine F.ok GK ?_ λC A o s H V Q E j h=>?_
 ·rintro _ _ _ _ ⟨v,s,rfl,_⟩;rfl
 obtain⟨v,st,rfl,z,B,q⟩:=h;refine#[_,(jd (jz (ki$ jy$ pv 0) (jg$ jp$ jw jQ (jy$ pv 0)$ jy$ pv 0) ju)$ jd (jz (ki$ jy$ pv 0) (jg$ jp$ jy$ pv 0) ju)$ jg$ jp$ jh jb),?_];have D:=aH;cases z with
 |lf p l V c d=>
  cases l with
  |rd x t T |st x t T |wr t u T U |cl x f R S |gv t T=>obtain⟨rfl,_⟩:=d;refine(jv c Z #[Z,_,Z,aX UQ ?_]);refine(jv c Z #[Z,_,Z,aX UQ ?_]);exact#[fg,λr N=>q r [] _ jc Z (je N)]
 |ite p t T a b e G g I c J d i m n=>refine(jv c Z #[Z,_,Z,cX UQ ?_]);have L:a.size+b.size+0+1<=10000000:=B;have W:=m.len;have X:=n.len;exact(jv c Z$ jv c Z #[e,G,g,I,Z,Z,d,i,UO,λr M j s=>q r _ M j ((n.mono$ aa.tm s).app$ m.mono$ aa.tm s) s])
 |loop p t T a e g c J d i=>refine(jv c Z #[Z,_,Z,aX UQ ?_]);refine(jv c Z #[Z,_,Z,cX UQ ?_]);exact(jv c Z$ q e g H d i$ aa.refl H)
theorem AU(h:io H v s):s.inn.size < s.size/\∃(p:Addr) (w:Str) (r:List V),v= .ref p/\H p=some (.tup (.str w::r))/\s.cuts=(if oG (.str w) [.str "set",.str "give"]=true then 0 else 1)+s.inn.cuts:=by
 cases h with
 |lf p l i c d=>
  refine#[Nat.zero_lt_succ _,?_];cases l with
  |rd x t T |wr t u T U |cl x f Q j=>obtain⟨rfl,_⟩:=d;exact#[p,_,_,Z,c,by rw[Mf UQ];rfl]
  |st x t T |gv t T=>obtain⟨rfl,_⟩:=d;exact#[p,_,_,Z,c,by rw[Mb UQ];rfl]
 |ite p t T a b q k A B c e d g m n=>refine#[by show(a.app b).size < a.size+b.size+0+1;rw[ky];omega,p,_,_,Z,c,?_];rw[Mf UQ];show 1+a.cuts+b.cuts+0=1+(a.app b).cuts;rw[qc];omega
 |loop p t T a q A c e d g=>refine#[by show a.size < a.size+0+1;omega,p,_,_,Z,c,?_];rw[Mf UQ];show 1+a.cuts+0=1+a.cuts;omega
theorem dU:fq (v::y) 0=some v:=jL (j:=0) Z
inductive MI(a n:Addr)(b:Bd)(H:Hp)(m:Nat)(p:_L.St)(c:Hp):Prop
 |mk(l:Option V)(W:Bd)(o:List V)(k:Nat)(d:m=W.size)(e:p=[some (.ref a),some (.int (k:Int)),some (.ref n),l])(f:c n=some (.lst o))(g:em c W o)(h:k+W.cuts=b.cuts)(i:W.size<=10000000)(j:aP n H c)
theorem iM:ai ["body","many","todo","statement"] ["body"] (ae we):=bP
theorem yW(F:aQ K "many_cuts" "many_cuts" we f fd)(cB:Cl P w K mg base 1 fB f0 z5z ni "bodies_in")(m0:mg "list"=none):af P w K mg base aE 2 f fd ["body"] hV:=by
 refine F.ok iM ?_ λc0 A o1 s H vs Q E hr h=>?_
 ·rintro _ _ _ _ ⟨a,b,xs,rfl,_⟩;rfl
 obtain⟨a,b,xs,rfl,ha,hb,hz,q⟩:=h;refine#[_,(jd (jB 1 iM.nd jf)$ jd (jB 2 iM.nd$ jN Js Z m0 T3$ ja (pv 0) jb)$ jd (XD MF (@vH _ _ _ (pv 2) (λ_=>Z))$ jd (jB 3 iM.nd$ DT L9 PySem.F.slot_list_pop PySem.F.type_list_pop C0$ pv 2)$ jd (kj$ jz (jE Jr (jy$ pv 3) (jh$ ja jl$ ja jl jb) Z) (jg$ DX (i:=1) iM.nd Z (Or.inl Z) jf CN) ju)$ jg$ jF$ jZ L9 Nf Nc Y5 (pv 2)$ ja (cB.e hr.m$ ja (pv 3) jb) jb)$ jg$ jp$ pv 1),?_];have b0:=aH;refine ah λU d=>d _ _ ?_;clear d;refine ah λU d=>#[_,Z,a,_,Z,.inr$ aB.of ha,λt C=>d _ _ ?_];clear d;have s0:aa H (am H t$ .lst xs):=je C;refine ah λU d=>?_;refine xJ (MI a t b H) b.size #[_,b,xs,0,Z,Z,jc,hb.mono$ aa.tm s0,UO,hz,λc o N e=>s0 _ _ e] ?_;intro m σ D E _ fE F X Y Gq y h;obtain⟨o3,W,zs,k,rfl,rfl,x,h2,h3,h4,h5⟩:=h;refine y #[_,Z,!zs.isEmpty,.inl #[zs,aI.of x,Z],?_];clear y;rcases h2.last with ⟨e1,e2⟩ | ⟨g,v,B,n,e1,e2,g1,g2⟩
 ·rw[e1];refine Y _$ d _ _ #[_,Z,?_];rw[e2]at h3;have e3:k=b.cuts:=by have:k+0=b.cuts:=h3;omega
  rw[e3];exact q _ λc o e=>h5 c o (jk e C) e
 ·rw[e1];have ne:(!(g++[v]).isEmpty)=true:=by cases g<;>rfl
  rw[ne];refine X _ ?_;clear Y X d;have h6:W.size=B.size+n.size:=by rw[e2,ky]
  have h7:W.cuts=B.cuts+n.cuts:=by rw[e2,qc]
  obtain⟨h',p,w',r,rfl,hp,hc⟩:=AU g2;rw[e1]at x;refine ah λU d=>#[_,Z,.inl #[Z,_,aI.of x],t,_,.ref p,Z,Z,x,UP,d _ _ ?_];clear d;rw[List.dropLast_concat];have T:ap D (am D t$ .lst g):=λc ys e=>by rw[ji$ jW e x (by intro z;cases z)];exact e
  have t2:am D t (.lst g) t=some (.lst g):=jc;have u:=g1.mono T;have I:=g2.mono T;have J:=T _ _ hp;have k2:aP t H (am D t$ .lst g):=λc o N e=>by rw[ji N];exact h5 c o N e
  generalize am D t (.lst g)=H2 at t2 u I J k2;clear T x h2 h5 g1 g2 hp;have R:∀(j:Nat) (H3:Hp),aa H2 H3->j+B.cuts+n.inn.cuts=b.cuts->nJ (HQ K "list" (iG K) (aZ 2)$ aj (gf ni [] E0$ aj (aZ 3) aM) aM) E [some$ .ref a,some$ .int (j:Int),some$ .ref t,some$ .ref p] H3:=λj H3 L hk=>by
   have g0:=I.mono (aa.tm L);refine#[_,Z,.inl #[Z,_,aI.of$ L _ _ t2],_,Z,.ref p,n,Z,g0,UO,λr' ys H4 h0 hy s4=>?_];have S:=L.trans s4;have l1:=u.len;have l2:=hy.len;refine#[t,r',g,ys,Z,Z,S _ _ t2,aB.of h0,UO,fE (B.app n.inn).size _ _ (by rw[ky];omega) #[_,B.app n.inn,g++ys,j,Z,Z,jc,?_,by rw[qc];omega,by rw[ky];omega,λc o N e=>?_]]
   ·have M:ap H4 (am H4 t$ .lst$ g++ys):=λc z0 e=>by rw[ji$ jW e (S _ _ t2) (by intro z;cases z)];exact e
    exact(hy.mono M).app ((u.mono$ aa.tm S).mono M)
   ·rw[ji N];exact S _ _$ k2 c o N e
  refine ah λU d=>dZ (λO H'=>∃j:Nat,O=[some$ .ref a,some$ .int (j:Int),some$ .ref t,some$ .ref p]/\aa H2 H'/\j+B.cuts+n.inn.cuts=b.cuts) (λE2 _ fm=>?_) λO H' h=>?_
  ·clear d fE;refine lO λG X Y=>(jv J dU #[ci,λl nl=>#[l,_,Z,.inr$ aB.of jc,Z,Z,_,Z,?_]]);cases hv:oG (.str w') [.str "set",.str "give"] with
   |true=>rw[hv,Mb Z]at hc;exact Y _$ fm _ _ #[k,Z,je nl,UO]
   |false=>rw[hv,Mf Md]at hc;refine X _ #[_,Z,_,_,Z,Z,fm _ _ #[k+1,?_,je nl,UO]];show [_,some$ V.int ((k:Int)+1),_,_]=[_,some$ V.int ((k+1:Nat):Int),_,_];rfl
  ·obtain⟨j,rfl,L,hk⟩:=h;exact d _ _$ R j H' L hk
end _K
namespace _K
open PySem PySem.Spec PyProof.Rows _L
variable {P:Program}{w:World}{K:Frag}{mg:Str->Option Value}{base:Heap}
inductive Ht where
 |go (n:Int) |give (t:Addr)
structure Wy where
 sets:List (Str×Addr)
 goal:Ht
inductive Dd where
 |st (p:Addr) |ask (t:Addr)
structure Ct where
 M:Str->Prop
 d:Dd
 ws:List Wy
structure Pc where
 M:Str->Prop
 w:Wy
def aS(H:Hp):Tr->V->List V->Prop
 | .lf v,x,_=>x=v/\Lw v=true
 | .tp l,x,_=>l.isL=true/\∃a X,x= .ref a/\H a=some (.tup X)/\aS H l .non X
 | .nil,_,X=>X=[]
 | .cons h t,_,X=>h.isL=false/\t.isL=true/\∃y Y,X=y::Y/\aS H h y []/\aS H t .non Y
theorem aS.mono(k:ap H d):∀{t:Tr} {x:V} {X:List V},aS H t x X->aS d t x X:=by
 intro t;induction t with
 |lf v |nil=>exactλh=>h
 |tp l f=>rintro x X ⟨h,a,Y,e,b,c⟩;exact#[h,a,Y,e,k _ _ b,f c]
 |cons h t i I=>rintro x X ⟨E,g,y,Y,e,b,c⟩;exact#[E,g,y,Y,e,i b,I c]
noncomputable def ay:List Tr->Tr
 | []=>.nil
 |t::T=>.cons t (ay T)
theorem QR:∀t:List Tr,(ay t).isL=true
 | []=>rfl
 |_::_=>rfl
noncomputable def aA(t:List Tr):Tr:=.tp (ay t)
noncomputable def aK(x:Str):Tr:=.lf (.str x)
noncomputable def rV(a:Addr):Tr:=.lf (.ref a)
noncomputable def au(n:Int):Tr:=.lf (.int n)
section
variable {H:Hp}
theorem jA:aS H (ay []) .non []:=rfl
theorem jm{t:Tr}(h:t.isL=false)(a:aS H t y [])(b:aS H (ay T) .non Y):aS H (ay (t::T)) .non (y::Y):=#[h,QR T,y,Y,Z,a,b]
theorem jD(h:H a=some (.tup x))(b:aS H (ay t) .non x):aS H (aA t) (.ref a) []:=#[QR t,a,x,Z,h,b]
theorem jU:aS H (aK x) (.str x) []:=#[Z,Z]
theorem JD:aS H (rV a) (.ref a) []:=#[Z,Z]
theorem jX:aS H (au n) (.int n) []:=#[Z,Z]
theorem Ka(a:aS H (ay s) .non Y):∀{T:List Tr} {x:List V},aS H (ay T) .non x->aS H (ay$ T++s) .non (x++Y)
 | [],x,h=>by have e:x=[]:=h;rw[e];exact a
 |t::T,x,h=>by obtain⟨E,_,y,z,e,b,c⟩:=h;rw[e];exact jm E b (Ka a c)
theorem zo:∀{T:List Tr} {x:List V},aS H (ay T) .non x->x.length=T.length
 | [],x,h=>by have e:x=[]:=h;rw[e];rfl
 |t::T,x,h=>by obtain⟨_,_,y,z,e,_,a⟩:=h;rw[e,Mu,Mu,zo a]
theorem XX:∀(S:List Str),aS H (ay$ S.map aK) .non (S.map V.str)
 | []=>rfl
 |s::S=>jm Z jU (XX S)
theorem ZE:∀{T:List Tr} {x:List V},aS H (ay T) .non x->aS H (ay T.reverse) .non x.reverse
 | [],x,h=>by have e:x=[]:=h;rw[e];rfl
 |t::T,x,h=>by obtain⟨E,_,y,z,e,a,b⟩:=h;rw[e,OX,OX];exact Ka (jm E a jA)$ ZE b
theorem qW:∀{T:List Tr} {X:List V},aS H (ay T) .non X->∀(i:Nat) (x:V),X[i]?=some x->∃t,T[i]?=some t/\aS H t x []
 | [],X,h,i,x,a=>by have e:X=[]:=h;rw[e]at a;simp at a
 |t::T,X,h,0,x,a=>by obtain⟨_,_,y,z,e,b,c⟩:=h;rw[e]at a;cases a;exact#[t,Z,b]
 |t::T,X,h,i+1,x,a=>by obtain⟨_,_,y,z,e,b,c⟩:=h;rw[e]at a;simpa using qW c i x (by simpa using a)
end
noncomputable def setT(s:Str×Addr):Tr:=aA [aK s.1,rV s.2]
noncomputable def yw:Ht->Tr
 | .go n=>aA [aK "go",au n]
 | .give t=>aA [aK "give",rV t]
noncomputable def ik(w:Wy):Tr:=aA [aA$ w.sets.map setT,yw w.goal]
noncomputable def HL:Dd->Tr
 | .st p=>rV p
 | .ask t=>aA [aK "ask",rV t]
noncomputable def Fn(c:Ct):Tr:=aA [aA ((canon c.M).map aK),HL c.d,aA$ c.ws.map ik]
theorem CG(g:Ht):(yw g).isL=false:=by cases g<;>rfl
theorem Ft(d:Dd):(HL d).isL=false:=by cases d<;>rfl
def nL(H:Hp)(p:Pc)(v:V)(g:Addr)(y:List Str):Prop:=∃(r:Addr) (s:List Str) (W:V),v= .ref r/\H r=some (.tup [.ref g,W])/\NL H g s p.M y/\aS H (ik p.w) W []
theorem nL.same(h:nL H p v g y)(s:aa H a):nL a p v g y:=by obtain⟨r,S,W,e,b,c,d⟩:=h;exact#[r,S,W,e,s _ _ b,c.same s,d.mono$ aa.tm s]
theorem nL.but(h:nL H p v g y)(k:aP f H c)(d:H f=some (.lst C))(n:g≠f):nL c p v g y:=by obtain⟨r,s,W,e,i,a,j⟩:=h;have t:ap H c:=λb x e=>k b _ (jW e d (by intro z;cases z)) e;exact#[r,s,W,e,t _ _ i,#[k _ _ n a.at',a.nm,a.sub,a.y20],j.mono t]
noncomputable def Lf.isCut:Lf->Bool
 | .st _ _ _=>false
 | .gv _ _=>false
 |_=>true
noncomputable def Bd.deed:Bd->Dd
 | .lf p _ _=>.st p
 | .ite _ t _ _ _ _=>.ask t
 | .loop _ t _ _ _=>.ask t
 | .nil=>.st 0
inductive iQ(b:List V)(H:Hp)(Q:VK)(a:XK):Prop
 |mk(v:V)(s:Bd)(_:b=[v])(_:io H v s)(_:∀(d:V) (H':Hp),aS H' (HL s.deed) d []->aa H H'->Q d H')
inductive gO(b:List V)(H:Hp)(Q:VK)(a:XK):Prop
 |mk(t:Addr)(T:Tm)(c:List Str)(_:b=[.ref t])(_:cq H T t)(_:eO c T)(_:c.length<=21)(_:∀(v:V) (g:Addr) (H':Hp),nL H' #[λx=>x∈T.vars,#[[],.give t]] v g c->H g=none->aa H H'->Q v H')
inductive pj(K:Frag)(c:List V)(H:Hp)(Q:VK)(b:XK):Prop
 |mk(a:Addr)(_:c=[.ref a])(_:aB K H a [.str "num",.int 0])(_:∀(r:Addr),H r=none->Q (.ref r) (am H r (.lst [])))
inductive pk(K:Frag)(b:List V)(H:Hp)(Q:VK)(a:XK):Prop
 |mk(t:Addr)(c:List Str)(_:b=[.ref t])(_:aB K H t [.str "num",.int 0])(_:c.length<=21)(_:∀(v:V) (g:Addr) (H':Hp),nL H' #[λx=>x∈(Tm.num 0).vars,#[[],.give t]] v g c->H g=none->aa H H'->Q v H')
open Classical in
noncomputable def iO(x:Str)(t:Addr)(p:Pc):Wy:=if p.M x then #[(x,t)::p.w.sets,p.w.goal] else p.w
inductive iV(d:List V)(H:Hp)(Q:VK)(a:XK):Prop
 |mk(v b:V)(p t:Addr)(x:Str)(T:Tm)(c:Pc)(g:Addr)(e:List Str)(_:d=[v,b])(_:io H v (.lf p (.st x t T) .nil))(_:nL H c b g e)(_:x∈e)(_:eO e T)(_:c.w.sets.length<=10000000)(_:∀(v':V) (g':Addr) (H':Hp),nL H' #[(Lf.st x t T).use c.M,iO x t c] v' g' e->H g'=none->aa H H'->Q v' H')
theorem Ec:ai z5z z5z (ae vW):=bP
theorem yO(F:aQ K "deed_of" "deed_of" vW f e):af P w K mg base aE 1 f e z5z iQ:=by
 refine F.ok Ec ?_ λC A o s H V Q E z h=>?_
 ·rintro _ _ _ _ ⟨v,s,rfl,_⟩;rfl
 obtain⟨v,st,rfl,g,q⟩:=h;refine#[_,(jd (jz (jE zB (jy$ pv 0) (jh$ ja jl$ ja jl jb) Z) (jg$ jp$ jh$ ja jl$ ja (jy$ pv 0) jb) ju)$ jg$ jp$ pv 0),?_];cases g with
 |lf p l V c d=>
  cases l with
  |rd x t T |st x t T |wr t u T U |cl x f B D |gv t T=>obtain⟨rfl,_⟩:=d;refine(jv c Z #[ci,λl n=>#[l,_,Z,.inr$ aB.of jc,Z,Z,_,Z,aX UQ ?_]]);exact#[_,Z,q _ _ JD$ je n]
 |ite p t T a b i I j J c m d y L M |loop p t T a i j c m d y=>refine(jv c Z #[ci,λl n=>#[l,_,Z,.inr$ aB.of jc,Z,Z,_,Z,cX UQ ?_]]);refine(jv (aq c n) Z #[ci,λr N=>?_]);exact q _ _ (jD jc$ jm Z jU$ jm Z JD jA) ((je n).trans$ je N)
theorem Dv{fN:Addr}{fdN:FuncData}(F:aQ K "names_in" "names_in" eV f b)(c:Cl P w K mg base (n+1) f b z0z (dC n) "names_in")(m:mg "set"=none)(M:mg "sorted"=none):af P w K mg base aE (n+2) f b z0z (pj K):=by
 refine F.ok wF (λv H Q E h=>?_) (λC A o s H v Q E d h=>?_)
 ·obtain⟨a,rfl,_⟩:=h;rfl
 obtain⟨a,rfl,g,q⟩:=h;refine#[_,(jd (jz (ki$ jy$ pv 0) (jg$ jp$ jG jb) ju)$ jd (jz (ki$ jy$ pv 0) (jg$ jp$ jG$ ja (jy$ pv 0) jb) ju)$ jg$ jp$ jR (qv Z) Z M P8$ ja (jN (q9 Z) Z m UG$ ja (jw qi (c.e d$ ja (jy$ pv 0) jb)$ c.e d$ ja (jy$ pv 0) jb) jb) jb),?_];refine#[_,Z,a,_,_,_,Z,Z,g,Z,Z,_,Z,cX UQ ?_];exact#[fg,λr N=>q r N]
theorem oV:ai z0z z0z (ae me):=bP
theorem va(F:aQ K "place_of_give" "place_of_give" me f d)(C:Cl P w K mg base 7 U i z0z (dC 6) "names_in"):af P w K mg base aE 8 f d z0z gO:=by
 refine F.ok oV ?_ λj A o s H V Q E l h=>?_
 ·rintro _ _ _ _ ⟨t,T,y,rfl,_⟩;rfl
 obtain⟨t,T,y,rfl,p,O,b,q⟩:=h;refine#[_,(jg$ jp$ jh$ ja (C.e l.m$ ja (pv 0) jb)$ ja (jh$ ja (jh jb)$ ja (jh$ ja jl$ ja (pv 0) jb) jb) jb),?_];refine#[_,Z,t,T,y,Z,p,O.2,O.1,b,λg v a z B D M G I=>?_];have J:NL a g v (λx=>x∈T.vars) y:=#[B,#[D,G,M],kP O.1,b];refine#[fg,λe L=>#[_,Z,ci,λu c=>#[ci,λx N=>#[ci,λr n=>?_]]]];have S:aa a (am (am (am (am a e$ .tup []) u$ .tup [.str "give",.ref t]) x$ .tup [.ref e,.ref u]) r$ .tup [.ref g,.ref x]):=(((je L).trans$ je c).trans$ je N).trans (je n);refine q _ g _ #[r,_,.ref x,Z,jc,J.same S,?_] z (I.trans S);exact jD (aq jc n)$ jm Z (jD (aq (aq (aq jc c) N) n) jA)$ jm Z (jD (aq (aq jc N) n)$ jm Z jU$ jm Z JD jA) jA
theorem Dy(F:aQ K "place_of_give" "place_of_give" me f j)(C:Cl P w K mg base 7 G l z0z (pj K) "names_in"):af P w K mg base aE 8 f j z0z (pk K):=by
 refine F.ok oV ?_ λp A o s H V Q E v h=>?_
 ·rintro _ _ _ _ ⟨t,y,rfl,_⟩;rfl
 obtain⟨t,y,rfl,z,B,q⟩:=h;refine#[_,(jg$ jp$ jh$ ja (C.e v.m$ ja (pv 0) jb)$ ja (jh$ ja (jh jb)$ ja (jh$ ja jl$ ja (pv 0) jb) jb) jb),?_];refine#[_,Z,t,Z,z,λg a=>?_];have b:aa H (am H g$ .lst []):=je a;have c:NL (am H g$ .lst []) g [] (λx=>x∈(Tm.num 0).vars) y:=#[jc,#[PL,Z,λx=>Rg],λx h=>absurd h Mx,B];generalize am H g (.lst [])=d at b c;refine#[fg,λe D=>#[_,Z,ci,λu i=>#[ci,λx N=>#[ci,λr n=>?_]]]];have S:aa d (am (am (am (am d e$ .tup []) u$ .tup [.str "give",.ref t]) x$ .tup [.ref e,.ref u]) r$ .tup [.ref g,.ref x]):=(((je D).trans$ je i).trans$ je N).trans (je n);refine q _ g _ #[r,_,.ref x,Z,jc,c.same S,?_] a (b.trans S);exact jD (aq jc n)$ jm Z (jD (aq (aq (aq jc i) N) n) jA)$ jm Z (jD (aq (aq jc N) n)$ jm Z jU$ jm Z JD jA) jA
end _K
namespace _K
open PySem PySem.Spec PyProof.Rows _L
variable {P:Program}{w:World}{K:Frag}{mg:Str->Option Value}{base:Heap}
theorem yx{Y:List Str}:oG (.str x) (Y.map V.str)=decide (x∈Y):=by
 by_cases h:x∈Y
 ·rw[Mc h];unfold oG;rw[Tb];exact#[.str x,List.mem_map.mpr #[x,h,Z],by simp [nM]]
 ·rw[LZ h];unfold oG;rw[SU];intro z;rw[Tb]at z;obtain⟨v,a,e⟩:=z;obtain⟨y,H,rfl⟩:=List.mem_map.mp a;have E:x=y∨y=x:=by
   first
    |exact .inl (by simpa [nM] using e)
    |exact .inr (by simpa [nM] using e)
  rcases E with rfl |rfl
  ·exact h H
  ·exact h H
theorem Ex{H:Hp}{w:Wy}{v:V}(h:aS H (ik w) v []):∃(W s:Addr) (S:List V) (y:V),v= .ref W/\H W=some (.tup [.ref s,y])/\H s=some (.tup S)/\aS H (ay$ w.sets.map setT) .non S/\aS H (yw w.goal) y []:=by obtain⟨_,W,x,rfl,a,_,_,l,b,e,⟨_,s,S,c,d,f⟩,_,_,g,Y,E,i,j⟩:=h;have k:Y=[]:=j;rw[k]at E;rw[E]at e;rw[e,c]at a;exact#[W,s,S,g,Z,a,d,f,i]
theorem oy:ai ["statement","behind","way"] z1z (ae wg):=bP
theorem y7(F:aQ K "place_of_set" "place_of_set" wg f fd)(cU:Cl P w K mg base 10 fU f0 z1z (gQ 0) "used_ahead_of"):af P w K mg base aE 11 f fd z1z iV:=by
 refine F.ok oy ?_ λc0 A O s H vs Q E hr h=>?_
 ·rintro _ _ _ _ ⟨v,bv,p,t,x,T,C,g,Y,rfl,_⟩;rfl
 obtain⟨v,bv,p,t,x,T,C,g,Y,rfl,X,hp,hx,ok,hl,q⟩:=h;refine#[_,(jd (jB 2 oy.nd$ jy$ pv 1)$ jd (kj$ jz (jE zB (jy$ pv 0) (jy$ pv 1) Z) (jg$ jB 2 oy.nd$ jh$ ja (jw jQ (jh$ ja (jJ j8 (pv 0) (jK jf) jT) jb)$ jy$ pv 2)$ ja (jy$ pv 2) jb) ju)$ jg$ jp$ jh$ ja (cU.e hr.m$ ja (pv 0)$ ja (jy$ pv 1) jb)$ ja (pv 2) jb),?_];have b0:=aH;obtain⟨r,ss,wv,rfl,b,B,hW⟩:=hp;have h0:=X;cases X with
 |lf _ _ vs h1 h2=>
  obtain⟨rfl,hT⟩:=h2;obtain⟨wa,sa,sx,y,rfl,i,D,j,hy⟩:=Ex hW;refine ah λF1 d=>(jv b Z$ d _ _ ?_);clear d;have sl:=zo j;rw[LU]at sl;refine ah λF1 d=>dZ (λl I=>∃W:V,l=[some$ .ref p,some$ .ref r,some W]/\aS I (ik$ iO x t C) W []/\aa H I) (λE2 _ fm=>?_) λl I h=>?_
  ·clear d;refine lO λG kT kF=>(jv h1 Z$ jv b Z #[g,_,Z,.inl$ aI.of B.at',Z,QM _,_,Z,?_]);rw[yx];by_cases a:x∈ss
   ·rw[Mc a];refine kT _ #[_,Z,_,Z,p,_,Z,h1,λs1 H1 J k1=>#[iE,λu nu=>?_]];have L:=k1.trans (je (o:=.tup [.ref s1]) nu);refine(jv (L _ _ i) Z #[u,sa,_,_,Z,Z,jc,L _ _ D,by show 1+sx.length<=_;omega,λc H2 hc z=>?_]);have R:=L.trans z;refine(jv (R _ _ i) Z #[ci,λnw n=>fm _ _ #[.ref nw,Z,?_,R.trans$ je n]]);have tm:=aa.tm (R.trans$ je (o:=.tup [.ref c,y]) n);unfold iO;rw[Mb ((B.nm.mem x).mp a)];refine jD jc$ jm Z (jD (aq hc n)$ jm Z ?_$ j.mono tm)$ jm (CG _) (hy.mono tm) jA;exact jD (aq (z _ _$ aq J nu) n)$ jm Z jU$ jm Z JD jA
   ·rw[LZ a];refine kF _$ fm _ _ #[_,Z,?_,aa.refl _];unfold iO;rw[Mf λw=>a ((B.nm.mem x).mpr w)];exact hW
  ·obtain⟨W,rfl,S,k⟩:=h;refine d _ _ ?_;clear d;refine#[_,Z,jv (k _ _ b) Z #[.ref p,g,.lf p (.st x t T) .nil,ss,C.M,Y,Z,h0.mono$ aa.tm k,B.same k,#[#[hx,ok],trivial],(by show 0 < 1;decide),(by show 0+1<=10000000;decide),λg' zs H3 n3 N3 z=>?_]];refine#[_,Z,ci,λr' N=>q _ g' _ #[r',zs,W,Z,jc,N3.same$ je N,S.mono$ aa.tm$ z.trans$ je N] (k.free n3) ((k.trans z).trans$ je N)]
noncomputable abbrev At:Stmt:=bo (bQ 51) 1
noncomputable abbrev AB:Stmt:=bo (bQ 51) 2
noncomputable abbrev Au:Stmt:=bo (bQ 51) 3
noncomputable abbrev AE:Stmt:=bo (bQ 51) 4
noncomputable abbrev vY:Stmt:=bo (bQ 51) 0
noncomputable def pL(m:Int)(p:Addr)(l:Lf)(q:Pc×List Ct):Pc×List Ct:=match l with
 | .gv t T=>(#[λx=>x∈T.vars,#[[],.give t]],q.2)
 | .st x t T=>(#[(Lf.st x t T).use q.1.M,iO x t q.1],q.2)
 | .rd x t T=>(#[(Lf.rd x t T).use q.1.M,#[[],.go (m - (q.2.length:Int) - 1)]],q.2++[#[(Lf.rd x t T).use q.1.M,.st p,[q.1.w]]])
 | .wr t u T U=>(#[(Lf.wr t u T U).use q.1.M,#[[],.go (m - (q.2.length:Int) - 1)]],q.2++[#[(Lf.wr t u T U).use q.1.M,.st p,[q.1.w]]])
 | .cl x f a b=>(#[(Lf.cl x f a b).use q.1.M,#[[],.go (m - (q.2.length:Int) - 1)]],q.2++[#[(Lf.cl x f a b).use q.1.M,.st p,[q.1.w]]])
noncomputable def pB(m:Int):Bd->Pc->List Ct->Pc×List Ct
 | .nil,c,f=>(c,f)
 | .lf p l r,c,f=>pL m p l (pB m r c f)
 | .ite p t T a b r,c,f=>
  let q:=pB m r c f
  let o:=pB m b q.1 q.2
  let s:=pB m a q.1 o.2
  (#[(Bd.ite p t T a b .nil).use q.1.M,#[[],.go$ m - (q.2.length:Int) - ((Bd.ite p t T a b .nil).cuts:Int)]],s.2++[#[(Bd.ite p t T a b .nil).use q.1.M,.ask t,[s.1.w,o.1.w]]])
 | .loop p t T a r,c,f=>
  let q:=pB m r c f
  let d:Pc:=#[(Bd.loop p t T a .nil).use q.1.M,#[[],.go$ m - (q.2.length:Int) - ((Bd.loop p t T a .nil).cuts:Int)]]
  let s:=pB m a d q.2
  (d,s.2++[#[(Bd.loop p t T a .nil).use q.1.M,.ask t,[s.1.w,q.1.w]]])
theorem Ky(m:Int):∀(a b:Bd) (c:Pc) (f:List Ct),pB m (a.app b) c f=pB m a (pB m b c f).1 (pB m b c f).2
 | .nil,_,_,_=>rfl
 | .lf p l r,b,c,f=>by show pL m p l (pB m (r.app b) c f)=pL m p l (pB m r _ _);rw[Ky m r b c f]
 | .ite p t T x y r,b,c,f=>by have e:=Ky m r b c f;show pB m (.ite p t T x y$ r.app b) c f=_;unfold pB;rw[e]
 | .loop p t T x r,b,c,f=>by have e:=Ky m r b c f;show pB m (.loop p t T x$ r.app b) c f=_;unfold pB;rw[e]
theorem kJ(m:Int):∀(b:Bd) (c:Pc) (F:List Ct),(pB m b c F).2.length=F.length+b.cuts
 | .nil,_,_=>rfl
 | .lf p l r,c,F=>by
  have e:=kJ m r c F;show(pL m p l$ pB m r c F).2.length=F.length+(l.cut+r.cuts);cases l with
  |rd x t T |wr t u T U |cl x f a d=>show((pB m r c F).2++[_]).length=F.length+(1+r.cuts);rw[LS,e];show _+1=_;omega
  |st x t T |gv t T=>show(pB m r c F).2.length=F.length+(0+r.cuts);omega
 | .ite p t T x y r,c,F=>by have e:=kJ m r c F;show((pB m x _ (pB m y _ _).2).2++[_]).length=_;rw[LS,kJ m x,kJ m y,e];show _+1=F.length+(1+x.cuts+y.cuts+r.cuts);omega
 | .loop p t T x r,c,F=>by have e:=kJ m r c F;show((pB m x _ _).2++[_]).length=_;rw[LS,kJ m x,e];show _+1=F.length+(1+x.cuts+r.cuts);omega
theorem XY(x:Str)(t:Addr)(p:Pc):(iO x t p).sets.length<=p.w.sets.length+1:=by
 unfold iO;split
 ·exact LV _
 ·exact MU _
theorem ZF(m:Int):∀(b:Bd) (a:Pc) (f:List Ct),(pB m b a f).1.w.sets.length<=a.w.sets.length+b.size
 | .nil,_,_=>LV _
 | .lf p l r,a,f=>by
  have e:=ZF m r a f;show(pL m p l$ pB m r a f).1.w.sets.length<=a.w.sets.length+(r.size+1);cases l with
  |st x t T=>have:=XY x t (pB m r a f).1;show(iO x t (pB m r a f).1).sets.length<=_;omega
  |_=>exact Ma _
 | .ite p t T x y r,a,f=>Ma _
 | .loop p t T x r,a,f=>Ma _
theorem zd:∀b:Bd,b.cuts<=b.size
 | .nil=>LV _
 | .lf _ l r=>by
  have:=zd r;have h:l.cut<=1:=by cases l<;>first |exact LV _ |exact Ma _
  show l.cut+r.cuts<=r.size+1;omega
 | .ite _ _ _ a b r=>by have:=zd a;have:=zd b;have:=zd r;show 1+a.cuts+b.cuts+r.cuts<=a.size+b.size+r.size+1;omega
 | .loop _ _ _ a r=>by have:=zd a;have:=zd r;show 1+a.cuts+r.cuts<=a.size+r.size+1;omega
structure CK(K:Frag)(C:Addr):Prop where
 cl:oC K C
 nm:a9 K C "many"
 nf:a9 K C "found"
structure Cg(H:Hp)(C ia dx fa:Addr)(m:Int)(cts:List Ct)(cs:List V):Prop where
 ins:H ia=some (.ins C dx [("many",.int m),("found",.ref fa)])
 fd:H fa=some (.lst cs)
 tr:aS H (ay$ cts.map Fn) .non cs
theorem Cg.same(h:Cg H C i d f m c a)(s:aa H b):Cg b C i d f m c a:=#[s _ _ h.ins,s _ _ h.fd,h.tr.mono$ aa.tm s]
theorem Cg.len(h:Cg H C i d f m c a):a.length=c.length:=by rw[zo h.tr,LU]
theorem Cg.tm(h:Cg H C i d f m c g)(k:aP f H a):ap H a:=λb x e=>k b _ (jW e h.fd (by intro z;cases z)) e
structure xZ(H:Hp)(C ia dx fa:Addr)(m:Int)(cts:List Ct)(cs:List V)(pc:Pc)(bv:V)(g:Addr)(ys:List Str)(b:Bd):Prop where
 c:Cg H C ia dx fa m cts cs
 p:nL H pc bv g ys
 ng:g≠fa
 ok:b.Ok ys
 sz:cts.length+pc.w.sets.length+b.size<=10000000
def sO(H:Hp)(C i d f:Addr)(m:Int)(y:List Str)(q:Pc×List Ct)(Q:VK):Prop:=∀(v:V) (g:Addr) (c:List V) (h:Hp),nL h q.1 v g y->g≠f->Cg h C i d f m q.2 c->aP f H h->Q v h
inductive nF(C:Addr)(n:Nat)(l:List V)(H:Hp)(Q:VK)(c:XK):Prop
 |mk(j h i a g:Addr)(m:Int)(d:List Ct)(f o:List V)(k:Pc)(e:V)(p:List Str)(b:Bd)(_:l=[.ref j,.ref a,e])(_:xZ H C j h i m d f k e g p b)(_:H a=some (.tup o))(_:em H b o)(_:b.dep < n)(_:sO H C j h i m p (pB m b k d) Q)
inductive Ej(C:Addr)(n:Nat)(j:List V)(H:Hp)(Q:VK)(a:XK):Prop
 |mk(h e f g:Addr)(m:Int)(b:List Ct)(d:List V)(i:Pc)(v c:V)(k:List Str)(s:Bd)(_:j=[.ref h,v,c])(_:xZ H C h e f m b d i c g k s)(_:io H v s)(_:s.dep < n+1)(_:sO H C h e f m k (pB m s i b) Q)
noncomputable def Bd.isCut:Bd->Bool
 | .lf _ l _=>l.isCut
 | .nil=>false
 |_=>true
inductive AS(C:Addr)(n:Nat)(j:List V)(H:Hp)(Q:VK)(a:XK):Prop
 |mk(h e f g:Addr)(m:Int)(b:List Ct)(d:List V)(i:Pc)(v c:V)(k:List Str)(s:Bd)(_:j=[.ref h,v,c])(_:xZ H C h e f m b d i c g k s)(_:io H v s)(_:s.dep < n+1)(_:s.isCut=true)(_:sO H C h e f m k (pB m s i b) Q)
noncomputable def hX(m:Int)(c:Pc)(p:Pc)(f:List Ct):Bd->List Wy×List Ct
 | .ite _ _ _ a b _=>([(pB m a p (pB m b p f).2).1.w,(pB m b p f).1.w],(pB m a p (pB m b p f).2).2)
 | .loop _ _ _ a _=>([(pB m a c f).1.w,p.w],(pB m a c f).2)
 |_=>([p.w],f)
inductive Ek(C:Addr)(n:Nat)(o:List V)(H:Hp)(Q:VK)(a:XK):Prop
 |mk(i e f g h:Addr)(m:Int)(b:List Ct)(d:List V)(j k:Pc)(v c l:V)(p:List Str)(s:Bd)(_:o=[.ref i,v,l,c])(_:xZ H C i e f m b d j c g p s)(_:nL H k l h p)(_:h≠f)(_:k.w.sets=[])(_:io H v s)(_:s.dep < n+1)(_:∀(wv:V) (cs':List V) (H':Hp),aS H' (aA ((hX m k j b s).1.map ik)) wv []->Cg H' C i e f m (hX m k j b s).2 cs'->aP f H H'->Q wv H')
theorem Yz(h:io H v s)(g:s.isCut=true)(m:Int)(c:Pc)(F:List Ct):
  pB m s c F=(#[s.use c.M,#[[],.go$ m - (F.length:Int) - (s.cuts:Int)]],(hX m #[s.use c.M,#[[],.go$ m - (F.length:Int) - (s.cuts:Int)]] c F s).2++[#[s.use c.M,s.deed,(hX m #[s.use c.M,#[[],.go$ m - (F.length:Int) - (s.cuts:Int)]] c F s).1]]):=by
 cases h with
 |lf p l V d e=>
  cases l with
  |rd x t T |wr t u T U |cl x f a k=>rfl
  |st x t T |gv t T=>cases g
 |ite p t T a b q Q A B d i e j n o |loop p t T a q A d i e j=>rfl
theorem xI(h:nL H p v g y):∃(r:Addr) (W:V),v= .ref r/\H r=some (.tup [.ref g,W])/\aS H (ik p.w) W []:=by obtain⟨r,s,W,e,a,c,b⟩:=h;exact#[r,W,e,a,b]
theorem GX:ai ["self","statement","place","behind","other"] z20z (ae AE):=bP
theorem Gi(F:aQ K "ways_of" "Cutting.ways_of" AE f fd)(X:CK K C)(GB:af P w K mg base aE (4*n+31) fB f0 z9z (nF C n))(bB:aD K f0 z9z [])(hB:bj K C "place_of_body" fB):af P w K mg base aE (4*n+32) f fd z20z (Ek C n):=by
 refine F.ok GX ?_ λc3 A o1 s H vs Q E hr h=>?_
 ·rintro _ _ _ _ ⟨i,D,R,g,g2,m,d,S,y,pl,v,bv,pv,Y,s,rfl,_⟩;rfl
 obtain⟨i,D,R,g,g2,m,d,S,y,pl,v,bv,G,Y,st,rfl,I,h6,n0,h7,hs,hd,q⟩:=h;refine#[_,(jd (jz (ki$ jy$ pv 1) (jd (jB 4 GX.nd$ kh (pv 0) X.cl hB GB hr.m bB .nil ba$ ja (jy$ pv 1)$ ja (pv 3) jb)$ jg$ jp$ jh$ ja (jo jH (kh (pv 0) X.cl hB GB hr.m bB .nil ba$ ja (jy$ pv 1)$ ja (pv 3) jb) jf (λ_ _=>Z))$ ja (jy$ pv 4) jb) ju)$ jd (jz (ki$ jy$ pv 1) (jg$ jp$ jh$ ja (jo jH (kh (pv 0) X.cl hB GB hr.m bB .nil ba$ ja (jy$ pv 1)$ ja (pv 2) jb) jf (λ_ _=>Z))$ ja (jy$ pv 3) jb) ju)$ jg$ jp$ jh$ ja (jy$ pv 3) jb),?_];have b0:=aH;obtain⟨br,bw,rfl,J,L⟩:=xI I.p;cases hs with
 |lf p l vs e M=>
  have f2:lg (bK$ aj (dQ (cw K) (aZ 3)$ tC$ V.int 1) aM) { nx:=λx H'=>Q V.non H',rt:=Q } [some$ .ref i,some$ .ref p,some G,some$ .ref br,none] H:=by refine(jv J Z #[iE,λr N=>q (.ref r) S _ (jD jc$ jm Z (L.mono$ aa.tm$ je N) jA) (I.c.same$ je N) (aP.of_same$ je N)])
  cases l with
  |rd x t T |st x t T |wr t u T U |cl x f q2 ts |gv t T=>obtain⟨rfl,_⟩:=M;refine(jv e Z #[Z,_,Z,aX UQ ?_]);refine(jv e Z #[Z,_,Z,aX UQ ?_]);exact f2
 |ite p t T a b qa qb as bs e h0 M h3 h4 h5=>refine(jv e Z #[Z,_,Z,cX UQ ?_]);have h':max (max a.dep b.dep+1) 0 < n+1:=hd;have hz:d.length+y.w.sets.length+(a.size+b.size+0+1)<=10000000:=I.sz;have W:=I.ok;refine ah λF1 f1=>#[_,Z,i,D,_,Z,I.c.ins,Z,jv e Z #[_,Z,i,D,R,qb,g,m,d,S,bs,y,.ref br,Y,b,Z,#[I.c,I.p,I.ng,W.2.2.1,UO],h3,h5,UO,λv1 g1 j H1 p1 n1 O z=>f1 _ _ ?_]];clear f1;have B:=I.c.tm z;have lc:=kJ m b y d;have cb:=zd b;refine#[_,Z,i,D,_,Z,O.ins,Z,jv (B _ _ e) Z #[_,Z,i,D,R,qa,g,m,_,j,as,y,.ref br,Y,a,Z,#[O,I.p.but z I.c.fd I.ng,I.ng,W.2.1,UO],B _ _ M,h4.mono B,UO,λv2 g2 c0 H2 p2 n2 c2 k2=>?_]];obtain⟨r2,w2,rfl,a0,a1⟩:=xI p2;obtain⟨r1,w1,rfl,k,o⟩:=xI (p1.but k2 O.fd n1);refine#[r2,_,_,_,Z,Z,aB.of a0,Z,jv k Z #[ci,λr N=>q (.ref r) c0 _ (jD jc$ jm Z (a1.mono$ aa.tm$ je N)$ jm Z (o.mono$ aa.tm$ je N) jA) (c2.same$ je N) ((z.trans k2).trans$ aP.of_same$ je N)]]
 |loop p t T a qa as e h0 M h3=>refine(jv e Z #[Z,_,Z,aX UQ ?_]);refine(jv e Z #[Z,_,Z,cX UQ ?_]);have h':max (a.dep+1) 0 < n+1:=hd;have hz:d.length+y.w.sets.length+(a.size+0+1)<=10000000:=I.sz;have W:=I.ok;refine#[_,Z,i,D,_,Z,I.c.ins,Z,jv e Z #[_,Z,i,D,R,qa,g2,m,d,S,as,pl,G,Y,a,Z,#[I.c,h6,n0,W.2.1,by rw[h7];show d.length+0+a.size<=_;omega],M,h3,UO,λv1 g1 j H1 p1 n1 O z=>?_]];obtain⟨r1,w1,rfl,k,o⟩:=xI p1;have B:=I.c.tm z;refine#[r1,_,_,_,Z,Z,aB.of k,Z,jv (B _ _ J) Z #[ci,λr N=>q (.ref r) j _ (jD jc$ jm Z (o.mono$ aa.tm$ je N)$ jm Z ((L.mono B).mono$ aa.tm$ je N) jA) (O.same$ je N) (z.trans$ aP.of_same$ je N)]]
theorem wt:ai ["self","statement","behind","n","names","place","ways"] z7z (ae Au):=bP
theorem Gf(F:aQ K "place_of_cut" "Cutting.place_of_cut" Au f fd)(y:CK K C)(h7:n<=7)(GW:af P w K mg base aE (4*n+32) fW f0 z20z (Ek C n))(bW:aD K f0 z20z [])(hW:bj K C "ways_of" fW)(cM:Cl P w K mg base 2 fM f2 ["body"] hV "many_cuts")(cU:Cl P w K mg base 31 fU f3 z1z (gQ 7) "used_ahead_of")(cD:Cl P w K mg base 1 fD f4 z5z iQ "deed_of")(ml:mg "len"=none)(m0:mg "tuple"=none):af P w K mg base aE (4*n+33) f fd z7z (AS C n):=by
 refine F.ok wt ?_ λc0 A o1 s H vs Q E Y h=>?_
 ·rintro _ _ _ _ ⟨z,L,l,g,m,a,cs,j,v,bv,ys,s,rfl,_⟩;rfl
 obtain⟨z,L,l,g,m,a,cs,j,v,bv,ys,st,rfl,I,B,hd,hc,q⟩:=h;refine#[_,(jd (jB 3 wt.nd$ jw qV (jw qV (kf (pv 0) Z)$ jR jO Z ml Nh$ ja (kf (pv 0) Z) jb)$ cM.e Y.m$ ja (jh$ ja (pv 1) jb) jb)$ jd (jB 4 wt.nd$ cU.e Y.m$ ja (pv 1)$ ja (jy$ pv 2) jb)$ jd (jB 5 wt.nd$ jh$ ja (pv 4)$ ja (jh$ ja (jh jb)$ ja (jh$ ja jl$ ja (pv 3) jb) jb) jb)$ jd (jB 6 wt.nd$ kh (pv 0) y.cl hW GW Y.m bW .nil ba$ ja (pv 1)$ ja (pv 5)$ ja (pv 2) jb)$ jd (jF$ jZ L9 Ml Mj jM (kf (pv 0) Z)$ ja (jh$ ja (jN jY Z m0 Oc$ ja (pv 4) jb)$ ja (cD.e Y.m$ ja (pv 1) jb)$ ja (pv 6) jb) jb)$ jg$ jp$ pv 5),?_];have b0:=aH;obtain⟨br,ss,bw,rfl,h0,hN,h1⟩:=id I.p;have hz:=I.sz;have lc:=I.c.len;refine ah λF1 i=>#[_,Z,z,C,L,_,_,Z,I.c.ins,y.cl,y.nm,Z,_,Z,z,C,L,_,_,Z,I.c.ins,y.cl,y.nf,Z,l,_,Z,.inl$ aI.of I.c.fd,_,_,Z,Z,_,Z,iE,λu nu=>?_];have s1:aa H (am H u$ .tup [v]):=je nu;refine#[u,st,_,Z,jc,(B.mono$ aa.tm s1).bd,UO,λH1 k1=>#[_,_,Z,Z,i _ _ ?_]];clear i;have S:=s1.trans k1;rw[lc];refine ah λF1 i=>#[_,Z,jv (S _ _ h0) Z #[v,g,st,ss,j.M,ys,Z,B.mono$ aa.tm S,hN.same S,I.ok,UO,UO,λG zs H2 n2 N2 k2=>i _ _ ?_]];clear i;have s3:=S.trans k2;have N:G≠l:=λe=>by rw[e,S _ _ I.c.fd]at n2;cases n2
 refine ah λF1 i=>#[_,Z,fg,λe ne=>#[_,Z,ci,λU O=>#[ci,λx nx=>#[ci,λr nr=>i _ _ ?_]]]];clear i;have s4:aa H2 (am (am (am (am H2 e$ .tup []) U$ .tup [.str "go",.int$ m - (a.length:Int) - (st.cuts:Int)]) x$ .tup [.ref e,.ref U]) r$ .tup [.ref G,.ref x]):=(((je ne).trans$ je O).trans$ je nx).trans (je nr);have P4:nL (am (am (am (am H2 e$ .tup []) U$ .tup [.str "go",.int$ m - (a.length:Int) - (st.cuts:Int)]) x$ .tup [.ref e,.ref U]) r$ .tup [.ref G,.ref x]) #[st.use j.M,#[[],.go$ m - (a.length:Int) - (st.cuts:Int)]] (.ref r) G ys:=
  #[r,zs,.ref x,Z,jc,N2.same s4,jD (aq jc nr)$ jm Z (jD (aq (aq (aq jc O) nx) nr) jA)$ jm Z (jD (aq (aq jc nx) nr)$ jm Z jU$ jm Z jX jA) jA]
 generalize am (am (am (am H2 e$ .tup []) U$ .tup [.str "go",.int$ m - (a.length:Int) - (st.cuts:Int)]) x$ .tup [.ref e,.ref U]) r (.tup [.ref G,.ref x])=H4 at s4 P4;have R:=s3.trans s4;have c5:=I.c.same R;refine ah λF1 i=>#[_,Z,z,L,_,Z,c5.ins,Z,_,Z,_,Z,_,Z,z,L,l,g,G,m,a,cs,j,_,v,.ref br,.ref r,ys,st,Z,#[c5,I.p.same R,I.ng,I.ok,I.sz],P4,N,Z,B.mono$ aa.tm R,hd,λwv D H6 w6 c6 k6=>i _ _ ?_];clear i;have t0:=c5.tm k6;have p6:=P4.but k6 c5.fd N;have z6:H6 G=some (.lst$ zs.map V.str):=k6 _ _ N (s4 _ _ N2.at');have ez:=N2.nm.canon;have l6:=c6.len;have lw:(hX m #[st.use j.M,#[[],.go$ m - (a.length:Int) - (st.cuts:Int)]] j a st).2.length+1=a.length+st.cuts:=by have:=kJ m st j a;rw[Yz B hc m j a,LS]at this;exact this
 have cl:=zd st;refine ah λF1 i=>#[_,Z,z,C,L,_,_,Z,c6.ins,y.cl,y.nf,Z,.inl #[Z,_,aI.of c6.fd],_,Z,G,_,Z,.inl #[aI.of z6,λnt n0=>?_]];have s7:aa H6 (am H6 nt$ .tup$ zs.map V.str):=je n0;refine#[_,Z,v,st,Z,((B.mono$ aa.tm R).mono t0).mono$ aa.tm s7,λd H8 d8 k8=>#[_,Z,i8,λW J=>?_]];have X:=(s7.trans k8).trans (je (o:=.tup [.ref nt,d,wv]) J);have t:=c6.same X;refine#[l,D,_,Z,Z,t.fd,UO,i _ _ ?_];clear i;have T9:aS (am H8 W$ .tup [.ref nt,d,wv]) (Fn #[st.use j.M,st.deed,(hX m #[st.use j.M,#[[],.go$ m - (a.length:Int) - (st.cuts:Int)]] j a st).1]) (.ref W) []:=by refine jD jc$ jm Z (jD (aq (k8 _ _ jc) J) ?_)$ jm (Ft _) (d8.mono$ aa.tm$ je J)$ jm Z (w6.mono$ aa.tm X) jA;rw[<- ez];exact XX zs
 have p9:=p6.same X;generalize am H8 W (.tup [.ref nt,d,wv])=H9 at X t T9 p9;have k:aP l H9 (am H9 l$ .lst$ D++[.ref W]):=λb o nb e=>by rw[ji nb];exact e
 have T:=t.tm k;have n1:z≠l:=λe=>by have:=t.ins;rw[e,t.fd]at this;cases this
 refine#[_,Z,q (.ref r) G (D++[.ref W]) _ ?_ N ?_ (λb o nb e=>k b o nb (X _ _$ k6 b o nb$ R _ _ e))]
 ·rw[Yz B hc m j a];exact p9.but k t.fd N
 ·rw[Yz B hc m j a];refine#[k _ _ n1 t.ins,jc,?_];rw[Mz];exact Ka (jm Z (T9.mono T) jA)$ t.tr.mono T
inductive BI(C u j s a:Addr)(m:Int)(c:List Ct)(x:Pc)(f:V)(z:List Str)(b:Bd)(y:List V)(H:Hp)(i:Nat)(A:_L.St)(e:Hp):Prop
 |mk(d t:Bd)(v:V)(g:Addr)(h:List V)(w:Option V)(k:A=[some (.ref u),some (.ref a),some f,some v,w])(l:b=d.app t)(n:em H d (y.take (y.length - i)))(o:nL e (pB m t x c).1 v g z)(p:g≠s)(q:Cg e C u j s m (pB m t x c).2 h)(r:aP s H e)
theorem Kb(m:Int):∀(b:Bd) (c:Pc) (F:List Ct),(pB m b c F).2.length+(pB m b c F).1.w.sets.length<=F.length+c.w.sets.length+b.size
 | .nil,_,_=>LV _
 | .lf p l r,c,F=>by
  have e:=Kb m r c F;show(pL m p l$ pB m r c F).2.length+(pL m p l$ pB m r c F).1.w.sets.length<=F.length+c.w.sets.length+(r.size+1);cases l with
  |st x t T=>have:=XY x t (pB m r c F).1;show(pB m r c F).2.length+(iO x t (pB m r c F).1).sets.length<=_;omega
  |gv t T=>show(pB m r c F).2.length+0<=_;omega
  |rd x t T |wr t u T U |cl x f a d=>show((pB m r c F).2++[_]).length+0<=_;rw[LS];show _+1+0<=_;omega
 | .ite p t T x y r,c,F=>by have e:=Kb m r c F;have h:=zd x;have H:=zd y;show((pB m x _ (pB m y _ _).2).2++[_]).length+0<=F.length+c.w.sets.length+(x.size+y.size+r.size+1);rw[LS,kJ m x,kJ m y];show _+1+0<=_;omega
 | .loop p t T x r,c,F=>by have e:=Kb m r c F;have h:=zd x;show((pB m x _ _).2++[_]).length+0<=F.length+c.w.sets.length+(x.size+r.size+1);rw[LS,kJ m x];show _+1+0<=_;omega
theorem IF:ai z7z z7z (ae AB):=bP
theorem Gh(F:aQ K "place_of" "Cutting.place_of" AB f fd)(ck:CK K C)(GC:af P w K mg base aE (4*n+33) fC D z7z (AS C n))(bC:aD K D z7z [])(hC:bj K C "place_of_cut" fC)(cG:Cl P w K mg base 8 fG f0 z0z gO "place_of_give")(cS:Cl P w K mg base 11 fS f1 z1z iV "place_of_set"):af P w K mg base aE (4*n+34) f fd z7z (Ej C n):=by
 refine F.ok IF ?_ λc0 A O s H vs Q E G h=>?_
 ·rintro _ _ _ _ ⟨r,J,fa,g,m,j,z,L,v,B,y,s,rfl,_⟩;rfl
 obtain⟨r,J,fa,g,m,j,z,L,v,B,y,st,rfl,I,M,hd,q⟩:=h;refine#[_,(jd (jz (ki$ jy$ pv 1) (jg$ jp$ cG.e G.m$ ja (jy$ pv 1) jb) ju)$ jd (jz (ki$ jy$ pv 1) (jg$ jp$ cS.e G.m$ ja (pv 1)$ ja (pv 2) jb) ju)$ jg$ jp$ kh (pv 0) ck.cl hC GC G.m bC .nil ba$ ja (pv 1)$ ja (pv 2) jb),?_];have hz:=I.sz;have R:=M;have i:st.isCut=true->lg (xh C "place_of_cut" (AS C n) [] E0 (aZ 0)$ aj (aZ 1)$ aj (aZ 2) aM) { nx:=λx k=>Q V.non k,rt:=Q } [some$ .ref r,some v,some B] H:=λhc=>
  #[_,Z,r,J,_,Z,I.c.ins,Z,_,Z,_,Z,r,J,fa,g,m,j,z,L,v,B,y,st,Z,I,M,hd,hc,q]
 cases M with
 |lf p l vs d o=>
  cases l with
  |rd x t T |wr t u T U |cl x f q2 ts=>obtain⟨rfl,_⟩:=o;refine(jv d Z #[Z,_,Z,aX UQ ?_]);refine(jv d Z #[Z,_,Z,aX UQ ?_]);exact i Z
  |gv t T=>
   obtain⟨rfl,hT⟩:=o;refine(jv d Z #[Z,_,Z,cX UQ ?_]);clear i;have Y:y.length<=21:=by obtain⟨_,_,_,_,_,hN,_⟩:=I.p;exact hN.y20
   exact(jv d Z #[t,T,y,Z,hT,I.ok.1,Y,λW X k p' N S=>q W X z k p' (λe=>by rw[e,I.c.fd]at N;cases N) (I.c.same S) (aP.of_same S)])
  |st x t T=>obtain⟨rfl,hT⟩:=o;refine(jv d Z #[Z,_,Z,aX UQ ?_]);refine(jv d Z #[Z,_,Z,cX UQ ?_]);clear i;exact#[_,Z,_,Z,.ref p,B,p,t,x,T,L,g,y,Z,R,I.p,I.ok.1.1,I.ok.1.2,UO,λW X k p' N S=>q W X z k p' (λe=>by rw[e,I.c.fd]at N;cases N) (I.c.same S) (aP.of_same S)]
 |ite p t T a b qa qb as bs d h0 o h3 h4 h5 |loop p t T a qa as d h0 o h3=>refine(jv d Z #[Z,_,Z,aX UQ ?_]);refine(jv d Z #[Z,_,Z,aX UQ ?_]);exact i Z
theorem AH:ai ["self","body","behind","place","statement"] z9z (ae At):=bP
theorem Ge(F:aQ K "place_of_body" "Cutting.place_of_body" At f fd)(ck:CK K C)(GO:af P w K mg base aE (4*n+34) fO T z7z (Ej C n))(bO:aD K T z7z [])(hO:bj K C "place_of" fO)(R:mg "reversed"=none):af P w K mg base aE (4*n+35) f fd z9z (nF C$ n+1):=by
 refine F.ok AH ?_ λc1 A U s H vs Q E hr h=>?_
 ·rintro _ _ _ _ ⟨r,J,V,a,g,m,d,cs,xs,l,L,Y,b,rfl,_⟩;rfl
 obtain⟨r,J,V,a,g,m,d,cs,xs,l,L,Y,b,rfl,I,ha,hb,hd,q⟩:=h;refine#[_,(jd (jB 3 AH.nd$ pv 2)$ jd (kH MF Z (@vA _ _ _ _ _ _ _ Z R Sl (pv 1) UN UN UR UR) (jx (i:=4) AH.nd Z$ Or.inl Z)$ jg$ jB 3 AH.nd$ kh (pv 0) ck.cl hO GO hr.m bO .nil ba$ ja (pv 4)$ ja (pv 3) jb)$ jg$ jp$ pv 3),?_];have b0:=aH;have hz:=I.sz;have xl:=hb.len;refine ah λF1 u=>#[_,Z,u _ _ ?_];clear u;refine ah λF1 u=>?_;refine dW λF kF=>#[_,Z,a,xs,Z,aB.of ha,kF _ _ ?_];clear kF;refine XO (K:=K) (xs:=xs) (BI C r J V a m d l L Y b xs H) #[b,.nil,L,g,cs,_,Z,(app_nil b).symm,by rw[Po,MN];exact hb,I.p,I.ng,I.c,aP.refl] (λi σ H' hi h=>?_) ?_ (λσ H' h=>u _ _ ?_)
 ·obtain⟨_,_,_,_,_,_,_,_,_,_,_,_,k⟩:=h;exact aB.of$ I.c.tm k _ _ ha
 ·clear u;intro E _ i x σ H2 M fE Gq t h;obtain⟨pre,gm,v,W,o,o4,rfl,j,y,X,h4,N,O⟩:=h;have hi:i < xs.length:=by
   rcases Pp i xs.length with z |z
   ·exact z
   ·rw[M4 (by simpa using z)]at M;cases M
  rw[OD hi]at M;have et:xs.take (xs.length - i)=xs.take (xs.length - (i+1))++[x]:=by
   have D:xs.length - i=(xs.length - 1 - i)+1:=by omega
   have e2:xs.length - (i+1)=xs.length - 1 - i:=by omega
   rw[D,e2,MW,M];rfl
  rw[et]at y;rcases y.last with ⟨e,_⟩ | ⟨ws,v',B,S,D,e2,h6,h7⟩
  ·exact absurd e UP
  obtain⟨ew,ev⟩:=Ta D Z;cases ev;subst e2;have h0:=zT (j▸I.ok);have G:=zT h0.1;have a1:b.dep=max (B.app S).dep gm.dep:=by rw[j,zP]
  have a2:(B.app S).dep=max B.dep S.dep:=zP ..;have h':S.dep<=b.dep:=by rw[a1,a2];exact Mg (Ob ..)$ Ol ..
  clear a1 a2;have a0:b.size=B.size+S.size+gm.size:=by rw[j,ky,ky]
  have hl:=kJ m gm l d;have a3:=zd gm;have a4:=ZF m gm l d;have a5:(pB m gm l d).1.w.sets.length+(pB m gm l d).2.length+S.size<=10000000:=by have:=Kb m gm l d;omega
  refine t ?_;clear t;have tm:=I.c.tm O;show dP _ _ E [some$ .ref r,some$ .ref a,some L,some v,some x] H2;refine#[_,Z,r,J,_,Z,N.ins,Z,_,Z,_,Z,r,J,V,W,m,_,o,_,x,v,Y,S,Z,#[N,X,h4,G.2,UO],h7.mono tm,UO,λv3 g3 c0 H3 p3 n3 c3 k3=>fE _ _ #[B,S.app gm,v3,g3,c0,_,Z,by rw[j,app_assoc],?_,by rw[Ky];exact p3,n3,by rw[Ky];exact c3,O.trans k3]];rw[ew];exact h6
 ·obtain⟨pre,gm,v,W,o,o4,rfl,j,y,X,h4,N,O⟩:=h;rw[Rb]at y;have ep:pre= .nil:=by
   rcases y.last with ⟨_,e⟩ | ⟨ws,v,B,S,D,_⟩
   ·exact e
   ·exact absurd D UP
  rw[ep]at j;refine#[_,Z,q v W o H' ?_ h4 ?_ O]
  ·rw[j];exact X
  ·rw[j];exact N
theorem Gb:af P w K mg base aE k f i z9z (nF C 0):=by
 have n:∀v H Q E,¬nF C 0 v H Q E:=λv H Q E h=>by obtain⟨I,D,F,a,g,m,d,j,x,p,B,y,b,_,_,_,_,e,_⟩:=h;exact absurd e$ Pw _
 exact#[λv H Q E h=>absurd h (n v H Q E),λA o s H c u v Q E _ _ _ _ h=>absurd h (n v H Q E)]
theorem Lk(c:CK K C)(FB:aQ K "place_of_body" "Cutting.place_of_body" At g f)(F:aQ K "place_of" "Cutting.place_of" AB A a)(i:aQ K "place_of_cut" "Cutting.place_of_cut" Au D b)(j:aQ K "ways_of" "Cutting.ways_of" AE E d)
  (B:aD K f z9z []) (H:bj K C "place_of_body" g) (k:aD K a z7z []) (l:bj K C "place_of" A) (o:aD K b z7z []) (p:bj K C "place_of_cut" D) (q:aD K d z20z []) (r:bj K C "ways_of" E)
  (s:Cl P w K mg base 2 T G ["body"] hV "many_cuts") (t:Cl P w K mg base 31 U I z1z (gQ 7) "used_ahead_of") (u:Cl P w K mg base 1 Y J z5z iQ "deed_of") (v:Cl P w K mg base 8 fG L z0z gO "place_of_give") (x:Cl P w K mg base 11 fS N z1z iV "place_of_set") (y:mg "len"=none) (m:mg "tuple"=none) (M:mg "reversed"=none):
  ∀n:Nat,n<=8->af P w K mg base aE (4*n+31) g f z9z (nF C n)
 |0,_=>Gb
 |n+1,h=>by
  have O:=Lk c FB F i j B H k l o p q r s t u v x y m M n UO;have Q:=Gi j c O B H;have R:=Gf i c UO Q q r s t u y m;have S:=Gh F c R o p v x;have z:=Ge FB c S k l M;have e:4*n+35=4*(n+1)+31:=by omega
  rw[e]at z;exact z
theorem ZG{X:Cx}{K:Frag}{n:Nat}(a:X.K=K)(b:X.calm=true)(h:EH X e t)
  (c:(assignEach e X.env).length=n) (H:(assignEach e X.env).findIdx? (·.1)=none):PG X (.Tuple e k p) (pY K n t):=by
 subst a;exact qC b h c H
abbrev g3(K:Frag)(i j k:Nat):TG:=pY K 3 (cj (aU i)$ cj (aU j)$ cj (aU k) pX)
theorem Iy{t:_L.St}(h:t.length=3):∃a b c,t=[a,b,c]:=by
 cases t with
 |nil=>cases h
 |cons a r=>
  cases r with
  |nil=>cases h
  |cons b R=>
   cases R with
   |nil=>cases h
   |cons c d=>
    cases d with
    |nil=>exact#[a,b,c,Z]
    |cons _ _=>cases h
noncomputable abbrev wf:Stmt:=bQ 52
noncomputable abbrev oM:Stmt:=bQ 53
structure Df where
 f:Str
 p:Addr
 pa:Addr
 pb:Addr
 b:Bd
def ED(H:Hp)(d:Df)(v:V):Prop:=∃B,v= .ref d.p/\H d.p=some (.tup [.str d.f,.ref d.pa,.ref d.pb])/\H d.pb=some (.tup B)/\em H d.b B
def dh(H:Hp):List Df->List V->Prop
 | [],a=>a=[]
 |d::D,a=>∃v r,a=v::r/\ED H d v/\dh H D r
theorem ED.mono(k:ap H a)(h:ED H d v):ED a d v:=by obtain⟨b,e,c,f,g⟩:=h;exact#[b,e,k _ _ c,k _ _ f,g.mono k]
theorem dh.mono(k:ap H b):∀{a:List V},dh H D a->dh b D a:=by
 induction D with
 |nil=>exactλh=>h
 |cons d D i=>rintro a ⟨v,r,e,c,f⟩;exact#[v,r,e,c.mono k,i f]
theorem dh.len:∀{d:List Df} {v:List V},dh H d v->v.length=d.length
 | [],_,h=>by have e:_=[]:=h;rw[e];rfl
 |_::_,_,z=>by obtain⟨u,r,e,b,a⟩:=z;rw[e,Mu,Mu,dh.len a]
theorem dh.at:∀{D:List Df} {b:List V},dh H D b->∀(i:Nat) (v:V),b[i]?=some v->∃d,D[i]?=some d/\ED H d v
 | [],_,h,i,v,a=>by have e:_=[]:=h;rw[e]at a;simp at a
 |d::_,_,q,0,v,a=>by obtain⟨u,r,e,c,f⟩:=q;rw[e]at a;cases a;exact#[d,Z,c]
 |_::D,_,q,i+1,v,a=>by obtain⟨u,r,e,c,f⟩:=q;rw[e]at a;simpa using dh.at f i v (by simpa using a)
def mO(d:Df):Prop:=(∃y:List Str,y.length<=20/\d.b.Ok y)/\d.b.dep < 8/\d.b.size<=3000
noncomputable def IA(n:Addr):Pc:=#[λx=>x∈(Tm.num 0).vars,#[[],.give n]]
noncomputable def h9(n:Addr)(d:Df):Pc×List Ct:=pB (d.b.cuts:Int) d.b (IA n) []
noncomputable def fQ(n:Addr)(d:Df):Tr:=aA [aK d.f,rV d.pa,ik (h9 n d).1.w,aA ((h9 n d).2.reverse.map Fn)]
def nW(K:Frag)(n:Addr):Prop:=∀H:Hp,aB K H n [.str "num",.int 0]
inductive ph(C:Addr)(f:List V)(H:Hp)(Q:VK)(c:XK):Prop
 |mk(e d a:Addr)(b:Bd)(g:List V)(_:f=[.ref e,.ref a])(_:H e=some (.ins C d []))(_:H a=some (.tup g))(_:em H b g)(_:b.size<=10000000)(_:∀(fa:Addr) (H':Hp),H fa=none->Cg H' C e d fa (b.cuts:Int) [] []->aP e H H'->Q .non H')
inductive mE(K:Frag)(c:Addr)(e:List V)(H:Hp)(Q:VK)(a:XK):Prop
 |mk(d:Df)(b:List V)(_:e=[.str d.f,.ref d.pa,.ref d.pb])(_:H d.pb=some (.tup b))(_:em H d.b b)(_:mO d)(_:∀(v:V) (H':Hp),aS H' (fQ c d) v []->aa H H'->Q v H')
inductive mw(K:Frag)(e:Addr)(f:List V)(H:Hp)(Q:VK)(b:XK):Prop
 |mk(a:Addr)(c:List Df)(g:List V)(_:f=[.ref a])(_:H a=some (.tup g))(_:dh H c g)(_:c.length<=1000)(_:∀d∈c,mO d)(_:∀(v:V) (H':Hp),aS H' (aA (c.map (fQ e))) v []->aa H H'->Q v H')
theorem pM{K:Frag}{t:TE}{Q:List V->Hp->Prop}{H:Hp}(x:H a=some (.tup g))(u:dh H D g)(R:D.length<=1000)
  (Pv:Nat->List V->Hp->Prop) (z:Pv 0 [] H) (A:∀i Y h,Pv i Y h->aa H h/\Y.length<=i)
  (C:∀i d B Y h,D[i]?=some d->h d.pb=some (.tup B)->em h d.b B->Pv i Y h->t (some (.str d.f)::some (.ref d.pa)::some (.ref d.pb)::l) h λy j=>Pv (i+1) (Y++[y]) j)
  (E:∀Y h,Pv D.length Y h->Q Y h):eN (Be K a) 3 l (g3 K 0 1 2) mH t Q H:=by
 have F:=aH;have S:=u.len;refine#[λi m Y h=>m=D.length - i/\i<=D.length/\Pv i Y h,#[D.length,UP,Ma _,z],?_];intro i m Y h c;obtain⟨rfl,T,p⟩:=c;obtain⟨s,U⟩:=A i Y h p;have c:aB K h a g:=aB.of (s _ _ x);by_cases n:i < D.length
 ·have I:i < g.length:=by omega
  refine .inr #[#[g,g[i],c,LP I],UO,Pv$ i+1,λJ j L=>#[D.length - (i+1),UO,Z,n,L],λv j W o y=>?_];obtain⟨e,y⟩:=y;subst e;have q:=y g c;obtain⟨d,r,B,rfl,M,N,O⟩:=(u.mono$ aa.tm s).at i v q;obtain⟨X,t2,t3,rfl⟩:=Iy o;refine#[d.p,_,Z,aB.of M,Z,_,_,Z,_,_,Z,_,_,Z,Z,#[[some _,some _,some _],Z,Z],?_];exact C i d B Y j r N O p
 ·have e:i=D.length:=by omega
  subst e;exact .inl #[#[g,c,UO],E Y h p]
theorem GP:ai ["self","body"] ["self","body"] (ae vY):=bP
theorem Dp(F:aQ K "__init__" "Cutting.__init__" vY f t)(d:CK K C)(u:Cl P w K mg base 2 M v ["body"] hV "many_cuts"):af P w K mg base aE 3 f t ["self","body"] (ph C):=by
 refine F.ok GP ?_ λy A O s H V Q E B h=>?_
 ·rintro _ _ _ _ ⟨i,D,a,b,x,rfl,_⟩;rfl
 obtain⟨i,D,a,b,x,rfl,G,I,J,L,q⟩:=h;refine#[_,(jd (@zG _ _ _ _ _ _ _ _ (pv 0) (u.e B.m$ ja (pv 1) jb) Z)$ jg$ @zG _ _ _ _ _ _ _ _ (pv 0) (jG jb) Z),?_];refine ah λS l=>#[_,Z,a,b,x,Z,I,J,L,λT k=>#[_,Z,i,C,D,_,Z,k _ _ G,d.cl,d.nm,UN,l _ _ ?_]];clear l;refine#[fg,λg n=>#[_,Z,i,C,D,_,Z,aq jc n,d.cl,d.nf,(by show 1 < 1000;decide),?_]];have N:g≠i:=λe=>by rw[e,jc]at n;cases n
 have p:H g=none:=by
  cases e:H g with
  |none=>rfl
  |some o=>rw[ji N,k _ _ e]at n;cases n
 refine q g _ p #[jc,by rw[ji N,jc],Z] λc o r e=>?_;rw[ji r,ji (λz=>by rw[z,p]at e;cases e),ji r];exact k _ _ e
theorem ou:ai ["name","params","body","cutting","first"] z16z (ae wf):=bP
theorem yY(F:aQ K "part_made" "part_made" wf f fd)(t:CK K C)(mk:Mk K C fI)(GI:af P w K mg base aE 3 fI u ["self","body"] (ph C))(bI:aD K u ["self","body"] [])(mC:mg "Cutting"=some (.ref C))(M:mg "NOUGHT"=some (.ref n))(no:nW K n)(GB:af P w K mg base aE 63 fB x z9z (nF C 8))(bB:aD K x z9z [])(hB:bj K C "place_of_body" fB)(cG:Cl P w K mg base 8 fG f0 z0z (pk K) "place_of_give")(y:mg "tuple"=none)(z:mg "reversed"=none):af P w K mg base aE 64 f fd z16z (mE K n):=by
 refine F.ok ou ?_ λc0 A O s H vs Q E B h=>?_
 ·rintro _ _ _ _ ⟨d,G,rfl,_⟩;rfl
 obtain⟨d,G,rfl,hb,a,I,q⟩:=h;refine#[_,(jd (jB 3 ou.nd$ Zv mk GI B.m Z mC bI .nil ba$ ja (pv 2) jb)$ jd (jB 4 ou.nd$ kh (pv 3) t.cl hB GB B.m bB .nil ba$ ja (pv 2)$ ja (cG.e B.m$ ja (Jc (v:=.ref n) Z M Z) jb) jb)$ jg$ jp$ jh$ ja (pv 0)$ ja (pv 1)$ ja (jy$ pv 4)$ ja (@rQ _ _ _ _ _ _ _ _ _ Z Z y Oc Z z Sl (kf (pv 3) Z) UN UN UN UN UR UR UR UR) jb),?_];have b0:=aH;obtain⟨⟨ys,y0,ok⟩,J,hz⟩:=I;refine ah λF1 j=>#[_,Z,λi D N L n0=>?_];have S:aa H (am (am H D$ .own i) i$ .ins C D []):=λc o e=>by rw[ji$ jk e N,ji$ jk e L];exact e
 refine#[i,D,d.pb,d.b,G,Z,jc,S _ _ hb,a.mono$ aa.tm S,UO,λp H1 nf R k1=>#[Z,j _ _ ?_]];clear j;have s1:aa H H1:=λc o e=>k1 c o (jk e N) (S _ _ e);have T:H p=none:=S.free nf;refine ah λF1 j=>#[_,Z,i,D,_,Z,R.ins,Z,_,Z,n,ys,Z,no _,UO,λv g H2 p2 n2 k2=>?_];have ng:g≠p:=λe=>by rw[e,R.fd]at n2;cases n2
 have U:=s1.trans k2;refine#[i,D,p,d.pb,g,_,[],[],G,IA n,v,ys,d.b,Z,#[R.same k2,p2,ng,ok,by show 0+0+d.b.size<=_;omega],U _ _ hb,a.mono$ aa.tm U,J,λv3 g3 k V p3 n3 W k3=>j _ _ ?_];clear j;obtain⟨r3,w3,rfl,X,Y⟩:=xI p3;have s3:aa H V:=λc o e=>k3 c o (jk e T) (U _ _ e);refine#[_,Z,_,Z,jv X Z #[_,Z,i,C,D,_,_,Z,W.ins,t.cl,t.nf,Z,p,k,Z,aI.of W.fd,λl nl=>#[xW,λr nr=>?_]]];have s5:aa V (am (am V l$ .tup k.reverse) r$ .tup [.str d.f,.ref d.pa,w3,.ref l]):=(je nl).trans (je nr);refine q (.ref r) _ ?_$ s3.trans s5;refine jD jc$ jm Z jU$ jm Z JD$ jm Z (Y.mono$ aa.tm s5)$ jm Z (jD (aq jc nr) ?_) jA;have e:=ZE (W.tr.mono$ aa.tm s5);rw[<- List.map_reverse]at e;exact e
theorem Ee:ai ["program"] ["program"] (ae oM):=bP
noncomputable def wK:Scope:=#[.function,[(".0",.local),("name",.local),("params",.local),("body",.local),("part_made",.globalImplicit)],false,false,[]]
theorem uO:(z16z:List Str).Nodup:=by decide+kernel
theorem Fk:bh ["program"] (ae oM) wK z16z 3 []:=pO
theorem yV(F:aQ K "made" "made" oM f p)(C:Cl P w K mg base 64 U t z16z (mE K N) "part_made")(M:mg "tuple"=none):af P w K mg base aE 65 f p ["program"] (mw K N):=by
 refine F.ok Ee ?_ λu A o s H V Q E x h=>?_
 ·rintro _ _ _ _ ⟨a,D,X,rfl,_⟩;rfl
 obtain⟨a,D,X,rfl,g,y,B,O,q⟩:=h;refine#[_,(jg$ jp$ jN jY Z M Oc$ ja (@zO _ _ _ _ _ _ _ (z16z) (3) ([]) _ _ _ _ Z (JC$ pv 0) Fk (λ_ _ _ _ _=>(ZG (K:=K) (n:=3) Z Z (jC (jx (i:=0) uO Z$ Or.inl Z)$ jC (jx (i:=1) uO Z$ Or.inl Z)$ jC (jx (i:=2) uO Z$ Or.inl Z) za) Z Z)) (λ_ _ _ _ _=>(@qj _)) (λ_ _ _ _ _=>(C.e x.m$ ja (pv 0)$ ja (pv 1)$ ja (pv 2) jb)) (by intro _;rfl)) jb),?_];refine#[_,Z,a,Z,#[_,aB.of g],?_];refine pM g y B (λi V b=>aS b (ay ((D.take i).map$ fQ N)) .non V/\aa H b/\i<=D.length) #[Z,aa.refl _,Ma _] (λi V b h=>#[h.2.1,?_]) (λi d G V b c I J h=>?_) (λV b h l L=>?_)
 ·rw[zo h.1,LU,Mw];exact Rv ..
 ·have R:i < D.length:=by
   rcases Pp i D.length with z |z
   ·exact z
   ·rw[M4 z]at c;cases c
  refine#[_,Z,_,Z,_,Z,d,G,Z,I,J,O d$ Mr c,λv Y T j=>#[?_,h.2.1.trans j,R]];rw[MW,c,Mz];exact Ka (jm Z T jA)$ h.1.mono$ aa.tm j
 ·refine#[l,V,Z,.inl #[aI.of jc,λr S=>?_]];have s:aa b (am (am b l$ .lst V) r$ .tup V):=(je L).trans (je S);refine q (.ref r) _ (jD jc ?_)$ h.2.1.trans s;have e:=h.1;rw[MN]at e;exact e.mono$ aa.tm s
def dH(p q:Addr)(H h:Hp):Prop:=∀b o,b≠p->b≠q->H b=some o->h b=some o
theorem dH.trans(a:dH p q H d)(b:dH p q d e):dH p q H e:=λc o n m h=>b c o n m (a c o n m h)
theorem dH.of_same(a:aa H b):dH p q H b:=λc o _ _ h=>a c o h
theorem Fp{x:List V}(h:k<=x.length):bZ x none (some (k:Int))=x.take k:=by
 unfold bZ;rw[HT.sIx_nat,HT.sIx_none];have e:min k x.length=k:=by omega
 rw[e];simp
def Lp(H:Hp)(D:List Df):Prop:=∀d∈D,∃p:List Str,H d.pa=some (.tup$ p.map V.str)/\p.length<=100
theorem XZ{a:Type}{P:a->Prop}{X:List a}{x:a}(h:∀c∈X,P c)(H:P x):∀c∈X++[x],P c:=λc b=>by
 rcases List.mem_append.mp b with h1 |h1
 ·exact h c h1
 ·rw[List.mem_singleton.mp h1];exact H
def nY(H:Hp)(D:List Df)(N:List Nat):Prop:=D.length=N.length/\∀(i:Nat) (d:Df) (n:Nat),D[i]?=some d->N[i]?=some n->∃p:List Str,H d.pa=some (.tup$ p.map V.str)/\p.length=n/\n<=100
theorem nY.mono(h:nY H D N)(k:ap H a):nY a D N:=#[h.1,λi d n b c=>let #[p,e,l]:=h.2 i d n b c;#[p,k _ _ e,l]]
theorem nY.v(h:nY H D n):Lp H D:=λd b=>by
 obtain⟨i,a,e⟩:=List.mem_iff_getElem.mp b;have c:D[i]?=some d:=by rw[<- e];exact LP a
 obtain⟨p,e,l,k⟩:=h.2 i d _ c (LP (by rw[<- h.1];exact a));exact#[p,e,UO]
def pG(D:List Df)(n:List Nat):Prop:=(∀d∈D,mO d/\d.b.Cs ((D.map Df.f).zip n))/\(D.map Df.f).Nodup/\∀y∈D.map Df.f,y.length<=20
theorem fg:0<=sizeLine:=by decide
theorem iE:1<=sizeLine:=by decide
theorem ci:2<=sizeLine:=by decide
theorem i8:3<=sizeLine:=by decide
theorem xW:4<=sizeLine:=by decide
theorem ap.trans(a:ap H h)(b:ap h d):ap H d:=λc x e=>b c x (a c x e)
theorem ap.refl:ap H H:=λ_ _ e=>e
def gr(H:Hp)(y:List Str)(k:Nat)(a:Addr):Prop:=∃T,cq H T a/\T.Good y/\T.depth<=k
theorem gr.mono(h:gr H y k a)(m:ap H b):gr b y k a:=let #[T,c,d]:=h;#[T,c.mono m,d]
theorem gr.ok(h:gr H y k a)(m:k < 6):∃T,cq H T a/\eO y T:=let #[T,b,c,d]:=h;#[T,b,c,Nj d m]
section
variable {Cf:h8}{H:Hp}{ys:List Str}
theorem Ew(h:H a=some (.tup [.str "num",.int n]))(b:0<=n)(c:n < 1000000000000000000):gr H ys 0 a:=#[.num n,h,#[b,c],Ma _]
theorem YA(h:H a=some (.tup [.str "var",.str x]))(b:x∈ys):gr H ys 0 a:=#[.var x,h,b,Ma _]
def Sg(s:Str):Prop:=∃i,i < 6/\s=IG i
theorem BZ(h:H a=some (.tup [.str "op",.str s,.ref b,.ref c]))(d:Sg s)(e:gr H ys j b)(f:gr H ys k c)(q:j < n)(r:k < n):gr H ys n a:=by obtain⟨i,g,rfl⟩:=d;obtain⟨B,l,m,t⟩:=e;obtain⟨C,o,p,u⟩:=f;exact#[.op i B C,#[b,c,h,l,o],#[g,m,p],by show max B.depth C.depth+1<=n;omega]
theorem kI:Sg "+":=#[0,UN,UQ]
theorem X0:Sg "-":=#[1,UN,UQ]
theorem X1:Sg "*":=#[2,UN,UQ]
theorem AN:Sg "/":=#[3,UN,UQ]
theorem Kc:Sg "<":=#[4,UN,UQ]
theorem GZ:Sg "=":=#[5,UN,UQ]
theorem Ai(h:0<=d)(a:d < 4):∃s,fq [V.str "+",.str "+",.str "*",.str "-"] d=some (.str s)/\Sg s:=by
 rcases(by omega:d=0∨d=1∨d=2∨d=3) with rfl |rfl |rfl |rfl
 ·exact#[_,Z,kI]
 ·exact#[_,Z,kI]
 ·exact#[_,Z,X1]
 ·exact#[_,Z,X0]
theorem Ah(h:0<=d)(a:d < 3):∃c,fq (Str.cps "<=*").toList d=some c/\Sg #[(List.toArray [c])]:=by
 rcases(by omega:d=0∨d=1∨d=2) with rfl |rfl |rfl
 ·exact#[_,Z,Kc]
 ·exact#[_,Z,GZ]
 ·exact#[_,Z,X1]
theorem Go{P:Addr->Prop}(e:0<=d)(f:d < 2)(h:P a)(c:P b):∃x,fq [V.ref a,.ref b] d=some (.ref x)/\P x:=by
 rcases(by omega:d=0∨d=1) with rfl |rfl
 ·exact#[_,Z,h]
 ·exact#[_,Z,c]
theorem Gp{P:Addr->Prop}(g:0<=d)(i:d < 3)(h:P a)(e:P b)(f:P c):∃x,fq [V.ref a,.ref b,.ref c] d=some (.ref x)/\P x:=by
 rcases(by omega:d=0∨d=1∨d=2) with rfl |rfl |rfl
 ·exact#[_,Z,h]
 ·exact#[_,Z,e]
 ·exact#[_,Z,f]
theorem Gr{P:Addr->Prop}(h:P a)(d:P b)(c:Bool):∃x,fq [V.ref a,.ref b] (if c then 1 else 0)=some (.ref x)/\P x:=by
 cases c
 ·exact#[_,Z,h]
 ·exact#[_,Z,d]
def bM(Cf:h8)(H:Hp)(ys:List Str)(d:Nat)(v:V):Prop:=∃s,io H v s/\(s.Ok ys/\s.Cs Cf)/\s.dep<=d/\s.size<=1+20*d
def fj(Cf:h8)(H:Hp)(ys:List Str)(d:Nat)(x:List V):Prop:=∃b,em H b x/\(b.Ok ys/\b.Cs Cf)/\b.dep<=d/\b.size<=(1+20*d)*x.length
theorem bM.mono(h:bM Cf H ys d v)(m:ap H a):bM Cf a ys d v:=let #[s,b,c]:=h;#[s,b.mono m,c]
theorem fj.mono(h:fj Cf H ys d x)(m:ap H a):fj Cf a ys d x:=let #[s,b,c]:=h;#[s,b.mono m,c]
theorem bM.up(h:bM Cf H ys 0 v):bM Cf H ys d v:=let #[s,a,b,c,e]:=h;#[s,a,b,UO,UO]
theorem Kz:fj Cf H ys d []:=#[.nil,Z,#[trivial,trivial],Ma _,Ma _]
theorem qk{xs:List V}(h:fj Cf H ys d xs)(g:fj Cf H ys d z):fj Cf H ys d (xs++z):=by obtain⟨a,c,A,f,i⟩:=h;obtain⟨b,e,B,j,k⟩:=g;refine#[a.app b,e.app c,#[Q0 A.1 B.1,QZ A.2 B.2],by rw[zP];omega,?_];rw[ky,LS,Nat.mul_add];omega
theorem kK(h:bM Cf H ys d v):fj Cf H ys d [v]:=by obtain⟨s,a,b,c,e⟩:=h;exact#[s,a.bd,b,c,by show s.size<=(1+20*d)*1;omega]
theorem jV(h:bM Cf H ys d v)(g:fj Cf H ys d xs):fj Cf H ys d (v::xs):=qk (xs:=[v]) (kK h) g
theorem Qr{l:Lf}(h:H p=some (.tup v))(a:Bf H l v)(b:l.Ok ys)(c:l.Cs Cf):bM Cf H ys 0 (.ref p):=#[.lf p l .nil,.lf p l v h a,#[#[b,trivial],c,trivial],LV 0,LV 1]
theorem G8(h:H p=some (.tup [.str "read",.str x,.ref t]))(a:x∈ys)(b:gr H ys k t)(c:k < 6:=by decide):bM Cf H ys 0 (.ref p):=by obtain⟨T,d,e⟩:=b.ok c;exact Qr (l:=.rd x t T) h #[Z,d] #[a,e] trivial
theorem G9(h:H p=some (.tup [.str "set",.str x,.ref t]))(a:x∈ys)(b:gr H ys k t)(c:k < 6:=by decide):bM Cf H ys 0 (.ref p):=by obtain⟨T,d,e⟩:=b.ok c;exact Qr (l:=.st x t T) h #[Z,d] #[a,e] trivial
theorem G6(h:H p=some (.tup [.str "give",.ref t]))(a:gr H ys k t)(b:k < 6:=by decide):bM Cf H ys 0 (.ref p):=by obtain⟨T,c,d⟩:=a.ok b;exact Qr (l:=.gv t T) h #[Z,c] d trivial
theorem Hd(h:H p=some (.tup [.str "write",.ref t,.ref u]))(a:gr H ys k t)(b:gr H ys j u)(c:k < 6:=by decide)(d:j < 6:=by decide):bM Cf H ys 0 (.ref p):=by obtain⟨T,e,f⟩:=a.ok c;obtain⟨U,g,i⟩:=b.ok d;exact Qr (l:=.wr t u T U) h #[Z,e,g] #[f,i] trivial
theorem G5{f:Str}(h:H p=some (.tup [.str "call",.str x,.str f,.ref q]))(b:x∈ys)(a:(f,2)∈Cf)(d:H q=some (.tup [.ref t,.ref u]))(e:gr H ys k t)(g:gr H ys j u)(i:k < 6:=by decide)(m:j < 6:=by decide):bM Cf H ys 0 (.ref p):=by
 obtain⟨T,n,o⟩:=e.ok i;obtain⟨U,r,s⟩:=g.ok m;refine Qr (l:=.cl x f q [(t,T),(u,U)]) h #[Z,d,λc hc=>?_] #[b,(by show 2<=6;decide),λc hc=>?_] a
 ·rcases List.mem_cons.mp hc with rfl |hc
  ·exact n
  ·rw[List.mem_singleton.mp hc];exact r
 ·rcases List.mem_cons.mp hc with rfl |hc
  ·exact o
  ·rw[List.mem_singleton.mp hc];exact s
theorem G7(h:H p=some (.tup [.str "if",.ref t,.ref q,.ref Q]))(e:gr H ys k t)(f:H q=some (.tup A))(g:H Q=some (.tup B))(G:fj Cf H ys 0 A)(i:fj Cf H ys 0 B)(r:A.length+B.length<=20)(j:k < 6:=by decide):bM Cf H ys 1 (.ref p):=by obtain⟨T,l,m⟩:=e.ok j;obtain⟨a,n,c,s,u⟩:=G;obtain⟨b,o,d,v,x⟩:=i;exact#[.ite p t T a b .nil,.ite p t T a b q Q A B h l f g n o,#[#[m,c.1,d.1,trivial],c.2,d.2,trivial],(by show max (max a.dep b.dep+1) 0<=1;omega),(by show a.size+b.size+0+1<=21;omega)]
theorem wX(h:H p=some (.tup [.str "while",.ref t,.ref q]))(c:gr H ys k t)(d:H q=some (.tup A))(g:fj Cf H ys 0 A)(l:A.length<=20)(e:k < 6:=by decide):bM Cf H ys 1 (.ref p):=by obtain⟨T,f,i⟩:=c.ok e;obtain⟨a,j,b,m,n⟩:=g;exact#[.loop p t T a .nil,.loop p t T a q A h f d j,#[#[i,b.1,trivial],b.2,trivial],(by show max (a.dep+1) 0<=1;omega),(by show a.size+0+1<=21;omega)]
def oE(Cf:h8)(n:Nat)(H:Hp)(r:Addr)(f:Str):Prop:=∃d:Df,ED H d (.ref r)/\(mO d/\d.b.Cs Cf)/\∃p:List Str,H d.pa=some (.tup$ p.map V.str)/\p.length=n/\d.f=f
theorem oE.mono(h:oE Cf n H r f)(m:ap H a):oE Cf n a r f:=let #[d,b,c,p,e,g]:=h;#[d,b.mono m,c,p,m _ _ e,g]
theorem Fz{f:Str}{p:List Str}(h:H r=some (.tup [.str f,.ref a,.ref b]))(d:H a=some (.tup$ p.map V.str))(e:p.length=n)(i:H b=some (.tup x))(g:fj Cf H ys 1 x)(l:x.length<=100)(j:ys.length<=20):oE Cf n H r f:=by obtain⟨c,k,C,m,o⟩:=g;exact#[#[f,r,a,b,c],#[x,Z,h,i,k],#[#[#[ys,j,C.1],(by show c.dep < 8;omega),(by show c.size<=3000;omega)],C.2],p,d,e,Z]
structure Wd(H0 H:Hp)(p wl:Addr)(ys:List Str):Prop where
 B:aG H p
 K:aP p H0 H
 w:H wl=some (.lst$ ys.map V.str)
theorem Wd.np(h:Wd b H p a ys):a≠p:=sW h.B h.w
theorem Wd.same(h:Wd a H p b ys)(s:aa H c):Wd a c p b ys:=#[h.B.same s,h.K.trans$ aP.of_same s,s _ _ h.w]
theorem Wd.but(h:Wd b H p c ys)(B:aG a p)(k:aP p H a):Wd b a p c ys:=#[B,h.K.trans k,k _ _ h.np h.w]
theorem Wd.own{xs:List V}(h:Wd a H p b ys)(n:a l=none)(L:l≠p)(c:l≠b):Wd a (am H l$ .lst z) p b ys:=#[h.B.eq$ ji$ ME L,h.K.upd_own n,by rw[ji$ ME c];exact h.w]
theorem JE(h:H l=some (.lst x)):ap H (am H l$ .lst a):=λb u e=>by rw[ji$ jW e h (by intro z;cases z)];exact e
end
inductive my(d:List V)(H:Hp)(Q:VK)(c:XK):Prop
 |mk(p a b:Addr)(e:List Str)(k:Nat)(_:d=[.ref p,.ref a,.ref b])(_:aG H p)(_:gr H e k a)(_:gr H e k b)(_:∀(r:Addr) (H':Hp),gr H' e (k+1) r->aG H' p->aP p H H'->Q (.ref r) H')
inductive dy(n:Nat)(b:List V)(H:Hp)(Q:VK)(a:XK):Prop
 |mk(p c:Addr)(f g:Str)(d:List Str)(_:b=[.ref p,.str f,.str g,.ref c])(_:aG H p)(_:H c=some (.lst (d.map V.str)))(_:d.length=6)(_:∀(r:Addr) (H':Hp),oE [(g,2)] n H' r f->aG H' p->aP p H H'->Q (.ref r) H')
noncomputable abbrev ID:Stmt:=bQ 67
noncomputable abbrev oj:Stmt:=bQ 68
noncomputable abbrev iy:Stmt:=bQ 69
noncomputable abbrev gF:Stmt:=bQ 70
noncomputable abbrev vS:Stmt:=bQ 71
theorem FX{A:List V}(h:A.length=5):∃a b c d e,A=[a,b,c,d,e]:=by
 cases A with
 |nil=>cases h
 |cons a r=>
  cases r with
  |nil=>cases h
  |cons b R=>
   cases R with
   |nil=>cases h
   |cons c f=>
    cases f with
    |nil=>cases h
    |cons d g=>
     cases g with
     |nil=>cases h
     |cons e i=>
      cases i with
      |nil=>exact#[a,b,c,d,e,Z]
      |cons _ _=>cases h
theorem Ls{n:Nat}:oe (n+1) 0=some 0:=by unfold oe;rw[Mb UN,Mb UO];rfl
theorem Lu{n:Nat}:oe (n+2) 1=some 1:=by unfold oe;rw[Mb UN,Mb UO];rfl
theorem ij:fq (v::u::y) 1=some u:=jL (j:=1) Z
structure Fw(p:Addr)(H H':Hp):Prop where
 t:ap H H'
 b:aP p H H'
theorem Fw.refl:Fw p H H:=#[ap.refl,aP.refl]
theorem Fw.trans(a:Fw p H h)(b:Fw p h c):Fw p H c:=#[a.t.trans b.t,a.b.trans b.b]
theorem Fw.new{p:Addr}{H:Hp}{o:HO}(n:H r=none):Fw p H (am H r o):=#[aa.tm$ je n,aP.of_same$ je n]
theorem Fw.same(s:aa H h):Fw p H h:=#[aa.tm s,aP.of_same s]
theorem Fw.but(B:aG H p)(c:aP p H h):Fw p H h:=#[c.tm B,c]
def nV(P:Hp->V->Prop):Prop:=∀H h v,ap H h->P H v->P h v
def Ev(a:Hp)(p W:Addr)(y:List Str)(b:Hp)(c:_L.St)(t:TE)(P:Hp->V->Prop):Prop:=∀(H:Hp) (Q:VK),Fw p b H->Wd a H p W y->(∀v h,P h v->Wd a h p W y->Fw p H h->Q v h)->t c H Q
def PT(y:List Str)(k:Nat)(H:Hp)(v:V):Prop:=∃a,v= .ref a/\gr H y k a
def PB(C:h8)(y:List Str)(d n:Nat)(H:Hp)(v:V):Prop:=∃a x,v= .ref a/\H a=some (.tup x)/\fj C H y d x/\x.length<=n
def PN(y:List Str)(_:Hp)(v:V):Prop:=∃x,v= .str x/\x∈y
def PG(_:Hp)(v:V):Prop:=∃s,v= .str s/\Sg s
def PP(n:Nat)(H:Hp)(v:V):Prop:=∃(a:Addr) (x:List Str),v= .ref a/\H a=some (.tup$ x.map V.str)/\x.length=n
def sP(y:Str)(_:Hp)(v:V):Prop:=v= .str y
def PD(C:h8)(n:Nat)(f:Str)(H:Hp)(v:V):Prop:=∃a,v= .ref a/\oE C n H a f
section
variable {Cf:h8}{ys:List Str}{H0 Hb:Hp}{p wl:Addr}{σ:_L.St}
theorem ar:nV (PT ys k):=λ_ _ _ m #[a,e,h]=>#[a,e,h.mono m]
theorem du:nV (PB Cf ys d n):=λ_ _ _ m #[a,x,e,h,H,b]=>#[a,x,e,m _ _ h,H.mono m,b]
theorem eL:nV λH v=>bM Cf H ys d v:=λ_ _ _ m h=>h.mono m
theorem gD:nV (PD Cf n f):=λ_ _ _ m #[a,e,h]=>#[a,e,h.mono m]
theorem Ev.up{P R:Hp->V->Prop}(h:Ev H0 p wl ys Hb σ t P)(k:∀H v,P H v->R H v):Ev H0 p wl ys Hb σ t R:=λH Q m W q=>h H Q m W λv a x=>q v a (k _ _ x)
theorem jI{P:Hp->V->Prop}(e:σ[i]?=some (some v))(M:nV P)(h:P Hb v):Ev H0 p wl ys Hb σ (aZ i) P:=λH Q m W q=>#[v,e,q v H (M _ _ _ m.t h) W .refl]
theorem zp(h:Sg s):Ev H0 p wl ys Hb σ (tC$ .str s) PG:=λH Q m W q=>q _ H #[s,Z,h] W .refl
theorem j6{K:Frag}(e:σ[j]?=some (some$ .ref wl))(a:0<=i)(b:i < (ys.length:Int)):Ev H0 p wl ys Hb σ (dQ (iH K) (aZ j)$ tC$ .int i) (PN ys):=λH Q m W q=>by obtain⟨y,c,h⟩:=Yy (ys:=ys) a b;exact#[_,e,wl,_,_,_,Z,Z,aI.of W.w,h,q _ H #[y,Z,c] W .refl]
theorem kL{Q:VK}{P:Hp->V->Prop}(W:Wd H0 H p wl ys)(q:∀v h,P h v->Wd H0 h p wl ys->Fw p H h->Q v h)(n:H r=none)(x:ap H (am H r o)->am H r o r=some o->P (am H r o) (.ref r)):Q (.ref r) (am H r o):=
 q _ _ (x (aa.tm$ je n) jc) (W.same$ je n) (.new n)
abbrev sL(n:Int):TE:=gf bN [] E0 (aj (aZ 0)$ aj (tC$ .int n) aM)
def PK(n:Int)(_:Hp)(v:V):Prop:=∃d:Int,v= .int d/\0<=d/\d < n
theorem kn(e:σ[0]?=some (some$ .ref p))(h:1<=n)(c:n<=1000):Ev H0 p wl ys Hb σ (sL n) (PK n):=λH Q m W q=>
 #[_,e,p,n,Z,W.B,UO,UO,λd f D a b E=>q _ _ #[d,Z,D,a] (W.but b$ aP.of_eq E) (.but W.B$ aP.of_eq E)]
theorem j7(h:Ev H0 p wl ys Hb σ t (PK n))(g:n<=1000000000000000000):Ev H0 p wl ys Hb σ (bK$ aj (tC$ .str "num")$ aj t aM) (PT ys 0):=λH Q m W q=>
 h H _ m W λv i #[d,e,D,j] a b=>#[ci,λr N=>kL (P:=PT ys 0) a (λV c x f k=>q V c x f (b.trans k)) N λ_ z=>#[r,Z,Ew (by rw[z,e]) D UO]]
theorem JA(h:0<=n)(a:n < m):Ev H0 p wl ys Hb σ (tC$ .int n) (PK m):=λH Q _ W q=>q _ H #[n,Z,h,a] W .refl
theorem Q1(h:Ev H0 p wl ys Hb σ t (PK n))(c:0<=m):Ev H0 p wl ys Hb σ (dQ (xV λi j=>V.int (i+j)) (tC$ .int m) t) (PK$ m+n):=λH Q M W q=>
 h H _ M W λv a #[d,e,D,f] b k=>#[m,d,Z,e,q _ a #[m+d,Z,UO,UO] b k]
theorem qx(h:Ev H0 p wl ys Hb σ t (PN ys)):Ev H0 p wl ys Hb σ (bK$ aj (tC$ .str "var")$ aj t aM) (PT ys 0):=λH Q m W q=>
 h H _ m W λv i #[d,e,a] b c=>#[ci,λr n=>kL (P:=PT ys 0) b (λV f x g k=>q V f x g (c.trans k)) n λ_ z=>#[r,Z,YA (by rw[z,e]) a]]
theorem zi{n:Nat}(h:Ev H0 p wl ys Hb σ T PG)(f:Ev H0 p wl ys Hb σ g (PT ys j))(i:Ev H0 p wl ys Hb σ l (PT ys k))(o:j < n)(u:k < n):Ev H0 p wl ys Hb σ (bK$ aj (tC$ .str "op")$ aj T$ aj g$ aj l aM) (PT ys n):=λH Q m W q=>
 h H _ m W λM v #[s,E,X] y c=>f v _ (m.trans c) y λO A #[a,B,C] D d=>i A _ ((m.trans c).trans d) D λR S #[b,F,G] I e=>#[xW,λr N=>kL (P:=PT ys n) I (λV J x L k=>q V J x L (((c.trans d).trans e).trans k)) N λt z=>
  #[r,Z,BZ (by rw[z,E,B,F]) X ((C.mono e.t).mono t) (G.mono t) o u]]
theorem FK(e:σ[0]?=some (some$ .ref p)):Ev H0 p wl ys Hb σ (dQ Ao (tC$ .str "<=*")$ sL 3) PG:=λH Q m W q=>
 kn e UN UN H _ m W λv h #[d,E,D,a] b k=>by obtain⟨g,i,x⟩:=Ah D a;exact#["<=*",d,g,Z,E,UQ,i,q _ h #[_,Z,x] b k]
theorem Zo{K:Frag}(e:σ[0]?=some (some$ .ref p))(r:Ev H0 p wl ys Hb σ T (PT ys k))(s:Ev H0 p wl ys Hb σ u (PT ys k)):Ev H0 p wl ys Hb σ (dQ (iH K) (i9$ aj T$ aj u aM)$ sL 2) (PT ys k):=λH Q m W q=>
 r H _ m W λV y #[a,E,X] z c=>s y _ (m.trans c) z λA C #[b,D,F] h f=>#[ci,λl n=>kn e UN UN _ _ (((m.trans c).trans f).trans$ .new n) (h.same$ je n) λv G #[d,I,J,L] M j=>by
  obtain⟨g,i,x⟩:=Go (P:=gr C ys k) J L (X.mono f.t) F;rw[<- E,<- D]at i;have t:=(Fw.new (p:=p) (o:=HO.lst [V,A]) n).trans j;exact#[l,_,d,_,Z,I,aI.of$ j.b _ _ (h.B.ne n) jc,i,q _ G #[g,Z,x.mono t.t] M ((c.trans f).trans t)]]
theorem Bq{K:Frag}(e:σ[0]?=some (some$ .ref p))(u:Ev H0 p wl ys Hb σ T (PT ys k))(y:Ev H0 p wl ys Hb σ z (PT ys k))(A:Ev H0 p wl ys Hb σ C (PT ys k)):Ev H0 p wl ys Hb σ (dQ (iH K) (i9$ aj T$ aj z$ aj C aM)$ sL 3) (PT ys k):=λH Q m W q=>
 u H _ m W λV D #[a,E,X] F f=>y D _ (m.trans f) F λG I #[b,J,L] M h=>A I _ ((m.trans f).trans h) M λN O #[c,R,S] r j=>#[i8,λl n=>kn e UN UN _ _ ((((m.trans f).trans h).trans j).trans$ .new n) (r.same$ je n) λv U #[d,Y,d0,d1] W4 s=>by
  obtain⟨g,i,x⟩:=Gp (P:=gr O ys k) d0 d1 (X.mono (h.trans j).t) (L.mono j.t) S;rw[<- E,<- J,<- R]at i;have t:=(Fw.new (p:=p) (o:=HO.lst [V,G,N]) n).trans s;exact#[l,_,d,_,Z,Y,aI.of$ s.b _ _ (r.B.ne n) jc,i,q _ U #[g,Z,x.mono t.t] W4 (((f.trans h).trans j).trans t)]]
theorem FH{K:Frag}(e:σ[0]?=some (some$ .ref p))(r:1<=n)(s:n<=1000)(u:Ev H0 p wl ys Hb σ T (PT ys k))(y:Ev H0 p wl ys Hb σ z (PT ys k)):Ev H0 p wl ys Hb σ (dQ (iH K) (i9$ aj T$ aj z aM)$ HR (λX H Q=>(∃i,X=[V.int i]/\Q (V.int i) H)∨∃k,X=[V.bl k]/\Q (V.int (if k=true then 1 else 0)) H)$ aj (dQ Gw (sL n)$ tC$ .int 0) aM) (PT ys k):=λH Q m W q=>
 u H _ m W λA C #[a,E,D] F c=>y C _ (m.trans c) F λG I #[b,J,L] h f=>#[ci,λl N=>kn e r s _ _ (((m.trans c).trans f).trans$ .new N) (h.same$ je N) λv M #[d,O,S,U] R j=>by
  subst O;refine#[Z,.inr #[_,Z,?_]];obtain⟨g,i,x⟩:=Gr (P:=gr I ys k) (D.mono f.t) L _;rw[<- E,<- J]at i;have t:=(Fw.new (p:=p) (o:=HO.lst [A,G]) N).trans j;exact#[l,_,_,_,Z,Z,aI.of$ j.b _ _ (h.B.ne N) jc,i,q _ M #[g,Z,x.mono t.t] R ((c.trans f).trans t)]]
theorem Jb(e:σ[0]?=some (some$ .ref p))(h:Ev H0 p wl ys Hb σ T (PT ys k))(g:Ev H0 p wl ys Hb σ i (PT ys k)):Ev H0 p wl ys Hb σ (gf my [] E0$ aj (aZ 0)$ aj T$ aj i aM) (PT ys$ k+1):=λH Q m W q=>
 #[_,e,h H _ m W λv j #[a,E,x] l d=>g j _ (m.trans d) l λV y #[b,n,X] c f=>#[p,a,b,ys,k,by rw[E,n];rfl,c.B,x.mono f.t,X,λr o s u C=>q _ o #[r,Z,s] (c.but u C) ((d.trans f).trans$ .but c.B C)]]
theorem yp{w:Str}{T a:TE}{A B R:Hp->V->Prop}(M:nV A)(d:nV B)(e:Ev H0 p wl ys Hb σ T A)(f:Ev H0 p wl ys Hb σ a B)(h:∀H r u v,H r=some (.tup [.str w,u,v])->A H u->B H v->R H (.ref r)):Ev H0 p wl ys Hb σ (bK$ aj (tC$ .str w)$ aj T$ aj a aM) R:=λH Q m W q=>
 e H _ m W λC g X i b=>f g _ (m.trans b) i λD E j l c=>#[i8,λr n=>kL (P:=R) l (λo s x y k=>q o s x y ((b.trans c).trans k)) n λt z=>h _ _ _ _ z (M _ _ _ t$ M _ _ _ c.t X) (d _ _ _ t j)]
theorem Ir{w:Str}{T:TE}{A R:Hp->V->Prop}(M:nV A)(a:Ev H0 p wl ys Hb σ T A)(h:∀H r u,H r=some (.tup [.str w,u])->A H u->R H (.ref r)):Ev H0 p wl ys Hb σ (bK$ aj (tC$ .str w)$ aj T aM) R:=λH Q m W q=>
 a H _ m W λf g X b c=>#[ci,λr n=>kL (P:=R) b (λv d x e k=>q v d x e (c.trans k)) n λt z=>h _ _ _ z (M _ _ _ t X)]
theorem CA{w:Str}{T d e:TE}{A B C R:Hp->V->Prop}(M:nV A)(f:nV B)(g:nV C)(i:Ev H0 p wl ys Hb σ T A)(j:Ev H0 p wl ys Hb σ d B)(l:Ev H0 p wl ys Hb σ e C)(h:∀H r u v x,H r=some (.tup [.str w,u,v,x])->A H u->B H v->C H x->R H (.ref r)):Ev H0 p wl ys Hb σ (bK$ aj (tC$ .str w)$ aj T$ aj d$ aj e aM) R:=λH Q m W q=>
 i H _ m W λL n X o a=>j n _ (m.trans a) o λO s y D b=>l s _ ((m.trans a).trans b) D λS U E F c=>#[xW,λr N=>kL (P:=R) F (λG I x J k=>q G I x J (((a.trans b).trans c).trans k)) N λt z=>h _ _ _ _ _ z (M _ _ _ t$ M _ _ _ (b.trans c).t X) (f _ _ _ t$ f _ _ _ c.t y) (g _ _ _ t E)]
theorem yD:nV (PN ys):=λ_ _ _ _ h=>h
theorem qy{t T:TE}{k:Nat}(h:Ev H0 p wl ys Hb σ t (PN ys))(b:Ev H0 p wl ys Hb σ T (PT ys k))(c:k < 6):Ev H0 p wl ys Hb σ (bK$ aj (tC$ .str "read")$ aj t$ aj T aM) (λH v=>bM Cf H ys 0 v):=yp yD ar h b λH r u v z #[x,e,d] #[a,E,f]=>G8 (by rw[z,e,E]) d f c
theorem qA{t T:TE}{k:Nat}(h:Ev H0 p wl ys Hb σ t (PN ys))(b:Ev H0 p wl ys Hb σ T (PT ys k))(c:k < 6):Ev H0 p wl ys Hb σ (bK$ aj (tC$ .str "set")$ aj t$ aj T aM) (λH v=>bM Cf H ys 0 v):=yp yD ar h b λH r u v z #[x,e,d] #[a,E,f]=>G9 (by rw[z,e,E]) d f c
theorem JP{t T:TE}{j k:Nat}(h:Ev H0 p wl ys Hb σ t (PT ys j))(b:Ev H0 p wl ys Hb σ T (PT ys k))(c:j < 6)(d:k < 6):Ev H0 p wl ys Hb σ (bK$ aj (tC$ .str "write")$ aj t$ aj T aM) (λH v=>bM Cf H ys 0 v):=yp ar ar h b λH r u v z #[x,e,f] #[a,E,g]=>Hd (by rw[z,e,E]) f g c d
theorem Ko{t:TE}{k:Nat}(h:Ev H0 p wl ys Hb σ t (PT ys k))(b:k < 6):Ev H0 p wl ys Hb σ (bK$ aj (tC$ .str "give")$ aj t aM) (λH v=>bM Cf H ys 0 v):=Ir ar h λH r v z #[a,e,c]=>G6 (by rw[z,e]) c b
theorem tQ{n o T c:TE}{j k:Nat}(C:Ev H0 p wl ys Hb σ n (PN ys)){f:Str}(D:Ev H0 p wl ys Hb σ o (sP f))(d:(f,2)∈Cf)(F:Ev H0 p wl ys Hb σ T (PT ys j))(G:Ev H0 p wl ys Hb σ c (PT ys k))(I:j < 6)(J:k < 6):Ev H0 p wl ys Hb σ (bK$ aj (tC$ .str "call")$ aj n$ aj o$ aj (bK$ aj T$ aj c aM) aM) (λH v=>bM Cf H ys 0 v):=by
 let R:Hp->V->Prop:=λH v=>∃q a b,v= .ref q/\H q=some (.tup [.ref a,.ref b])/\gr H ys j a/\gr H ys k b
 have M:nV R:=λ_ _ _ m #[q,a,b,e,g,L,i]=>#[q,a,b,e,m _ _ g,L.mono m,i.mono m];have N:Ev H0 p wl ys Hb σ (bK$ aj T$ aj c aM) R:=λH Q m W q=>
  F H _ m W λv2 O #[a,E,X] S s=>G O _ (m.trans s) S λv3 H3 #[b,l,U] Y A=>#[ci,λr nr=>kL (P:=R) Y (λv' H' x W' k=>q v' H' x W' ((s.trans A).trans k)) nr λt z=>#[r,a,b,Z,by rw[z,E,l],(X.mono A.t).mono t,U.mono t]]
 exact CA yD (B:=sP f) (λ_ _ _ _ h=>h) M C D N λH r u v x z #[y,e1,g] (E:v= .str f) #[q,a,b,l,i,h4,h5]=>G5 (f:=f) (by rw[z,e1,E,l]) g d i h4 h5 I J
theorem Bo{t T b:TE}{k n m:Nat}(h:Ev H0 p wl ys Hb σ t (PT ys k))(c:Ev H0 p wl ys Hb σ T (PB Cf ys 0 n))(d:Ev H0 p wl ys Hb σ b (PB Cf ys 0 m))(e:k < 6)(s:n+m<=20):Ev H0 p wl ys Hb σ (bK$ aj (tC$ .str "if")$ aj t$ aj T$ aj b aM) (λH v=>bM Cf H ys 1 v):=
 CA ar du du h c d λH r u v x z #[a,E,f] #[Q,X,g,i,j,y] #[A,B,l,o,q,C]=>G7 (by rw[z,E,g,l]) f i o j q UO e
theorem tV{t T:TE}{k n:Nat}(h:Ev H0 p wl ys Hb σ t (PT ys k))(b:Ev H0 p wl ys Hb σ T (PB Cf ys 0 n))(c:k < 6)(i:n<=20):Ev H0 p wl ys Hb σ (bK$ aj (tC$ .str "while")$ aj t$ aj T aM) (λH v=>bM Cf H ys 1 v):=
 yp ar du h b λH r u v z #[a,e,d] #[q,x,E,f,g,j]=>wX (by rw[z,e,E]) d f g UO c
theorem Bn{d:Nat}:Ev H0 p wl ys Hb σ (bK aM) (PB Cf ys d 0):=λH Q m W q=>#[fg,λr n=>kL (P:=PB Cf ys d 0) W q n λt z=>#[r,[],Z,z,Kz,LV 0]]
theorem qO(h:Ev H0 p wl ys Hb σ T (λH v=>bM Cf H ys d v)):Ev H0 p wl ys Hb σ (bK$ aj T aM) (PB Cf ys d 1):=λH Q m W q=>
 h H _ m W λf g X a b=>#[iE,λr n=>kL (P:=PB Cf ys d 1) a (λV c x e k=>q V c x e (b.trans k)) n λt z=>#[r,_,Z,z,kK$ X.mono t,LV 1]]
theorem Xy(h:Ev H0 p wl ys Hb σ T (λH v=>bM Cf H ys d v))(c:Ev H0 p wl ys Hb σ e (λH v=>bM Cf H ys d v)):Ev H0 p wl ys Hb σ (bK$ aj T$ aj e aM) (PB Cf ys d 2):=λH Q m W q=>
 h H _ m W λs f X g a=>c f _ (m.trans a) g λu y i j b=>#[ci,λr n=>kL (P:=PB Cf ys d 2) j (λV l x o k=>q V l x o ((a.trans b).trans k)) n λt z=>#[r,_,Z,z,jV ((X.mono b.t).mono t)$ kK$ i.mono t,LV 2]]
theorem FE(h:Ev H0 p wl ys Hb σ T (λH v=>bM Cf H ys d v))(e:Ev H0 p wl ys Hb σ f (λH v=>bM Cf H ys d v))(g:Ev H0 p wl ys Hb σ i (λH v=>bM Cf H ys d v)):Ev H0 p wl ys Hb σ (bK$ aj T$ aj f$ aj i aM) (PB Cf ys d 3):=λH Q m W q=>
 h H _ m W λC j X l a=>e j _ (m.trans a) l λD n o s b=>g n _ ((m.trans a).trans b) s λE F u y c=>#[i8,λr N=>kL (P:=PB Cf ys d 3) y (λV A x B k=>q V A x B (((a.trans b).trans c).trans k)) N λt z=>#[r,_,Z,z,jV ((X.mono (b.trans c).t).mono t)$ jV ((o.mono c.t).mono t)$ kK$ u.mono t,LV 3]]
theorem zU(h:Ev H0 p wl ys Hb σ T (PB Cf ys d n))(e:Ev H0 p wl ys Hb σ f (PB Cf ys d m))(B:n+m<=100):Ev H0 p wl ys Hb σ (dQ vM T f) (PB Cf ys d$ n+m):=λH Q M W q=>
 h H _ M W λV g #[a,x,E,i,X,L] j c=>e g _ (M.trans c) j λC D #[b,z,l,o,u,F] v k=>#[a,b,x,z,E,l,k.t _ _ i,o,Mg (show x.length+z.length<=100 by omega) UN,λr y A s=>q _ y #[r,_,Z,A,qk ((X.mono k.t).mono$ aa.tm s)$ u.mono$ aa.tm s,by rw[LS];omega] (v.same s) ((c.trans k).trans$ .same s)]
theorem Qs(e:σ[i]?=some (some$ .str x)):Ev H0 p wl ys Hb σ (aZ i) (sP x):=jI e (λ_ _ _ _ h=>h) Z
theorem Qt(h:Ev H0 p wl ys Hb σ T (sP f))(g:Ev H0 p wl ys Hb σ i (PP m))(j:Ev H0 p wl ys Hb σ l (PB Cf ys 1 n))(O:n<=100)(o:ys.length<=20):Ev H0 p wl ys Hb σ (bK$ aj T$ aj i$ aj l aM) (PD Cf m f):=λH Q M W q=>
 h H _ M W λv s (E:v= .str f) u c=>g s _ (M.trans c) u λR y #[a,S,A,B,L] C d=>j y _ ((M.trans c).trans d) C λU Y #[b,xs,D,F,X,l4] G e=>#[i8,λr N=>kL (P:=PD Cf m f) G (λV I x J k=>q V I x J (((c.trans d).trans e).trans k)) N λt z=>
  #[r,Z,Fz (f:=f) (by rw[z,E,A,D]) (t _ _$ e.t _ _ B) L (t _ _ F) (X.mono t) UO o]]
theorem Zp(h:Ev H0 p wl ys Hb σ T (PN ys)):Ev H0 p wl ys Hb σ (bK$ aj T aM) (PP 1):=λH Q m W q=>
 h H _ m W λV f #[X,e,_] a b=>#[iE,λr n=>kL (P:=PP 1) a (λv c x d k=>q v c x d (b.trans k)) n λt z=>#[r,[X],Z,by rw[z,e];rfl,Z]]
theorem Br(h:Ev H0 p wl ys Hb σ T (PN ys))(b:Ev H0 p wl ys Hb σ c (PN ys)):Ev H0 p wl ys Hb σ (bK$ aj T$ aj c aM) (PP 2):=λH Q m W q=>
 h H _ m W λV d #[X,e,_] f a=>b d _ (m.trans a) f λs u #[g,E,_] i j=>#[ci,λr n=>kL (P:=PP 2) i (λv l x o k=>q v l x o ((a.trans j).trans k)) n λt z=>#[r,[X,g],Z,by rw[z,e,E];rfl,Z]]
theorem bM.lift(h:bM Cf H ys 0 v):bM Cf H ys 1 v:=h.up
theorem PB.lift(h:PB Cf ys 0 n H v):PB Cf ys 1 n H v:=let #[a,x,e,c,#[b,B,d,g,i],f]:=h;#[a,x,e,c,#[b,B,d,UO,UO],f]
theorem PB.more(h:PB Cf ys d n H v)(k:n<=m):PB Cf ys d m H v:=let #[a,x,e,b,c,f]:=h;#[a,x,e,b,c,Mg f k]
theorem qB{a b:TS}(W:Wd H0 H p wl ys)(e:σ[0]?=some (some$ .ref p))(g:1<=n)(i:n<=1000)(j:∀h,Wd H0 h p wl ys->Fw p H h->a D σ h)(l:∀h,Wd H0 h p wl ys->Fw p H h->b D σ h):gU (lJ$ dQ Gw (sL n)$ tC$ .int 0) a b D σ H:=
 kn (Hb:=H) e g i H _ .refl W λv c #[d,E,m,o] f k=>by subst E;exact#[Z,_,Z,fe (λ_=>j c f k) (λ_=>l c f k)]
theorem jS{D:a7}{P:Hp->V->Prop}(W:Wd H0 H p wl ys)(h:Ev H0 p wl ys H σ t P)(q:∀v a,P a v->Wd H0 a p wl ys->Fw p H a->D.nx (σ.set i$ some v) a):dP t (aU i) D σ H:=h H _ .refl W q
theorem KA{D:a7}{P:Hp->V->Prop}(W:Wd H0 H p wl ys)(h:Ev H0 p wl ys H σ t P)(q:∀v a,P a v->Wd H0 a p wl ys->D.rt v a):lg t D σ H:=h H _ .refl W λv a x b _=>q v a x b
theorem AL{K:Frag}{D:a7}(W:Wd H0 H p wl ys)(d:Ev H0 p wl ys H σ T (PT ys 0))(e:Ev H0 p wl ys H σ f (PT ys 0))(g:Ev H0 p wl ys H σ l (PT ys 0))
  (q:∀u v w h,PT ys 0 h u->PT ys 0 h v->PT ys 0 h w->Wd H0 h p wl ys->Fw p H h->D.nx (((σ.set k$ some w).set j$ some v).set i$ some u) h):BU K (bK$ aj T$ aj f$ aj l aM) i j k D σ H:=
 d H _ .refl W λV m x o a=>e m _ a o λs y X z b=>g y _ (a.trans b) z λA E B C c=>#[i8,λr n=>#[r,_,_,_,Z,aB.of jc,q V s A _ (ar _ _ _ (aa.tm$ je n)$ ar _ _ _ (b.trans c).t x) (ar _ _ _ (aa.tm$ je n)$ ar _ _ _ c.t X) (ar _ _ _ (aa.tm$ je n) B) (C.same$ je n) (((a.trans b).trans c).trans$ .new n)]]
structure Ow(H0 H:Hp)(p wl l:Addr)(xs:List V):Prop where
 hl:H l=some (.lst xs)
 np:l≠p
 lw:l≠wl
 l0:H0 l=none
theorem Ow.fw(o:Ow H0 H p wl l x)(k:Fw p H h):Ow H0 h p wl l x:=#[k.b _ _ o.np o.hl,o.np,o.lw,o.l0]
theorem Ow.new(W:Wd H0 H p wl ys)(n:H l=none):Ow H0 (am H l$ .lst x) p wl l x:=#[jc,W.B.ne n,(λe=>by have z:=W.w;rw[<- e,n]at z;cases z),W.K.none W.B n]
theorem Gm{D:a7}(W:Wd H0 H p wl ys)(b:Ev H0 p wl ys H σ t (λH v=>bM Cf H ys 0 v))(q:∀l v h,Ow H0 h p wl l [v]->bM Cf h ys 0 v->Wd H0 h p wl ys->Fw p H h->D.nx (σ.set i$ some$ .ref l) h):dP (i9$ aj t aM) (aU i) D σ H:=
 b H _ .refl W λV c x a k=>#[iE,λl n=>q l V _ (.new a n) (x.mono$ aa.tm$ je n) (a.same$ je n) (k.trans$ .new n)]
theorem DN{D:a7}(W:Wd H0 H p wl ys)(c:Ev H0 p wl ys H σ T (λH v=>bM Cf H ys 0 v))(d:Ev H0 p wl ys H σ e (λH v=>bM Cf H ys 0 v))(q:∀l u v h,Ow H0 h p wl l [u,v]->bM Cf h ys 0 u->bM Cf h ys 0 v->Wd H0 h p wl ys->Fw p H h->D.nx (σ.set i$ some$ .ref l) h):dP (i9$ aj T$ aj e aM) (aU i) D σ H:=
 c H _ .refl W λV f x g k=>d f _ k g λj m X a b=>#[ci,λl n=>q l V j _ (.new a n) ((x.mono b.t).mono$ aa.tm$ je n) (X.mono$ aa.tm$ je n) (a.same$ je n) ((k.trans b).trans$ .new n)]
theorem qX{K:Frag}{D:a7}(W:Wd H0 H p wl ys)(a:σ[i]?=some (some$ .ref l))(o:Ow H0 H p wl l xs)(b:xs.length<=100)(c:Ev H0 p wl ys H σ T (λH v=>bM Cf H ys 0 v))
  (q:∀v h,bM Cf h ys 0 v->Ow H0 h p wl l (xs++[v])->Wd H0 h p wl ys->ap H h->D.nx σ h):nJ (HQ K "list" iw (aZ i)$ aj T aM) D σ H:=
 #[_,a,.inl #[Z,_,aI.of o.hl],c H _ .refl W λv e x d k=>#[l,xs,v,Z,Z,(o.fw k).hl,Nj b UN,q v _ (x.mono$ JE (o.fw k).hl) #[jc,o.np,o.lw,o.l0] (d.own (xs:=xs) o.l0 o.np o.lw) (k.t.trans$ JE (o.fw k).hl)]]
theorem AX{K:Frag}{D:a7}(W:Wd H0 H p wl ys)(h:σ[i]?=some (some$ .ref l))(o:Ow H0 H p wl l (u::v::z))
  (q:∀a,Ow H0 a p wl l (v::u::z)->Wd H0 a p wl ys->ap H a->D.nx σ a):dP (bK$ aj (dQ (iH K) (aZ i)$ tC$ .int 1)$ aj (dQ (iH K) (aZ i)$ tC$ .int 0) aM) (pY K 2$ cj (CF (aZ i) (tC$ .int 0) oK)$ cj (CF (aZ i) (tC$ .int 1) oK) pX) D σ H:=
 #[_,h,l,_,_,_,Z,Z,aI.of o.hl,ij,_,h,l,_,_,_,Z,Z,aI.of o.hl,dU,ci,λt N=>#[t,_,Z,aB.of jc,Z,_,_,Z,_,h,l,_,0,0,Z,Z,aq o.hl N,Ls (n:=z.length+1),_,_,Z,_,h,l,_,1,1,Z,Z,jc,Lu (n:=z.length),Z,
  q _ #[jc,o.np,o.lw,o.l0] (((W.same$ je N).own (xs:=u::v::z) o.l0 o.np o.lw).own (xs:=u::v::z) o.l0 o.np o.lw) (((aa.tm$ je N).trans$ JE$ aq o.hl N).trans$ JE jc)]]
theorem tT{K:Frag}{n:Nat}(e:σ[i]?=some (some$ .ref l))(o:Ow H0 Hb p wl l x)(h:fj Cf Hb ys 0 x)(a:x.length<=n):Ev H0 p wl ys Hb σ (HR (λx H Q=>∃p ys,x=[V.ref p]/\((aI K H p ys/\∀(l:Addr),H l=none->Q (V.ref l) (am H l$ HO.tup ys))∨aB K H p ys/\Q (V.ref p) H))$ aj (aZ i) aM) (PB Cf ys 0 n):=λH Q m W q=>
 #[_,e,l,x,Z,.inl #[aI.of (o.fw m).hl,λr N=>kL (P:=PB Cf ys 0 n) W q N λt z=>#[r,x,Z,z,(h.mono m.t).mono t,a]]]
theorem Cn{D:a7}(W:Wd H0 H p wl ys)(u:σ[i]?=some (some$ .ref l))(y:σ[j]?=some (some$ .ref m))(o:Ow H0 H p wl l x)(O:Ow H0 H p wl m z)(C:x.length+z.length<=100)(E:fj Cf H ys 0 x)(F:fj Cf H ys 0 z)
  (G:Ev H0 p wl ys H σ T (λH v=>bM Cf H ys 0 v)) (I:Ev H0 p wl ys H σ J (λH v=>bM Cf H ys 0 v)) (q:∀r U h,Ow H0 h p wl r U->fj Cf h ys 0 U->U.length<=x.length+z.length+2->Wd H0 h p wl ys->Fw p H h->D.nx (σ.set i$ some$ .ref r) h):
  dP (dQ vK (dQ vK (aZ i)$ aZ j)$ i9$ aj T$ aj J aM) (aU i) D σ H:=
 #[_,u,_,y,l,m,_,_,Z,Z,o.hl,O.hl,Mg C UN,λc n=>G _ _ (.new n) (W.same$ je n) λV L X M k=>I L _ ((Fw.new n).trans k) M λe R Q A s=>#[ci,λd N=>#[c,d,_,_,Z,Z,aq ((k.trans s).b _ _ (W.B.ne n) jc) N,jc,by
  have:=aH;show(x++z).length+2<=sizeLine;rw[LS];omega,λr a=>q r _ _ (.new (A.same$ je N) a) (by
   have f:=(((Fw.new n).trans k).trans s).trans ((Fw.new (p:=p) (o:=HO.lst [V,e]) N).trans$ Fw.new (o:=HO.lst ((x++z)++[V,e])) a);have g:=(Fw.new (p:=p) (o:=HO.lst [V,e]) N).trans (Fw.new (o:=HO.lst ((x++z)++[V,e])) a);exact qk (qk (E.mono f.t)$ F.mono f.t)$ jV ((X.mono s.t).mono g.t)$ kK$ Q.mono g.t) (by rw[LS,LS];exact LV _) ((A.same$ je N).same$ je a) ((((Fw.new n).trans k).trans s).trans ((Fw.new N).trans$ Fw.new a))]]]
theorem ZH{K:Frag}{D:a7}(W:Wd H0 H p wl ys)(k:σ[3]?=some (some$ .ref wl))(l:ys.length=6)
  (q:∀a b c d e g,PT ys 0 g a->PT ys 0 g b->PT ys 0 g c->PT ys 0 g d->PT ys 0 g e->Wd H0 g p wl ys->D.nx (((((σ.set 4$ some a).set 5$ some b).set 6$ some c).set 7$ some d).set 8$ some e) g):
  dP (px (uj K$ EN (vN K) (aZ 3) gV$ iZ$ tC$ V.int 5) 1 [] (aU 0) mH$ bK$ aj (tC$ V.str "var")$ aj (aZ 0) aM) (HM K 5$ cj (aU 4)$ cj (aU 5)$ cj (aU 6)$ cj (aU 7)$ cj (aU 8) pX) D σ H:=by
 have B:=aH;refine#[_,k,_,Z,wl,_,Z,aI.of W.w,λs n=>?_];have E:bZ (ys.map V.str) none (some 5)=(ys.take 5).map V.str:=by rw[show(5:Int)=((5:Nat):Int) from Z,Fp (by rw[LU];omega),PX]
 have t:am H s (.lst$ bZ (ys.map V.str) none$ some 5) s=some (.lst ((ys.take 5).map V.str)):=by rw[E];exact jc
 have S:=je (o:=HO.lst (bZ (ys.map V.str) none$ some 5)) n;generalize am H s (.lst$ bZ (ys.map V.str) none$ some 5)=A at t S;refine#[s,Z,#[_,aI.of t],?_];refine QN (K:=K) (a:=s) (xs:=(ys.take 5).map V.str) (by rw[LU,Mw];omega) (λi j g=>j.length=i/\(∀v∈j,PT ys 0 g v)/\aa A g) #[Z,(λ_ h=>absurd h Mx),aa.refl _] (λi j g h=>#[aI.of$ h.2.2 _ _ t,Pq h.1]) (λi x j g C h=>?_) (λj F h L N=>?_)
 ·obtain⟨y,l,rfl⟩:=List.mem_map.mp (Mr C);exact#[_,Z,ci,λr u=>#[by rw[LS,h.1];rfl,XZ (λa z=>ar _ _ _ (aa.tm$ je u) (h.2.1 a z)) #[r,Z,YA jc$ Ny l],h.2.2.trans$ je u]]
 ·have e:=h.1;rw[LU,Mw]at e;obtain⟨a,b,c,d,f,rfl⟩:=FX (show j.length=5 by omega);have m:=aa.tm (je (o:=HO.lst [a,b,c,d,f]) N);exact#[L,_,Z,aI.of jc,Z,_,_,Z,_,_,Z,_,_,Z,_,_,Z,_,_,Z,Z,q a b c d f _ (ar _ _ _ m$ h.2.1 a UP) (ar _ _ _ m$ h.2.1 b UP) (ar _ _ _ m$ h.2.1 c UP) (ar _ _ _ m$ h.2.1 d UP) (ar _ _ _ m$ h.2.1 f UP) (((W.same S).same h.2.2).same$ je N)]
end
theorem IE:ai z13z z13z (ae ID):=bP
theorem Gg(F:aQ K "_law_op" "_law_op" ID f t)(C:Cl P w K mg base 1 T u z2z bN "_law_take"):af P w K mg base aE 2 f t z13z my:=by
 refine F.ok IE ?_ λv A O s H V Q E x h=>?_
 ·rintro _ _ _ _ ⟨p,a,b,y,k,rfl,_⟩;rfl
 obtain⟨p,a,b,y,k,rfl,B,z,D,q⟩:=h;refine#[_,(jg$ jp$ jh$ ja jl$ ja (jo jr (jG$ ja jl$ ja jl$ ja jl$ ja jl jb) (C.e x.m$ ja (pv 0)$ ja jf jb) (λ_ _=>Z))$ ja (pv 1)$ ja (pv 2) jb),?_];refine#[xW,λl n=>#[_,Z,p,4,Z,B.upd_new n,UN,UN,λd G I J L j=>?_]];obtain⟨s,c,M⟩:=Ai I J;have g:aP p H G:=((aP.refl).upd_new n).trans (aP.of_eq j);refine#[l,_,_,_,Z,Z,aI.of (by rw[j l$ B.ne n];exact jc),c,_,Z,_,Z,xW,λr N=>?_];have S:=je (o:=HO.tup [.str "op",.str s,.ref a,.ref b]) N;exact q r _ (BZ jc M ((z.mono$ g.tm B).mono$ aa.tm S) ((D.mono$ g.tm B).mono$ aa.tm S) (Na _)$ Na _) (L.upd_new N)$ g.trans$ aP.of_same S
theorem bY:ai ["_law_box_here","_law_f","_law_g","_law_w","_law_x","_law_i","_law_y","_law_spot_here","_law_body_here","_law_deeper","_law_test","_law_early","_law_last"] z31z (ae oj):=bP
theorem uX(F:aQ K "_law_inner" "_law_inner" oj f fd)(I:Cl P w K mg base 1 fT b9 z2z bN "_law_take")(cO:Cl P w K mg base 2 fO b' z13z my "_law_op"):af P w K mg base aE 3 f fd z31z (dy 2):=by
 refine F.ok bY ?_ λc0 A o1 s H vs Q E l h=>?_
 ·rintro _ _ _ _ ⟨p,T,f0,g,Y,rfl,_⟩;rfl
 obtain⟨p,T,f0,g,Y,rfl,B,hw,h2,q⟩:=h;refine#[_,(jd (@Aj _ _ _ _ _ _ _ _ (4) (5) (6) Z bY.nd Z Z Z (Or.inl Z) (Or.inl Z) (Or.inl Z) (jh$ ja (jh$ ja jl$ ja (jo jr (pv 3) jf (λ_ _=>Z)) jb)$ ja (jh$ ja jl$ ja (jo jr (pv 3) jf (λ_ _=>Z)) jb)$ ja (jh$ ja jl$ ja (jo jr (pv 3) jf (λ_ _=>Z)) jb) jb) (by first |exact .inl Z |exact .inr Z) (by first |exact .inl Z |exact .inr Z) (by first |exact .inl Z |exact .inr Z) UR UR)$ jd (jB 7 bY.nd$ jh$ ja jl$ ja jl$ ja (jo jr (jG$ ja (pv 4)$ ja (pv 5) jb) (I.e l.m$ ja (pv 0)$ ja jf jb) (λ_ _=>Z))$ ja (jh$ ja jl$ ja (I.e l.m$ ja (pv 0)$ ja jf jb) jb) jb)$ jd (jB 8 bY.nd$ jh$ ja (jh$ ja jl$ ja (jo jr (pv 3) jf (λ_ _=>Z))$ ja (pv 7) jb) jb)$ jd (kj$ jz (zW$ I.e l.m$ ja (pv 0)$ ja jf jb) (jd (jB 7 bY.nd$ jh$ ja jl$ ja jl$ ja (pv 5)$ ja (jh$ ja jl$ ja (jw ke jf$ I.e l.m$ ja (pv 0)$ ja jf jb) jb) jb)$ jg$ jB 8 bY.nd$ jw jQ (pv 8)$ jh$ ja (jh$ ja jl$ ja (pv 7)$ ja (cO.e l.m$ ja (pv 0)$ ja (pv 4)$ ja (pv 6) jb) jb) jb) ju)$ jd (kj$ jz (zW$ I.e l.m$ ja (pv 0)$ ja jf jb) (jd (jB 9 bY.nd$ jh$ ja jl$ ja (jo jr (pv 3) jf (λ_ _=>Z))$ ja (pv 2)$ ja (jh$ ja (jh$ ja jl$ ja jl$ ja (pv 5)$ ja (jh$ ja jl$ ja jf jb) jb)$ ja (pv 6) jb) jb)$ jg$ jB 8 bY.nd$ jw jQ (pv 8)$ jh$ ja (jh$ ja jl$ ja (pv 5)$ ja (jh$ ja (pv 9) jb)$ ja (jh jb) jb) jb) ju)$ jd (jB 10 bY.nd$ jh$ ja jl$ ja (jo QX jl (I.e l.m$ ja (pv 0)$ ja jf jb) (λ_ _=>Z))$ ja (pv 6)$ ja (jh$ ja jl$ ja (I.e l.m$ ja (pv 0)$ ja jf jb) jb) jb)$ jd (jB 11 bY.nd$ jh$ ja jl$ ja (cO.e l.m$ ja (pv 0)$ ja (pv 4)$ ja (pv 6) jb) jb)$ jd (jB 12 bY.nd$ jh$ ja jl$ ja (cO.e l.m$ ja (pv 0)$ ja (pv 6)$ ja (pv 5) jb) jb)$ jd (jB 8 bY.nd$ jw jQ (pv 8)$ jh$ ja (jh$ ja jl$ ja (pv 10)$ ja (jh$ ja (pv 11) jb)$ ja (jh jb) jb)$ ja (pv 12) jb)$ jg$ jp$ jh$ ja (pv 1)$ ja (jh$ ja (jo jr (pv 3) jf (λ_ _=>Z))$ ja (jo jr (pv 3) jf (λ_ _=>Z)) jb)$ ja (pv 8) jb),?_];have W0:Wd H H p T Y:=#[B,aP.refl,hw];refine ah λF1 f1=>AL W0 (qx$ j6 Z UN UO) (qx$ j6 Z UN UO) (qx$ j6 Z UN UO) λvx vi vy J xx X U W1 k1=>f1 _ _ ?_;refine ah λF2 f2=>jS W1 (zi (n:=1) (zp kI) (Zo Z (jI Z ar xx)$ jI Z ar X) (j7 (kn Z UN UN) UN) UN UN) λv2 H2 x2 W2 k2=>f2 _ _ ?_;refine ah λF3 f3=>jS W2 (qO$ qy (Cf:=[(g,2)]) (j6 Z UN UO) (jI Z ar x2) UN) λv3 H3 x3 W3 k3=>f3 _ _ ?_;refine ah λF4 f4=>dZ (λL u=>∃(o:Option V) (b:V),L=[some$ V.ref p,some$ V.str f0,some$ V.str g,some$ V.ref T,some$ vx,some$ vi,some$ vy,o,some b,none,none,none,none]/\PB [(g,2)] Y 1 2 u b/\Wd H u p T Y/\ap H3 u) (λE4 _ f5=>qB W3 Z UN UN (λH6 W6 k6=>?_) (λH6 W6 k6=>?_)) λσ0 H5 h0=>?_
 ·clear f4;have C:ap J H6:=((k2.t.trans k3.t).trans k6.t);refine ah λF7 f7=>jS W6 (zi (n:=1) (zp kI) (jI Z ar$ ar _ _ _ C X) (j7 (Q1 (kn Z UN UN) UN) UN) UN UN) λv7 H7 x7 W7 k7=>f7 _ _ ?_;have D:ap H3 H7:=(k6.t.trans k7.t);have G:ap J H7:=(C.trans k7.t);refine jS W7 (zU (jI Z du$ du _ _ _ D x3) (qO$ JP (Cf:=[(g,2)]) (jI Z ar x7) (Jb Z (jI Z ar$ ar _ _ _ G xx)$ jI Z ar$ ar _ _ _ G U) UN UN) UN) λv8 H8 x8 W8 k8=>f5 _ _ ?_;have m0:ap H3 H8:=(D.trans k8.t);exact#[_,_,Z,(PB.lift x8),W8,m0]
 ·clear f4;exact f5 _ _ #[_,_,Z,(PB.more (PB.lift$ du _ _ _ k6.t x3) UN),W6,k6.t]
 obtain⟨o5,b5,rfl,x5,W5,k5⟩:=h0;refine f4 _ _ ?_;clear f4;refine ah λF9 f9=>dZ (λL u=>∃(o:Option V) (b:V),L=[some$ V.ref p,some$ V.str f0,some$ V.str g,some$ V.ref T,some$ vx,some$ vi,some$ vy,o5,some b,o,none,none,none]/\PB [(g,2)] Y 1 3 u b/\Wd H u p T Y/\ap H5 u) (λE9 _ f6=>qB W5 Z UN UN (λH0 W k=>?_) (λH0 W k=>?_)) λσ1 H4 h1=>?_
 ·clear f9;have M:ap J H0:=(((k2.t.trans k3.t).trans k5).trans k.t);refine ah λF0 f8=>jS W (tQ (Cf:=[(g,2)]) (j6 Z UN UO) (Qs Z) Mm (zi (n:=1) (zp X0) (jI Z ar$ ar _ _ _ M X) (j7 (JA UN (by decide:(1:Int) < 2)) UN) UN UN) (jI Z ar$ ar _ _ _ M U) UN UN) λv0 H9 x0 W4 k0=>f8 _ _ ?_;have c:ap H5 H9:=(k.t.trans k0.t);have N:ap J H9:=(M.trans k0.t);refine jS W4 (zU (jI Z du$ du _ _ _ c x5) (qO$ Bo (jI Z ar$ ar _ _ _ N X) (qO$ jI Z eL x0) (Bn (Cf:=[(g,2)]) (d:=0)) UN UN) UN) λv1 a2 x1 W9 k9=>f6 _ _ ?_;have O:ap H5 a2:=(c.trans k9.t);exact#[_,_,Z,x1,W9,O]
 ·clear f9;exact f6 _ _ #[_,_,Z,(PB.more (du _ _ _ k.t x5) UN),W,k.t]
 obtain⟨o2,c1,rfl,x4,a3,k'⟩:=h1;refine f9 _ _ ?_;clear f9;have i:ap J H4:=(((k2.t.trans k3.t).trans k5).trans k');refine ah λF5 f'=>jS a3 (zi (n:=1) (FK Z) (jI Z ar$ ar _ _ _ i U) (j7 (kn Z UN UN) UN) UN UN) λv4 a0 x9 a4 k4=>f' _ _ ?_;have a:ap J a0:=(i.trans k4.t);refine ah λF6 a5=>jS a4 (Ko (Cf:=[(g,2)]) (Jb Z (jI Z ar$ ar _ _ _ a xx)$ jI Z ar$ ar _ _ _ a U) UN) λv5 a' x' b0 R=>a5 _ _ ?_;have j:ap J a':=(a.trans R.t);refine ah λF8 b1=>jS b0 (Ko (Cf:=[(g,2)]) (Jb Z (jI Z ar$ ar _ _ _ j U)$ jI Z ar$ ar _ _ _ j X) UN) λv9 a1 b2 b3 S=>b1 _ _ ?_;have y:ap H4 a1:=((k4.t.trans R.t).trans S.t);have z:ap a0 a1:=(R.t.trans S.t);refine ah λc2 b4=>jS b3 (zU (jI Z du$ du _ _ _ y x4) (Xy (Bo (jI Z ar$ ar _ _ _ z x9) (qO$ jI Z eL$ eL _ _ _ S.t x') (Bn (Cf:=[(g,2)]) (d:=0)) UN UN)$ Ev.up (jI Z eL b2) λ_ _=>bM.lift) UN) λv' c3 b7 b8 c4=>b4 _ _ ?_;refine KA b8 (Qt (Qs Z) (Br (j6 Z UN UO)$ j6 Z UN UO) (jI Z du b7) UN UO) λv u x W'=>?_;obtain⟨r,rfl,x⟩:=x;exact q r u x W'.B W'.K
theorem bG:ai z34z z17z (ae iy):=bP
noncomputable def Qp:Scope:=#[.function,[(".0",.local),("_law_one",.local)],false,false,[]]
theorem Zf:(["_law_one"]:List Str).Nodup:=by decide+kernel
theorem Zg:bh z34z (ae iy) Qp ["_law_one"] 1 []:=pO
theorem rH(F:aQ K "_law_looped" "_law_looped" iy f fd)(C:Cl P w K mg base 1 fT d4 z2z bN "_law_take")(cO:Cl P w K mg base 2 fO d5 z13z my "_law_op")(mi:mg "int"=none)(m7:mg "tuple"=none):af P w K mg base aE 3 f fd z17z (dy 1):=by
 refine F.ok bG ?_ λd6 A b1 s H vs Q E l h=>?_
 ·rintro _ _ _ _ ⟨p,W,f0,g,Y,rfl,_⟩;rfl
 obtain⟨p,W,f0,g,Y,rfl,B,hw,h2,q⟩:=h;refine#[_,(jd (qD (@zO _ _ _ _ _ _ _ (["_law_one"]) (1) ([]) _ _ _ _ Z (zr$ jJ zu (pv 3) jT$ jK jf) Zg (λ_ _ _ _ _=>(jx (i:=0) Zf Z$ Or.inl Z)) (λ_ _ _ _ _=>(@qj _)) (λ_ _ _ _ _=>(jh$ ja jl$ ja (pv 0) jb)) (by intro _;rfl))$ @Xf _ _ _ _ (5) _ Z (jC (jx (i:=4) bG.nd Z$ Or.inl Z)$ jC (jx (i:=5) bG.nd Z$ Or.inl Z)$ jC (jx (i:=6) bG.nd Z$ Or.inl Z)$ jC (jx (i:=7) bG.nd Z$ Or.inl Z)$ jC (jx (i:=8) bG.nd Z$ Or.inl Z) za) UR UR)$ jd (jB 9 bG.nd$ jG$ ja (jh$ ja jl$ ja (jo jr (pv 3) jf (λ_ _=>Z))$ ja (jh$ ja jl$ ja jl$ ja (pv 5)$ ja (jh$ ja jl$ ja (C.e l.m$ ja (pv 0)$ ja jf jb) jb) jb) jb) jb)$ jd (jF$ jZ L9 Ml Mj jM (pv 9)$ ja (jh$ ja jl$ ja (jo jr (pv 3) jf (λ_ _=>Z))$ ja (pv 2)$ ja (jh$ ja (pv 7)$ ja (jo jr (jG$ ja (pv 5)$ ja (pv 6) jb) (jN JI Z mi UH$ ja (Q9 Ja (C.e l.m$ ja (pv 0)$ ja jf jb) jf$ aL _) jb) (λ_ _=>Z)) jb) jb) jb)$ jd (kj$ jz (zW$ C.e l.m$ ja (pv 0)$ ja jf jb) (jd (jB 10 bG.nd$ jh$ ja jl$ ja jl$ ja (pv 5)$ ja (jh$ ja jl$ ja (jw ke jf$ C.e l.m$ ja (pv 0)$ ja jf jb) jb) jb)$ jg$ jF$ jZ L9 Ml Mj jM (pv 9)$ ja (jh$ ja jl$ ja (pv 10)$ ja (jo jr (jG$ ja (pv 6)$ ja (pv 8)$ ja (pv 7) jb) (C.e l.m$ ja (pv 0)$ ja jf jb) (λ_ _=>Z)) jb) jb) ju)$ jd (jF$ jZ L9 Ml Mj jM (pv 9)$ ja (jh$ ja jl$ ja (jo jr (pv 3) jf (λ_ _=>Z))$ ja (cO.e l.m$ ja (pv 0)$ ja (jo jr (jG$ ja (pv 6)$ ja (pv 6)$ ja (pv 7) jb) (C.e l.m$ ja (pv 0)$ ja jf jb) (λ_ _=>Z))$ ja (pv 8) jb) jb) jb)$ jd (kj$ jz (zW$ C.e l.m$ ja (pv 0)$ ja jf jb) (jg$ qD (jh$ ja (jo jr (pv 9) jf (λ_ _=>Z))$ ja (jo jr (pv 9) jf (λ_ _=>Z)) jb)$ qC (n:=2) Z$ jC (JB (pv 9) jf zY)$ jC (JB (pv 9) jf zY) za) ju)$ jd (jF$ jZ L9 Ml Mj jM (pv 9)$ ja (jh$ ja jl$ ja (jo jr (pv 3) jf (λ_ _=>Z))$ ja (jh$ ja jl$ ja jl$ ja (pv 5)$ ja (jh$ ja jl$ ja jf jb) jb) jb) jb)$ jd (jB 11 bG.nd$ jh$ ja (jh$ ja jl$ ja (jo jr (pv 3) jf (λ_ _=>Z))$ ja (jh$ ja jl$ ja (C.e l.m$ ja (pv 0)$ ja jf jb) jb) jb)$ ja (jh$ ja jl$ ja (jo jr (pv 3) jf (λ_ _=>Z))$ ja (jh$ ja jl$ ja (C.e l.m$ ja (pv 0)$ ja jf jb) jb) jb) jb)$ jd (kj$ jz (zW$ C.e l.m$ ja (pv 0)$ ja jf jb) (jd (jB 11 bG.nd$ jw jQ (pv 11)$ jh$ ja (jh$ ja jl$ ja (jo jr (pv 3) jf (λ_ _=>Z))$ ja (jh$ ja jl$ ja (jw ke jf$ C.e l.m$ ja (pv 0)$ ja jf jb) jb) jb) jb)$ jg$ jB 11 bG.nd$ jw jQ (pv 11)$ jh$ ja (jh$ ja jl$ ja (jo jr (pv 3) jf (λ_ _=>Z))$ ja (jh$ ja jl$ ja jl$ ja (pv 4)$ ja (jh$ ja jl$ ja jf jb) jb) jb) jb) ju)$ jd (jB 12 bG.nd$ jh$ ja jl$ ja (jh$ ja jl$ ja jl$ ja (pv 5)$ ja (pv 4) jb)$ ja (jN jY Z m7 Oc$ ja (pv 9) jb) jb)$ jg$ jp$ jh$ ja (pv 1)$ ja (jh$ ja (jo jr (pv 3) jf (λ_ _=>Z)) jb)$ ja (jw jQ (pv 11)$ jh$ ja (pv 12)$ ja (jh$ ja jl$ ja (jh$ ja jl$ ja jf jb)$ ja (pv 6) jb)$ ja (jh$ ja jl$ ja (pv 6) jb) jb) jb),?_];have W0:Wd H H p W Y:=#[B,aP.refl,hw];refine ah λF1 f1=>ZH W0 Z h2 λvn vi vs vx vy U xn xi xs xx xy W1=>f1 _ _ ?_;refine ah λF2 f2=>Gm W1 (qy (Cf:=[(g,2)]) (j6 Z UN UO) (zi (n:=1) (zp kI) (jI Z ar xi) (j7 (kn Z UN UN) UN) UN UN) UN) λlb u2 H2 o2 x2 W2 k2=>f2 _ _ ?_;refine ah λF3 f3=>qX W2 Z o2 (show 1<=100 by decide) (tQ (Cf:=[(g,2)]) (j6 Z UN UO) (Qs Z) Mm (jI Z ar$ ar _ _ _ k2.t xx) (FH Z UN UN (jI Z ar$ ar _ _ _ k2.t xi)$ jI Z ar$ ar _ _ _ k2.t xs) UN UN) λu3 H3 x3 o3 W3 k3=>f3 _ _ ?_;refine ah λF4 f4=>dZ (λu c=>∃(o:Option V) (G:List V),u=[some$ V.ref p,some$ V.str f0,some$ V.str g,some$ V.ref W,some$ vn,some$ vi,some$ vs,some$ vx,some$ vy,some$ V.ref lb,o,none,none]/\Ow H c p W lb (u2::u3::G)/\fj [(g,2)] c Y 0 G/\G.length<=1/\Wd H c p W Y/\ap H3 c) (λE4 _ f5=>qB W3 Z UN UN (λH6 W6 k6=>?_) (λH6 W6 k6=>?_)) λσ2 H5 h3=>?_
 ·clear f4;have o6:=o3.fw k6;have R:ap U H6:=((k2.t.trans k3).trans k6.t);refine ah λF7 f7=>jS W6 (zi (n:=1) (zp kI) (jI Z ar$ ar _ _ _ R xi) (j7 (Q1 (kn Z UN UN) UN) UN) UN UN) λv7 H7 x7 W7 k7=>f7 _ _ ?_;have o7:=o6.fw k7;have y:ap U H7:=(R.trans k7.t);refine qX W7 Z o7 (show 2<=100 by decide) (JP (Cf:=[(g,2)]) (jI Z ar x7) (Bq Z (jI Z ar$ ar _ _ _ y xs) (jI Z ar$ ar _ _ _ y xy)$ jI Z ar$ ar _ _ _ y xx) UN UN) λu8 H8 x8 o8 W8 k8=>f5 _ _ ?_;have m5:ap H3 H8:=((k6.t.trans k7.t).trans k8);exact#[_,[u8],Z,o8,kK x8,LV 1,W8,m5]
 ·clear f4;have o6:=o3.fw k6;exact f5 _ _ #[_,[],Z,o6,Kz,UN,W6,k6.t]
 obtain⟨w5,G,rfl,o5,zx,zl,W5,k5⟩:=h3;refine f4 _ _ ?_;clear f4;have M:ap U H5:=((k2.t.trans k3).trans k5);refine ah λF9 f9=>qX W5 Z o5 (show G.length+1+1<=100 by omega) (qA (Cf:=[(g,2)]) (j6 Z UN UO) (Jb Z (Bq Z (jI Z ar$ ar _ _ _ M xs) (jI Z ar$ ar _ _ _ M xs)$ jI Z ar$ ar _ _ _ M xx)$ jI Z ar$ ar _ _ _ M xy) UN) λu9 H9 x9 o9 W9 k9=>f9 _ _ ?_;have zy:fj [(g,2)] H9 Y 0 (G++[u9]):=qk (zx.mono k9) (kK x9);have zm:(G++[u9]).length<=2:=by rw[LS];exact Nq zl
 refine ah λF0 I=>dZ (λu c=>∃(X:List V),u=[some$ V.ref p,some$ V.str f0,some$ V.str g,some$ V.ref W,some$ vn,some$ vi,some$ vs,some$ vx,some$ vy,some$ V.ref lb,w5,none,none]/\Ow H c p W lb X/\fj [(g,2)] c Y 0 X/\X.length<=4/\Wd H c p W Y/\ap H9 c) (λE1 _ S=>qB W9 Z UN UN (λH0 W4 k=>?_) (λH0 W4 k=>?_)) λσ0 b2 h0=>?_
 ·clear I;have o1:=o9.fw k;refine AX W4 Z o1 λH4 b3 b4 k0=>S _ _ ?_;have m0:ap H3 H4:=(((k5.trans k9).trans k.t).trans k0);have m1:ap H2 H4:=((((k3.trans k5).trans k9).trans k.t).trans k0);have z:ap H9 H4:=(k.t.trans k0);exact#[_,Z,b3,jV ((eL _ _ _ m0 x3))$ jV ((eL _ _ _ m1 x2))$ zy.mono z,(show(G++[u9]).length+1+1<=4 by omega),b4,z]
 ·clear I;have o1:=o9.fw k;have m2:ap H2 H0:=(((k3.trans k5).trans k9).trans k.t);have m3:ap H3 H0:=((k5.trans k9).trans k.t);exact S _ _ #[_,Z,o1,jV ((eL _ _ _ m2 x2))$ jV ((eL _ _ _ m3 x3))$ zy.mono k.t,(show(G++[u9]).length+1+1<=4 by omega),W4,k.t]
 obtain⟨X,rfl,b5,ux,ul,b7,b8⟩:=h0;refine I _ _ ?_;clear I;have d:ap U b2:=((M.trans k9).trans b8);refine ah λF5 f6=>qX b7 Z b5 UO (qA (Cf:=[(g,2)]) (j6 Z UN UO) (zi (n:=1) (zp kI) (jI Z ar$ ar _ _ _ d xi) (j7 (JA UN (by decide:(1:Int) < 2)) UN) UN UN) UN) λu0 a1 x1 b9 b' k1=>f6 _ _ ?_;have b0:fj [(g,2)] a1 Y 0 (X++[u0]):=qk (ux.mono k1) (kK x1);have bl:(X++[u0]).length<=5:=by rw[LS];exact Nq ul
 refine ah λF6 f8=>jS b' (Xy (qA (Cf:=[(g,2)]) (j6 Z UN UO) (j7 (kn Z UN UN) UN) UN)$ qA (Cf:=[(g,2)]) (j6 Z UN UO) (j7 (kn Z UN UN) UN) UN) λv0 a2 x0 c0 J=>f8 _ _ ?_;have o':=b9.fw J;refine ah λF8 L=>dZ (λu c=>∃(b:V),u=[some$ V.ref p,some$ V.str f0,some$ V.str g,some$ V.ref W,some$ vn,some$ vi,some$ vs,some$ vx,some$ vy,some$ V.ref lb,w5,some b,none]/\Ow H c p W lb (X++[u0])/\PB [(g,2)] Y 0 4 c b/\Wd H c p W Y/\ap a2 c) (λE2 _ T=>qB c0 Z UN UN (λc1 a0 a=>?_) (λc1 a0 a=>?_)) λσ1 a3 h1=>?_
 ·clear L;have o4:=o'.fw a;refine ah λd7 f'=>jS a0 (zU (jI Z du$ du _ _ _ a.t x0) (qO$ qy (Cf:=[(g,2)]) (j6 Z UN UO) (j7 (Q1 (kn Z UN UN) UN) UN) UN) UN) λv1 c2 x4 c3 k4=>f' _ _ ?_;have c4:=o4.fw k4;have m4:ap U c2:=((((d.trans k1).trans J.t).trans a.t).trans k4.t);refine jS c3 (zU (jI Z du x4) (qO$ qA (Cf:=[(g,2)]) (j6 Z UN UO) (zi (n:=1) (zp AN) (jI Z ar$ ar _ _ _ m4 xn) (j7 (JA UN (by decide:(2:Int) < 3)) UN) UN UN) UN) UN) λv2 c5 x5 c6 a4=>T _ _ ?_;have c9:=c4.fw a4;have N:ap a2 c5:=((a.t.trans k4.t).trans a4.t);exact#[_,Z,c9,x5,c6,N]
 ·clear L;have o4:=o'.fw a;exact T _ _ #[_,Z,o4,(PB.more (du _ _ _ a.t x0) UN),a0,a.t]
 obtain⟨d8,rfl,a5,x',c',a'⟩:=h1;refine L _ _ ?_;clear L;have j:ap U a3:=(((d.trans k1).trans J.t).trans a');have O:ap a1 a3:=(J.t.trans a');refine ah λd' d0=>jS c' (tV (zi (n:=1) (zp Kc) (jI Z ar$ ar _ _ _ j xi) (jI Z ar$ ar _ _ _ j xn) UN UN) (tT (n:=5) Z a5 (b0.mono O) bl) UN UN) λv3 d1 d2 d3 k'=>d0 _ _ ?_;have e0:=a5.fw k';have D:ap U d1:=(j.trans k'.t);refine KA d3 (Qt (Qs Z) (Zp$ j6 Z UN UO) (zU (Ev.up (jI Z du$ du _ _ _ k'.t x') λ_ _=>PB.lift) (FE (jI Z eL d2) (Ev.up (JP (Cf:=[(g,2)]) (j7 (JA UN (by decide:(30:Int) < 31)) UN) (jI Z ar$ ar _ _ _ D xs) UN UN) λ_ _=>bM.lift)$ Ev.up (Ko (Cf:=[(g,2)]) (jI Z ar$ ar _ _ _ D xs) UN) λ_ _=>bM.lift) UN) UN UO) λv c x W'=>?_;obtain⟨r,rfl,x⟩:=x;exact q r c x W'.B W'.K
theorem Il(b:0<=d)(c:d < 2)(h:bM C H y 0 u)(a:bM C H y 0 v):fj C H y 0 (bZ [u,v] none$ some (1+d))/\(bZ [u,v] none$ some (1+d)).length<=2:=by
 rcases(by omega:d=0∨d=1) with rfl |rfl
 ·exact#[kK h,by show 1<=2;decide]
 ·exact#[jV h$ kK a,by show 2<=2;decide]
def P2(C:h8)(y:List Str)(H:Hp)(w:V):Prop:=∃a u v,w= .ref a/\H a=some (.tup [u,v])/\bM C H y 0 u/\bM C H y 0 v
theorem uM:nV (P2 C y):=λ_ _ _ m #[a,u,v,e,h,H,b]=>#[a,u,v,e,m _ _ h,H.mono m,b.mono m]
section
variable {Cf:h8}{ys:List Str}{H0 Hb:Hp}{p wl:Addr}{σ:_L.St}
theorem tU(h:Ev H0 p wl ys Hb σ T (λH v=>bM Cf H ys 0 v))(c:Ev H0 p wl ys Hb σ d (λH v=>bM Cf H ys 0 v)):Ev H0 p wl ys Hb σ (bK$ aj T$ aj d aM) (P2 Cf ys):=λH Q m W q=>
 h H _ m W λo e X f a=>c e _ (m.trans a) f λs u g i b=>#[ci,λr n=>kL (P:=P2 Cf ys) i (λV j x l k=>q V j x l ((a.trans b).trans k)) n λt z=>#[r,_,_,Z,z,(X.mono b.t).mono t,g.mono t]]
theorem CB(e:σ[i]?=some (some v))(E:σ[0]?=some (some$ .ref p))(h:P2 Cf ys Hb v):Ev H0 p wl ys Hb σ (EN Ap (aZ i) gV$ iZ$ dQ (xV λi j=>V.int (i+j)) (tC$ .int 1)$ sL 2) (PB Cf ys 0 2):=λH Q m W q=>
 #[v,e,kn E UN UN H _ m W λw y #[d,b,D,c] f k=>#[1,d,Z,b,_,Z,by
  obtain⟨a,u,A,rfl,g,l,n⟩:=uM _ _ _ (m.trans k).t h;have z:=Il D c l n;exact#[a,_,Z,g,λr o x s=>q _ o #[r,_,Z,x,z.1.mono$ aa.tm s,z.2] (f.same s) (k.trans$ .same s)]]]
end
theorem aT:ai z35z z17z (ae gF):=bP
noncomputable def Qb:Scope:=#[.function,[(".0",.local),("_law_one",.local)],false,false,[]]
theorem Yt:(["_law_one"]:List Str).Nodup:=by decide+kernel
theorem Yu:bh z35z (ae gF) Qb ["_law_one"] 1 []:=pO
theorem Zh(F:aQ K "_law_ticking" "_law_ticking" gF f fd)(C:Cl P w K mg base 1 fT b4 z2z bN "_law_take")(cO:Cl P w K mg base 2 fO b5 z13z my "_law_op")(mi:mg "int"=none)(m1:mg "tuple"=none):af P w K mg base aE 3 f fd z17z (dy 1):=by
 refine F.ok aT ?_ λc0 A o5 s H vs Q E c h=>?_
 ·rintro _ _ _ _ ⟨p,W,f0,g,ys,rfl,_⟩;rfl
 obtain⟨p,W,f0,g,ys,rfl,B,hw,h1,q⟩:=h;refine#[_,(jd (qD (@zO _ _ _ _ _ _ _ (["_law_one"]) (1) ([]) _ _ _ _ Z (zr$ jJ zu (pv 3) jT$ jK jf) Yu (λ_ _ _ _ _=>(jx (i:=0) Yt Z$ Or.inl Z)) (λ_ _ _ _ _=>(@qj _)) (λ_ _ _ _ _=>(jh$ ja jl$ ja (pv 0) jb)) (by intro _;rfl))$ @Xf _ _ _ _ (5) _ Z (jC (jx (i:=4) aT.nd Z$ Or.inl Z)$ jC (jx (i:=5) aT.nd Z$ Or.inl Z)$ jC (jx (i:=6) aT.nd Z$ Or.inl Z)$ jC (jx (i:=7) aT.nd Z$ Or.inl Z)$ jC (jx (i:=8) aT.nd Z$ Or.inl Z) za) UR UR)$ jd (jB 9 aT.nd$ jh$ ja jl$ ja (jw ke jf$ C.e c.m$ ja (pv 0)$ ja jf jb) jb)$ jd (jB 10 aT.nd$ jG$ ja (jh$ ja jl$ ja (jo jr (pv 3) jf (λ_ _=>Z))$ ja (pv 9) jb)$ ja (jh$ ja jl$ ja (jo jr (pv 3) jf (λ_ _=>Z))$ ja (jo jr (jG$ ja (pv 5)$ ja (jh$ ja jl$ ja (C.e c.m$ ja (pv 0)$ ja jf jb) jb) jb) (C.e c.m$ ja (pv 0)$ ja jf jb) (λ_ _=>Z)) jb) jb)$ jd (jF$ jZ L9 Ml Mj jM (pv 10)$ ja (jh$ ja jl$ ja (jo jr (pv 3) jf (λ_ _=>Z))$ ja (pv 2)$ ja (jh$ ja (jo jr (jG$ ja (pv 7)$ ja (jh$ ja jl$ ja jf jb) jb) (C.e c.m$ ja (pv 0)$ ja jf jb) (λ_ _=>Z))$ ja (jo jr (jG$ ja (pv 5)$ ja (jh$ ja jl$ ja jf jb) jb) (C.e c.m$ ja (pv 0)$ ja jf jb) (λ_ _=>Z)) jb) jb) jb)$ jd (kj$ jz (zW$ C.e c.m$ ja (pv 0)$ ja jf jb) (jg$ jF$ jZ L9 Ml Mj jM (pv 10)$ ja (jh$ ja jl$ ja (jh$ ja jl$ ja jl$ ja (pv 5)$ ja (jh$ ja jl$ ja (C.e c.m$ ja (pv 0)$ ja jf jb) jb) jb)$ ja (pv 8) jb) jb) ju)$ jd (jB 11 aT.nd$ jh$ ja jl$ ja jf jb)$ jd (jB 12 aT.nd$ jG$ ja (jh$ ja jl$ ja (jo jr (pv 3) jf (λ_ _=>Z))$ ja (pv 11) jb)$ ja (jh$ ja jl$ ja (pv 11)$ ja (cO.e c.m$ ja (pv 0)$ ja (pv 6)$ ja (pv 8) jb) jb) jb)$ jd (kj$ jz (zW$ C.e c.m$ ja (pv 0)$ ja jf jb) (jg$ jB 12 aT.nd$ jG$ ja (jh$ ja jl$ ja (jo jr (pv 3) jf (λ_ _=>Z))$ ja (cO.e c.m$ ja (pv 0)$ ja (pv 6)$ ja (pv 8) jb) jb) jb) ju)$ jd (jB 10 aT.nd$ jw qi (jw qi (pv 10)$ pv 12)$ jG$ ja (jh$ ja jl$ ja (pv 9)$ ja (jh$ ja jl$ ja jl$ ja (pv 5)$ ja (jh$ ja jl$ ja jf jb) jb) jb)$ ja (jh$ ja jl$ ja (jo jr (pv 3) jf (λ_ _=>Z))$ ja (jh$ ja jl$ ja jl$ ja (pv 5)$ ja (pv 4) jb) jb) jb)$ jd (jB 13 aT.nd$ jh$ ja (jh$ ja jl$ ja (jo jr (pv 3) jf (λ_ _=>Z))$ ja (jh$ ja jl$ ja jf jb) jb)$ ja (jh$ ja jl$ ja (pv 9)$ ja (jh$ ja jl$ ja (C.e c.m$ ja (pv 0)$ ja jf jb) jb) jb) jb)$ jd (jB 14 aT.nd$ jh$ ja jl$ ja (jh$ ja jl$ ja (jo jr (pv 3) jf (λ_ _=>Z)) jb)$ ja (jN jY Z m1 Oc$ ja (pv 10) jb) jb)$ jg$ jp$ jh$ ja (pv 1)$ ja (jh$ ja (jo jr (pv 3) jf (λ_ _=>Z)) jb)$ ja (jw jQ (jJ j8 (pv 13) jT$ jK$ jw ke jf$ C.e c.m$ ja (pv 0)$ ja jf jb)$ jh$ ja (pv 14)$ ja (jh$ ja jl$ ja (pv 6) jb) jb) jb),?_];have W0:Wd H H p W ys:=#[B,aP.refl,hw];refine ah λF1 f1=>ZH W0 Z h1 λvn vi vs vx vy H1 xn xi xs xx xy W1=>f1 _ _ ?_;refine ah λF2 f2=>jS W1 (j7 (Q1 (kn Z UN UN) UN) UN) λv2 H2 x2 W2 k2=>f2 _ _ ?_;refine ah λF3 f3=>DN W2 (qy (Cf:=[(g,2)]) (j6 Z UN UO) (jI Z ar x2) UN) (qy (Cf:=[(g,2)]) (j6 Z UN UO) (Zo Z (jI Z ar$ ar _ _ _ k2.t xi)$ j7 (kn Z UN UN) UN) UN) λlb u3 w3 H3 o3 x3 y3 W3 k3=>f3 _ _ ?_;have a:ap H1 H3:=(k2.t.trans k3.t);refine ah λF4 f4=>qX W3 Z o3 (show 2<=100 by decide) (tQ (Cf:=[(g,2)]) (j6 Z UN UO) (Qs Z) Mm (Zo Z (jI Z ar$ ar _ _ _ a xx)$ j7 (JA UN (by decide:(3:Int) < 4)) UN) (Zo Z (jI Z ar$ ar _ _ _ a xi)$ j7 (JA UN (by decide:(2:Int) < 3)) UN) UN UN) λu4 H4 x4 o4 W4 k4=>f4 _ _ ?_;refine ah λF5 f5=>dZ (λN d=>∃(us:List V),N=[some$ V.ref p,some$ V.str f0,some$ V.str g,some$ V.ref W,some$ vn,some$ vi,some$ vs,some$ vx,some$ vy,some$ v2,some$ V.ref lb,none,none,none,none]/\Ow H d p W lb us/\fj [(g,2)] d ys 0 us/\us.length<=4/\Wd H d p W ys/\ap H4 d) (λE5 _ f6=>qB W4 Z UN UN (λH7 W7 u=>?_) (λH7 W7 u=>?_)) λσ1 H6 h2=>?_
 ·clear f5;have o7:=o4.fw u;have D:ap H1 H7:=((a.trans k4).trans u.t);refine qX W7 Z o7 (show 3<=100 by decide) (JP (Cf:=[(g,2)]) (zi (n:=1) (zp kI) (jI Z ar$ ar _ _ _ D xi) (j7 (kn Z UN UN) UN) UN UN) (jI Z ar$ ar _ _ _ D xy) UN UN) λu8 H8 x8 o8 W8 k8=>f6 _ _ ?_;have G:ap H4 H8:=(u.t.trans k8);have I:ap H3 H8:=((k4.trans u.t).trans k8);exact#[_,Z,o8,(jV ((eL _ _ _ I x3))$ jV ((eL _ _ _ I y3))$ jV ((eL _ _ _ G x4))$ jV (x8) Kz),(show 4<=4 by decide),W8,G]
 ·clear f5;have o7:=o4.fw u;have J:ap H3 H7:=(k4.trans u.t);exact f6 _ _ #[_,Z,o7,(jV ((eL _ _ _ J x3))$ jV ((eL _ _ _ J y3))$ jV ((eL _ _ _ u.t x4)) Kz),(show 3<=4 by decide),W7,u.t]
 obtain⟨us,rfl,o6,ux,ul,W6,k6⟩:=h2;refine f5 _ _ ?_;clear f5;refine ah λF9 f9=>jS W6 (j7 (JA UN (by decide:(30:Int) < 31)) UN) λv9 H9 x9 W9 k9=>f9 _ _ ?_;have o9:=o6.fw k9;have b:ap H1 H9:=(((a.trans k4).trans k6).trans k9.t);refine ah λF0 f7=>DN W9 (qy (Cf:=[(g,2)]) (j6 Z UN UO) (jI Z ar x9) UN) (JP (Cf:=[(g,2)]) (jI Z ar x9) (Jb Z (jI Z ar$ ar _ _ _ b xs)$ jI Z ar$ ar _ _ _ b xy) UN UN) λlm u0 w0 H0 z0 x0 y0 W5 j=>f7 _ _ ?_;have o1:=o9.fw j;refine ah λF6 y=>dZ (λN d=>∃(m:Addr) (zs:List V),N=[some$ V.ref p,some$ V.str f0,some$ V.str g,some$ V.ref W,some$ vn,some$ vi,some$ vs,some$ vx,some$ vy,some$ v2,some$ V.ref lb,some$ v9,some$ .ref m,none,none]/\Ow H d p W lb us/\Ow H d p W m zs/\fj [(g,2)] d ys 0 zs/\zs.length<=2/\Wd H d p W ys/\ap H0 d) (λE1 _ L=>qB W5 Z UN UN (λH5 O k=>?_) (λH5 O k=>?_)) λσ0 R h0=>?_
 ·clear y;have S:=o1.fw k;have z1:=z0.fw k;have l:ap H1 H5:=((b.trans j.t).trans k.t);refine Gm O (qA (Cf:=[(g,2)]) (j6 Z UN UO) (Jb Z (jI Z ar$ ar _ _ _ l xs)$ jI Z ar$ ar _ _ _ l xy) UN) λlq u1 a0 z2 x1 a1 k1=>L _ _ ?_;have o':=S.fw k1;have z:ap H0 a0:=(k.t.trans k1.t);exact#[_,_,Z,o',z2,kK x1,(show 1<=2 by decide),a1,z]
 ·clear y;have S:=o1.fw k;have z1:=z0.fw k;exact L _ _ #[_,_,Z,S,z1,(jV ((eL _ _ _ k.t x0))$ jV ((eL _ _ _ k.t y0)) Kz),(show 2<=2 by decide),O,k.t]
 obtain⟨lm,zs,rfl,a2,z3,zx,zl,a3,T⟩:=h0;refine y _ _ ?_;clear y;have o:ap H2 R:=(((((k3.t.trans k4).trans k6).trans k9.t).trans j.t).trans T);have M:ap H1 R:=((b.trans j.t).trans T);have U:ap H6 R:=((k9.t.trans j.t).trans T);refine ah λF7 f8=>Cn a3 Z Z a2 z3 UO (ux.mono U) zx (JP (Cf:=[(g,2)]) (jI Z ar$ ar _ _ _ o x2) (zi (n:=1) (zp kI) (jI Z ar$ ar _ _ _ M xi) (j7 (JA UN (by decide:(1:Int) < 2)) UN) UN UN) UN UN) (qA (Cf:=[(g,2)]) (j6 Z UN UO) (zi (n:=1) (zp Kc) (jI Z ar$ ar _ _ _ M xi) (jI Z ar$ ar _ _ _ M xn) UN UN) UN) λlc cs a4 a5 cx cl a' k5=>f8 _ _ ?_;have cm:cs.length<=8:=by omega
 have X:ap H2 a4:=(o.trans k5.t);refine ah λF8 f'=>jS a' (tU (qA (Cf:=[(g,2)]) (j6 Z UN UO) (j7 (JA UN (by decide:(1:Int) < 2)) UN) UN)$ JP (Cf:=[(g,2)]) (jI Z ar$ ar _ _ _ X x2) (j7 (kn Z UN UN) UN) UN UN) λv0 b7 x5 b0 Y=>f' _ _ ?_;have o2:=a5.fw Y;refine ah λb8 b1=>jS b0 (tV (qx$ j6 Z UN UO) (tT (n:=8) Z o2 (cx.mono Y.t) cm) UN UN) λv1 b2 x7 b3 k0=>b1 _ _ ?_;have b9:=o2.fw k0;have m0:ap H1 b2:=(((M.trans k5.t).trans Y.t).trans k0.t);refine KA b3 (Qt (Qs Z) (Zp$ j6 Z UN UO) (zU (Ev.up (CB Z Z$ uM _ _ _ k0.t x5) λ_ _=>PB.lift) (Xy (jI Z eL x7)$ Ev.up (Ko (Cf:=[(g,2)]) (jI Z ar$ ar _ _ _ m0 xs) UN) λ_ _=>bM.lift) UN) UN UO) λv d x W'=>?_;obtain⟨r,rfl,x⟩:=x;exact q r d x W'.B W'.K
theorem Im{y:List Str}{lo:Nat}(h:y.length=14)(H:lo<=8):(dm y (some (lo:Int))$ some ((lo+6:Nat):Int)).length=6:=by unfold dm;rw[HT.sIx_nat,HT.sIx_nat,Mw,M8,h,NG$ Mg H UN,NG$ Nat.add_le_add_right H 6,Nat.add_sub_cancel_left];exact NG$ Nat.le_sub_of_add_le$ Mg (Ss H 6) UN
theorem Lv{k:Nat}(h:k < n):oe n (k:Int)=some k:=by unfold oe;rw[Mb UO,Mb UO,M6]
theorem oE.more(h:oE C n H r f)(k:∀y∈C,y∈D):oE D n H r f:=let #[d,b,a,c]:=h;#[d,b,#[a.1,kQ k a.2],c]
theorem Iq(r:oE [(l,N),(m,j),(o,k)] N H a l)(s:oE [(l,N),(m,j),(o,k)] j H b m)(t:oE [(l,N),(m,j),(o,k)] k H c o)(p:N<=100/\j<=100/\k<=100):∃D,dh H D [.ref a,.ref b,.ref c]/\D.length=3/\((∀d∈D,mO d/\d.b.Cs [(l,N),(m,j),(o,k)])/\D.map Df.f=[l,m,o])/\nY H D [N,j,k]:=by
 obtain⟨d,u,v,O,y,z,E⟩:=r;obtain⟨e,A,B,Q,C,F,G⟩:=s;obtain⟨f,I,J,R,g3,L,M⟩:=t;refine#[[d,e,f],#[_,_,Z,u,_,_,Z,A,_,_,Z,I,Z],Z,#[λx q=>?_,by rw[<- E,<- G,<- M];rfl],Z,λi x n h g=>?_]
 ·simp only[NB,Mx,OZ]at q;rcases q with rfl |rfl |rfl
  ·exact v
  ·exact B
  ·exact J
 ·match i,h,g with
  |0,h,g=>cases h;cases g;exact#[_,y,z,p.1]
  |1,h,g=>cases h;cases g;exact#[_,C,F,p.2.1]
  |2,h,g=>cases h;cases g;exact#[_,g3,L,p.2.2]
inductive mh(b:List V)(H:Hp)(Q:VK)(a:XK):Prop
 |mk(p:Addr)(_:b=[.ref p])(_:aG H p)(_:∀(r:Addr) (ds:List Df) (xs:List V) (H':Hp),H' r=some (.tup xs)->dh H' ds xs->ds.length=3->∀ns,pG ds ns->nY H' ds ns->(∃r,ns=1::r)->aG H' p->aP p H H'->Q (.ref r) H')
def E8(L:List Str)(_:Hp)(v:V):Prop:=∃x,v= .str x/\x∈L
section
variable {ys:List Str}{H0 Hb:Hp}{p wl:Addr}{σ:_L.St}
theorem FJ{K:Frag}(e:σ[0]?=some (some$ .ref p))(r:Ev H0 p wl ys Hb σ t (sP a))(s:Ev H0 p wl ys Hb σ T (sP b))(u:Ev H0 p wl ys Hb σ x (sP c)):Ev H0 p wl ys Hb σ (dQ (iH K) (i9$ aj t$ aj T$ aj x aM)$ sL 3) (E8 [a,b,c]):=λH Q m W q=>
 r H _ m W λy z (E:y= .str a) A k=>s z _ (m.trans k) A λC D (F:C= .str b) G f=>u D _ ((m.trans k).trans f) G λI R (J:I= .str c) h j=>#[i8,λl n=>kn e UN UN _ _ ((((m.trans k).trans f).trans j).trans$ .new n) (h.same$ je n) λv L #[d,M,S,U] N o=>by
  obtain⟨g,i,O⟩:∃g,fq [V.str a,.str b,.str c] d=some (.str g)/\g∈[a,b,c]:=by
   rcases(by omega:d=0∨d=1∨d=2) with rfl |rfl |rfl
   ·exact#[a,Z,UP]
   ·exact#[b,Z,UP]
   ·exact#[c,Z,UP]
  rw[<- E,<- F,<- J]at i;exact#[l,_,d,_,Z,M,aI.of$ o.b _ _ (h.B.ne n) jc,i,q _ L #[g,Z,O] N (((k.trans f).trans j).trans ((Fw.new n).trans o))]]
theorem tS{K:Frag}{lo:Nat}(e:σ[0]?=some (some$ .ref p))(E:σ[1]?=some (some$ .ref wl))(d:Ev H0 p wl ys Hb σ t (sP f))(l:Ev H0 p wl ys Hb σ T (E8 L))(h:ys.length=14)(o:lo<=8)(s:i=(lo:Int))(u:j=((lo+6:Nat):Int)):
  Ev H0 p wl ys Hb σ (gf (dy n) [] E0$ aj (aZ 0)$ aj t$ aj T$ aj (EN (vN K) (aZ 1) (iZ$ tC$ .int i)$ iZ$ tC$ .int j) aM) (PD (L.map λy=>(y,2)) n f):=λH Q m W q=>
 #[_,e,d H _ m W λv x (z:v= .str f) A k=>l x _ (m.trans k) A λV M #[g,D,c] b F=>#[_,E,_,Z,_,Z,wl,_,Z,aI.of b.w,λr N=>#[p,r,f,g,dm ys (some i)$ some j,by rw[z,D];rfl,b.B.upd_new N,by rw[jc,KH],by rw[s,u];exact Im h o,λa G X I C=>
  q _ G #[a,Z,X.more λy J=>by rw[List.mem_singleton.mp J];exact List.mem_map.mpr #[g,c,Z]] ((b.same$ je N).but I C) ((k.trans F).trans ((Fw.new N).trans$ .but (b.B.upd_new N) C))]]]
theorem zX{K:Frag}{k:Nat}(e:σ[j]?=some (some$ .ref wl))(a:i=(k:Int))(h:ys[k]?=some y):Ev H0 p wl ys Hb σ (dQ (iH K) (aZ j)$ tC$ .int i) (sP y):=λH Q m W q=>
 #[_,e,wl,_,_,_,Z,Z,aI.of W.w,(by rw[a];exact jL (by rw[Mp,h];rfl)),q _ H Z W .refl]
theorem FG{n1 n2 n3:Nat}(s:n1<=100/\n2<=100/\n3<=100)(u:Ev H0 p wl ys Hb σ T (PD [(e,n1),(h,n2),(i,n3)] n1 e))(y:Ev H0 p wl ys Hb σ z (PD [(e,n1),(h,n2),(i,n3)] n2 h))(A:Ev H0 p wl ys Hb σ B (PD [(e,n1),(h,n2),(i,n3)] n3 i)):Ev H0 p wl ys Hb σ (bK$ aj T$ aj z$ aj B aM) (λH v=>∃r D x,v= .ref r/\H r=some (.tup x)/\dh H D x/\D.length=3/\((∀d∈D,mO d/\d.b.Cs [(e,n1),(h,n2),(i,n3)])/\D.map Df.f=[e,h,i])/\nY H D [n1,n2,n3]):=λH Q m W q=>
 u H _ m W λV C X E k=>y C _ (m.trans k) E λF G I J j=>A G _ ((m.trans k).trans j) J λL H4 M N l=>#[i8,λr n=>q _ _ (by
  have t:=aa.tm (je (o:=HO.tup [V,F,L]) n);obtain⟨a,O,R⟩:=gD _ _ _ t (gD _ _ _ (j.trans l).t X);obtain⟨b,S,U⟩:=gD _ _ _ t (gD _ _ _ l.t I);obtain⟨c,Y,h3⟩:=gD _ _ _ t M;obtain⟨D,g⟩:=Iq R U h3 s;exact#[r,D,_,Z,by rw[jc,O,S,Y],g]) (N.same$ je n) (((k.trans j).trans l).trans$ .new n)]
end
theorem gi:ai ["_law_box_here","_law_w","_law_body_here","_law_deeper","_law_further","_law_first"] z4z (ae vS):=bP
theorem yN(F:aQ K "_law_busy" "_law_busy" vS f fd)(T:Cl P w K mg base 1 fT f0 z2z bN "_law_take")(cO:Cl P w K mg base 2 fO f1 z13z my "_law_op")(cA:Cl P w K mg base 2 fA f7 z24z gM "_law_names")(cL:Cl P w K mg base 3 fL f8 z17z (dy 1) "_law_looped")(cK:Cl P w K mg base 3 fK f9 z17z (dy 1) "_law_ticking")(cI:Cl P w K mg base 3 fI f' z31z (dy 2) "_law_inner"):af P w K mg base aE 4 f fd z4z mh:=by
 refine F.ok gi ?_ λc0 A U s H vs Q E i h=>?_
 ·rintro _ _ _ _ ⟨p,rfl,_⟩;rfl
 obtain⟨p,rfl,B,q⟩:=h;refine#[_,(jd (jB 1 gi.nd$ cA.e i.m$ ja (pv 0)$ ja jf jb)$ jd (kj$ jz (zW$ T.e i.m$ ja (pv 0)$ ja jf jb) (jg$ qD (jo jr (pv 1) jf (λ_ _=>Z))$ JB (pv 1) jf zY) ju)$ jd (jB 2 gi.nd$ jh$ ja (jh$ ja jl$ ja (jo jr (pv 1) jf (λ_ _=>Z))$ ja (jh$ ja jl$ ja (jo jr (pv 1) jf (λ_ _=>Z)) jb) jb)$ ja (jh$ ja jl$ ja (cO.e i.m$ ja (pv 0)$ ja (jh$ ja jl$ ja (jo jr (pv 1) jf (λ_ _=>Z)) jb)$ ja (jh$ ja jl$ ja (jo jr (pv 1) jf (λ_ _=>Z)) jb) jb) jb) jb)$ jd (jB 3 gi.nd$ jh$ ja (jo jr (pv 1) jf (λ_ _=>Z))$ ja (jh$ ja (jo jr (pv 1) jf (λ_ _=>Z))$ ja (jo jr (pv 1) jf (λ_ _=>Z)) jb)$ ja (pv 2) jb)$ jd (jB 4 gi.nd$ jo jr (jG$ ja (jo jr (pv 1) jf (λ_ _=>Z))$ ja (jo jr (pv 1) jf (λ_ _=>Z))$ ja (jo jr (pv 1) jf (λ_ _=>Z)) jb) (T.e i.m$ ja (pv 0)$ ja jf jb) (λ_ _=>Z))$ jd (jB 5 gi.nd$ cL.e i.m$ ja (pv 0)$ ja (jo jr (pv 1) jf (λ_ _=>Z))$ ja (jo jr (pv 1) jf (λ_ _=>Z))$ ja (jJ zu (pv 1) (jK jf)$ jK jf) jb)$ jd (kj$ jz (zW$ T.e i.m$ ja (pv 0)$ ja jf jb) (jg$ jB 5 gi.nd$ cK.e i.m$ ja (pv 0)$ ja (jo jr (pv 1) jf (λ_ _=>Z))$ ja (jo jr (pv 1) jf (λ_ _=>Z))$ ja (jJ zu (pv 1) (jK jf)$ jK jf) jb) ju)$ jg$ jp$ jh$ ja (pv 5)$ ja (cI.e i.m$ ja (pv 0)$ ja (jo jr (pv 1) jf (λ_ _=>Z))$ ja (pv 4)$ ja (jJ zu (pv 1) (jK jf)$ jK jf) jb)$ ja (pv 3) jb),?_];refine ah λFa o=>#[_,Z,p,14,Z,B,UN,UN,λj ys Ha X u c d Ba ka=>o _ _ ?_];clear o;have wp:j≠p:=sW Ba u;refine ah λFa o=>dZ (λn g=>∃Y:List Str,n=[some$ V.ref p,some$ V.ref j,none,none,none,none]/\g j=some (.lst$ Y.map V.str)/\(Y.length=14/\(Y.take 3).Nodup/\∀y∈Y.take 3,y.length<=20)/\aG g p/\aP p H g) (λE0 _ fm=>qB (W:=#[Ba,ka,u]) Z UN UN (λHb l kb=>?_) (λHb l kb=>fm _ _ #[_,Z,l.w,#[UO,d.2.sublist$ P' _ _,λy hy=>d.1 y (Ny hy)],l.B,l.K])) λσ1 H0 h3=>?_
 ·clear o;obtain⟨v1,h6,z⟩:=Yy (ys:=ys) (k:=1) UN UO;refine#[_,Z,j,_,_,_,Z,Z,aI.of l.w,z,_,Z,j,_,8,8,Z,Z,l.w,Lv (k:=8) (by rw[LU];omega),fm _ _ #[ys.set 8 v1,Z,?_,#[by rw[Pt];omega,by rw[List.take_set_of_le UN];exact#[d.2.sublist$ P' _ _,λy hy=>d.1 y (Ny hy)]],l.B.eq$ ji$ ME wp,l.K.upd_own X]];rw[jc,TX]
 obtain⟨ys,rfl,h4,⟨c,C,D⟩,B1,k1⟩:=h3;obtain⟨y0,h0⟩:∃y,ys[0]?=some y:=#[_,LP (by omega:0 < ys.length)];obtain⟨G,I⟩:∃y,ys[1]?=some y:=#[_,LP (by omega:1 < ys.length)];obtain⟨y2,N⟩:∃y,ys[2]?=some y:=#[_,LP (by omega:2 < ys.length)];have e3:ys.take 3=[y0,G,y2]:=by rw[PJ,PJ,PJ,h0,I,N];rfl
 rw[e3]at C D;refine o _ _ ?_;clear o;have W1:Wd H H0 p j ys:=#[B1,k1,h4];generalize H0=H1 at W1;refine ah λF2 f2=>jS W1 (Xy (qy (Cf:=[]) (j6 Z UN UO) (qx$ j6 Z UN UO) UN)$ Ko (Cf:=[]) (Jb Z (qx$ j6 Z UN UO)$ qx$ j6 Z UN UO) UN) λv2 H2 x2 W2 k2=>f2 _ _ ?_;refine ah λF3 f3=>jS W2 (Qt (Cf:=[]) (zX (k:=2) Z Z N) (Br (j6 Z UN UO)$ j6 Z UN UO) (Ev.up (jI Z du x2) λ_ _=>PB.lift) UN UO) λv3 H3 x3 W3 k3=>f3 _ _ ?_;refine ah λF4 f4=>jS W3 (FJ Z (zX (k:=1) Z Z I) (zX (k:=2) Z Z N)$ zX (k:=2) Z Z N) λv4 H4 x4 W4 k4=>f4 _ _ ?_;refine ah λF5 f5=>jS W4 (tS (lo:=6) Z Z (zX (k:=0) Z Z h0) (Ev.up (R:=E8 [G]) (zX (k:=1) Z Z I) λ_ _ e=>#[_,e,Mm]) c UN Z Z) λv5 H5 x5 W5 k5=>f5 _ _ ?_;refine ah λF6 O=>dZ (λn g=>∃(b:V),n=[some$ V.ref p,some$ V.ref j,some$ v2,some$ v3,some$ v4,some b]/\PD [(G,2)] 1 y0 g b/\Wd H g p j ys/\ap H5 g) (λE6 _ J=>qB W5 Z UN UN (λH8 W8 S=>?_) (λH8 W8 S=>?_)) λσ2 H7 h5=>?_
 ·clear O;refine jS W8 (tS (lo:=6) Z Z (zX (k:=0) Z Z h0) (Ev.up (R:=E8 [G]) (zX (k:=1) Z Z I) λ_ _ e=>#[_,e,Mm]) c UN Z Z) λv9 H9 x9 W9 k9=>J _ _ ?_;have M:ap H5 H9:=(S.t.trans k9.t);exact#[_,Z,x9,W9,M]
 ·clear O;exact J _ _ #[_,Z,(gD _ _ _ S.t x5),W8,S.t]
 obtain⟨b7,rfl,x7,W7,k7⟩:=h5;refine O _ _ ?_;clear O;have L:ap H3 H7:=((k4.t.trans k5.t).trans k7);refine KA W7 (FG (n1:=1) (n2:=2) (n3:=2) #[UN,UN,UN] (Ev.up (jI Z gD x7) (λ_ _ #[a,e,h]=>#[a,e,h.more UP])) (Ev.up (tS (lo:=7) Z Z (zX (k:=1) Z Z I) (jI (P:=E8 [G,y2,y2]) Z (λ_ _ _ _ h=>h) x4) c UN Z Z) (λ_ _ #[a,e,h]=>#[a,e,h.more UP])) (Ev.up (jI Z gD$ gD _ _ _ L x3) (λ_ _ #[a,e,h]=>#[a,e,h.more UP]))) λv g x W'=>?_;obtain⟨r,ds,xs,rfl,g0,g1,g2,g3,g4⟩:=x;exact q r ds xs g g0 g1 g2 [1,2,2] #[by rw[g3.2];exact g3.1,by rw[g3.2];exact#[C,D]] g4 #[_,Z] W'.B W'.K
noncomputable abbrev Aw:Stmt:=bQ 82
theorem Em{H:Hp}{f:Str}(h:H p=some (.tup [.str "call",.str x,.str f,.ref q]))(d:x∈y)(a:(f,1)∈C)(e:H q=some (.tup [.ref t]))(g:gr H y k t)(i:k < 6:=by decide):bM C H y 0 (.ref p):=by
 obtain⟨T,j,m⟩:=g.ok i;refine Qr (l:=.cl x f q [(t,T)]) h #[Z,e,λc b=>?_] #[d,(by show 1<=6;decide),λc b=>?_] a
 ·rw[List.mem_singleton.mp b];exact j
 ·rw[List.mem_singleton.mp b];exact m
theorem Fo(b:0<=d)(c:d < 2)(a:bM C H y 0 u)(h:bM C H y 0 v):fj C H y 0 (bZ [u,v] (some d) none)/\(bZ [u,v] (some d) none).length<=2:=by
 rcases(by omega:d=0∨d=1) with rfl |rfl
 ·exact#[jV a$ kK h,by show 2<=2;decide]
 ·exact#[kK h,by show 1<=2;decide]
theorem Ip(o:oE [(j,N),(k,c)] N H a j)(p:oE [(j,N),(k,c)] c H b k)(l:N<=100/\c<=100):∃D,dh H D [.ref a,.ref b]/\D.length=2/\((∀d∈D,mO d/\d.b.Cs [(j,N),(k,c)])/\D.map Df.f=[j,k])/\nY H D [N,c]:=by
 obtain⟨d,q,r,B,s,t,E⟩:=o;obtain⟨e,u,v,C,y,z,A⟩:=p;refine#[[d,e],#[_,_,Z,q,_,_,Z,u,Z],Z,#[λx m=>?_,by rw[<- E,<- A];rfl],Z,λi x n h g=>?_]
 ·simp only[NB,Mx,OZ]at m;rcases m with rfl |rfl
  ·exact r
  ·exact v
 ·match i,h,g with
  |0,h,g=>cases h;cases g;exact#[_,s,t,l.1]
  |1,h,g=>cases h;cases g;exact#[_,y,z,l.2]
inductive pf(b:List V)(H:Hp)(Q:VK)(a:XK):Prop
 |mk(p:Addr)(_:b=[.ref p])(_:aG H p)(_:∀(r:Addr) (ds:List Df) (xs:List V) (H':Hp),H' r=some (.tup xs)->dh H' ds xs->ds.length=2->∀ns,pG ds ns->nY H' ds ns->(∃r,ns=1::r)->aG H' p->aP p H H'->Q (.ref r) H')
section
variable {Cf:h8}{ys:List Str}{H0 Hb:Hp}{p wl:Addr}{σ:_L.St}
theorem tR(d:Ev H0 p wl ys Hb σ g (PN ys))(i:Ev H0 p wl ys Hb σ j (sP f))(b:(f,1)∈Cf)(l:Ev H0 p wl ys Hb σ T (PT ys k))(n:k < 6):Ev H0 p wl ys Hb σ (bK$ aj (tC$ .str "call")$ aj g$ aj j$ aj (bK$ aj T aM) aM) (λH v=>bM Cf H ys 0 v):=by
 let R:Hp->V->Prop:=λH v=>∃q a,v= .ref q/\H q=some (.tup [.ref a])/\gr H ys k a
 have M:nV R:=λ_ _ _ m #[q,a,e,c,o]=>#[q,a,e,m _ _ c,o.mono m];have s:Ev H0 p wl ys Hb σ (bK$ aj T aM) R:=λH Q m W q=>
  l H _ m W λS U #[a,E,X] A C=>#[iE,λr N=>kL (P:=R) A (λD F x G k=>q D F x G (C.trans k)) N λt z=>#[r,a,Z,by rw[z,E],X.mono t]]
 exact CA yD (B:=sP f) (λ_ _ _ _ h=>h) M d i s λH r u v x z #[y,I,c] (E:v= .str f) #[q,a,J,L,O]=>Em (f:=f) (by rw[z,I,E,J]) c b L O n
theorem Bp{K:Frag}(e:σ[i]?=some (some$ .ref l))(E:σ[0]?=some (some$ .ref p))(o:Ow H0 Hb p wl l [u,v])(h:bM Cf Hb ys 0 u)(a:bM Cf Hb ys 0 v):Ev H0 p wl ys Hb σ (dQ (iH K) (aZ i)$ sL 2) (λH v=>bM Cf H ys 0 v):=λH Q m W q=>
 #[_,e,kn E UN UN H _ m W λw b #[d,c,D,n] f k=>by
  have g:∃x,fq [u,v] d=some x/\bM Cf Hb ys 0 x:=by
   rcases(by omega:d=0∨d=1) with rfl |rfl
   ·exact#[_,Z,h]
   ·exact#[_,Z,a]
  obtain⟨x,i,j⟩:=g;exact#[l,_,d,_,Z,c,aI.of (o.fw$ m.trans k).hl,i,q _ b (j.mono (m.trans k).t) f k]]
theorem yq(e:σ[i]?=some (some v))(E:σ[0]?=some (some$ .ref p))(h:P2 Cf ys Hb v):Ev H0 p wl ys Hb σ (EN Ap (aZ i) (iZ$ sL 2) gV) (PB Cf ys 0 2):=λH Q m W q=>
 #[v,e,kn E UN UN H _ m W λw x #[d,b,D,c] f k=>#[d,b,by
  obtain⟨a,u,V,rfl,g,j,l⟩:=uM _ _ _ (m.trans k).t h;have z:=Fo D c j l;exact#[a,_,Z,g,λr n o s=>q _ n #[r,_,Z,o,z.1.mono$ aa.tm s,z.2] (f.same s) (k.trans$ .same s)]]]
theorem yh{D:a7}(W:Wd H0 H p wl ys)(c:σ[i]?=some (some$ .ref l))(o:Ow H0 H p wl l x)(C:x.length<=100)(B:fj Cf H ys 0 x)
  (j:Ev H0 p wl ys H σ T (λH v=>bM Cf H ys 0 v)) (m:Ev H0 p wl ys H σ s (λH v=>bM Cf H ys 0 v)) (q:∀r u h,Ow H0 h p wl r u->fj Cf h ys 0 u->u.length<=x.length+2->Wd H0 h p wl ys->Fw p H h->D.nx (σ.set i$ some$ .ref r) h):
  dP (dQ vK (aZ i)$ i9$ aj T$ aj s aM) (aU i) D σ H:=
 #[_,c,j _ _ .refl W λV y X z k=>m y _ k z λa E A e b=>#[ci,λd n=>#[l,d,_,_,Z,Z,aq (o.fw$ k.trans b).hl n,jc,by
  have:=aH;show x.length+2<=sizeLine;omega,λr N=>q r _ _ (.new (e.same$ je n) N) (by
   have f:=(k.trans b).trans ((Fw.new (p:=p) (o:=HO.lst [V,a]) n).trans$ Fw.new (o:=HO.lst (x++[V,a])) N);have g:=(Fw.new (p:=p) (o:=HO.lst [V,a]) n).trans (Fw.new (o:=HO.lst (x++[V,a])) N);exact qk (B.mono f.t)$ jV ((X.mono b.t).mono g.t)$ kK$ A.mono g.t) (by rw[LS];exact LV _) ((e.same$ je n).same$ je N) ((k.trans b).trans ((Fw.new n).trans$ Fw.new N))]]]
theorem Gn{D:a7}(W:Wd H0 H p wl ys)(o:Ow H0 H p wl c d)(f:Ev H0 p wl ys H σ T (λH v=>bM Cf H ys 0 v))(g:Ev H0 p wl ys H σ j (λH v=>bM Cf H ys 0 v))(q:∀l u v h,Ow H0 h p wl l [u,v]->bM Cf h ys 0 u->bM Cf h ys 0 v->Ow H0 h p wl c d->c≠l->Wd H0 h p wl ys->Fw p H h->D.nx (σ.set i$ some$ .ref l) h):dP (i9$ aj T$ aj j aM) (aU i) D σ H:=
 f H _ .refl W λV m x r k=>g m _ k r λs y X b a=>#[ci,λl n=>q l V s _ (.new b n) ((x.mono a.t).mono$ aa.tm$ je n) (X.mono$ aa.tm$ je n) ((o.fw$ k.trans a).fw$ .new n) (λe=>by have z:=(o.fw$ k.trans a).hl;rw[e,n]at z;cases z) (b.same$ je n) ((k.trans a).trans$ .new n)]
theorem Gu{K:Frag}{D:a7}(W:Wd H0 H p wl ys)(a:σ[i]?=some (some$ .ref l))(o:Ow H0 H p wl l xs)(O:Ow H0 H p wl c z)(n:c≠l)(b:xs.length<=100)(d:Ev H0 p wl ys H σ T (λH v=>bM Cf H ys 0 v))
  (q:∀v h,bM Cf h ys 0 v->Ow H0 h p wl l (xs++[v])->Ow H0 h p wl c z->Wd H0 h p wl ys->ap H h->D.nx σ h):nJ (HQ K "list" iw (aZ i)$ aj T aM) D σ H:=
 #[_,a,.inl #[Z,_,aI.of o.hl],d H _ .refl W λv f x e k=>#[l,xs,v,Z,Z,(o.fw k).hl,Nj b UN,q v _ (x.mono$ JE (o.fw k).hl) #[jc,o.np,o.lw,o.l0] #[by rw[ji n];exact(O.fw k).hl,O.np,O.lw,O.l0] (e.own (xs:=xs) o.l0 o.np o.lw) (k.t.trans$ JE (o.fw k).hl)]]
theorem FF{n1 n2:Nat}(i:n1<=100/\n2<=100)(j:Ev H0 p wl ys Hb σ T (PD [(c,n1),(e,n2)] n1 c))(l:Ev H0 p wl ys Hb σ s (PD [(c,n1),(e,n2)] n2 e)):Ev H0 p wl ys Hb σ (bK$ aj T$ aj s aM) (λH v=>∃r D x,v= .ref r/\H r=some (.tup x)/\dh H D x/\D.length=2/\((∀d∈D,mO d/\d.b.Cs [(c,n1),(e,n2)])/\D.map Df.f=[c,e])/\nY H D [n1,n2]):=λH Q m W q=>
 j H _ m W λV u X y k=>l u _ (m.trans k) y λz I A B h=>#[ci,λr n=>q _ _ (by
  have t:=aa.tm (je (o:=HO.tup [V,z]) n);obtain⟨a,E,C⟩:=gD _ _ _ t (gD _ _ _ h.t X);obtain⟨b,F,G⟩:=gD _ _ _ t A;obtain⟨D,g⟩:=Ip C G i;exact#[r,D,_,Z,by rw[jc,E,F],g]) (B.same$ je n) ((k.trans h).trans$ .new n)]
theorem tW{K:Frag}{D:a7}(W:Wd H0 H p wl ys)(k:σ[1]?=some (some$ .ref wl))(l:ys.length=9)
  (q:∀a b c d e g,PT ys 0 g a->PT ys 0 g b->PT ys 0 g c->PT ys 0 g d->PT ys 0 g e->Wd H0 g p wl ys->D.nx (((((σ.set 2$ some a).set 3$ some b).set 4$ some c).set 5$ some d).set 6$ some e) g):
  dP (px (uj K$ EN (vN K) (aZ 1) gV$ iZ$ tC$ V.int 5) 1 [] (aU 0) mH$ bK$ aj (tC$ V.str "var")$ aj (aZ 0) aM) (HM K 5$ cj (aU 2)$ cj (aU 3)$ cj (aU 4)$ cj (aU 5)$ cj (aU 6) pX) D σ H:=by
 have B:=aH;refine#[_,k,_,Z,wl,_,Z,aI.of W.w,λs n=>?_];have E:bZ (ys.map V.str) none (some 5)=(ys.take 5).map V.str:=by rw[show(5:Int)=((5:Nat):Int) from Z,Fp (by rw[LU];omega),PX]
 have t:am H s (.lst$ bZ (ys.map V.str) none$ some 5) s=some (.lst ((ys.take 5).map V.str)):=by rw[E];exact jc
 have S:=je (o:=HO.lst (bZ (ys.map V.str) none$ some 5)) n;generalize am H s (.lst$ bZ (ys.map V.str) none$ some 5)=A at t S;refine#[s,Z,#[_,aI.of t],?_];refine QN (K:=K) (a:=s) (xs:=(ys.take 5).map V.str) (by rw[LU,Mw];omega) (λi j g=>j.length=i/\(∀v∈j,PT ys 0 g v)/\aa A g) #[Z,(λ_ h=>absurd h Mx),aa.refl _] (λi j g h=>#[aI.of$ h.2.2 _ _ t,Pq h.1]) (λi x j g C h=>?_) (λj F h L N=>?_)
 ·obtain⟨y,l,rfl⟩:=List.mem_map.mp (Mr C);exact#[_,Z,ci,λr u=>#[by rw[LS,h.1];rfl,XZ (λa z=>ar _ _ _ (aa.tm$ je u) (h.2.1 a z)) #[r,Z,YA jc$ Ny l],h.2.2.trans$ je u]]
 ·have e:=h.1;rw[LU,Mw]at e;obtain⟨a,b,c,d,f,rfl⟩:=FX (show j.length=5 by omega);have m:=aa.tm (je (o:=HO.lst [a,b,c,d,f]) N);exact#[L,_,Z,aI.of jc,Z,_,_,Z,_,_,Z,_,_,Z,_,_,Z,_,_,Z,Z,q a b c d f _ (ar _ _ _ m$ h.2.1 a UP) (ar _ _ _ m$ h.2.1 b UP) (ar _ _ _ m$ h.2.1 c UP) (ar _ _ _ m$ h.2.1 d UP) (ar _ _ _ m$ h.2.1 f UP) (((W.same S).same h.2.2).same$ je N)]
end
theorem dE:ai z36z z4z (ae Aw):=bP
noncomputable def Zi:Scope:=#[.function,[(".0",.local),("_law_one",.local)],false,false,[]]
theorem yH:(["_law_one"]:List Str).Nodup:=by decide+kernel
theorem yj:bh z36z (ae Aw) Zi ["_law_one"] 1 []:=pO
theorem Do(F:aQ K "_law_gathering" "_law_gathering" Aw f fd)(C:Cl P w K mg base 1 fT f0 z2z bN "_law_take")(cA:Cl P w K mg base 2 fA f' z24z gM "_law_names")(cO:Cl P w K mg base 2 fO a2 z13z my "_law_op")(m1:mg "tuple"=none):af P w K mg base aE 4 f fd z4z pf:=by
 refine F.ok dE ?_ λc0 A o1 s H vs Q E d h=>?_
 ·rintro _ _ _ _ ⟨p,rfl,_⟩;rfl
 obtain⟨p,rfl,B,q⟩:=h;refine#[_,(jd (jB 1 dE.nd$ cA.e d.m$ ja (pv 0)$ ja jf jb)$ jd (qD (@zO _ _ _ _ _ _ _ (["_law_one"]) (1) ([]) _ _ _ _ Z (zr$ jJ zu (pv 1) jT$ jK jf) yj (λ_ _ _ _ _=>(jx (i:=0) yH Z$ Or.inl Z)) (λ_ _ _ _ _=>(@qj _)) (λ_ _ _ _ _=>(jh$ ja jl$ ja (pv 0) jb)) (by intro _;rfl))$ @Xf _ _ _ _ (5) _ Z (jC (jx (i:=2) dE.nd Z$ Or.inl Z)$ jC (jx (i:=3) dE.nd Z$ Or.inl Z)$ jC (jx (i:=4) dE.nd Z$ Or.inl Z)$ jC (jx (i:=5) dE.nd Z$ Or.inl Z)$ jC (jx (i:=6) dE.nd Z$ Or.inl Z) za) UR UR)$ jd (jB 7 dE.nd$ jG$ ja (jh$ ja jl$ ja (jo jr (pv 1) jf (λ_ _=>Z))$ ja (jo jr (pv 1) jf (λ_ _=>Z))$ ja (jh$ ja (jh$ ja jl$ ja (C.e d.m$ ja (pv 0)$ ja jf jb) jb) jb) jb)$ ja (jh$ ja jl$ ja (jo jr (pv 1) jf (λ_ _=>Z))$ ja (jo jr (pv 1) jf (λ_ _=>Z))$ ja (jh$ ja (pv 5) jb) jb) jb)$ jd (jB 8 dE.nd$ jG$ ja (jh$ ja jl$ ja (jo jr (pv 1) jf (λ_ _=>Z))$ ja (jh$ ja jl$ ja jl$ ja (pv 3)$ ja (jh$ ja jl$ ja (C.e d.m$ ja (pv 0)$ ja jf jb) jb) jb) jb)$ ja (jo jr (pv 7) (C.e d.m$ ja (pv 0)$ ja jf jb) (λ_ _=>Z)) jb)$ jd (jF$ jZ L9 Ml Mj jM (pv 8)$ ja (jh$ ja jl$ ja (jo jr (pv 1) jf (λ_ _=>Z))$ ja (cO.e d.m$ ja (pv 0)$ ja (pv 4)$ ja (pv 6) jb) jb) jb)$ jd (kj$ jz (zW$ C.e d.m$ ja (pv 0)$ ja jf jb) (jg$ jB 8 dE.nd$ jw qi (pv 8)$ jG$ ja (jo jr (pv 7) (C.e d.m$ ja (pv 0)$ ja jf jb) (λ_ _=>Z))$ ja (jh$ ja jl$ ja (jo jr (pv 1) jf (λ_ _=>Z))$ ja (cO.e d.m$ ja (pv 0)$ ja (pv 4)$ ja (pv 6) jb) jb) jb) ju)$ jd (jF$ jZ L9 Ml Mj jM (pv 8)$ ja (jh$ ja jl$ ja (jo jr (pv 1) jf (λ_ _=>Z))$ ja (jh$ ja jl$ ja jl$ ja (pv 3)$ ja (jh$ ja jl$ ja jf jb) jb) jb) jb)$ jd (jB 9 dE.nd$ jh$ ja (jh$ ja jl$ ja (jo jr (pv 1) jf (λ_ _=>Z))$ ja (jh$ ja jl$ ja jf jb) jb)$ ja (jh$ ja jl$ ja (jo jr (pv 1) jf (λ_ _=>Z))$ ja (jh$ ja jl$ ja jf jb) jb) jb)$ jd (jB 10 dE.nd$ jh$ ja (jo jr (pv 1) jf (λ_ _=>Z))$ ja (jh$ ja (jo jr (pv 1) jf (λ_ _=>Z)) jb)$ ja (jw jQ (jJ j8 (pv 9) (jK$ C.e d.m$ ja (pv 0)$ ja jf jb) jT)$ jh$ ja (jh$ ja jl$ ja (jh$ ja jl$ ja jl$ ja (pv 3)$ ja (pv 2) jb)$ ja (jN jY Z m1 Oc$ ja (pv 8) jb) jb)$ ja (jh$ ja jl$ ja (pv 4) jb) jb) jb)$ jd (jB 11 dE.nd$ jh$ ja (jh$ ja jl$ ja (jo jr (pv 1) jf (λ_ _=>Z))$ ja (jh$ ja jl$ ja jl$ ja (jh$ ja jl$ ja (jo jr (pv 1) jf (λ_ _=>Z)) jb)$ ja (jh$ ja jl$ ja (C.e d.m$ ja (pv 0)$ ja jf jb) jb) jb) jb) jb)$ jd (kj$ jz (zW$ C.e d.m$ ja (pv 0)$ ja jf jb) (jg$ jB 11 dE.nd$ jw jQ (pv 11)$ jh$ ja (jh$ ja jl$ ja (jh$ ja jl$ ja (C.e d.m$ ja (pv 0)$ ja jf jb) jb)$ ja (jh$ ja jl$ ja jl$ ja (jh$ ja jl$ ja (jo jr (pv 1) jf (λ_ _=>Z)) jb)$ ja (jh$ ja jl$ ja jf jb) jb) jb) jb) ju)$ jg$ jp$ jh$ ja (pv 10)$ ja (jh$ ja (jo jr (pv 1) jf (λ_ _=>Z))$ ja (jh$ ja (jo jr (pv 1) jf (λ_ _=>Z)) jb)$ ja (jw jQ (pv 11)$ jh$ ja (jh$ ja jl$ ja (jh$ ja jl$ ja jl$ ja (jh$ ja jl$ ja (jo jr (pv 1) jf (λ_ _=>Z)) jb)$ ja (jh$ ja jl$ ja (jo jr (pv 1) jf (λ_ _=>Z)) jb) jb) jb) jb) jb) jb),?_];refine ah λFa fa=>#[_,Z,p,9,Z,B,UN,UN,λN Y Ha n3 O R D Ba ka=>fa _ _ ?_];clear fa;have R:Y.length=9:=by omega
 obtain⟨y5,h5⟩:∃y,Y[5]?=some y:=#[_,LP (by omega:5 < Y.length)];obtain⟨g,S⟩:∃y,Y[6]?=some y:=#[_,LP (by omega:6 < Y.length)];have n0:y5≠g:=λe=>by have z:=(Ra (by omega:5 < Y.length) D.2).mp (h5.trans ((Ng some e).trans S.symm));cases z
 have h0:[y5,g].Nodup:=List.nodup_cons.mpr #[by rw[Om];exact n0,List.pairwise_singleton _ _];have h1:∀y∈[y5,g],y.length<=20:=λy hy=>by
  rcases List.mem_cons.mp hy with rfl |hy
  ·exact D.1 _$ Mr h5
  ·rw[List.mem_singleton.mp hy];exact D.1 _ (Mr S)
 have W0:Wd H Ha p N Y:=#[Ba,ka,O];clear O Ba ka;refine ah λF1 f1=>tW W0 Z R λvn vi vs vx vy H1 xn xi X xx xy W1=>f1 _ _ ?_;clear f1;refine ah λF2 f2=>DN W1 (tR (Cf:=[(g,1)]) (j6 Z UN UO) (zX (k:=6) Z Z S) Mm (j7 (kn Z UN UN) UN) UN) (tR (j6 Z UN UO) (zX (k:=6) Z Z S) Mm (jI Z ar xx) UN) λlc u1 u2 H2 o2 z1 z2 W2 k2=>f2 _ _ ?_;clear f2;refine ah λF3 f3=>Gn W2 o2 (qy (Cf:=[(g,1)]) (j6 Z UN UO) (zi (n:=1) (zp kI) (jI Z ar$ ar _ _ _ k2.t xi) (j7 (kn Z UN UN) UN) UN UN) UN) (Bp Z Z o2 z1 z2) λT u3 u4 H3 o3 z3 z4 c3 nc W3 k3=>f3 _ _ ?_;clear f3;have M:=k2.t.trans k3.t;refine ah λF4 f4=>Gu W3 Z o3 c3 nc (show 2<=100 by decide) (qA (Cf:=[(g,1)]) (j6 Z UN UO) (Jb Z (jI Z ar$ ar _ _ _ M X)$ jI Z ar$ ar _ _ _ M xy) UN) λu5 H4 z5 o4 c4 W4 k4=>f4 _ _ ?_;clear f4;have G:=M.trans k4;have U:=k3.t.trans k4;have I:fj [(g,1)] H4 Y 0 ([u3,u4]++[u5]):=qk (jV (z3.mono k4)$ kK$ z4.mono k4) (kK z5);refine ah λF5 f5=>dZ (λJ l=>∃(T:Addr) (u:List V),J=[some$ V.ref p,some$ V.ref N,some vn,some vi,some vs,some vx,some vy,some$ V.ref lc,some$ V.ref T,none,none,none]/\Ow H l p N T u/\fj [(g,1)] l Y 0 u/\u.length<=5/\Wd H l p N Y/\ap H4 l) (λE5 _ fm=>qB W4 Z UN UN (λH6 W6 c=>?_) (λH6 W6 c=>?_)) λσ1 H5 hq=>?_
 ·clear f5;exact yh W6 Z (o4.fw c) (show 3<=100 by decide) (I.mono c.t) (Bp Z Z (c4.fw c) (z1.mono$ U.trans c.t)$ z2.mono$ U.trans c.t) (qA (j6 Z UN UO) (Jb Z (jI Z ar$ ar _ _ _ (G.trans c.t) X)$ jI Z ar$ ar _ _ _ (G.trans c.t) xy) UN) λr u H8 o8 b8 l8 W8 k8=>fm _ _ #[r,u,Z,o8,b8,l8,W8,c.t.trans k8.t]
 ·clear f5;exact fm _ _ #[_,_,Z,o4.fw c,I.mono c.t,(show 3<=5 by decide),W6,c.t]
 clear o4 c4 c3 o3 o2 I;obtain⟨T,u,rfl,o5,b5,l5,W5,k5⟩:=hq;refine f5 _ _ ?_;clear f5;have m0:=G.trans k5;refine ah λF6 f6=>qX W5 Z o5 UO (qA (Cf:=[(g,1)]) (j6 Z UN UO) (zi (n:=1) (zp kI) (jI Z ar$ ar _ _ _ m0 xi) (j7 (JA UN (by decide:(1:Int) < 2)) UN) UN UN) UN) λu6 H6 z6 o6 W6 c=>f6 _ _ ?_;clear f6;have b0:fj [(g,1)] H6 Y 0 (u++[u6]):=qk (b5.mono c) (kK z6);have bl:(u++[u6]).length<=6:=by rw[LS];exact Nq l5
 have m2:=m0.trans c;refine ah λF7 f7=>jS W6 (tU (Cf:=[(g,1)]) (qy (j6 Z UN UO) (j7 (JA UN (by decide:(9:Int) < 10)) UN) UN)$ qy (j6 Z UN UO) (j7 (JA UN (by decide:(8:Int) < 9)) UN) UN) λv7 H7 x7 W7 k7=>f7 _ _ ?_;clear f7;have L:=m2.trans k7.t;refine ah λF8 f8=>jS W7 (Qt (zX (k:=5) Z Z h5) (Zp$ j6 Z UN UO) (zU (Ev.up (yq Z Z x7) λ_ _=>PB.lift) (Xy (tV (zi (n:=1) (zp Kc) (jI Z ar$ ar _ _ _ L xi) (jI Z ar$ ar _ _ _ L xn) UN UN) (tT (n:=6) Z (o6.fw k7) (b0.mono k7.t) bl) UN UN)$ Ev.up (Ko (jI Z ar$ ar _ _ _ L X) UN) λ_ _=>bM.lift) UN) UN UO) λv8 H8 x8 W8 k8=>f8 _ _ ?_;clear f8;refine ah λF9 f9=>jS W8 (qO$ qy (Cf:=[]) (j6 Z UN UO) (zi (n:=1) (zp kI) (qx$ j6 Z UN UO) (j7 (kn Z UN UN) UN) UN UN) UN) λv9 H9 x9 W9 k9=>f9 _ _ ?_;clear f9;refine ah λF0 o=>dZ (λJ l=>∃(b:V),J=[some$ V.ref p,some$ V.ref N,some vn,some vi,some vs,some vx,some vy,some$ V.ref lc,some$ V.ref T,some v7,some v8,some b]/\PB [] Y 0 2 l b/\Wd H l p N Y/\ap H9 l) (λE1 _ fm=>qB W9 Z UN UN (λH0 W j=>?_) (λH0 W j=>?_)) λσ0 a3 hq=>?_
 ·clear o;exact jS W (zU (jI Z du$ du _ _ _ j.t x9) (qO$ JP (j7 (kn Z UN UN) UN) (zi (n:=1) (zp kI) (qx$ j6 Z UN UO) (j7 (JA UN (by decide:(1:Int) < 2)) UN) UN UN) UN UN) UN) λv0 a4 x0 a0 k0=>fm _ _ #[_,Z,x0,a0,j.t.trans k0.t]
 ·clear o;exact fm _ _ #[_,Z,PB.more (du _ _ _ j.t x9) UN,W,j.t]
 obtain⟨b1,rfl,x1,a1,k1⟩:=hq;refine o _ _ ?_;clear o;refine KA a1 (FF (n1:=1) (n2:=1) #[UN,UN] (Ev.up (jI Z gD$ gD _ _ _ (k9.t.trans k1) x8) (λ_ _ #[a,e,h]=>#[a,e,h.more UP])) (Ev.up (Qt (Cf:=[]) (zX (k:=6) Z Z S) (Zp$ j6 Z UN UO) (zU (Ev.up (jI Z du x1) λ_ _=>PB.lift) (qO$ Ev.up (Ko (zi (n:=1) (zp kI) (qx$ j6 Z UN UO) (qx$ j6 Z UN UO) UN UN) UN) λ_ _=>bM.lift) UN) UN UO) (λ_ _ #[a,e,h]=>#[a,e,h.more UP]))) λv l x W'=>?_;obtain⟨r,ds,X,rfl,g0,g1,g2,g3,g4⟩:=x;exact q r ds X l g0 g1 g2 [1,1] #[by rw[g3.2];exact g3.1,by rw[g3.2];exact#[h0,h1]] g4 #[_,Z] W'.B W'.K
noncomputable abbrev lY:Stmt:=bQ 12
noncomputable abbrev mf:Stmt:=bQ 13
abbrev bg:=List (bH×V)
def gW(x:Int):Prop:=0<=x/\x < 1000000000000000000
def GT(k:bg):Prop:=∀p∈k,∃i,p.2= .int i/\gW i
theorem GT.nil:GT []:=λ_ h=>absurd h Mx
theorem GT.put(h:GT a)(k:bH)(H:gW i):GT (bb a k$ .int i):=by
 intro p hp;unfold bb at hp;split at hp
 ·obtain⟨q,b,rfl⟩:=List.mem_map.mp hp;by_cases e:q.1=k
  ·rw[Mb e];exact#[i,Z,H]
  ·rw[Mf e];exact h q b
 ·rcases List.mem_append.mp hp with hp |hp
  ·exact h p hp
  ·rw[List.mem_singleton.mp hp];exact#[i,Z,H]
theorem GT.val(h:GT a)(e:b6 a k=some v):∃i,v= .int i/\gW i:=by unfold b6 at e;obtain⟨p,H,rfl⟩:=Option.map_eq_some_iff.mp e;exact h p$ List.mem_of_find?_eq_some H
noncomputable def look(a:bg)(k:bH)(z:Int):Int:=match b6 a k with
 |some (.int i)=>i
 |_=>z
theorem KI(h:GT a)(k:bH)(z:Int):(b6 a k).getD (.int z)= .int (look a k z):=by
 unfold look;cases e:b6 a k with
 |none=>rfl
 |some v=>obtain⟨i,rfl,_⟩:=h.val e;rfl
theorem rg(h:GT a)(e:b6 a k=some v)(z:Int):v= .int (look a k z):=by unfold look;obtain⟨i,rfl,_⟩:=h.val e;rw[e]
theorem rf(e:b6 a k=none)(z:Int):look a k z=z:=by unfold look;rw[e]
theorem Kd(h:GT a)(H:gW z):gW (look a k z):=by
 unfold look;cases e:b6 a k with
 |none=>exact H
 |some v=>obtain⟨i,rfl,b⟩:=h.val e;exact b
theorem Ke:gW 0:=#[UN,UN]
noncomputable def jn(i:Nat)(x y:Int):Int:=match i with
 |0=>(x+y) % 1000000000000000000
 |1=>(x - y) % 1000000000000000000
 |2=>x*y % 1000000000000000000
 |3=>if y=0 then 0 else x / y
 |4=>if x < y then 1 else 0
 |_=>if x=y then 1 else 0
noncomputable def Tm.ev(k:bg):Tm->Int
 | .num n=>n
 | .var x=>look k (.inr x) 0
 | .op i a b=>jn i (a.ev k) (b.ev k)
theorem FP(H:gW x)(c:gW y):gW (jn i x y):=by
 have a:(1000000000000000000:Int)≠0:=by decide
 have b:(0:Int) < 1000000000000000000:=by decide
 match i with
 |0=>exact#[M0 _ a,MO _ b]
 |1=>exact#[M0 _ a,MO _ b]
 |2=>exact#[M0 _ a,MO _ b]
 |3=>
  show gW (if y=0 then 0 else x / y);by_cases h:y=0
  ·rw[Mb h];exact#[UN,UN]
  ·rw[Mf h];have e:=c.1;have d:0 < y:=by omega
   refine#[Tx H.1 UO,Int.lt_of_le_of_lt ?_ H.2];exact Int.ediv_le_self _ H.1
 |4=>show gW (if x < y then 1 else 0);split<;>exact#[UN,UN]
 |n+5=>show gW (if x=y then 1 else 0);split<;>exact#[UN,UN]
theorem JQ(g:GT k):∀{t:Tm},t.Good y->gW (t.ev k)
 | .num _,h=>h
 | .var x,_=>Kd g Ke
 | .op _ _ _,h=>FP (JQ g h.2.1) (JQ g h.2.2)
inductive iU(b:List V)(H:Hp)(Q:VK)(a:XK):Prop
 |mk(i:Nat)(x y:Int)(_:b=[.str (IG i),.int x,.int y])(_:i < 6)(_:gW x)(_:gW y)(_:Q (.int (jn i x y)) H)
def Le(K:Frag)(H:Hp)(T:Tm)(a:Addr):Prop:=cq H T a∨(T= .num 0/\aB K H a [.str "num",.int 0])
inductive cY(K:Frag)(n:Nat)(e:List V)(H:Hp)(Q:VK)(b:XK):Prop
 |mk(a d:Addr)(T:Tm)(f:List Str)(c:bg)(_:e=[.ref a,.ref d])(_:Le K H T a)(_:T.depth < n)(_:T.Good f)(_:H d=some (.dK c))(_:GT c)(_:Q (.int (T.ev c)) H)
theorem wA:ai z21z z21z (ae lY):=bP
theorem rG(F:aQ K "joined" "joined" lY f b)(m:mg "TOP"=some (.int 1000000000000000000 t)):af P w K mg base aE 1 f b z21z iU:=by
 refine F.ok wA (λd H Q E h=>?_) (λe A o s H d Q E r h=>?_)
 ·obtain⟨i,x,y,rfl,_⟩:=h;rfl
 obtain⟨i,x,y,rfl,u,g,j,q⟩:=h;refine#[_,(jd (jz (ki$ pv 0) (jg$ jp$ jw zk (jw ke (pv 1)$ pv 2)$ Jc (v:=.int 1000000000000000000) Z m #[_,Z]) ju)$ jd (jz (ki$ pv 0) (jg$ jp$ jw zk (jw qV (pv 1)$ pv 2)$ Jc (v:=.int 1000000000000000000) Z m #[_,Z]) ju)$ jd (jz (ki$ pv 0) (jg$ jp$ jw zk (jw zF (pv 1)$ pv 2)$ Jc (v:=.int 1000000000000000000) Z m #[_,Z]) ju)$ jd (jz (ki$ pv 0) (jg$ jp$ kW (zW$ pv 2) jf$ jw KE (pv 1)$ pv 2) ju)$ jd (jz (ki$ pv 0) (jg$ jp$ kW (jE BE (pv 1) (pv 2)$ aL _) jf jf) ju)$ jg$ jp$ kW (jE Ja (pv 1) (pv 2)$ aL _) jf jf),?_];obtain⟨k,l⟩:=g;obtain⟨n,p⟩:=j;rcases(by omega:i=0∨i=1∨i=2∨i=3∨i=4∨i=5) with rfl |rfl |rfl |rfl |rfl |rfl
 ·refine#[_,Z,Z,_,Z,cX UQ ?_];exact#[_,Z,_,Z,_,_,Z,Z,_,_,Z,Z,(by show(0:Int) < 1000000000000000000;decide),q]
 ·refine#[_,Z,Z,_,Z,aX UQ ?_];refine#[_,Z,Z,_,Z,cX UQ ?_];exact#[_,Z,_,Z,_,_,Z,Z,_,_,Z,Z,(by show(0:Int) < 1000000000000000000;decide),q]
 ·refine#[_,Z,Z,_,Z,aX UQ ?_];refine#[_,Z,Z,_,Z,aX UQ ?_];refine#[_,Z,Z,_,Z,cX UQ ?_];exact#[_,Z,_,Z,_,_,Z,Z,.inl #[UO,UO],_,_,Z,Z,(by show(0:Int) < 1000000000000000000;decide),q]
 ·refine#[_,Z,Z,_,Z,aX UQ ?_];refine#[_,Z,Z,_,Z,aX UQ ?_];refine#[_,Z,Z,_,Z,aX UQ ?_];refine#[_,Z,Z,_,Z,cX UQ ?_];have a:Q (.int (if y=0 then 0 else x / y)) H:=q;refine#[_,Z,Z,_,Z,?_];refine fe (λc=>?_) (λc=>?_)
  ·have C:V.int y=V.int 0:=Nn c;injection C with C;rw[Mb C]at a;exact a
  ·have C:y≠0:=λz=>c (by rw[z];rfl);rw[Mf C]at a;exact#[_,Z,_,Z,_,_,Z,Z,#[UO,UO],a]
 ·refine#[_,Z,Z,_,Z,aX UQ ?_];refine#[_,Z,Z,_,Z,aX UQ ?_];refine#[_,Z,Z,_,Z,aX UQ ?_];refine#[_,Z,Z,_,Z,aX UQ ?_];refine#[_,Z,Z,_,Z,cX UQ ?_];have a:Q (.int (if x < y then 1 else 0)) H:=q;refine#[_,Z,_,Z,_,_,Z,Z,_,Z,?_];refine fe (λc=>?_) (λc=>?_)
  ·rw[Mb$ Nn c]at a;exact a
  ·rw[Mf$ of_decide_eq_false$ Bool.eq_false_iff.mpr c]at a;exact a
 ·refine#[_,Z,Z,_,Z,aX UQ ?_];refine#[_,Z,Z,_,Z,aX UQ ?_];refine#[_,Z,Z,_,Z,aX UQ ?_];refine#[_,Z,Z,_,Z,aX UQ ?_];refine#[_,Z,Z,_,Z,aX UQ ?_];have a:Q (.int (if x=y then 1 else 0)) H:=q;refine#[_,Z,_,Z,Z,_,Z,?_];refine fe (λc=>?_) (λc=>?_)
  ·have C:V.int x=V.int y:=Nn c;injection C with C;rw[Mb C]at a;exact a
  ·have C:x≠y:=λz=>c (by rw[z];exact Mc Z);rw[Mf C]at a;exact a
theorem AK:ai z8z z8z (ae mf):=bP
theorem vh(F:aQ K "worth" "worth" mf f p)(C:Cl P w K mg base (n+1) f p z8z (cY K n) "worth")(v:Cl P w K mg base 1 R B z21z iU "joined"):af P w K mg base aE (n+2) f p z8z (cY K$ n+1):=by
 refine F.ok AK (λV H Q E h=>?_) (λD A o s H V Q E j h=>?_)
 ·obtain⟨a,d,T,y,c,rfl,_⟩:=h;rfl
 obtain⟨a,d,T,y,c,rfl,t,I,g,l,G,q⟩:=h;refine#[_,(jd (jz (ki$ jy$ pv 0) (jg$ jp$ jy$ pv 0) ju)$ jd (jz (ki$ jy$ pv 0) (jg$ jp$ @KF _ _ _ _ _ _ _ _ _ (zM j) (pv 1) (jy$ pv 0) jf #[UR,UR,UR,UR]) ju)$ jg$ jp$ v.e j.m$ ja (jy$ pv 0)$ ja (C.e j$ ja (jy$ pv 0)$ ja (pv 1) jb)$ ja (C.e j$ ja (jy$ pv 0)$ ja (pv 1) jb) jb),?_];cases T with
 |num m=>
  have b:aB K H a [.str "num",.int m]:=t.elim (λh=>aB.of h) λz=>by cases z.1;exact z.2
  refine#[_,Z,a,_,_,_,Z,Z,b,Z,Z,_,Z,cX UQ ?_];exact#[_,Z,a,_,_,_,Z,Z,b,Z,q]
 |var x=>
  have b:H a=some (.tup [.str "var",.str x]):=t.resolve_right λz=>by cases z.1
  refine(jv b Z #[Z,_,Z,aX UQ ?_]);refine(jv b Z #[Z,_,Z,cX UQ ?_]);refine#[_,Z,d,Z,.inl #[c,.inl l],jv b Z #[_,gu.k (k:=Sum.inr x) l,?_]];rw[KI G];exact q
 |op i r u=>
  obtain⟨J,L,b,M,N⟩:=t.resolve_right λz=>by cases z.1
  have O:max r.depth u.depth+1 < n+1:=I;refine(jv b Z #[Z,_,Z,aX UQ ?_]);refine(jv b Z #[Z,_,Z,aX UQ ?_]);refine(jv b Z ?_);refine(jv b Z #[_,Z,J,d,r,y,c,Z,.inl M,UO,g.2.1,l,G,?_]);refine(jv b Z #[_,Z,L,d,u,y,c,Z,.inl N,UO,g.2.2,l,G,?_]);exact#[i,_,_,Z,g.1,JQ G g.2.1,JQ G g.2.2,q]
theorem uR:af P w K mg base aE 1 f e z8z (cY K 0):=by
 have n:∀v H Q E,¬cY K 0 v H Q E:=λv H Q E h=>by obtain⟨a,d,T,y,k,_,_,c,_⟩:=h;exact absurd c$ Pw _
 exact#[λv H Q E h=>absurd h (n v H Q E),λA o s H b u v Q E _ _ _ _ h=>absurd h (n v H Q E)]
theorem xK(F:aQ K "worth" "worth" mf f a)(b:aD K a z8z [])(m:mg "worth"=some (.ref f))(c:Cl P w K mg base 1 e d z21z iU "joined"):
  ∀n:Nat,af P w K mg base aE (n+1) f a z8z (cY K n)
 |0=>uR
 |n+1=>vh F #[(xK F b m c n),b,F.kp,m] c
def TV(H:Hp)(y:List Str)(t:Addr)(T:Tm):Prop:=cq H T t/\eO y T
theorem TV.mono(k:ap H a)(h:TV H y t T):TV a y t T:=#[h.1.mono k,h.2]
inductive Gl where
 |give (t:Addr) (T:Tm) |nought |go (n:Nat)
structure WD where
 sets:List (Str×Addr×Tm)
 goal:Gl
noncomputable def Gl.gol(N:Addr):Gl->Ht
 | .give t _=>.give t
 | .nought=>.give N
 | .go n=>.go (n:Int)
noncomputable def WD.wy(n:Addr)(w:WD):Wy:=#[w.sets.map λs=>(s.1,s.2.1),w.goal.gol n]
def EV(H:Hp)(y:List Str)(m:Nat):Gl->Prop
 | .give t T=>TV H y t T
 | .nought=>True
 | .go n=>n < m
structure xS(H:Hp)(ys:List Str)(m N:Nat)(w:WD):Prop where
 sets:∀s∈w.sets,TV H ys s.2.1 s.2.2
 len:w.sets.length<=N
 goal:EV H ys m w.goal
def mW(H:Hp)(y:List Str)(n:Addr)(m N:Nat)(w:Wy):Prop:=∃d:WD,d.wy n=w/\xS H y m N d
def I8(F:h8)(H:Hp)(y:List Str):Dd->Prop
 | .st p=>∃(l:Lf) (v:List V),H p=some (.tup v)/\Bf H l v/\l.Ok y/\l.isCut=true/\l.Cs F
 | .ask t=>∃T,TV H y t T
noncomputable def Dd.ways:Dd->Nat
 | .st _=>1
 | .ask _=>2
structure xY(F:h8)(H:Hp)(ys:List Str)(nA:Addr)(m N:Nat)(c:Ct):Prop where
 mem:∀x,c.M x->x∈ys
 deed:I8 F H ys c.d
 ways:∀w∈c.ws,mW H ys nA m N w
 len:c.ws.length=c.d.ways
structure xR(H:Hp)(ys:List Str)(nA:Addr)(m N:Nat)(pc:Pc):Prop where
 mem:∀x,pc.M x->x∈ys
 way:mW H ys nA m N pc.w
section
variable {F:h8}{H H':Hp}{ys:List Str}{nA:Addr}{m N N':Nat}
theorem EV.mono(k:ap H H')(h:EV H ys m g):EV H' ys m g:=by
 cases g with
 |give t T=>exact TV.mono k h
 |nought=>trivial
 |go n=>exact h
theorem xS.mono(k:ap H H'){w:WD}(h:xS H ys m N w):xS H' ys m N w:=#[λs a=>(h.sets s a).mono k,h.len,h.goal.mono k]
theorem mW.up(a:N<=N'){w:Wy}(h:mW H ys nA m N w):mW H ys nA m N' w:=let #[d,e,v]:=h;#[d,e,v.sets,Mg v.len a,v.goal]
theorem xY.up(a:N<=N')(h:xY F H ys nA m N c):xY F H ys nA m N' c:=#[h.mem,h.deed,λw b=>(h.ways w b).up a,h.len]
theorem xR.up(a:N<=N')(h:xR H ys nA m N p):xR H ys nA m N' p:=#[h.mem,h.way.up a]
theorem YB{n:Nat}(a:k=(n:Int))(b:n < m):mW H ys nA m N #[[],.go k]:=#[#[[],.go n],by rw[a];rfl,(λ_ h=>absurd h Mx),Ma _,b]
theorem Kq:∀(b:Bd) {X:List V} {g:Pc} {fs:List Ct} {N:Nat},em H b X->b.Ok ys->b.Cs F->xR H ys nA m N g->(∀c∈fs,xY F H ys nA m N c)->fs.length+b.cuts<=m->
  xR H ys nA m (N+b.size) (pB (m:Int) b g fs).1/\∀c∈(pB (m:Int) b g fs).2,xY F H ys nA m (N+b.size) c
 | .nil,_,_,_,_,_,_,_,o,y,_=>#[o,y]
 | .lf p l r,X,g,fs,N,C,i,k,o,y,D=>by
  obtain⟨vs,zs,_,h1,I,h3⟩:=C;have E:fs.length+(l.cut+r.cuts)<=m:=D;obtain⟨R,A⟩:=Kq r h3 i.2 k.2 o y UO;have hl:=kJ (m:Int) r g fs;have S:N+r.size<=N+(r.size+1):=by omega
  have j:=Lf.use_in i.1 R.mem;have J:l.isCut=true->l.cut=1->xR H ys nA m (N+(r.size+1)) #[l.use (pB (m:Int) r g fs).1.M,#[[],.go ((m:Int) - ((pB (m:Int) r g fs).2.length:Int) - 1)]]/\∀c∈(pB (m:Int) r g fs).2++[#[l.use (pB (m:Int) r g fs).1.M,.st p,[(pB (m:Int) r g fs).1.w]]],xY F H ys nA m (N+(r.size+1)) c:=λG h0=>
   #[#[j,YB (n:=m - (fs.length+r.cuts) - 1) (by rw[hl];omega) UO],λc L=>by
    rcases List.mem_append.mp L with z |z
    ·exact(A c z).up S
    ·rw[List.mem_singleton.mp z];exact#[j,#[l,vs,h1,I,i.1,G,k.1],λw hw=>by rw[List.mem_singleton.mp hw];exact R.way.up S,Z]]
  show xR H ys nA m (N+(r.size+1)) (pL (m:Int) p l$ pB (m:Int) r g fs).1/\∀c∈(pL (m:Int) p l$ pB (m:Int) r g fs).2,xY F H ys nA m (N+(r.size+1)) c;cases l with
  |gv t T=>exact#[#[j,#[#[[],.give t T],Z,(λ_ h=>absurd h Mx),Ma _,I.2,i.1]],λc G=>(A c G).up S]
  |st x t T=>
   refine#[#[j,?_],λc G=>(A c G).up S];show mW H ys nA m _ (iO x t (pB (m:Int) r g fs).1);unfold iO;split
   ·obtain⟨d,e,v⟩:=R.way;refine#[#[(x,t,T)::d.sets,d.goal],by rw[<- e];rfl,λs hs=>?_,Nq v.len,v.goal];rcases List.mem_cons.mp hs with rfl |hs
    ·exact#[I.2,i.1.2]
    ·exact v.sets s hs
   ·exact R.way.up S
  |rd x t T |wr t u T U |cl x f q ts=>exact J Z Z
 | .ite p t T a c r,X,g,fs,N,C,i,k,o,y,D=>by
  obtain⟨qa,qb,as,bs,zs,_,g1,O,g2,g3,Q,g5,W⟩:=C;have E:fs.length+(1+a.cuts+c.cuts+r.cuts)<=m:=D;obtain⟨R,A⟩:=Kq r W i.2.2.2 k.2.2 o y UO;have B:=kJ (m:Int) r g fs;obtain⟨c1,c2⟩:=Kq c g5 i.2.2.1 k.2.1 R A UO;have h4:=kJ (m:Int) c (pB (m:Int) r g fs).1 (pB (m:Int) r g fs).2;obtain⟨Y,a2⟩:=Kq a Q i.2.1 k.1 (R.up$ OH _ _) c2 UO;have S:N+r.size+c.size+a.size<=N+(a.size+c.size+r.size+1):=by omega
  have j:∀x,(Bd.ite p t T a c .nil).use (pB (m:Int) r g fs).1.M x->x∈ys:=Bd.use_in #[i.1,i.2.1,i.2.2.1,trivial] R.mem;have hk:(m:Int) - ((pB (m:Int) r g fs).2.length:Int) - ((Bd.ite p t T a c .nil).cuts:Int)=((m - (fs.length+r.cuts) - (1+a.cuts+c.cuts):Nat):Int):=by show(m:Int) - _ - ((1+a.cuts+c.cuts+0:Nat):Int)=_;rw[B];omega
  unfold pB;dsimp only;refine#[#[j,YB hk UO],λe he=>?_];rcases List.mem_append.mp he with z |z
  ·exact(a2 e z).up S
  ·rw[List.mem_singleton.mp z];refine#[j,#[T,O,i.1],λw hw=>?_,Z];rcases List.mem_cons.mp hw with rfl |hw
   ·exact Y.way.up S
   ·rw[List.mem_singleton.mp hw];exact c1.way.up (by show _<=N+(a.size+c.size+r.size+1);omega)
 | .loop p t T a r,X,g,fs,N,C,i,k,o,y,D=>by
  obtain⟨qa,as,zs,_,g1,O,g2,Q,W⟩:=C;have E:fs.length+(1+a.cuts+r.cuts)<=m:=D;obtain⟨R,A⟩:=Kq r W i.2.2 k.2 o y UO;have B:=kJ (m:Int) r g fs;have j:∀x,(Bd.loop p t T a .nil).use (pB (m:Int) r g fs).1.M x->x∈ys:=Bd.use_in #[i.1,i.2.1,trivial] R.mem;have hk:(m:Int) - ((pB (m:Int) r g fs).2.length:Int) - ((Bd.loop p t T a .nil).cuts:Int)=((m - (fs.length+r.cuts) - (1+a.cuts):Nat):Int):=by show(m:Int) - _ - ((1+a.cuts+0:Nat):Int)=_;rw[B];omega
  have pl:xR H ys nA m (N+r.size) #[(Bd.loop p t T a .nil).use (pB (m:Int) r g fs).1.M,#[[],.go ((m:Int) - ((pB (m:Int) r g fs).2.length:Int) - ((Bd.loop p t T a .nil).cuts:Int))]]:=#[j,YB hk UO];obtain⟨Y,a2⟩:=Kq a Q i.2.1 k.1 pl A UO;have S:N+r.size+a.size<=N+(a.size+r.size+1):=by omega
  unfold pB;dsimp only;refine#[pl.up (by show _<=N+(a.size+r.size+1);omega),λe he=>?_];rcases List.mem_append.mp he with z |z
  ·exact(a2 e z).up S
  ·rw[List.mem_singleton.mp z];refine#[j,#[T,O,i.1],λw hw=>?_,Z];rcases List.mem_cons.mp hw with rfl |hw
   ·exact Y.way.up S
   ·rw[List.mem_singleton.mp hw];exact R.way.up (by show _<=N+(a.size+r.size+1);omega)
end
noncomputable def bX(n:Addr)(d:Df):List Ct:=(h9 n d).2.reverse
theorem ZI(n:Addr)(d:Df):(bX n d).length=d.b.cuts:=by unfold bX;rw[Sn];exact(kJ _ _ _ _).trans (Oa _)
theorem BL{nA:Addr}{d:Df}(f:em H d.b B)(g:d.b.Ok y):xR H y nA d.b.cuts d.b.size (h9 nA d).1/\∀c∈bX nA d,xY d.b.calls H y nA d.b.cuts d.b.size c:=by have p:xR H y nA d.b.cuts 0 (IA nA):=#[λx i=>absurd i Mx,#[[],.nought],Z,(λ_ h=>absurd h Mx),LV _,trivial];obtain⟨a,e⟩:=Kq (m:=d.b.cuts) d.b f g (zJ d.b) p (fs:=[]) (λ_ h=>absurd h Mx) (by show 0+_<=_;omega);rw[Oa]at a e;exact#[a,λc j=>e c (List.mem_reverse.mp j)]
theorem QS{M:Str->Prop}{y:List Str}(h:∀x,M x->x∈y):(canon M).length<=y.length:=by
 by_cases e:∃s,Nm s M
 ·obtain⟨s,H⟩:=e;rw[<- H.canon];exact H.len h
 ·unfold canon;rw[dif_neg e];exact Ma _
noncomputable def dw:List (Str×Addr×Tm)->bg->bg
 | [],k=>k
 |s::r,k=>dw r (bb k (.inr s.1) (.int (s.2.2.ev k)))
noncomputable def eI(N:Addr)(d:Df)(n:Nat):List Str:=match (bX N d)[n]? with
 |some c=>canon c.M
 |none=>[]
noncomputable def uG(N:Nat->List Str)(k:bg):Gl->Tr
 | .give _ T=>aA [aK "give",au (T.ev k)]
 | .nought=>aA [aK "give",au 0]
 | .go n=>aA [aK "go",au (n:Int),aA ((N n).map λx=>au (look k (.inr x) 0))]
theorem Jh{H:Hp}{ys:List Str}:∀{ss:List (Str×Addr×Tm)} {k:bg},(∀s∈ss,TV H ys s.2.1 s.2.2)->GT k->GT (dw ss k)
 | [],_,_,g=>g
 |s::r,k,h,g=>Jh (H:=H) (ys:=ys) (ss:=r) (λS a=>h S (Mt _ a)) (g.put _ (JQ g (h s Mm).2.1))
theorem rW{S:List (Str×Addr×Tm)}:∀{i:Nat} {s:Str×Addr×Tm} {k:bg},S[i]?=some s->dw (S.take$ i+1) k=bb (dw (S.take i) k) (.inr s.1) (.int$ s.2.2.ev$ dw (S.take i) k):=by
 induction S with
 |nil=>intro i s k h;simp at h
 |cons a r I=>
  intro i s k h;cases i with
  |zero=>cases h;rfl
  |succ i=>exact I (by simpa using h)
theorem qd{kvs:bg}{k:bH}{v:V}:(bb kvs k v).length<=kvs.length+1:=by
 unfold bb;split
 ·rw[LU];exact MU _
 ·rw[LS];exact LV _
theorem X2:∀{ss:List (Str×Addr×Tm)} {k:bg},(dw ss k).length<=k.length+ss.length
 | [],_=>LV _
 |s::r,k=>by have h:=X2 (ss:=r) (k:=bb k (.inr s.1) (.int$ s.2.2.ev k));have H:=qd (kvs:=k) (k:=.inr s.1) (v:=.int (s.2.2.ev k));show(dw r _).length<=k.length+(r.length+1);omega
noncomputable def bp(n:List Str)(i:List Int):bg:=dq [] ((n.map Sum.inr).zip$ i.map V.int)
theorem X3:∀{m:bg} {k:bg},GT k->GT m->GT (dq k m)
 | [],_,g,_=>g
 |p::r,k,g,h=>by
  obtain⟨i,e,H⟩:=h p Mm;have E:bb k p.1 p.2=bb k p.1 (.int i):=by rw[e]
  show GT (dq (bb k p.1 p.2) r);rw[E];exact X3 (g.put _ H) λq a=>h q (Mt _ a)
theorem KB(h:∀i∈I,gW i):GT (bp n I):=by refine X3 GT.nil λp H=>?_;obtain⟨i,a,e⟩:=List.mem_map.mp (Pr H).2;exact#[i,e.symm,h i a]
theorem ZJ{ns:List Str}{is:List Int}:(bp ns is).length<=ns.length:=by have h:=qR ((ns.map Sum.inr).zip$ is.map V.int) [];rw[Rp,LU]at h;show(dq [] _).length<=_;have H:(dq [] ((ns.map Sum.inr).zip$ is.map V.int)).length<=0+min ns.length (is.map V.int).length:=h;omega
noncomputable abbrev oi:Stmt:=bQ 23
noncomputable abbrev lX:Stmt:=bQ 24
noncomputable abbrev gE:Stmt:=bQ 28
noncomputable abbrev lW:Stmt:=bQ 29
noncomputable abbrev iI:Stmt:=bQ 30
noncomputable abbrev ma:Stmt:=bQ 31
structure mQ(H:Hp)(nA:Addr)(d:Df)(ys:List Str)(v:V):Prop where
 tr:aS H (fQ nA d) v []
 bd:∃bs,em H d.b bs
 ok:d.b.Ok ys
 y20:ys.length<=20
 sz:d.b.size<=3000
structure EU(H:Hp)(nA:Addr)(d:Df)(ys:List Str)(c:Ct)(ka na wa:Addr)(dv:V)(wvs:List V):Prop where
 at':H ka=some (.tup [.ref na,dv,.ref wa])
 nms:H na=some (.tup ((canon c.M).map V.str))
 deed:aS H (HL c.d) dv []
 wat:H wa=some (.tup wvs)
 ways:aS H (ay$ c.ws.map ik) .non wvs
 v:xY d.b.calls H ys nA d.b.cuts d.b.size c
theorem ZK:∀{S:List Str} {v:List V},aS H (ay$ S.map aK) .non v->v=S.map V.str
 | [],v,h=>h
 |s::S,v,h=>by obtain⟨_,_,y,Y,rfl,⟨rfl,_⟩,a⟩:=h;rw[ZK a];rfl
section
variable {H H':Hp}{nA:Addr}{d:Df}{ys:List Str}{v:V}
theorem mQ.mono(k:ap H H')(h:mQ H nA d ys v):mQ H' nA d ys v:=#[h.tr.mono k,let #[b,a]:=h.bd;#[b,a.mono k],h.ok,h.y20,h.sz]
theorem mQ.parts(h:mQ H nA d ys v):∃(a c:Addr) (W:V) (C:List V),v= .ref a/\H a=some (.tup [.str d.f,.ref d.pa,W,.ref c])/\aS H (ik (h9 nA d).1.w) W []/\H c=some (.tup C)/\aS H (ay ((bX nA d).map Fn)) .non C:=by obtain⟨_,a,x,rfl,i,_,_,n,Y,rfl,⟨rfl,_⟩,_,_,o,j,rfl,⟨rfl,_⟩,_,_,W,k,rfl,l,_,_,p,y,rfl,m,e⟩:=h.tr;have e:y=[]:=e;subst e;obtain⟨_,c,C,rfl,b,g⟩:=m;exact#[a,c,W,C,Z,i,l,b,g]
theorem mQ.cut{C:List V}(h:mQ H nA d ys v)(a:aS H (ay ((bX nA d).map Fn)) .non C){n:Nat}{c:Ct}(g:(bX nA d)[n]?=some c):∃k N i D W,C[n]?=some (.ref k)/\EU H nA d ys c k N i D W:=by
 have L:=zo a;rw[LU]at L;have u:n < C.length:=by rw[L];exact(List.getElem?_eq_some_iff.mp g).1
 have j:C[n]?=some C[n]:=LP u;obtain⟨T,b,t⟩:=qW a n _ j;rw[Mp,g]at b;cases b;obtain⟨B,y⟩:=h.bd;have z:=(BL (nA:=nA) y h.ok).2 c (Mr g);generalize C[n]=x at j t;obtain⟨_,k,E,rfl,l,_,_,F,G,rfl,m,_,_,D,I,rfl,o,_,_,J,A,rfl,p,e⟩:=t;have e:A=[]:=e;subst e;obtain⟨_,N,M,rfl,f,q⟩:=m;obtain⟨_,i,W,rfl,r,s⟩:=p;rw[ZK q]at f;exact#[k,N,i,D,W,j,l,f,o,r,s,z]
theorem mQ.way(h:mQ H nA d ys v):mW H ys nA d.b.cuts d.b.size (h9 nA d).1.w:=let #[B,a]:=h.bd;(BL (nA:=nA) a h.ok).1.way
theorem uQ(h:(bX nA d)[n]?=some c):eI nA d n=canon c.M:=by unfold eI;rw[h]
end
structure Ii(H:Hp)(nA:Addr)(w:WD)(wa sa ga:Addr)(ss:List V)(wd:Str)(u:V):Prop where
 at':H wa=some (.tup [.ref sa,.ref ga])
 sat:H sa=some (.tup ss)
 sets:∀(i:Nat) (x:V),ss[i]?=some x->∃(s:Str×Addr×Tm) (p:Addr),w.sets[i]?=some s/\x= .ref p/\H p=some (.tup [.str s.1,.ref s.2.1])
 len:ss.length=w.sets.length
 gat:H ga=some (.tup [.str wd,u])
 goal:match w.goal with
  | .give t _=>wd="give"/\u= .ref t
  | .nought=>wd="give"/\u= .ref nA
  | .go n=>wd="go"/\u= .int (n:Int)
theorem A3{w:WD}(h:aS H (ik$ w.wy N) v []):∃(l S G:Addr) (A:List V) (W:Str) (u:V),v= .ref l/\Ii H N w l S G A W u:=by
 obtain⟨_,r,X,rfl,C,_,_,y0,D,rfl,⟨_,s,c,rfl,E,m⟩,_,_,Y,y,rfl,b,e⟩:=h;have e:y=[]:=e;subst e;have L:=zo m;have st:∀(i:Nat) (x:V),c[i]?=some x->∃(s:Str×Addr×Tm) (p:Addr),w.sets[i]?=some s/\x= .ref p/\H p=some (.tup [.str s.1,.ref s.2.1]):=λi x F=>by obtain⟨tr,o,I⟩:=qW m i x F;rw[Mp]at o;obtain⟨q,J,rfl⟩:=Option.map_eq_some_iff.mp o;have a:(w.sets.map λs=>(s.1,s.2.1))[i]?=some q:=J;rw[Mp]at a;obtain⟨z,M,rfl⟩:=Option.map_eq_some_iff.mp a;obtain⟨_,p,X,rfl,O,_,_,Q,R,rfl,⟨rfl,_⟩,_,_,U,B,rfl,⟨rfl,_⟩,e⟩:=I;have e:B=[]:=e;subst e;exact#[z,p,M,Z,O]
 have ln:c.length=w.sets.length:=by rw[L,LU];exact LU ..
 have f:∀g:Gl,w.goal=g->aS H (yw$ g.gol N) Y []->∃(G:Addr) (W:Str) (u:V),Y= .ref G/\H G=some (.tup [.str W,u])/\match g with
  | .give t _=>W="give"/\u= .ref t
  | .nought=>W="give"/\u= .ref N
  | .go n=>W="go"/\u= .int (n:Int):=λg _ b=>by
  cases g with
  |give t T |nought |go n=>obtain⟨_,gl,X,rfl,d,_,_,Q,R,rfl,⟨rfl,_⟩,_,_,U,B,rfl,⟨rfl,_⟩,e⟩:=b;have e:B=[]:=e;subst e;exact#[gl,_,_,Z,d,Z,Z]
 obtain⟨G,W,u,rfl,j,k⟩:=f w.goal Z b;exact#[r,s,G,c,W,u,Z,C,E,st,ln,j,k]
inductive iP(b:Addr)(e:List V)(H:Hp)(Q:VK)(a:XK):Prop
 |mk(v:V)(n:Nat)(d:Df)(f:List Str)(c:Ct)(_:e=[v,.int (n:Int)])(_:mQ H b d f v)(_:(bX b d)[n]?=some c)(_:∀(ka na wa:Addr) (dv:V) (wvs:List V),EU H b d f c ka na wa dv wvs->Q (.ref ka) H)
inductive iT(f:Addr)(g:List V)(H:Hp)(Q:VK)(a:XK):Prop
 |mk(v:V)(n:Nat)(b:Addr)(d:Df)(h:List Str)(c:Ct)(e:List Int)(_:g=[v,.int (n:Int),.ref b])(_:mQ H f d h v)(_:(bX f d)[n]?=some c)(_:H b=some (.tup (e.map V.int)))(_:e.length=(canon c.M).length)(_:∀dd:Addr,H dd=none->Q (.ref dd) (am H dd (.dK (bp (canon c.M) e))))
theorem ZL:∀(s:List Str),(s.map (Sum.inr:Str->bH)).map kV=s.map V.str:=λs=>by rw[N8];rfl
theorem AI:ai ["part","n"] ["part","n"] (ae oi):=bP
theorem uU{f:Addr}{g:FuncData}{N:Addr}(F:aQ K "cut_at" "cut_at" oi f g):af P w K mg base aE 1 f g ["part","n"] (iP N):=by
 refine F.ok AI ?_ λl A o s H V Q E B h=>?_
 ·rintro _ _ _ _ ⟨v,n,d,y,c,rfl,_⟩;rfl
 obtain⟨v,n,d,y,c,rfl,i,m,q⟩:=h;refine#[_,(jg$ jp$ jo jH (jy$ pv 0) (pv 1) (λ_ _=>Z)),?_];obtain⟨a,p,I,J,rfl,r,L,b,e⟩:=i.parts;obtain⟨t,u,x,D,W,z,C⟩:=i.cut e m;exact#[_,Z,a,_,_,_,Z,Z,aB.of r,jL (j:=3) Z,_,Z,p,_,_,_,Z,Z,aB.of b,jL z,q t u x D W C]
theorem wz:ai z10z z10z (ae lX):=bP
theorem rF(F:aQ K "held_at" "held_at" lX f g)(i:Cl P w K mg base 1 J j ["part","n"] (iP N) "cut_at")(m:mg "dict"=none)(a:mg "zip"=none):af P w K mg base aE 2 f g z10z (iT N):=by
 refine F.ok wz ?_ λp A o s H V Q E r h=>?_
 ·rintro _ _ _ _ ⟨v,n,b,d,y,c,I,rfl,_⟩;rfl
 obtain⟨v,n,b,d,y,c,I,rfl,t,u,x,z,q⟩:=h;refine#[_,(jg$ jp$ @ZA _ _ _ _ _ _ _ _ Z m Z a Z (ja (jo jH (i.e r$ ja (pv 0)$ ja (pv 1) jb) jf (λ_ _=>Z))$ ja (pv 2) jb) UR UR UR UR),?_];refine#[_,Z,_,Z,v,n,d,y,c,Z,t,u,λB D O R W C=>#[B,_,_,_,Z,Z,aB.of C.at',dU,_,Z,D,b,(canon c.M).map Sum.inr,_,Z,by rw[ZL];exact aB.of C.nms,aB.of x,by rw[LU,LU,z],λl G=>q l G]]
inductive Wh where
 |rd (a i:Int) |wr (a b:Int) |ask (b:Int) |cl (f:Str) (is:List Int) (i:Int)
def Ce(H:Hp)(u:V):Wh->Prop
 | .rd a i=>∃p,u= .ref p/\H p=some (.tup [.str "read",.int a,.int i])
 | .wr a b=>∃p,u= .ref p/\H p=some (.tup [.str "write",.int a,.int b])
 | .ask b=>∃p,u= .ref p/\H p=some (.tup [.str "ask",.int b])
 | .cl f I i=>∃p c g e,u= .ref p/\H p=some (.tup [.str "call",.ref c])/\H c=some (.tup [.str f,.ref g,e,.int i])/\H g=some (.tup (I.map V.int))
theorem Ce.mono{H d:Hp}(k:ap H d){u:V}{w:Wh}(h:Ce H u w):Ce d u w:=by
 cases w with
 |rd a i |wr a b |ask b=>obtain⟨p,e,h⟩:=h;exact#[p,e,k _ _ h]
 |cl f I i=>obtain⟨p,c,g,e,E,j,l,m⟩:=h;exact#[p,c,g,e,E,k _ _ j,k _ _ l,k _ _ m]
inductive DD where
 |st (p:Addr) (l:Lf) |ask (t:Addr) (T:Tm)
noncomputable def DD.dd:DD->Dd
 | .st p _=>.st p
 | .ask t _=>.ask t
def A9(H:Hp)(y:List Str):DD->Prop
 | .st p l=>∃v,H p=some (.tup v)/\Bf H l v/\l.Ok y/\l.isCut=true
 | .ask t T=>TV H y t T
theorem A9.mono(k:ap H a)(h:A9 H y d):A9 a y d:=by
 cases d with
 |st p l=>obtain⟨v,b,c,e⟩:=h;exact#[v,k _ _ b,c.mono k,e]
 |ask t T=>exact TV.mono k h
def DD.Cs(F:h8):DD->Prop
 | .st _ l=>l.Cs F
 | .ask _ _=>True
theorem Fu{F:h8}(h:I8 F H y d):∃e:DD,e.dd=d/\A9 H y e/\e.Cs F:=by
 cases d with
 |st p=>obtain⟨l,v,a,b,c,f,g⟩:=h;exact#[.st p l,Z,#[v,a,b,c,f],g]
 |ask t=>obtain⟨T,h⟩:=h;exact#[.ask t T,Z,h,trivial]
def Hr:DD->Wh->Prop
 | .st _ (.rd _ _ _),.rd _ i=>gW i
 | .st _ (.wr _ _ _ _),.wr _ _=>True
 | .st _ (.cl _ _ _ _),.cl _ _ i=>gW i
 | .ask _ _,.ask b=>b=0∨b=1
 |_,_=>False
noncomputable def sK(d:DD)(w:Wh)(k:bg):bg:=match d,w with
 | .st _ (.rd x _ _),.rd _ i=>bb k (.inr x) (.int i)
 | .st _ (.cl x _ _ _),.cl _ _ i=>bb k (.inr x) (.int i)
 |_,_=>k
noncomputable def Wh.side:Wh->Nat
 | .ask b=>if b=0 then 1 else 0
 |_=>0
def ue(Q:VK)(H:Hp):Wh->Prop
 | .rd _ i=>Q (.int i) H
 | .cl _ _ i=>Q (.int i) H
 |_=>False
inductive eZ(b:List V)(H:Hp)(Q:VK)(a:XK):Prop
 |mk(u:V)(w:Wh)(_:b=[u])(_:Ce H u w)(_:ue Q H w)
inductive nq(c:Addr)(e:List V)(H:Hp)(Q:VK)(a:XK):Prop
 |mk(v f:V)(b:Addr)(d:Df)(g:List Str)(w:WD)(k:bg)(_:e=[v,f,.ref b])(_:mQ H c d g v)(_:aS H (ik (w.wy c)) f [])(_:xS H g d.b.cuts d.b.size w)(_:H b=some (.dK k))(_:GT k)(_:k.length<=200)(_:∀(u:V) (H':Hp),aS H' (uG (eI c d) (dw w.sets k) w.goal) u []->aP b H H'->Q u H')
inductive EI(c:Addr)(a:_L.St)(j:List (Str×Addr×Tm))(k:bg)(H:Hp)(i:Nat)(l:_L.St)(b:Hp):Prop
 |mk(g h:Option V)(d:l=a++[g,h,none,none])(e:b c=some (.dK (dw (j.take i) k)))(f:aP c H b)
theorem Kf{H:Hp}:∀{is:List Int},aS H (ay$ is.map au) .non (is.map V.int)
 | []=>rfl
 |i::is=>jm Z jX (Kf (is:=is))
theorem lG:ai ["what"] ["what"] (ae gE):=bP
theorem uW(F:aQ K "found_in" "found_in" gE f n):af P w K mg base aE 1 f n ["what"] eZ:=by
 refine F.ok lG ?_ λC A o s H v Q E t h=>?_
 ·rintro _ _ _ _ ⟨u,W,rfl,_⟩;rfl
 obtain⟨u,W,rfl,d,q⟩:=h;refine#[_,(jg$ jp$ kW (ki$ jy$ pv 0) (jy$ jo jH (pv 0) jf (λ_ _=>Z))$ jo jH (pv 0) (vv Yx jf) (λ_ _=>Z)),?_];cases W with
 |rd a i=>obtain⟨p,rfl,l⟩:=d;exact(jv l dU #[Z,_,Z,aX UQ #[_,Z,_,Z,p,_,_,_,Z,Z,aB.of l,Z,q]])
 |cl f I i=>obtain⟨p,c,g,e,rfl,m,r,_⟩:=d;exact(jv m dU #[Z,_,Z,cX UQ$ jv m ij #[c,_,_,_,Z,Z,aB.of r,jL (j:=3) Z,q]])
 |wr a b |ask b=>exact q.elim
theorem gI:ai ["part","way","numbers","name","term","goal","held"] ["part","way","numbers"] (ae lW):=bP
noncomputable def Zj:Scope:=#[.function,[(".0",.local),("name",.local),("numbers",.free)],false,false,[]]
theorem yG:(["name","numbers"]:List Str).Nodup:=by decide+kernel
theorem yi:bh ["part","way","numbers","name","term","goal","held"] (ae lW) Zj ["name","numbers"] 1 [2]:=pO
theorem uV(F:aQ K "end_of" "end_of" lW f fd)(cC:Cl P w K mg base 1 fC f2 ["part","n"] (iP U) "cut_at")(cW:Cl P w K mg base 7 fW f3 z8z (cY K 6) "worth")(m0:mg "tuple"=none)(no:nW K U):af P w K mg base aE 8 f fd ["part","way","numbers"] (nq U):=by
 refine F.ok gI ?_ λc0 A o1 s H vs Q E Y h=>?_
 ·rintro _ _ _ _ ⟨v,w1,D,d,ys,O,k,rfl,_⟩;rfl
 obtain⟨v,w1,D,d,ys,O,k,rfl,hp,hw,wv,hd,gk,hk,q⟩:=h;refine#[_,(jd (kH MF Z (JC$ jy$ pv 1) (qC (n:=2) Z$ jC (jx (i:=3) gI.nd Z$ Or.inl Z)$ jC (jx (i:=4) gI.nd Z$ Or.inl Z) za)$ jg$ Je (zM Y) (pv 2) (pv 3) (cW.e Y.m$ ja (pv 4)$ ja (pv 2) jb) Z)$ jd (jB 5 gI.nd$ jy$ pv 1)$ jd (jz (ki$ jy$ pv 5) (jg$ jp$ jh$ ja jl$ ja (cW.e Y.m$ ja (jy$ pv 5)$ ja (pv 2) jb) jb) ju)$ jd (@qL _ _ _ _ _ _ _ _ _ _ (6) (["name","numbers"]) (1) ([2]) _ _ _ _ gI.nd Z (Or.inl Z) Z (JC$ jo jH (cC.e Y.m$ ja (pv 0)$ ja (jy$ pv 5) jb) jf (λ_ _=>Z)) yi (λ_ _ _ _ _=>(jx (i:=0) yG Z$ Or.inl Z)) (λ_ _ _ _ _=>(@qj _)) (λ_ _ _ _ _=>(@KF _ _ _ _ _ _ _ _ _ (zM Y) (pv 1) (pv 0) jf #[UR,UR,UR,UR])) UR (by first |exact .inl Z |exact .inr Z) (by intro _;rfl))$ jg$ jp$ jh$ ja jl$ ja (jy$ pv 5)$ ja (jN jY Z m0 Oc$ ja (pv 6) jb) jb),?_];have b0:=aH;obtain⟨wa,sa,ga,ss,wd,u,rfl,W⟩:=A3 hw;have R:∀g,aP D H g->ap H g:=λg k b xs e=>k b _ (jW e hd (by intro z;cases z)) e;have h2:=hp.sz;have h3:=wv.len;refine ah λF1 C=>dW λJ j=>(jv W.at' dU #[sa,Z,#[_,aB.of W.sat],j _ _ ?_]);clear j;refine KG (K:=K) (xs:=ss) (EI D [some v,some$ .ref wa,some$ .ref D] O.sets k H) #[_,_,Z,hd,aP.refl] (λi σ g _ h=>?_) ?_ (λσ g h=>C _ _ ?_)
 ·obtain⟨_,_,_,_,I⟩:=h;exact aB.of$ R _ I _ _ W.sat
 ·intro E _ i x σ H1 hx f0 Gq kq h;obtain⟨o3,o4,rfl,L,I⟩:=h;clear C;obtain⟨s,p,hs,rfl,h0⟩:=W.sets i x hx;have S:=R _ I;have tv:=(wv.sets s$ Mr hs).mono S;have g1:GT (dw (O.sets.take i) k):=Jh (H:=H) (ys:=ys) (λs hs=>wv.sets s (Ny hs)) gk;have l1:=X2 (ss:=O.sets.take i) (k:=k);rw[Mw]at l1;refine kq ?_;clear kq;refine#[p,_,Z,aB.of$ S _ _ h0,Z,_,_,Z,_,_,Z,Z,?_];refine#[_,Z,_,Z,s.2.1,D,s.2.2,ys,_,Z,.inl tv.1,tv.2.2,tv.2.1,L,g1,_,Z,_,Z,D,_,Z,.inl #[_,.inr s.1,L,Z,UO,Z],f0 _ _ #[_,_,Z,?_,λc o X e=>by rw[ji X];exact I c o X e]];rw[rW hs];exact jc
 ·obtain⟨o3,o4,rfl,L,I⟩:=h;rw[W.len,MN]at L;have S:=R _ I;have g1:GT (dw O.sets k):=Jh (H:=H) (ys:=ys) wv.sets gk;have B:=wv.goal;have a:=W.goal;generalize dw O.sets k=N at L g1 q;refine ah λF1 C=>(jv (S _ _ W.at') ij$ C _ _ ?_);clear C;have G:=S _ _ W.gat;refine ah λF1 C=>lO λG1 k3 k0=>(jv G dU #[Z,_,Z,?_]);have give:∀(t:Addr) (T:Tm),wd="give"->u= .ref t->Le K g T t->eO ys T->(∀(u':V) (H9:Hp),aS H9 (aA [aK "give",au$ T.ev N]) u' []->aP D H H9->Q u' H9)->G1 (decide$ V.str wd=V.str "give") g:=by intro t T e1 e2 x1 x2 x3;subst e1;subst e2;rw[Mc Z];refine k3 _$ jv G ij #[_,Z,t,D,T,ys,N,Z,x1,x2.2,x2.1,L,g1,ci,λr nr=>?_];exact x3 _ _ (jD jc$ jm Z jU$ jm Z jX jA) λc o X e=>je nr _ _ (I c o X e)
  cases hg:O.goal with
  |give t T=>rw[hg]at B a q;exact give t T a.1 a.2 (.inl$ B.1.mono S) B.2 q
  |nought=>rw[hg]at a q;exact give U (.num 0) a.1 a.2 (.inr #[Z,no _]) #[#[UN,UN],UN] q
  |go n=>
   rw[hg]at B a q;clear give k3;obtain⟨e1,e2⟩:=a;subst e1;subst e2;have hn:n < (bX U d).length:=by rw[ZI];exact B
   obtain⟨c,hc⟩:∃c,(bX U d)[n]?=some c:=#[_,LP hn];have e0:decide (V.str "go"=V.str "give")=false:=by decide+kernel
   rw[e0];refine k0 _$ C _ _ ?_;clear k0 C;refine ah λF1 C=>#[_,Z,jv G ij #[v,n,d,ys,c,Z,hp.mono S,hc,λka na w2 dv w3 ca=>#[ka,_,_,_,Z,Z,aB.of ca.at',dU,na,Z,#[_,aB.of ca.nms],?_]]];have cl:=Mg (QS ca.v.mem) hp.y20;have q:∀(u:V) (g:Hp),aS g (aA [aK "go",au (n:Int),aA ((eI U d n).map λx=>au (look N (.inr x) 0))]) u []->aP D H g->Q u g:=q;rw[uQ hc]at q;refine QO (K:=K) (xs:=(canon c.M).map V.str) (by rw[LU];omega) (λi zs Hx=>zs=((canon c.M).take i).map (λx=>V.int (look N (.inr x) 0))/\Hx=g) #[Z,Z] (λi zs Hx h=>?_) (λi x zs Hx hx h=>?_) (λzs Hx h l nl=>C _ _ ?_)
   ·obtain⟨rfl,rfl⟩:=h;exact#[aB.of ca.nms,by rw[LU,Mw];omega]
   ·obtain⟨rfl,rfl⟩:=h;rw[Mp]at hx;obtain⟨y,hy,rfl⟩:=Option.map_eq_some_iff.mp hx;refine#[_,Z,D,Z,.inl #[N,.inl L],_,Z,_,gu.k (k:=Sum.inr y) L,?_,Z];rw[KI g1,MW,hy,Mz];rfl
   ·obtain⟨rfl,rfl⟩:=h;rw[LU,MN];refine(jv (je nl _ _ G) ij #[_,Z,l,_,Z,.inl #[aI.of jc,λtl n0=>#[i8,λr nr=>?_]]]);refine q _ _ (jD jc$ jm Z jU$ jm Z jX$ jm Z (jD (aq jc nr) ?_) jA) λc' o X e=>je nr _ _ (je n0 _ _$ je nl _ _$ I c' o X e);have:=Kf (H:=am (am (am Hx l$ .lst ((canon c.M).map (λx=>V.int (look N (.inr x) 0)))) tl$ .tup ((canon c.M).map (λx=>V.int (look N (.inr x) 0)))) r (.tup [.str "go",.int (n:Int),.ref tl])) (is:=(canon c.M).map λx=>look N (.inr x) 0);rw[N8,N8]at this;exact this
structure mV(H:Hp)(nA:Addr)(d:Df)(ys:List Str)(v:V)(sa:Addr)(n:Nat)(hv:Addr)(uw:V)(c:Ct)(is:List Int)(wh:Wh)(e:DD)(wd:WD):Prop where
 prt:mQ H nA d ys v
 at':H sa=some (.tup [.int (n:Int),.ref hv,uw])
 cut:(bX nA d)[n]?=some c
 hat:H hv=some (.tup$ is.map V.int)
 hl:is.length=(canon c.M).length
 hin:∀i∈is,gW i
 whv:Ce H uw wh
 ed:e.dd=c.d
 dv:A9 H ys e
 fit:Hr e wh
 way:c.ws[wh.side]?=some (wd.wy nA)
 wdv:xS H ys d.b.cuts d.b.size wd
theorem mV.mono(k:ap H a)(h:mV H N d y v s n b u c i f e g):mV a N d y v s n b u c i f e g:=
 #[h.prt.mono k,k _ _ h.at',h.cut,k _ _ h.hat,h.hl,h.hin,h.whv.mono k,h.ed,h.dv.mono k,h.fit,h.way,h.wdv.mono k]
noncomputable def Iz(n:Addr)(d:Df)(c:Ct)(i:List Int)(a:Wh)(e:DD)(W:WD):Tr:=uG (eI n d) (dw W.sets$ sK e a$ bp (canon c.M) i) W.goal
inductive gL(e:Addr)(g:List V)(H:Hp)(Q:VK)(a:XK):Prop
 |mk(v:V)(b:Addr)(d:Df)(h f:List Str)(c:List Int)(w:WD)(_:g=[v,.ref b])(_:mQ H e d h v)(_:H d.pa=some (.tup (f.map V.str)))(_:f.length<=100)(_:H b=some (.tup (c.map V.int)))(_:c.length=f.length)(_:∀i∈c,gW i)(_:w.wy e=(h9 e d).1.w)(_:xS H h d.b.cuts d.b.size w)(_:∀(u:V) (H':Hp),aS H' (uG (eI e d) (dw w.sets (bp f c)) w.goal) u []->aa H H'->Q u H')
inductive wT(g:Addr)(j:List V)(H:Hp)(Q:VK)(a:XK):Prop
 |mk(v i:V)(h b:Addr)(n:Nat)(d:Df)(m:List Str)(c:Ct)(f:List Int)(l:Wh)(e:DD)(k:WD)(_:j=[v,.ref h])(_:mV H g d m v h n b i c f l e k)(_:∀(u:V) (H':Hp),aS H' (Iz g d c f l e k) u []->aa H H'->Q u H')
theorem sT(h:Hr e a)(g:GT k):GT (sK e a k):=by
 unfold sK;split
 ·exact g.put _ h
 ·exact g.put _ h
 ·exact g
theorem yd{e:DD}{wh:Wh}{k:bg}:(sK e wh k).length<=k.length+1:=by
 unfold sK;split
 ·exact qd
 ·exact qd
 ·exact MU _
theorem rY:ai ["part","args"] ["part","args"] (ae iI):=bP
theorem Zk(F:aQ K "first_of" "first_of" iI f I)(J:Cl P w K mg base 8 fE L ["part","way","numbers"] (nq T) "end_of")(M:mg "dict"=none)(b:mg "zip"=none):af P w K mg base aE 9 f I ["part","args"] (gL T):=by
 refine F.ok rY ?_ λR A O s H vs Q E U h=>?_
 ·rintro _ _ _ _ ⟨v,x,d,y,p,is,z,rfl,_⟩;rfl
 obtain⟨v,x,d,y,p,is,z,rfl,C,g,V,i,n,r,t,W,q⟩:=h;refine#[_,(jg$ jp$ J.e U.m$ ja (pv 0)$ ja (jy$ pv 0)$ ja (@ZA _ _ _ _ _ _ _ _ Z M Z b Z (ja (jy$ pv 0)$ ja (pv 1) jb) UR UR UR UR) jb),?_];obtain⟨a,ca,X,cs,rfl,D,G,Y,h0⟩:=C.parts;rw[<- t]at G;refine#[_,Z,_,Z,a,_,_,_,Z,Z,aB.of D,jL (j:=2) Z,jv D ij #[_,Z,d.pa,x,p.map Sum.inr,_,Z,by rw[ZL];exact aB.of g,aB.of i,by rw[LU,LU,n],λl N=>?_]];have S:aa H (am H l$ .dK$ bp p is):=je N;have zl:=ZJ (ns:=p) (is:=is);exact#[.ref a,X,l,d,y,z,bp p is,Z,C.mono$ aa.tm S,G.mono$ aa.tm S,W.mono$ aa.tm S,jc,KB r,UO,λu H' tu k=>q u H' tu λc o e=>k c o (jk e N) (S _ _ e)]
theorem eW:ai ["part","step","cut","numbers","what","way"] ["part","step"] (ae ma):=bP
theorem rL{f:Addr}{fd:FuncData}{nA fC fD fF fE:Addr}{f0 f3 f4 f5:FuncData}(F:aQ K "onward" "onward" ma f fd)(cC:Cl P w K mg base 1 fC f0 ["part","n"] (iP nA) "cut_at")(cD:Cl P w K mg base 2 fD f3 z10z (iT nA) "held_at")(cF:Cl P w K mg base 1 fF f4 ["what"] eZ "found_in")(cE:Cl P w K mg base 8 fE f5 ["part","way","numbers"] (nq nA) "end_of"):af P w K mg base aE 9 f fd ["part","step"] (wT nA):=by
 refine F.ok eW ?_ λc0 A o2 s H vs Q E hr h=>?_
 ·rintro _ _ _ _ ⟨v,L,Y,hv,n,d,ys,c,is,wh,e,wd,rfl,_⟩;rfl
 obtain⟨v,L,Y,hv,n,d,ys,c,is,wh,e,wd,rfl,C,q⟩:=h;refine#[_,(jd (jB 2 eW.nd$ cC.e hr.m$ ja (pv 0)$ ja (jy$ pv 1) jb)$ jd (jB 3 eW.nd$ cD.e hr.m$ ja (pv 0)$ ja (jy$ pv 1)$ ja (jy$ pv 1) jb)$ jd (jB 4 eW.nd$ jy$ pv 1)$ jd (jz (jE zB (jy$ pv 4) (jh$ ja jl$ ja jl jb) Z) (jg$ Je (zM hr) (pv 3) (jy$ jo jH (pv 2) jf (λ_ _=>Z)) (cF.e hr.m$ ja (pv 4) jb) Z) ju)$ jd (jB 5 eW.nd$ kW (jE (DK$ zM hr) (pv 4) (jh$ ja jl$ ja jf jb)$ aL _) (jy$ jo jH (pv 2) jf (λ_ _=>Z))$ jy$ jo jH (pv 2) jf (λ_ _=>Z))$ jg$ jp$ cE.e hr.m$ ja (pv 0)$ ja (pv 5)$ ja (pv 3) jb),?_];have b0:=aH;obtain⟨a,ca,wv,cs,rfl,ha,hw,a1,a2⟩:=C.prt.parts;have h0:=C.at';refine ah λF1 J=>#[_,Z,jv h0 dU #[_,n,d,ys,c,Z,C.prt,C.cut,λka na wa dv w0 cu=>J _ _ ?_]];clear J;refine ah λF1 J=>#[_,Z,jv h0 dU$ jv h0 ij #[_,n,hv,d,ys,c,is,Z,C.prt,C.cut,C.hat,C.hl,λD n0=>J _ _ ?_]];clear J;have s1:aa H (am H D$ .dK$ bp (canon c.M) is):=je n0;have d1:am H D (.dK$ bp (canon c.M) is) D=some (.dK$ bp (canon c.M) is):=jc;generalize am H D (.dK$ bp (canon c.M) is)=H1 at s1 d1;have O:=C.mono (aa.tm s1);have g0:GT (bp (canon c.M) is):=KB C.hin;have z0:=ZJ (ns:=canon c.M) (is:=is);have z1:=QS cu.v.mem;have z2:=C.prt.y20;generalize h7:bp (canon c.M) is=k0 at d1 g0 z0;refine ah λF1 J=>#[_,Z,Y,_,_,_,Z,Z,aB.of O.at',jL (j:=2) Z,J _ _ ?_];clear J;have o1:Iz nA d c is wh e wd=uG (eI nA d) (dw wd.sets$ sK e wh k0) wd.goal:=by unfold Iz;rw[h7]
 rw[o1]at q;have h1:=zo cu.ways;rw[LU]at h1;have G:∃x,w0[wh.side]?=some x/\aS H (ik$ wd.wy nA) x []:=by
  have hj:wh.side < w0.length:=by rw[h1];exact(List.getElem?_eq_some_iff.mp C.way).1
  obtain⟨tr,ht,tx⟩:=qW cu.ways wh.side _ (LP hj);rw[Mp,C.way]at ht;cases ht;exact#[_,LP hj,tx]
 obtain⟨wx,G,t0⟩:=G;have h4:=cu.at';have h':=cu.wat;refine ah λF1 J=>?_;have r0:∀(H3:Hp),H3 D=some (.dK$ sK e wh k0)->aP D H1 H3->F1 [some$ .ref a,some$ .ref Y,some$ .ref ka,some$ .ref D,some L,none] H3:=by
  intro H3 h3 k3;refine J _ _ ?_;clear J;have s3:aa H H3:=λc o x=>k3 c o (jk x n0) (s1 _ _ x);have l3:=yd (e:=e) (wh:=wh) (k:=k0);refine ah λF2 f2=>?_;have f6:∀H4,aa H3 H4->F2 [some$ .ref a,some$ .ref Y,some$ .ref ka,some$ .ref D,some L,some wx] H4:=λH4 s4=>f2 _ _ (by
   have S:=s3.trans s4;exact#[_,Z,_,Z,_,Z,.ref a,wx,D,d,ys,wd,_,Z,C.prt.mono$ aa.tm S,t0.mono$ aa.tm S,C.wdv.mono$ aa.tm S,s4 _ _ h3,sT C.fit g0,UO,λu R tu k=>q u R tu λc o x=>k c o (jk x n0) (S _ _ x)])
  clear f2;have wk:=C.whv.mono (aa.tm s3);have ff:∀(H4:Hp) (j:Nat),aa H3 H4->w0[j]?=some wx->dQ (cw K) (dQ (cw K) (aZ 2)$ tC$ .int 2) (tC$ .int (j:Int)) [some$ .ref a,some$ .ref Y,some$ .ref ka,some$ .ref D,some L,none] H4 λx H5=>F2 ([some$ .ref a,some$ .ref Y,some$ .ref ka,some$ .ref D,some L,none].set 5 (some x)) H5:=λH4 j s4 hj=>
   #[_,Z,ka,_,_,_,Z,Z,aB.of ((s3.trans s4) _ _ h4),jL (j:=2) Z,wa,_,_,_,Z,Z,aB.of ((s3.trans s4) _ _ h'),jL hj,f6 H4 s4]
  cases wh with
  |rd a' i |wr a' b=>obtain⟨p,rfl,B⟩:=wk;exact#[_,Z,ci,λt N=>#[p,t,_,_,Z,Z,aB.of$ je N _ _ B,aB.of jc,.inl #[Z,Z,_,Z,aX (by unfold tO;exact PQ _)$ ff _ 0 (je N) G]]]
  |ask b=>
   obtain⟨p,rfl,B⟩:=wk;have hb:b=0∨b=1:=by
    have:=C.fit;cases e with
    |st p l=>cases l<;>exact this.elim
    |ask t T=>exact this
   rcases hb with rfl |rfl
   ·exact#[_,Z,ci,λt N=>#[p,t,_,_,Z,Z,aB.of$ je N _ _ B,aB.of jc,.inl #[Z,Z,_,Z,cX UQ$ ff _ 1 (je N) G]]]
   ·exact#[_,Z,ci,λt N=>#[p,t,_,_,Z,Z,aB.of$ je N _ _ B,aB.of jc,.inl #[Z,Z,_,Z,aX UQ$ ff _ 0 (je N) G]]]
  |cl f' i0 i=>obtain⟨p,c',g,e',rfl,B,a0,_⟩:=wk;exact#[_,Z,ci,λt N=>#[p,t,_,_,Z,Z,aB.of$ je N _ _ B,aB.of jc,.inr #[_,c',_,_,_,Z,aB.of$ je N _ _ a0,Z,_,Z,aX Z$ ff _ 0 (je N) G]]]
 have wk:=O.whv;have dk:=O.dv;have fk:=O.fit;have h5:=s1 _ _ h4;have d0:=cu.deed;rw[<- C.ed]at d0;have skip:∀(p:Addr) (W:Str) (r:List V),L= .ref p->H1 p=some (.tup (.str W::r))->oG (.str W) [.str "read",.str "call"]=false->sK e wh k0=k0->gU (lJ$ dQ (Gz K false) (dQ (cw K) (aZ 4)$ tC$ .int 0)$ bK$ aj (tC$ .str "read")$ aj (tC$ .str "call") aM) (vU (aZ 3) (dQ (cw K) (dQ (cw K) (aZ 2)$ tC$ .int 1)$ tC$ .int 1)$ gf eZ [] E0$ aj (aZ 4) aM) xo { nx:=F1,rt:=Q } [some$ .ref a,some$ .ref Y,some$ .ref ka,some$ .ref D,some L,none] H1:=by intro p W r I B e2 e3;subst I;refine lO λG1 k1 k2=>(jv B dU #[ci,λt N=>#[t,_,Z,.inr$ aB.of jc,Z,Z,_,Z,?_]]);show G1 (oG (.str W) [.str "read",.str "call"]) _;rw[e2];exact k2 _$ r0 _ (by rw[e3];exact aq d1 N) λc o _ x=>je N _ _ x
 have p0:∀(p p':Addr) (W:Str) (r:List V) (i:Int) (x:Str) (y:V) (r':List V),L= .ref p->H1 p=some (.tup (.str W::r))->oG (.str W) [.str "read",.str "call"]=true->dv= .ref p'->H1 p'=some (.tup (y:: .str x::r'))->(∀R:Hp,aa H1 R->Ce R L wh)->(∀(Q':VK) (R:Hp),Q' (.int i) R->ue Q' R wh)->sK e wh k0=bb k0 (.inr x) (.int i)->gU (lJ$ dQ (Gz K false) (dQ (cw K) (aZ 4)$ tC$ .int 0)$ bK$ aj (tC$ .str "read")$ aj (tC$ .str "call") aM) (vU (aZ 3) (dQ (cw K) (dQ (cw K) (aZ 2)$ tC$ .int 1)$ tC$ .int 1)$ gf eZ [] E0$ aj (aZ 4) aM) xo { nx:=F1,rt:=Q } [some$ .ref a,some$ .ref Y,some$ .ref ka,some$ .ref D,some L,none] H1:=by intro p p' W r i x y r' I B e2 e4 X e5 e6 e3;subst I;subst e4;refine lO λG1 k1 k2=>(jv B dU #[ci,λt N=>#[t,_,Z,.inr$ aB.of jc,Z,Z,_,Z,?_]]);show G1 (oG (.str W) [.str "read",.str "call"]) _;rw[e2];refine k1 _ #[_,Z,.ref p,wh,Z,e5 _$ je N,e6 _ _ ?_];exact#[_,Z,jv (je N _ _ h5) ij #[p',_,_,_,Z,Z,aB.of$ je N _ _ X,ij,D,_,Z,.inl #[k0,.inr x,aq d1 N,Z,UO,Z],r0 _ (by rw[e3];exact jc) λc o nc z=>by rw[ji nc];exact je N _ _ z]]
 cases e with
 |ask t T=>
  cases wh with
  |ask b=>obtain⟨p,I,B⟩:=wk;exact skip p _ _ I B UQ Z
  |_=>exact fk.elim
 |st p' l=>
  obtain⟨vs,X,h6,_⟩:=dk;have ed:dv= .ref p':=d0.1;cases l with
  |rd x t T=>
   cases wh with
   |rd b i=>obtain⟨p,I,B⟩:=wk;obtain⟨rfl,_⟩:=h6;exact p0 p p' _ _ i x _ _ I B UQ ed X (λR s'=>#[p,I,s' _ _ B]) (λ_ _ h=>h) Z
   |_=>exact fk.elim
  |wr t u T U=>
   cases wh with
   |wr b i=>obtain⟨p,I,B⟩:=wk;exact skip p _ _ I B UQ Z
   |_=>exact fk.elim
  |cl x f' q' ts=>
   cases wh with
   |cl f2 i1 i=>obtain⟨p,c2,g2,e2,I,B,h2,h3⟩:=wk;obtain⟨rfl,_⟩:=h6;exact p0 p p' _ _ i x _ _ I B UQ ed X (λR s'=>#[p,c2,g2,e2,I,s' _ _ B,s' _ _ h2,s' _ _ h3]) (λ_ _ h=>h) Z
   |_=>exact fk.elim
  |st x t T |gv t T=>cases wh<;>exact fk.elim
noncomputable abbrev iz:Stmt:=bQ 25
noncomputable abbrev lT:Stmt:=bQ 26
noncomputable def Fv(k:bg):DD->Tr
 | .st _ (.rd _ _ T)=>aA [aK "read",au (T.ev k)]
 | .st _ (.wr _ _ T U)=>aA [aK "write",au (T.ev k),au (U.ev k)]
 | .st _ (.cl _ f _ t)=>aA [aK "call",aK f,aA (t.map λc=>au (c.2.ev k))]
 | .ask _ T=>aA [aK "ask",au (if T.ev k=0 then 0 else 1)]
 |_=>.nil
inductive gK(g:Addr)(h:List V)(H:Hp)(Q:VK)(a:XK):Prop
 |mk(v:V)(n:Nat)(b:Addr)(d:Df)(j:List Str)(c:Ct)(f:List Int)(e:DD)(_:h=[v,.int (n:Int),.ref b])(_:mQ H g d j v)(_:(bX g d)[n]?=some c)(_:H b=some (.tup (f.map V.int)))(_:f.length=(canon c.M).length)(_:∀i∈f,gW i)(_:e.dd=c.d)(_:A9 H j e)(_:∀(u:V) (H':Hp),aS H' (Fv (bp (canon c.M) f) e) u []->aa H H'->Q u H')
inductive gR(f:List V)(H:Hp)(Q:VK)(b:XK):Prop
 |mk(a d:Addr)(e:List (Addr×Tm))(g:List Str)(k:bg)(_:f=[.ref a,.ref d])(_:H a=some (.tup (e.map λc=>V.ref c.1)))(_:e.length<=6)(_:∀c∈e,cq H c.2 c.1/\eO g c.2)(_:H d=some (.dK k))(_:GT k)(_:∀(r:Addr) (H':Hp),H' r=some (.tup (e.map λc=>V.int (c.2.ev k)))->aa H H'->Q (.ref r) H')
theorem wJ:ai ["terms","numbers"] ["terms","numbers"] (ae iz):=bP
noncomputable def Zl:Scope:=#[.function,[(".0",.local),("term",.local),("worth",.globalImplicit),("numbers",.free)],false,false,[]]
theorem yI:(["term","numbers"]:List Str).Nodup:=by decide+kernel
theorem yk:bh ["terms","numbers"] (ae iz) Zl ["term","numbers"] 1 [1]:=pO
theorem rN(F:aQ K "worths" "worths" iz f v)(C:Cl P w K mg base 7 U B z8z (cY K 6) "worth")(M:mg "tuple"=none):af P w K mg base aE 8 f v ["terms","numbers"] gR:=by
 refine F.ok wJ ?_ λG A o s H R Q E I h=>?_
 ·rintro _ _ _ _ ⟨a,D,t,g,k,rfl,_⟩;rfl
 obtain⟨a,D,t,g,k,rfl,p,W,b,J,L,q⟩:=h;refine#[_,(jg$ jp$ jN jY Z M Oc$ ja (@zO _ _ _ _ _ _ _ (["term","numbers"]) (1) ([1]) _ _ _ _ Z (JC$ pv 0) yk (λ_ _ _ _ _=>(jx (i:=0) yI Z$ Or.inl Z)) (λ_ _ _ _ _=>(@qj _)) (λ_ _ _ _ _=>(C.e I.m$ ja (pv 0)$ ja (pv 1) jb)) (by intro _;rfl)) jb),?_];have N:=aH;refine#[_,Z,a,Z,#[_,aB.of p],?_];refine QO (K:=K) (xs:=t.map λc=>V.ref c.1) (by rw[LU];omega) (λi z d=>z=(t.take i).map (λc=>V.int (c.2.ev k))/\d=H) #[Z,Z] (λi z d h=>?_) (λi x z d r h=>?_) (λz d h l O=>?_)
 ·obtain⟨rfl,rfl⟩:=h;exact#[aB.of p,by rw[LU,Mw];omega]
 ·obtain⟨rfl,rfl⟩:=h;rw[Mp]at r;obtain⟨y,u,rfl⟩:=Option.map_eq_some_iff.mp r;have Y:=Mr u;refine#[_,Z,_,Z,y.1,D,y.2,g,k,Z,.inl (b y Y).1,(b y Y).2.2,(b y Y).2.1,J,L,?_,Z];rw[MW,u,Mz];rfl
 ·obtain⟨rfl,rfl⟩:=h;rw[LU,MN];exact#[l,_,Z,.inl #[aI.of jc,λT n=>q T _ jc ((je O).trans$ je n)]]
theorem gH:ai ["part","n","held","numbers","deed","word"] z10z (ae lT):=bP
theorem rB(F:aQ K "deed_at" "deed_at" lT f fd)(cH:Cl P w K mg base 2 fH f0 z10z (iT nA) "held_at")(cC:Cl P w K mg base 1 fC f2 ["part","n"] (iP nA) "cut_at")(cW:Cl P w K mg base 7 fW f3 z8z (cY K 6) "worth")(cS:Cl P w K mg base 8 fS f4 ["terms","numbers"] gR "worths"):af P w K mg base aE 9 f fd z10z (gK nA):=by
 refine F.ok gH ?_ λc0 A o1 s H vs Q E L h=>?_
 ·rintro _ _ _ _ ⟨v,n,hv,d,Y,c,is,e,rfl,_⟩;rfl
 obtain⟨v,n,hv,d,Y,c,is,e,rfl,hp,hc,hh,hl,h0,h1,h2,q⟩:=h;refine#[_,(jd (jB 3 gH.nd$ cH.e L.m$ ja (pv 0)$ ja (pv 1)$ ja (pv 2) jb)$ jd (jB 4 gH.nd$ jo jH (cC.e L.m$ ja (pv 0)$ ja (pv 1) jb) jf (λ_ _=>Z))$ jd (jB 5 gH.nd$ jy$ pv 4)$ jd (jz (ki$ pv 5) (jg$ jp$ jh$ ja (pv 5)$ ja (kW (jE Ja (cW.e L.m$ ja (jy$ pv 4)$ ja (pv 3) jb) jf$ aL _) jf jf) jb) ju)$ jd (jz (ki$ pv 5) (jg$ jp$ jh$ ja (pv 5)$ ja (jy$ pv 4)$ ja (cS.e L.m$ ja (jy$ pv 4)$ ja (pv 3) jb) jb) ju)$ jd (jz (ki$ pv 5) (jg$ jp$ jh$ ja (pv 5)$ ja (cW.e L.m$ ja (jy$ pv 4)$ ja (pv 3) jb) jb) ju)$ jg$ jp$ jw jQ (jh$ ja (pv 5) jb)$ cS.e L.m$ ja (jJ j8 (pv 4) (jK jf) jT)$ ja (pv 3) jb),?_];have b0:=aH;obtain⟨a,ca,p0,cs,rfl,ha,_,h7,h'⟩:=hp.parts;refine ah λi b=>#[_,Z,_,Z,_,Z,.ref a,n,hv,d,Y,c,is,Z,hp,hc,hh,hl,λC n0=>b _ _ ?_];clear b;have S:aa H (am H C$ .dK$ bp (canon c.M) is):=je n0;have O:am H C (.dK$ bp (canon c.M) is) C=some (.dK$ bp (canon c.M) is):=jc;show fh _ _ _ _ (am H C$ .dK$ bp (canon c.M) is);generalize am H C (.dK$ bp (canon c.M) is)=H1 at S O;have V:GT (bp (canon c.M) is):=KB h0;generalize bp (canon c.M) is=k at O V q;have dk:=h2.mono (aa.tm S);refine ah λi b=>#[_,Z,_,Z,.ref a,n,d,Y,c,Z,hp.mono$ aa.tm S,hc,λka na wa dv w0 cu=>#[ka,_,_,_,Z,Z,aB.of cu.at',ij,b _ _ ?_]];clear b;have D:=cu.deed;rw[<- h1]at D;cases e with
 |ask t T=>
  obtain⟨_,p,xs,rfl,g,_,_,y0,z0,rfl,⟨rfl,_⟩,_,_,y1,z1,rfl,⟨rfl,_⟩,e⟩:=D;have e:z1=[]:=e;subst e;refine ah λi b=>(jv g dU$ b _ _ ?_);clear b;refine ah λi b=>#[_,Z,Z,_,Z,cX UQ #[_,Z,jv g ij #[_,Z,t,C,T,Y,k,Z,.inl dk.1,dk.2.2,dk.2.1,O,V,Z,_,Z,?_]]];by_cases z:T.ev k=0
  ·refine cX (by rw[z];decide+kernel) #[ci,λr G=>q _ _ (jD jc$ jm Z jU$ jm Z #[?_,Z] jA) (S.trans$ je G)];rw[Mb z]
  ·refine aX (by rw[LZ];intro e;injection e with e;exact z e) #[ci,λr G=>q _ _ (jD jc$ jm Z jU$ jm Z #[?_,Z] jA) (S.trans$ je G)];rw[Mf z]
 |st p l=>
  have ed:dv= .ref p:=D.1;subst ed;obtain⟨vs,g,I,B,h3⟩:=dk;cases l with
  |rd x t T=>obtain⟨rfl,ht⟩:=I;refine ah λi b=>(jv g dU$ b _ _ ?_);clear b;refine ah λi b=>#[_,Z,Z,_,Z,aX UQ$ b _ _ ?_];clear b;refine ah λi b=>#[_,Z,Z,_,Z,aX UQ$ b _ _ ?_];clear b;refine ah λi b=>#[_,Z,Z,_,Z,cX UQ #[_,Z,_,Z,p,_,_,_,Z,Z,aB.of g,jL (j:=2) Z,_,Z,t,C,T,Y,k,Z,.inl ht,B.2.2,B.2.1,O,V,ci,λr G=>?_]];exact q _ _ (jD jc$ jm Z jU$ jm Z jX jA)$ S.trans$ je G
  |wr t u T U=>
   obtain⟨rfl,ht,hu⟩:=I;refine ah λi b=>(jv g dU$ b _ _ ?_);clear b;refine ah λi b=>#[_,Z,Z,_,Z,aX UQ$ b _ _ ?_];clear b;refine ah λi b=>#[_,Z,Z,_,Z,aX UQ$ b _ _ ?_];clear b;refine ah λi b=>#[_,Z,Z,_,Z,aX UQ$ b _ _ ?_];clear b;refine#[_,Z,iE,λr1 N=>#[_,Z,1,Z,p,_,Z,je N _ _ g,λr2 H2 J R=>#[_,Z,r2,C,[(t,T),(u,U)],Y,k,Z,J,(by show 2<=6;decide),?_,R _ _$ je N _ _ O,V,λr3 H3 h4 s3=>#[r1,r3,_,_,Z,Z,s3 _ _$ R _ _ jc,h4,i8,λr4 H4 h5 s4=>?_]]]]
   ·intro y W;have X:=(je (o:=.tup [.str "write"]) N).trans R;simp only[NB,Mx,OZ]at W;rcases W with rfl |rfl
    ·exact#[ht.same X,B.1]
    ·exact#[hu.same X,B.2]
   ·exact q _ _ (jD h5$ jm Z jU$ jm Z jX$ jm Z jX jA)$ S.trans ((je N).trans$ R.trans$ s3.trans s4)
  |cl x f' qa ts=>obtain⟨rfl,hq,h6⟩:=I;refine ah λi b=>(jv g dU$ b _ _ ?_);clear b;refine ah λi b=>#[_,Z,Z,_,Z,aX UQ$ b _ _ ?_];clear b;have l6:ts.length<=6:=B.2.1;refine ah λi b=>#[_,Z,Z,_,Z,cX UQ #[_,Z,_,Z,p,_,_,_,Z,Z,aB.of g,jL (j:=2) Z,_,Z,p,_,_,_,Z,Z,aB.of g,jL (j:=3) Z,_,Z,qa,C,ts,Y,k,Z,hq,l6,λy W=>#[h6 y W,B.2.2 y W],O,V,λr2 H2 J R=>#[i8,λr G=>?_]]];refine q _ _ (jD jc$ jm Z jU$ jm Z jU$ jm Z (jD (aq J G) ?_) jA)$ S.trans$ R.trans$ je G;have:=Kf (H:=am H2 r (.tup [.str "call",.str f',.ref r2])) (is:=ts.map λc=>c.2.ev k);rw[N8,N8]at this;exact this
  |st x t T |gv t T=>cases h3
noncomputable abbrev l7:Stmt:=bQ 17
noncomputable abbrev og:Stmt:=bQ 18
noncomputable abbrev lU:Stmt:=bQ 19
noncomputable abbrev wj:Stmt:=bo (bQ 20) 0
noncomputable abbrev oq:Stmt:=bo (bQ 20) 1
noncomputable abbrev wm:Stmt:=bo (bQ 20) 2
noncomputable abbrev md:Stmt:=bQ 22
def EG(H:Hp)(x:V)(g:Str):Prop:=∃p r,x= .ref p/\H p=some (.tup (.str g::r))
inductive mx(c:List V)(H:Hp)(Q:VK)(b:XK):Prop
 |mk(a:Addr)(f:Str)(d:List V)(i:Nat)(v:V)(_:c=[.ref a,.str f])(_:H a=some (.tup d))(_:d[i]?=some v)(_:EG H v f)(_:∀j x,j < i->d[j]?=some x->∃g,EG H x g/\g≠f)(_:Q v H)
inductive iB(e:List V)(H:Hp)(Q:VK)(b:XK):Prop
 |mk(a g:Addr)(f:Str)(h k:List V)(i:Nat)(v:V)(p c:Addr)(r d:List V)(_:e=[.ref a,.str f,.ref g])(_:H a=some (.tup h))(_:h[i]?=some v)(_:v= .ref p)(_:H p=some (.tup (.str f:: .ref c::r)))(_:H c=some (.tup d))(_:H g=some (.tup k))(_:k.length=d.length)(_:∀j x,j < i->h[j]?=some x->∃g,EG H x g/\g≠f)(_:Q v H)
noncomputable def iF(c l p:Addr)(m:Int)(t:Nat):List (Str×V):=[("cells",.ref c),("most",.int m),("left",.ref l),("turns",.int (t:Int)),("parts",.ref p)]
structure Rn(H:Hp)(C r dx cA lA pA:Addr)(m:Int)(t:Nat)(L Cs:bg):Prop where
 ins:H r=some (.ins C dx$ iF cA lA pA m t)
 lf:H lA=some (.dK L)
 ce:H cA=some (.dK Cs)
 iL:GT L
 iC:GT Cs
 cl:cA≠lA
structure RK(K:Frag)(C:Addr):Prop where
 cl:oC K C
 n1:a9 K C "cells"
 n2:a9 K C "most"
 n3:a9 K C "left"
 n4:a9 K C "turns"
 n5:a9 K C "parts"
inductive gN(C:Addr)(h:List V)(H:Hp)(Q:VK)(a:XK):Prop
 |mk(r e d f g:Addr)(m c:Int)(t:Nat)(L b:bg)(_:h=[.ref r,.int c])(_:Rn H C r e d f g m t L b)(_:Q (.int (look L (.inl c) (look b (.inl c) 0))) H)
inductive mG(C:Addr)(d:List V)(H:Hp)(Q:VK)(a:XK):Prop
 |mk(r c b:Addr)(m:Int)(_:d=[.ref r,.ref b,.int m])(_:H r=some (.ins C c []))(_:∀lA,H lA=none->Q .non (am (am H lA (.dK [])) r (.ins C c [("cells",.ref b),("most",.int m),("left",.ref lA),("turns",.int 0)])))
structure XM(K:Frag)(mg:Str->Option Value)(x:Str)(L:Addr):Prop where
 ex:excIn K L pJ "ValueError.__new__"=true
 kp:keepIn K (.ref L)=true
 xc:sS K L
 ty:typeIn K (.ref L)=some (.type "type")
 m:mg x=some (.ref L)
def NX(o:HO):Prop:=∀a,o≠ .ext a
def Kp(H h:Hp):Prop:=∀b o,NX o->H b=some o->h b=some o
theorem Kp.of_same(s:aa H h):Kp H h:=λb o _ e=>s _ _ e
theorem Kp.trans(a:Kp H h)(b:Kp h d):Kp H d:=λc o n e=>b c o n (a c o n e)
def oI(E:XK):XK:=λC d H=>∀x T t c,C= .ref c->H x=some (ig c d T x)->H T=some (gY T)->H t=none->E (.ref c) d (am (am H t$ gY t) x$ ig c d t x)
theorem qh{P:Program}{w:World}{K:Frag}{mg:Str->Option Value}{base:Heap}:dj (gq P w) (gA (gq P w) P w K mg base N q s f g A o a H E) (oI E):=
 Ae λx C d T t i b c e h=>h x T t C Z b c e
theorem Kg{H h:Hp}(e:h b=some o)(n:NX o)(a:h x=some (ig C d T x))(c:h t=none):am (am h t$ gY t) x (ig C d t x) b=some o:=by
 have N:b≠x:=λz=>by rw[z,a]at e;injection e with e;exact n _ e.symm
 rw[ji N,ji$ jk e c];exact e
def Fl(E:XK)(L:Addr)(R:Hp->Prop):Prop:=∀(_:Unit) H,R H->E (.ref L) none H
inductive iW(C L:Addr)(e:List V)(H:Hp)(Q:VK)(E:XK):Prop
 |mk(r b a c d:Addr)(m:Int)(t:Nat)(_:e=[.ref r])(_:H r=some (.ins C b (iF a c d m t)))(_:(t:Int) < m->Q .non (am H r (.ins C b (iF a c d m (t+1)))))(_:m<=(t:Int)->Fl E L (Kp H))
inductive eX(D:Addr)(a:List V)(H:Hp)(Q:VK)(E:XK):Prop
 |mk(d:Int)(_:a=[.int d])(_:d < 15->Q (.int (d+1)) H)(_:15<=d->Fl E D (Kp H))
theorem X4{H:Hp}(a:H x=none)(N:am H x (Bb L none x) T=none):aa H (am (am (am H x$ Bb L none x) T$ gY T) x$ ig L d T x):=by intro b o e;have n:b≠x:=jk e a;rw[ji n,ji (λz=>by rw[<- z,ji n,e]at N;cases N),ji n];exact e
theorem nh:ai ["ones","f","one"] ["ones","f"] (ae l7):=bP
theorem rJ(F:aQ K "named" "named" l7 f D):af P w K mg base aE 1 f D ["ones","f"] mx:=by
 refine F.ok nh ?_ λG A o s H W Q E X h=>?_
 ·rintro _ _ _ _ ⟨a,f,xs,i,v,rfl,_⟩;rfl
 obtain⟨a,f,xs,i,v,rfl,t,u,L,d,q⟩:=h;refine#[_,(jd (kH MF Z (JC$ pv 0) (jx (i:=2) nh.nd Z$ Or.inl Z)$ jg$ jz (jE Ja (jy$ pv 2) (pv 1)$ aL _) (jg$ jp$ pv 2) ju)$ @vF _ _),?_];have M:i < xs.length:=(List.getElem?_eq_some_iff.mp u).1;refine ah λY f1=>dW λJ j=>#[_,Z,a,Z,#[_,aB.of t],j _ _ ?_];clear j;refine KG (K:=K) (xs:=xs) (λk c e=>(∃O,c=[some$ .ref a,some$ .str f,O])/\e=H/\k<=i) #[#[_,Z],Z,Ma _] (λk c e _ h=>by rw[h.2.1];exact aB.of t) ?_ (λc e h=>?_)
 ·intro l R k x c H2 m N I b h;obtain⟨⟨O,rfl⟩,rfl,y⟩:=h;refine b ?_;clear b;by_cases S:k=i
  ·subst S;rw[u]at m;cases m;obtain⟨p,r,rfl,n⟩:=id L;show gU _ _ _ l _ _;refine lO λT B C=>(jv n dU #[_,Z,Z,_,Z,?_]);rw[Mc (Z:V.str f=V.str f)];refine B _ ?_;show lg _ l _ _;unfold lg;rw[R];exact#[_,Z,q]
  ·obtain⟨g,⟨p,r,rfl,n⟩,U⟩:=d k x UO m;show gU _ _ _ l _ _;refine lO λT B C=>(jv n dU #[_,Z,Z,_,Z,?_]);rw[LZ (λz=>U (by injection z))];exact C _$ N _ _ #[#[_,Z],Z,UO]
 ·obtain⟨_,_,y⟩:=h;exact absurd y UO
theorem wH:ai ["parts","f"] ["parts","f"] (ae md):=bP
theorem rM(F:aQ K "part_of" "part_of" md f c)(C:Cl P w K mg base 1 r d ["ones","f"] mx "named"):af P w K mg base aE 2 f c ["parts","f"] mx:=by
 refine F.ok wH ?_ λg A o s H V Q E j h=>?_
 ·rintro _ _ _ _ ⟨a,f,x,i,v,rfl,_⟩;rfl
 obtain⟨a,f,x,i,v,rfl,l,n,p,b,q⟩:=h;refine#[_,(jg$ jp$ C.e j.m$ ja (pv 0)$ ja (pv 1) jb),?_];exact#[_,Z,_,Z,a,f,x,i,v,Z,l,n,p,b,q]
theorem oR:ai ["ones","f","args","one"] ["ones","f","args"] (ae og):=bP
theorem uS(F:aQ K "begun" "begun" og f j)(C:Cl P w K mg base 1 N l ["ones","f"] mx "named")(M:mg "len"=none):af P w K mg base aE 2 f j ["ones","f","args"] iB:=by
 refine F.ok oR ?_ λn A o s H V Q E t h=>?_
 ·rintro _ _ _ _ ⟨a,g,f,x,y,i,v,p,c,r,u,rfl,_⟩;rfl
 obtain⟨a,g,f,x,y,i,v,p,c,r,u,rfl,z,B,rfl,d,D,G,I,J,q⟩:=h;refine#[_,(jd (jB 3 oR.nd$ C.e t.m$ ja (pv 0)$ ja (pv 1) jb)$ jd (jz (jE Xx (jR jO Z M Nh$ ja (pv 2) jb) (jR jO Z M Nh$ ja (jy$ pv 3) jb)$ aL _) (@vF _ _) ju)$ jg$ jp$ pv 3),?_];refine ah λL b=>#[_,Z,_,Z,a,f,x,i,.ref p,Z,z,B,#[p,_,Z,d],J,b _ _ ?_];clear b;refine ah λL b=>#[_,Z,g,_,Z,.inr$ aB.of G,jv d ij #[c,_,Z,.inr$ aB.of D,Z,_,Z,aX (by rw[I];simp)$ b _ _ #[_,Z,q]]]
theorem wu:ai ["deep"] ["deep"] (ae lU):=bP
theorem rC(F:aQ K "deeper" "deeper" lU f a)(M:mg "DEEPEST"=some (.int 15 t))(X:XM K mg "TooDeep" D):af P w K mg base (gq P w) 1 f a ["deep"] (eX D):=by
 refine F.ok1 wu ?_ λC A o s H V Q E g h=>?_
 ·rintro _ _ _ _ ⟨d,rfl,_⟩;rfl
 obtain⟨d,rfl,q,e⟩:=h;refine#[_,(jd (jz (jE vk (pv 0) (Jc (v:=.int 15) Z M #[t,Z])$ aL _) (jg$ @XL _ _ _ _ _ Z QI$ @QF _ _ _ _ _ X.ex X.kp Z X.m UN) ju)$ jg$ jp$ jw ke (pv 0) jf),?_];refine ah λi b=>#[_,Z,_,_,Z,Z,_,Z,?_];by_cases c:(15:Int)<=d
 ·refine cX (Mc c) λx n=>?_;exact#[x,D,none,Z,jc,X.xc,X.ty,λT N=>e c () _ (Kp.of_same$ X4 n N)]
 ·exact aX (LZ c)$ b _ _ #[_,Z,_,_,Z,Z,q UO]
theorem Eg:ai z22z z22z (ae wj):=bP
theorem y9(F:aQ K "__init__" "Turns.__init__" wj f v)(c:RK K C):af P w K mg base aE 1 f v z22z (mG C):=by
 refine F.ok Eg ?_ λx A o s H V Q E B h=>?_
 ·rintro _ _ _ _ ⟨r,D,y,m,rfl,_⟩;rfl
 obtain⟨r,D,y,m,rfl,g,q⟩:=h;refine#[_,(jd (@zG _ _ _ _ _ _ _ _ (pv 0) (pv 1) Z)$ jd (@zG _ _ _ _ _ _ _ _ (pv 0) (pv 2) Z)$ jd (@zG _ _ _ _ _ _ _ _ (pv 0) XJ Z)$ jg$ @zG _ _ _ _ _ _ _ _ (pv 0) jf Z),?_];refine ah λj a=>#[_,Z,_,Z,r,C,D,_,Z,g,c.cl,c.n1,UN,a _ _ ?_];clear a;refine ah λj a=>#[_,Z,_,Z,r,C,D,_,Z,jc,c.cl,c.n2,(by show 1 < 1000;decide),a _ _ ?_];clear a;refine ah λj a=>λl n=>#[_,Z,r,C,D,_,Z,aq jc n,c.cl,c.n3,(by show 2 < 1000;decide),a _ _ ?_];clear a;refine#[_,Z,r,C,D,_,Z,jc,c.cl,c.n4,(by show 3 < 1000;decide),?_];have N:l≠r:=λe=>by rw[e,jc]at n;cases n
 have z:H l=none:=by rw[ji N,ji N]at n;exact n
 have e:∀p t u O:HO,am (am (am (am (am H r p) r t) l$ .dK []) r u) r O=am (am H l$ .dK []) r O:=λp t u O=>by
  funext b;by_cases d:b=r
  ·rw[d,jc,jc]
  ·rw[ji d,ji d,ji d];by_cases i:b=l
   ·rw[i,jc,jc]
   ·rw[ji i,ji d,ji d,ji i]
 rw[e];exact q l z
theorem AJ:ai ["self"] ["self"] (ae oq):=bP
theorem vb(F:aQ K "take_turn" "Turns.take_turn" oq f g)(b:RK K C)(X:XM K mg "TooLong" L):af P w K mg base (gq P w) 1 f g ["self"] (iW C L):=by
 refine F.ok1 AJ ?_ λi A o s H v Q E y h=>?_
 ·rintro _ _ _ _ ⟨r,d,j,l,p,m,t,rfl,_⟩;rfl
 obtain⟨r,d,j,l,p,m,t,rfl,a,q,e⟩:=h;refine#[_,(jd (jz (jE vk (kf (pv 0) Z) (kf (pv 0) Z)$ aL _) (jg$ @XL _ _ _ _ _ Z QI$ @QF _ _ _ _ _ X.ex X.kp Z X.m UN) ju)$ jg$ @rS _ _ _ _ _ _ _ _ _ _ (pv 0) jf CM),?_];refine ah λz n=>#[_,Z,r,C,d,_,_,Z,a,b.cl,b.n4,Z,_,Z,r,C,d,_,_,Z,a,b.cl,b.n2,Z,_,_,Z,Z,_,Z,?_];by_cases c:m<=(t:Int)
 ·refine cX (Mc c) λx N=>?_;exact#[x,L,none,Z,jc,X.xc,X.ty,λT u=>e c () _ (Kp.of_same$ X4 N u)]
 ·exact aX (LZ c)$ n _ _ #[_,Z,r,C,d,_,_,Z,a,b.cl,b.n4,Z,_,_,Z,Z,d,_,a,(by show 5 < 1000;decide),q UO]
theorem Eh:ai ["self","cell"] ["self","cell"] (ae wm):=bP
theorem Aa(F:aQ K "number_in" "Turns.number_in" wm f p)(b:RK K C):af P w K mg base aE 1 f p ["self","cell"] (gN C):=by
 refine F.ok Eh ?_ λu A o s H V Q E g h=>?_
 ·rintro _ _ _ _ ⟨r,d,i,l,x,m,c,t,L,j,rfl,_⟩;rfl
 obtain⟨r,d,i,l,x,m,c,t,L,j,rfl,a,q⟩:=h;refine#[_,(jg$ jp$ kW (Ku$ @DQ _ _ _ _ _ (zM g) (pv 1)$ kf (pv 0) Z) (Ag (zM g) (kf (pv 0) Z) (pv 1) (λ_ _=>Z))$ @KF _ _ _ _ _ _ _ _ _ (zM g) (kf (pv 0) Z) (pv 1) jf #[UR,UR,UR,UR]),?_];refine#[_,Z,_,Z,r,C,d,_,_,Z,a.ins,b.cl,b.n3,Z,l,_,Z,gu.k (k:=.inl c) a.lf,_,Z,?_];cases e:b6 L (.inl c) with
 |some v=>refine cX Z #[_,Z,r,C,d,_,_,Z,a.ins,b.cl,b.n3,Z,_,Z,l,v,Z,by rw[<- e];exact gu.k (k:=.inl c) a.lf,?_];rw[rg a.iL e$ look j (.inl c) 0];exact q
 |none=>refine aX Z #[_,Z,r,C,d,_,_,Z,a.ins,b.cl,b.n1,Z,i,Z,.inl #[_,.inl a.ce],_,Z,_,gu.k (k:=.inl c) a.ce,?_];rw[KI a.iC];rw[rf e]at q;exact q
noncomputable abbrev vQ:Stmt:=bo (bQ 55) 0
noncomputable abbrev Ar:Stmt:=bo (bQ 55) 1
noncomputable abbrev As:Stmt:=bo (bQ 55) 2
noncomputable abbrev D':Stmt:=bQ 56
inductive Sk where
 |nil |st (n:Int) (hs:List Int) (w r:Sk) |ask (b:Int) |rd (c i:Int) |wr (c i:Int) |cl (f:Str) (is:List Int) (s:Sk) (a:Int)
noncomputable def Sk.dep:Sk->Nat
 | .st _ _ w r=>max w.dep r.dep
 | .cl _ _ s _=>s.dep+1
 |_=>0
noncomputable def Sk.size:Sk->Nat
 | .st _ _ w r=>w.size+r.size+1
 | .cl _ _ s _=>s.size
 |_=>0
def Sk.ok:Bool->Sk->Prop
 |true,.nil=>True
 |true,.st _ _ w r=>w.ok false/\r.ok true
 |false,.cl _ _ s _=>s.ok true
 |false,.ask _=>True
 |false,.rd _ _=>True
 |false,.wr _ _=>True
 |_,_=>False
def dF(H:Hp):Sk->V->List V->Prop
 | .nil,_,x=>x=[]
 | .st n d w r,_,x=>∃p h u y,x= .ref p::y/\H p=some (.tup [.int n,.ref h,u])/\H h=some (.tup (d.map V.int))/\dF H w u []/\dF H r .non y
 | .ask b,u,_=>∃p,u= .ref p/\H p=some (.tup [.str "ask",.int b])
 | .rd c i,u,_=>∃p,u= .ref p/\H p=some (.tup [.str "read",.int c,.int i])
 | .wr c i,u,_=>∃p,u= .ref p/\H p=some (.tup [.str "write",.int c,.int i])
 | .cl f I s a,u,_=>∃p c g e S,u= .ref p/\H p=some (.tup [.str "call",.ref c])/\H c=some (.tup [.str f,.ref g,.ref e,.int a])/\H g=some (.tup (I.map V.int))/\H e=some (.tup S)/\dF H s .non S
theorem dF.mono(k:ap H i):∀{s:Sk} {u:V} {x:List V},dF H s u x->dF i s u x
 | .nil,_,_,h=>h
 | .st _ _ _ _,_,_,z=>by obtain⟨p,h,u,y,e,a,b,d,f⟩:=z;exact #[p,h,u,y,e,k _ _ a,k _ _ b,dF.mono k d,dF.mono k f]
 | .ask _,_,_,z=>by obtain⟨p,e,h⟩:=z;exact #[p,e,k _ _ h]
 | .rd _ _,_,_,z=>by obtain⟨p,e,h⟩:=z;exact #[p,e,k _ _ h]
 | .wr _ _,_,_,z=>by obtain⟨p,e,h⟩:=z;exact #[p,e,k _ _ h]
 | .cl _ _ _ _,_,_,z=>by obtain⟨p,c,g,e,S,E,a,b,d,f,j⟩:=z;exact #[p,c,g,e,S,E,k _ _ a,k _ _ b,k _ _ d,k _ _ f,dF.mono k j]
noncomputable def Sk.put(n:Int)(h:List Int)(W:Sk):Sk->Sk
 | .st a b c r=>.st a b c (Sk.put n h W r)
 |_=>.st n h W .nil
theorem BG{H:Hp}{n:Int}{a:List Int}{w:Sk}{p h:Addr}{u:V}(b:H p=some (.tup [.int n,.ref h,u]))(c:H h=some (.tup$ a.map V.int))(d:dF H w u []):∀{s:Sk} {x:List V},s.ok true->dF H s .non x->dF H (Sk.put n a w s) .non (x++[.ref p])
 | .nil,_,_,e=>by have e:_=[]:=e;rw[e];exact#[p,h,u,[],Z,b,c,d,Z]
 | .st _ _ _ r,_,o,z=>by obtain⟨f,g,U,y,e,i,j,k,l⟩:=z;rw[e];exact#[f,g,U,y++[.ref p],Z,i,j,k,BG b c d o.2 l]
theorem ZM{w:Sk}(h:w.ok false):∀{s:Sk},s.ok true->(Sk.put n H w s).ok true
 | .nil,_=>#[h,trivial]
 | .st _ _ _ _,o=>#[o.1,ZM h o.2]
theorem X5{n:Int}{hs:List Int}{w:Sk}:∀{s:Sk},s.ok true->(Sk.put n hs w s).size=s.size+(w.size+1)
 | .nil,_=>by show w.size+0+1=0+(w.size+1);omega
 | .st _ _ c r,o=>by have:=X5 (n:=n) (hs:=hs) (w:=w) (s:=r) o.2;show c.size+(Sk.put n hs w r).size+1=c.size+r.size+1+(w.size+1);omega
theorem ZN{n:Int}{hs:List Int}{w:Sk}{j:Nat}(H:w.dep<=j):∀{s:Sk},s.ok true->s.dep<=j->(Sk.put n hs w s).dep<=j
 | .nil,_,_=>by show max w.dep 0<=j;omega
 | .st _ _ c r,o,h=>by have h:max c.dep r.dep<=j:=h;have:=ZN (n:=n) (hs:=hs) H (s:=r) o.2 UO;show max c.dep (Sk.put n hs w r).dep<=j;omega
theorem qY:∀{s:Sk} {x:List V},s.ok true->dF H s .non x->x.length<=s.size
 | .nil,_,_,e=>by have e:_=[]:=e;rw[e];exact LV 0
 | .st _ _ w r,_,o,z=>by obtain⟨_,_,_,y,e,_,_,_,h⟩:=z;have:=qY o.2 h;rw[e];show y.length+1<=w.size+r.size+1;omega
def mN(H:Hp)(f:Str)(i:List Int)(s:Sk)(a:Int)(u:V):Prop:=∃c g e S,u= .ref c/\H c=some (.tup [.str f,.ref g,.ref e,.int a])/\H g=some (.tup$ i.map V.int)/\H e=some (.tup S)/\dF H s .non S
noncomputable def Sk.wh:Sk->Wh
 | .ask b=>.ask b
 | .rd c i=>.rd c i
 | .wr c i=>.wr c i
 | .cl f I _ a=>.cl f I a
 |_=>.ask 0
theorem IV{s:Sk}(o:s.ok false)(h:dF H s u []):Ce H u s.wh:=by
 cases s with
 |nil |st=>exact o.elim
 |ask b |rd c i |wr c i=>exact h
 |cl f I s a=>obtain⟨p,c,g,e,S,E,d,j,k,_⟩:=h;exact#[p,c,g,.ref e,E,d,j,k]
inductive Gd where
 |give (a:Int) |go (n:Nat) (hs:List Int)
noncomputable def lQ(N:Nat->List Str)(k:bg):Gl->Gd
 | .give _ T=>.give (T.ev k)
 | .nought=>.give 0
 | .go n=>.go n ((N n).map λx=>look k (.inr x) 0)
structure ES where
 nm:List Str
 e:DD
 ws:List WD
structure fc where
 f:Str
 ps:List Str
 way:WD
 cs:List ES
structure ET(H:Hp)(ys:List Str)(nA:Addr)(d:Df)(c:Ct)(cd:ES):Prop where
 nm:cd.nm=canon c.M
 ed:cd.e.dd=c.d
 dv:A9 H ys cd.e
 cs:cd.e.Cs d.b.calls
 len:cd.ws.length=c.ws.length
 ws:∀(j:Nat) (w:Wy) (wd:WD),c.ws[j]?=some w->cd.ws[j]?=some wd->wd.wy nA=w/\xS H ys d.b.cuts d.b.size wd
structure x6(H:Hp)(nA:Addr)(d:Df)(ys:List Str)(pd:fc):Prop where
 f:pd.f=d.f
 ps:H d.pa=some (.tup$ pd.ps.map V.str)
 wy:pd.way.wy nA=(h9 nA d).1.w
 wv:xS H ys d.b.cuts d.b.size pd.way
 len:pd.cs.length=(bX nA d).length
 cs:∀(n:Nat) (c:Ct) (cd:ES),(bX nA d)[n]?=some c->pd.cs[n]?=some cd->ET H ys nA d c cd
theorem ET.mono(k:ap H f)(h:ET H y n d c C):ET f y n d c C:=#[h.nm,h.ed,h.dv.mono k,h.cs,h.len,λj w W a b=>let #[e,v]:=h.ws j w W a b;#[e,v.mono k]]
theorem x6.mono(k:ap H e)(h:x6 H N d y p):x6 e N d y p:=#[h.f,k _ _ h.ps,h.wy,h.wv.mono k,h.len,λn c C a b=>(h.cs n c C a b).mono k]
theorem ye{c d:Type}{R:c->d->Prop}:∀(l:List c),(∀a∈l,∃b,R a b)->∃m:List d,m.length=l.length/\∀(i:Nat) (a:c) (b:d),l[i]?=some a->m[i]?=some b->R a b
 | [],_=>#[[],Z,λi a b h=>by simp at h]
 |a::l,h=>by
  obtain⟨b,g⟩:=h a Mm;obtain⟨m,e,j⟩:=ye l λx k=>h x (Mt _ k);refine#[b::m,by rw[Mu,Mu,e],λi x y H f=>?_];cases i with
  |zero=>cases H;cases f;exact g
  |succ i=>exact j i x y (by simpa using H) (by simpa using f)
noncomputable def xU(p:fc)(n:Nat):List Str:=match p.cs[n]? with
 |some c=>c.nm
 |none=>[]
theorem x6.nms(h:x6 H N d y p):eI N d=xU p:=by
 funext n;unfold eI xU;by_cases a:n < p.cs.length
 ·have b:n < (bX N d).length:=by rw[<- h.len];exact a
  rw[LP a,LP b];exact(h.cs n _ _ (LP b)$ LP a).nm.symm
 ·rw[M4$ Pg a,M4 (by rw[<- h.len];exact Pg a)]
inductive OW where
 |ok (w:Sk) (L:bg) (t:Nat) |long |deep
inductive OC where
 |ok (s:Sk) (a:Int) (L:bg) (t:Nat) |long |deep
noncomputable def OC.cons(n:Int)(h:List Int)(w:Sk):OC->OC
 | .ok s a L t=>.ok (.st n h w s) a L t
 | .long=>.long
 | .deep=>.deep
noncomputable def Sk.app:Sk->Sk->Sk
 | .st n h w r,s=>.st n h w (r.app s)
 |_,s=>s
noncomputable def OC.pre(S:Sk):OC->OC
 | .ok s a L t=>.ok (S.app s) a L t
 | .long=>.long
 | .deep=>.deep
theorem X6:∀{s:Sk},s.ok true->s.app .nil=s
 | .nil,_=>rfl
 | .st n h w r,o=>by show Sk.st n h w (r.app .nil)=_;rw[X6 o.2]
theorem ZO{w:Sk}:∀{s:Sk},s.ok true->(Sk.put n h w s).app q=s.app (.st n h w q)
 | .nil,_=>rfl
 | .st a b c r,o=>by show Sk.st a b c ((Sk.put n h w r).app q)=Sk.st a b c (r.app (.st n h w q));rw[ZO o.2]
theorem vE{w s:Sk}(o:OC)(h:s.ok true):(o.cons n H w).pre s=o.pre (Sk.put n H w s):=by
 cases o with
 |ok q a L t=>show OC.ok (s.app (.st n H w q)) a L t= .ok ((Sk.put n H w s).app q) a L t;rw[ZO h]
 |long |deep=>rfl
abbrev nP:=Str->List Int->bg->Nat->OC
noncomputable def OC.cl(f:Str)(i:List Int):OC->OW
 | .ok s a L t=>.ok (.cl f i s a) L t
 | .long=>.long
 | .deep=>.deep
noncomputable def ip(call:nP)(C:bg)(k L:bg)(t:Nat)(e:DD):OW:=if t < 60 then match e with
 | .ask _ T=>.ok (.ask (if T.ev k=0 then 0 else 1)) L (t+1)
 | .st _ (.rd _ _ T)=>.ok (.rd (T.ev k) (look L (.inl (T.ev k)) (look C (.inl (T.ev k)) 0))) L (t+1)
 | .st _ (.wr _ _ T U)=>.ok (.wr (T.ev k) (U.ev k)) (bb L (.inl (T.ev k)) (.int (U.ev k))) (t+1)
 | .st _ (.cl _ f _ a)=>(call f (a.map λc=>c.2.ev k) L (t+1)).cl f (a.map λc=>c.2.ev k)
 |_=>.long
 else .long
theorem ZP{call:nP}(h:¬t < 60):ip call C k L t e= .long:=by unfold ip;rw[Mf h]
theorem YC{call:nP}(h:t < 60):ip call C k L t (.ask p T)= .ok (.ask (if T.ev k=0 then 0 else 1)) L (t+1):=by unfold ip;rw[Mb h]
theorem tI{call:nP}(h:t < 60):ip call C k L t (.st p$ .rd x a T)= .ok (.rd (T.ev k)$ look L (.inl$ T.ev k)$ look C (.inl$ T.ev k) 0) L (t+1):=by unfold ip;rw[Mb h]
theorem tJ{call:nP}(h:t < 60):ip call C k L t (.st p$ .wr a b T U)= .ok (.wr (T.ev k)$ U.ev k) (bb L (.inl$ T.ev k)$ .int$ U.ev k) (t+1):=by unfold ip;rw[Mb h]
theorem Qu{call:nP}(h:t < 60):ip call C k L t (.st p$ .cl x f q T)=(call f (T.map λc=>c.2.ev k) L$ t+1).cl f (T.map λc=>c.2.ev k):=by unfold ip;rw[Mb h]
noncomputable def DH(p:fc)(c:ES)(h:List Int)(w:Wh):Gd:=match c.ws[w.side]? with
 |some W=>lQ (xU p) (dw W.sets (sK c.e w (bp c.nm h))) W.goal
 |none=>.give 0
noncomputable def nO(call:nP)(C:bg)(p:fc):Nat->Gd->bg->Nat->OC
 |0,_,_,_=>.long
 |_+1,.give a,L,t=>.ok .nil a L t
 |m+1,.go n h,L,t=>match p.cs[n]? with
  |none=>.long
  |some c=>match ip call C (bp c.nm h) L t c.e with
   | .ok w l T=>(nO call C p m (DH p c h w.wh) l T).cons (n:Int) h w
   | .long=>.long
   | .deep=>.deep
noncomputable def ff:List fc->Str->Option fc
 | [],_=>none
 |p::r,f=>if p.f=f then some p else ff r f
theorem ZQ:∀{b:List fc} {i:Nat} {a:fc},b[i]?=some a->(∀(j:Nat) (p:fc),j < i->b[j]?=some p->p.f≠a.f)->ff b a.f=some a
 | [],i,a,h,_=>by simp at h
 |p::r,0,a,h,_=>by cases h;show(if p.f=p.f then some p else _)=_;rw[Mb Z]
 |p::r,i+1,a,h,k=>by show(if p.f=a.f then some p else ff r a.f)=_;rw[Mf$ k 0 p (Nat.succ_pos _) Z];exact ZQ (i:=i) (by simpa using h) λj q H c=>k (j+1) q (Nat.succ_lt_succ H) (by simpa using c)
noncomputable def cy(p:List fc)(C:bg):Nat->nP
 |0=>λ_ _ _ _=>.deep
 |j+1=>λf i L t=>match ff p f with
  |none=>.long
  |some a=>nO (cy p C j) C a 62 (lQ (xU a) (dw a.way.sets (bp a.ps i)) a.way.goal) L t
structure Ps(H:Hp)(nA pA:Addr)(ds:List Df)(ns:List Nat)(xs:List V)(pds:List fc):Prop where
 at':H pA=some (.tup xs)
 tr:aS H (ay$ ds.map$ fQ nA) .non xs
 dv:∃zs,dh H ds zs
 ok:pG ds ns
 pa:nY H ds ns
 dl:pds.length=ds.length
 pr:∀(i:Nat) (d:Df) (pd:fc),ds[i]?=some d->pds[i]?=some pd->∃ys,(d.b.Ok ys/\ys.length<=20)/\x6 H nA d ys pd
theorem Ps.mono(h:Ps H n c D N x p)(k:ap H e):Ps e n c D N x p:=#[k _ _ h.at',h.tr.mono k,let #[f,z]:=h.dv;#[f,z.mono k],h.ok,h.pa.mono k,h.dl,λi d g a b=>let #[Y,y,r]:=h.pr i d g a b;#[Y,y,r.mono k]]
theorem ZR(h:aS H (fQ n d) v []):EG H v d.f:=by obtain⟨_,a,x,rfl,b,_,_,Y,y,rfl,⟨rfl,_⟩,_⟩:=h;exact#[a,_,Z,b]
theorem tL:∀{D:List Df} {z:List V},dh H D z->∀{i:Nat} {d:Df},D[i]?=some d->∃B,em H d.b B
 |_::_,_,q,0,d,a=>by obtain⟨u,r,e,⟨B,_,_,_,h⟩,c⟩:=q;cases a;exact#[B,h]
 |_::_,_,#[u,r,e,_,c],i+1,d,a=>tL c (by simpa using a)
section
variable {H:Hp}{nA pA:Addr}{ds:List Df}{ns:List Nat}{xs:List V}{pds:List fc}
theorem Ps.part(h:Ps H nA pA ds ns xs pds){i:Nat}{d:Df}{v:V}(b:ds[i]?=some d)(q:xs[i]?=some v):∃y c,mQ H nA d y v/\pds[i]?=some c/\x6 H nA d y c/\ff pds d.f=some c:=by
 obtain⟨T,n,t⟩:=qW h.tr i v q;rw[Mp,b]at n;cases n;obtain⟨z,r⟩:=h.dv;obtain⟨_,_,s⟩:=(h.ok.1 d$ Mr b).1;have u:i < ds.length:=(List.getElem?_eq_some_iff.mp b).1;have g:pds[i]?=some (pds[i]'(by rw[h.dl];exact u)):=LP _;obtain⟨y,⟨O,Y⟩,k⟩:=h.pr i d _ b g;refine#[y,_,#[t,tL r b,O,Y,s],g,k,?_];rw[<- k.f];refine ZQ g λj p A l e=>?_;have a:j < ds.length:=by omega
 obtain⟨_,_,m⟩:=h.pr j _ p (LP a) l;rw[m.f,k.f]at e;have x:(ds.map Df.f)[j]?=some (ds[j]).f:=by rw[Mp,LP a];rfl
 have o:(ds.map Df.f)[i]?=some d.f:=by rw[Mp,b];rfl
 rw[<- e]at o;have:=(Ra (by rw[LU];exact a) h.ok.2.1).mp (x.trans o.symm);omega
theorem Ps.cs(h:Ps H nA pA ds ns xs pds){i:Nat}{d:Df}(a:ds[i]?=some d):∀f∈d.b.calls,f∈(ds.map Df.f).zip ns:=zK (h.ok.1 d$ Mr a).2
theorem Ps.at(h:Ps H nA pA ds ns xs pds){i:Nat}{d:Df}(b:ds[i]?=some d):∃v,xs[i]?=some v/\aS H (fQ nA d) v []/\EG H v d.f/\∀j x,j < i->xs[j]?=some x->∃g,EG H x g/\g≠d.f:=by
 have L:=zo h.tr;rw[LU]at L;have r:i < ds.length:=(List.getElem?_eq_some_iff.mp b).1;have t:∀(j:Nat) (x:V),xs[j]?=some x->∃c,ds[j]?=some c/\aS H (fQ nA c) x []:=λj x k=>by obtain⟨s,m,t⟩:=qW h.tr j x k;rw[Mp]at m;obtain⟨c,a,rfl⟩:=Option.map_eq_some_iff.mp m;exact#[c,a,t]
 have n:xs[i]?=some (xs[i]'UO):=LP UO;obtain⟨c,a,T⟩:=t _ _ n;rw[b]at a;cases a;refine#[_,n,T,ZR T,λj x u k=>?_];obtain⟨c,a,q⟩:=t j x k;refine#[c.f,ZR q,λe=>?_];have o:(ds.map Df.f)[j]?=some c.f:=by rw[Mp,a];rfl
 have p:(ds.map Df.f)[i]?=some d.f:=by rw[Mp,b];rfl
 rw[<- e]at p;have l:j < (ds.map Df.f).length:=(List.getElem?_eq_some_iff.mp o).1;have:=(Ra l h.ok.2.1).mp (o.trans p.symm);omega
theorem Ps.find(h:Ps H nA pA ds ns xs pds)(a:(f,n)∈(ds.map Df.f).zip ns):∃(i:Nat) (d:Df),ds[i]?=some d/\ns[i]?=some n/\d.f=f:=by
 obtain⟨i,b,e⟩:=List.mem_iff_getElem.mp a;have E:((ds.map Df.f).zip ns)[i]?=some (f,n):=by rw[<- e];exact LP b
 rw[RI]at E;rw[Mp]at E;obtain⟨d,c,g⟩:=Option.map_eq_some_iff.mp E.1;exact#[i,d,c,E.2,g]
end
theorem Rn.tm(h:Rn H C r d c l p m t L f)(k:dH r l H a):ap H a:=λb x e=>k b _ (jW e h.ins (by intro z;cases z)) (jW e h.lf (by intro z;cases z)) e
theorem Rn.same(h:Rn H C r d c l p m t L a)(s:aa H b):Rn b C r d c l p m t L a:=#[s _ _ h.ins,s _ _ h.lf,s _ _ h.ce,h.iL,h.iC,h.cl]
theorem Rn.rl(h:Rn H C r d c l p m t L a):r≠l/\r≠c:=#[jW h.ins h.lf (by intro z;cases z),jW h.ins h.ce (by intro z;cases z)]
def EE(r l:Addr)(H h:Hp):Prop:=∀b o,b≠r->b≠l->NX o->H b=some o->h b=some o
theorem Fl.next(h:Fl E L (EE r l H)):Fl (oI E) L (EE r l H):=λd i k x T t c e a j f=>by cases e;exact h d _ λb o N g n e=>Kg (H:=H) (k b o N g n e) n a f
theorem Fl.nextK(h:Fl E L (Kp H)):Fl (oI E) L (Kp H):=λd g k x T t c e a i f=>by cases e;exact h d _ λb o n e=>Kg (H:=H) (k b o n e) n a f
theorem Fl.mono{R S:Hp->Prop}(h:Fl E L R)(k:∀H,S H->R H):Fl E L S:=λd H s=>h d H (k H s)
inductive mz(C:Addr)(e:List V)(H:Hp)(Q:VK)(a:XK):Prop
 |mk(r c d b:Addr)(m:Int)(_:e=[.ref r,.ref d,.ref b,.int m])(_:H r=some (.ins C c []))(_:∀lA,H lA=none->Q .non (am (am H lA (.dK [])) r (.ins C c (iF b lA d m 0))))
def n8(A B:Prop)(E:XK)(T t:Addr)(R:Hp->Prop):Prop:=(A->Fl E T R)/\(B->Fl E t R)
theorem n8.mono{R S:Hp->Prop}(h:n8 A B E T t R)(k:∀H,S H->R H):n8 A B E T t S:=#[λa=>(h.1 a).mono k,λb=>(h.2 b).mono k]
theorem n8.next(h:n8 A B E T t (EE r l H)):n8 A B (oI E) T t (EE r l H):=#[λa=>(h.1 a).next,λb=>(h.2 b).next]
theorem n8.imp{R:Hp->Prop}(h:n8 A B E T t R)(a:c->A)(b:d->B):n8 c d E T t R:=#[λx=>h.1 (a x),λx=>h.2 (b x)]
inductive d9(C g f p:Addr)(j:Nat)(w:List V)(H:Hp)(Q:VK)(E:XK):Prop
 |mk(r m k o s h:Addr)(b t i:Nat)(L e:bg)(v:V)(d:Df)(l:List Df)(q:List Nat)(x:List V)(c:List fc)(n:List Int)(_:w=[.ref r,v,.ref h,.int (b:Int)])(_:b+j=16)(_:1<=j)(_:Rn H C r m k o s 60 t L e)(_:L.length<=t)(_:t<=60)(_:Ps H p s l q x c)(_:l[i]?=some d)(_:q[i]?=some n.length)(_:x[i]?=some v)(_:H h=some (.tup (n.map V.int)))(_:∀z∈n,gW z)(_:∀(u:V) (sk:Sk) (a:Int) (L':bg) (H':Hp),cy c e j d.f n L t= .ok sk a L' (t+sk.size)->mN H' d.f n sk a u->sk.ok true->sk.dep+1<=j->gW a->Rn H' C r m k o s 60 (t+sk.size) L' e->L'.length<=t+sk.size->t+sk.size<=60->dH r o H H'->Q u H')(_:n8 (cy c e j d.f n L t= .long) (cy c e j d.f n L t= .deep) E g f (EE r o H))
inductive oB(C f d m:Addr)(j:Nat)(p:List V)(H:Hp)(Q:VK)(E:XK):Prop
 |mk(r i g l o:Addr)(a t:Nat)(L c k:bg)(u:V)(e:DD)(s:List Str)(h:List Df)(n:List Nat)(q:List V)(b:List fc)(_:p=[.ref r,u,.int (a:Int)])(_:a+j=15)(_:Rn H C r i g l o 60 t L c)(_:L.length<=t)(_:t<=60)(_:Ps H m o h n q b)(_:aS H (Fv k e) u [])(_:A9 H s e)(_:GT k)(_:e.Cs ((h.map Df.f).zip n))(_:∀(w:Sk) (v:V) (L':bg) (H':Hp),ip (cy b c j) c k L t e= .ok w L' (t+1+w.size)->dF H' w v []->w.ok false->Hr e w.wh->w.dep<=j->Rn H' C r i g l o 60 (t+1+w.size) L' c->L'.length<=t+1+w.size->t+1+w.size<=60->dH r l H H'->Q v H')(_:n8 (ip (cy b c j) c k L t e= .long) (ip (cy b c j) c k L t e= .deep) E f d (EE r l H))
theorem Ef:ai z23z z23z (ae vQ):=bP
theorem yZ(F:aQ K "__init__" "BookRun.__init__" vQ f t)(j:RK K C)(GT:af P w K mg base aE 1 u c z22z (mG C))(B:aD K c z22z [])(M:mg "Turns"=some (.ref T))(v:B0 K T "__init__" u):af P w K mg base aE 2 f t z23z (mz C):=by
 refine F.ok Ef ?_ λx A o s H V Q E y h=>?_
 ·rintro _ _ _ _ ⟨r,d,z,k,m,rfl,_⟩;rfl
 obtain⟨r,d,z,k,m,rfl,g,q⟩:=h;refine#[_,(jd (jF$ @Af _ _ _ _ _ _ _ _ _ _ _ _ _ _ _ _ _ _ _ _ Z M v GT y.m B .nil ba (ja (pv 0)$ ja (pv 2)$ ja (pv 3) jb) UN UR UR UR)$ jg$ @zG _ _ _ _ _ _ _ _ (pv 0) (pv 1) Z),?_];refine ah λD n=>#[_,Z,_,Z,_,Z,r,d,k,m,Z,g,λL N=>n _ _ ?_];clear n;refine#[_,Z,_,Z,r,C,d,_,Z,jc,j.cl,j.n5,(by show 4 < 1000;decide),?_];have e:∀(i:Hp) (p O:HO),am (am i r p) r O=am i r O:=λi p O=>by
  funext b;by_cases a:b=r
  ·rw[a,jc,jc]
  ·rw[ji a,ji a,ji a]
 rw[e];exact q L N
theorem Kh(h:aS H (aA t) u []):∃a x,u= .ref a/\H a=some (.tup x)/\aS H (ay t) .non x:=let #[_,a,x,e,b,c]:=h;#[a,x,e,b,c]
theorem qm(h:aS H (ay (t::T)) .non x):∃y Y,x=y::Y/\aS H t y []/\aS H (ay T) .non Y:=let #[_,_,y,Y,e,a,b]:=h;#[y,Y,e,a,b]
theorem ZS(h:aS H (aK x) y []):y= .str x:=h.1
theorem Ki(h:aS H (au n) y []):y= .int n:=h.1
theorem KJ:∀{I:List Int} {v:List V},aS H (ay$ I.map au) .non v->v=I.map V.int
 | [],v,h=>h
 |i::I,v,h=>by obtain⟨y,Y,rfl,a,b⟩:=qm h;rw[Ki a,KJ b];rfl
theorem Xg{H:Hp}{w:Str}{t:List Tr}{u:V}(h:aS H (aA (aK w::t)) u []):∃a x,u= .ref a/\H a=some (.tup (.str w::x))/\aS H (ay t) .non x:=by obtain⟨a,x,rfl,b,h⟩:=Kh h;obtain⟨y,Y,rfl,c,d⟩:=qm h;rw[ZS c]at b;exact#[a,Y,Z,b,d]
theorem Q2{H:Hp}{w:Str}{i:Int}{u:V}(h:aS H (aA [aK w,au i]) u []):∃a,u= .ref a/\H a=some (.tup [.str w,.int i]):=by obtain⟨a,x,rfl,b,h⟩:=Xg h;obtain⟨y,Y,rfl,c,d⟩:=qm h;have e:Y=[]:=d;rw[Ki c,e]at b;exact#[a,Z,b]
theorem xG{H:Hp}{w:Str}{i:Int}{t:Tr}{u:V}(h:aS H (aA [aK w,au i,t]) u []):∃a y,u= .ref a/\H a=some (.tup [.str w,.int i,y])/\aS H t y []:=by obtain⟨a,x,rfl,b,h⟩:=Xg h;obtain⟨y,Y,rfl,c,d⟩:=qm h;obtain⟨z,f,rfl,g,j⟩:=qm d;have e:f=[]:=j;rw[Ki c,e]at b;exact#[a,z,Z,b,g]
theorem GJ:ai z18z z18z (ae As):=bP
theorem Dk(F:aQ K "what_of" "BookRun.what_of" As f fd)(ck:RK K C)(GT:af P w K mg base (gq P w) 1 fT f0 ["self"] (iW C TL))(bT:aD K f0 ["self"] [])(m0:bj K C "take_turn" fT)(GI:af P w K mg base aE 1 fI f2 ["self","cell"] (gN C))(bI:aD K f2 ["self","cell"] [])(m1:bj K C "number_in" fI)(GD:af P w K mg base (gq P w) 1 fD f3 ["deep"] (eX TD))(bD:aD K f3 ["deep"] [])(kD:keepIn K (.ref fD)=true)(mD:mg "deeper"=some (.ref fD))(cP:Cl P w K mg base 2 fP f6 ["parts","f"] mx "part_of")(GC:af P w K mg base (gq P w) (2*j+12) fC f4 z11z (d9 C TL TD nA j))(bC:aD K f4 z11z [])(m2:bj K C "chain_of" fC):af P w K mg base (gq P w) (2*j+13) f fd z18z (oB C TL TD nA j):=by
 refine F.ok1 GJ ?_ λc5 A o2 s H vs Q E hr h=>?_
 ·rintro _ _ _ _ ⟨r,D,W,I,O,M,t,L,Cs,k,u,e,ys,ds,ns,X,p1,rfl,_⟩;rfl
 obtain⟨r,D,W,I,O,M,t,L,Cs,k,u,e,ys,ds,ns,X,p1,rfl,h4,J,h5,ht,hP,B,h0,hk,h1,q,t0⟩:=h;refine#[_,(jd (jF$ vt (pv 0) ck.cl m0 GT hr.m bT .nil qh)$ jd (jz (ki$ jy$ pv 1) (jg$ jp$ jh$ ja jl$ ja (jy$ pv 1)$ ja (kh (pv 0) ck.cl m1 GI hr.m bI .nil ba$ ja (jy$ pv 1) jb) jb) ju)$ jd (jz (ki$ jy$ pv 1) (jg$ jp$ jh$ ja jl$ ja (kh (pv 0) ck.cl m2 GC hr.m bC .nil qh$ ja (cP.e hr.m$ ja (kf (pv 0) Z)$ ja (jy$ pv 1) jb)$ ja (jy$ pv 1)$ ja (zb GD hr.m Z mD kD bD .nil qh$ ja (pv 2) jb) jb) jb) ju)$ jd (jz (ki$ jy$ pv 1) (jg$ Je (zM hr) (kf (pv 0) Z) (jy$ pv 1) (jy$ pv 1) Z) ju)$ jg$ jp$ pv 1),?_];have b0:=aH;refine ah λY n=>#[_,Z,r,D,_,Z,J.ins,Z,r,D,W,I,O,60,t,Z,J.ins,λlt=>n _ _ ?_,λge=>((t0.1$ ZP UO).mono λH' kk=>λb o _ _ nx e=>kk b o nx e).nextK];clear n;have t1:ap H (am H r$ .ins C D$ iF W I O 60$ t+1):=λb X e=>by rw[ji$ jW e J.ins (by intro z;cases z)];exact e
 have R:Rn (am H r$ .ins C D$ iF W I O 60$ t+1) C r D W I O 60 (t+1) L Cs:=#[jc,by rw[ji J.rl.1.symm];exact J.lf,by rw[ji J.rl.2.symm];exact J.ce,J.iL,J.iC,J.cl];have k1:dH r I H (am H r$ .ins C D$ iF W I O 60$ t+1):=λb o n1 n2 e=>by rw[ji n1];exact e
 generalize am H r (.ins C D$ iF W I O 60$ t+1)=H1 at t1 R k1;have B:=B.mono t1;have lt':t+1<=60:=by omega
 have f5:∀(w:Sk) (X:List V) (S:Hp) (v:Addr),S v=none->dF (am S v$ .tup X) w (.ref v) []->w.ok false->ip (cy p1 Cs j) Cs k L t e= .ok w L (t+1)->Hr e w.wh->w.size=0->w.dep<=j->H1=S->Q (.ref v) (am S v$ .tup X):=λw X S v nv hw ok eq ft sz dp e2=>by subst e2;exact q w _ L _ (by rw[sz];exact eq) hw ok ft dp (by rw[sz];exact R.same$ je nv) UO UO$ k1.trans$ dH.of_same$ je nv
 cases e with
 |ask ta T=>
  obtain⟨p,rfl,G⟩:=Q2 B;refine ah λY n=>(jv G Z #[Z,_,Z,aX UQ$ n _ _ ?_]);clear n;refine ah λY n=>(jv G Z #[Z,_,Z,aX UQ$ n _ _ ?_]);clear n;refine ah λY n=>(jv G Z #[Z,_,Z,aX UQ$ n _ _ ?_]);clear n;refine#[_,Z,q (.ask (if T.ev k=0 then 0 else 1)) _ L _ (YC UO) #[p,Z,G] trivial ?_ (Ma _) R (by show L.length<=t+1+0;omega) lt' k1];show(if T.ev k=0 then (0:Int) else 1)=0∨(if T.ev k=0 then (0:Int) else 1)=1;split
  ·exact .inl Z
  ·exact .inr Z
 |st p0 l=>
  obtain⟨vs,_,h6,o1,c0⟩:=h0;cases l with
  |gv ta T |st x ta T=>cases c0
  |rd x ta T=>obtain⟨p,rfl,G⟩:=Q2 B;refine ah λY n=>(jv G Z #[Z,_,Z,cX UQ$ jv G Z #[_,Z,r,D,_,Z,R.ins,Z,jv G Z #[r,D,W,I,O,60,_,_,_,_,Z,R,i8,λv nv=>?_]]]);exact f5 (.rd (T.ev k)$ look L (.inl$ T.ev k)$ look Cs (.inl$ T.ev k) 0) _ _ v nv #[v,Z,jc] trivial (tI UO) (Kd R.iL$ Kd R.iC Ke) Z (Ma _) Z
  |wr ta ub T U=>
   obtain⟨p,y,rfl,G,hy⟩:=xG B;rw[Ki hy]at G;refine ah λY n=>(jv G Z #[Z,_,Z,aX UQ$ n _ _ ?_]);clear n;refine ah λY n=>(jv G Z #[Z,_,Z,aX UQ$ n _ _ ?_]);clear n;refine ah λY n=>(jv G Z #[Z,_,Z,cX UQ$ jv G Z #[_,Z,r,C,D,_,_,Z,R.ins,ck.cl,ck.n3,Z,jv G Z #[I,_,Z,nQ.k (k:=.inl (T.ev k)) R.lf UO,n _ _ ?_]]]);clear n;have pl:=qd (kvs:=L) (k:=.inl (T.ev k)) (v:=.int (U.ev k));have t3:ap H1 (am H1 I$ .dK$ bb L (.inl$ T.ev k)$ .int$ U.ev k):=λb X e=>by rw[ji$ jW e R.lf (by intro z;cases z)];exact e
   refine#[_,Z,q (.wr (T.ev k)$ U.ev k) _ (bb L (.inl$ T.ev k)$ .int$ U.ev k) _ (tJ UO) #[p,Z,t3 _ _ G] trivial trivial (Ma _) #[by rw[ji J.rl.1];exact R.ins,jc,by rw[ji J.cl];exact R.ce,R.iL.put _$ JQ hk o1.2.1,R.iC,R.cl] (by show _<=t+1+0;omega) lt' λb o n1 n2 e=>?_];rw[ji n2];exact k1 b o n1 n2 e
  |cl x f q' ts=>
   obtain⟨p,y3,rfl,G,hy⟩:=Xg B;obtain⟨y1,y4,rfl,e1,hy⟩:=qm hy;obtain⟨y2,y0,rfl,e2,hy⟩:=qm hy;have e3:y0=[]:=hy;subst e3;rw[ZS e1]at G;obtain⟨ag,a0,rfl,ha,N⟩:=Kh e2;have N:aS H1 (ay ((ts.map λc=>c.2.ev k).map au)) .non a0:=by rw[N8];exact N
   rw[KJ N]at ha;obtain⟨i,d,hd,hn,rfl⟩:=hP.find h1;have P1:=hP.mono t1;obtain⟨v,hv,_,h2,h3⟩:=P1.at hd;refine ah λY n=>(jv G Z #[Z,_,Z,aX UQ$ n _ _ ?_]);clear n;refine ah λY n=>(jv G Z #[Z,_,Z,cX UQ ?_]);clear n;refine#[_,Z,r,D,_,Z,R.ins,Z,_,Z,r,C,D,_,_,Z,R.ins,ck.cl,ck.n5,Z,jv G Z #[O,d.f,X,i,v,Z,P1.at',hv,h2,h3,jv G Z #[_,Z,(M:Int),Z,λdl=>?_,λdg=>((t0.2 (by have z:j=0:=UO;rw[Qu UO,z];rfl)).mono λS kk=>λb o n1 n2 nx e=>kk b o nx (k1 b o n1 n2 e)).nextK]]];refine#[r,D,W,I,O,ag,M+1,t+1,i,L,Cs,v,d,ds,ns,X,p1,ts.map λc=>c.2.ev k,Z,UO,UO,R,UO,lt',P1,hd,by rw[LU];exact hn,hv,ha,λz hz=>?_,λu sk a L' S eq hc ok dp ia R2 l2 t2 k2=>?_,n8.next ((t0.imp (λz=>by rw[Qu UO,z];rfl) (λz=>by rw[Qu UO,z];rfl)).mono λS kk=>λb o n1 n2 nx e=>kk b o n1 n2 nx (k1 b o n1 n2 e))]
   ·obtain⟨c,hc,rfl⟩:=List.mem_map.mp hz;exact JQ hk (o1.2.2 c hc).1
   ·obtain⟨c,g,ee,ss,rfl,c1,c2,c3,c4⟩:=hc;refine#[ci,λv2 nv=>?_];have s2:aa S (am S v2$ .tup [.str "call",.ref c]):=je nv;refine q (.cl d.f (ts.map λc=>c.2.ev k) sk a) _ L' _ (by rw[Qu UO,eq];rfl) #[v2,c,g,ee,ss,Z,jc,s2 _ _ c1,s2 _ _ c2,s2 _ _ c3,c4.mono$ aa.tm s2] ok ia (by show sk.dep+1<=j;omega) (R2.same s2) l2 t2 ((k1.trans k2).trans$ dH.of_same s2)
theorem Ck:fq (s++[x]) (-1)=some x:=by
 have l:(s++[x]).length=s.length+1:=by rw[LS];rfl
 unfold fq oe;rw[l,Mf UO,Mb UO];have e:(-1+((s.length+1:Nat):Int)).toNat=s.length:=by omega
 show(s++[x])[(-1+((s.length+1:Nat):Int)).toNat]?=_;rw[e];simp
inductive Hs(H:Hp)(nA:Addr)(d:Df)(u:V):Gd->Prop
 |give (p:Addr) (a:Int) (e:u= .ref p) (h:H p=some (.tup [.str "give",.int a])) (i:gW a):Hs H nA d u (.give a)
 |go (p hv:Addr) (n:Nat) (c:Ct) (is:List Int) (e:u= .ref p) (h:H p=some (.tup [.str "go",.int (n:Int),.ref hv])) (h2:H hv=some (.tup (is.map V.int))) (hc:(bX nA d)[n]?=some c) (hl:is.length=(canon c.M).length) (hi:∀i∈is,gW i):Hs H nA d u (.go n is)
theorem uH{H:Hp}(h:aS f (uG (eI N d) k g) u [])(j:GT k)(l:EV H Y d.b.cuts g):Hs f N d u (lQ (eI N d) k g):=by
 cases g with
 |give t T=>obtain⟨p,e,h⟩:=Q2 h;exact .give p _ e h (JQ j l.2.1)
 |nought=>obtain⟨p,e,h⟩:=Q2 h;exact .give p 0 e h Ke
 |go n=>
  obtain⟨p,y,e,h,q⟩:=xG h;obtain⟨a,X,rfl,m,c⟩:=Kh q;have r:n < (bX N d).length:=by rw[ZI];exact l
  have o:(bX N d)[n]?=some (bX N d)[n]:=LP r;have c:aS f (ay (((eI N d n).map λx=>look k (.inr x) 0).map au)) .non X:=by rw[N8];exact c
  rw[KJ c]at m;refine .go p a n _ _ e h m o (by rw[LU,uQ o]) λi s=>?_;obtain⟨x,_,rfl⟩:=List.mem_map.mp s;exact Kd j Ke
inductive CI(a:nP)(K:fc)(h:OC)(C r o n F J l N G:Addr)(b t j:Nat)(i:bg)(v:V)(d:Df)(H:Hp)(E:Nat)(P:_L.St)(k:Hp):Prop
 |mk(I:Option V)(u:V)(g:Gd)(m:Nat)(M:Sk)(O:List V)(L:bg)(p:P=[some (.ref r),some v,some (.ref l),some (.int (b:Int)),some (.ref N),some u,I])(q:k N=some (.lst O))(s:dF k M .non O)(w:M.ok true)(x:M.dep+1<=j)(y:Hs k G d u g)(z:Rn k C r o n F J 60 (t+M.size) L i)(A:L.length<=t+M.size)(B:t+M.size<=60)(D:dH r F H k)(c:E+t+M.size=61)(e:(nO a i K m g L (t+M.size)).pre M=h)(f:62<=m+(t+M.size))
theorem mZ:ai ["self","part","args","deep","steps","goal","what"] z11z (ae Ar):=bP
theorem Dg(F:aQ K "chain_of" "BookRun.chain_of" Ar f fd)(ck:RK K C)(cF:Cl P w K mg base 9 fF f2 ["part","args"] (gL nA) "first_of")(cD:Cl P w K mg base 9 fD f3 z10z (gK nA) "deed_at")(cO:Cl P w K mg base 9 fO f4 ["part","step"] (wT nA) "onward")(GW:af P w K mg base (gq P w) (2*j+13) fW f0 z18z (oB C TL TD nA j))(bW:aD K f0 z18z [])(m0:bj K C "what_of" fW)(m1:mg "tuple"=none):af P w K mg base (gq P w) (2*j+14) f fd z11z (d9 C TL TD nA$ j+1):=by
 refine F.ok1 mZ ?_ λc3 A o2 s H vs Q E hr h=>?_
 ·rintro _ _ _ _ ⟨r,dx,cA,lA,pA,ag,U,t,i,L,y,v,d,ds,ns,xs,x,is,rfl,_⟩;rfl
 obtain⟨r,dx,cA,lA,pA,ag,U,t,i,L,y,v,d,ds,ns,xs,x,is,rfl,b4,_,hR,a1,ht,hP,hd,hn,hv,ha,h3,q,t4⟩:=h;refine#[_,(jd (jB 4 mZ.nd$ jG jb)$ jd (jB 5 mZ.nd$ cF.e hr.m$ ja (pv 1)$ ja (pv 2) jb)$ jd (XD PassesOwn.leaving (ki$ jy$ pv 5)$ jd (jB 6 mZ.nd$ kh (pv 0) ck.cl m0 GW hr.m bW .nil qh$ ja (cD.e hr.m$ ja (pv 1)$ ja (jy$ pv 5)$ ja (jy$ pv 5) jb)$ ja (pv 3) jb)$ jd (jF$ jZ PySem.F.plainAttrs_list PySem.F.slot_list_append PySem.F.type_list_append jM (pv 4)$ ja (jh$ ja (jy$ pv 5)$ ja (jy$ pv 5)$ ja (pv 6) jb) jb)$ jg$ jB 5 mZ.nd$ cO.e hr.m$ ja (pv 1)$ ja (jo jr (pv 4) (vv Yx jf) (λ_ _=>Z)) jb)$ jg$ jp$ jh$ ja (jy$ pv 1)$ ja (pv 2)$ ja (jN jY Z m1 boot_tuple$ ja (pv 4) jb)$ ja (jy$ pv 5) jb),?_];have b5:=aH;obtain⟨ys,g,h1,b8,pr,a2⟩:=hP.part hd hv;obtain⟨ps,h4,a3,a4⟩:=hP.pa.2 i d _ hd hn;have e3:ps=g.ps:=by have z:=h4.symm.trans pr.ps;injection z with z;injection z with z;exact(List.map_inj_right λa b e=>by injection e).mp z
 subst e3;have e0:cy x y (j+1) d.f is L t=nO (cy x y j) y g 62 (lQ (xU g) (dw g.way.sets$ bp g.ps is) g.way.goal) L t:=by show(match ff x d.f with |none=>OC.long |some g=>nO (cy x y j) y g 62 (lQ (xU g) (dw g.way.sets$ bp g.ps is) g.way.goal) L t)=_;rw[a2]
 generalize cy x y (j+1) d.f is L t=X at q t4 e0;refine ah λF1 J=>#[fg,λS Y=>J _ _ ?_];clear J;have s1:aa H (am H S$ .lst []):=je Y;have l1:am H S (.lst []) S=some (.lst []):=jc;generalize am H S (.lst [])=H1 at s1 l1 ⊢;have e4:=pr.wy;have h2:=pr.wv;refine ah λF1 J=>#[_,Z,_,Z,v,ag,d,ys,g.ps,is,g.way,Z,h1.mono$ aa.tm s1,s1 _ _ h4,UO,s1 _ _ ha,a3.symm,h3,e4,h2.mono$ aa.tm s1,λu H2 hu s2=>J _ _ ?_];clear J;have S2:=s1.trans s2;have gz:GT (bp g.ps is):=KB h3;have g0:=uH (H:=H) hu (Jh h2.sets gz) h2.goal;rw[pr.nms]at g0;have s0:S≠r:=Ne.symm (jk hR.ins Y);have s3:S≠lA:=Ne.symm (jk hR.lf Y);have s9:cA≠S:=jk hR.ce Y;refine ah λF1 J=>?_;refine xJ (CI (cy x y j) g X C r dx cA lA pA ag S nA U t (j+1) y v d H) (61 - t) #[none,u,_,62,.nil,[],L,Z,s2 _ _ l1,Z,trivial,by show 0+1<=j+1;omega,g0,hR.same S2,a1,ht,dH.of_same S2,by show 61 - t+t+0=61;omega,by rw[e0];show OC.pre .nil (nO (cy x y j) y g 62 _ L t)=_;cases nO (cy x y j) y g 62 (lQ (xU g) (dw g.way.sets$ bp g.ps is) g.way.goal) L t<;>rfl,by show 62<=62+(t+0);omega] ?_;intro kk σ H3 E' rt fE F kT cF.k Gq kq hW;obtain⟨o6,u,gd,m,N,R,L1,rfl,w1,w2,w3,w4,w5,w6,w7,w8,w9,b9,W,b'⟩:=hW;obtain⟨m,rfl⟩:∃m',m=m'+1:=#[m - 1,UO];have t0:=hR.tm w9;have P3:=hP.mono t0;cases w5 with
 |give p a e h5 ia=>subst e;refine kq$ jv h5 Z #[Z,_,Z,?_];rw[show decide (V.str (Str.ofString "give")=V.str (Str.ofString "go"))=false by decide+kernel];refine cF.k _$ J _ _ ?_;obtain⟨pa,ca,wv,cs,e,h7,_⟩:=(h1.mono t0).parts;subst e;refine(jv h7 Z #[_,Z,_,Z,S,R,Z,.inl #[aI.of w1,λl2 n0=>?_]]);have s4:aa H3 (am H3 l2$ .tup R):=je n0;refine(jv (s4 _ _ h5) Z #[xW,λv2 nv=>?_]);have s5:=s4.trans (je (o:=.tup [.str d.f,.ref ag,.ref l2,.int a]) nv);have S5:dH r lA H (am (am H3 l2$ .tup R) v2$ .tup [.str d.f,.ref ag,.ref l2,.int a]):=w9.trans (dH.of_same s5);have W:OC.ok (N.app .nil) a L1 (t+N.size)=X:=W;rw[X6 w3]at W;exact q _ N a L1 _ W.symm #[v2,ag,l2,R,Z,jc,hR.tm S5 _ _ ha,aq jc nv,w2.mono$ aa.tm s5] w3 w4 ia (w6.same s5) w7 w8 S5
 |go p D n c hs e h5 h6 hc hl hi=>
  subst e;refine kq$ jv h5 Z #[Z,_,Z,?_];rw[show decide (V.str (Str.ofString "go")=V.str (Str.ofString "go"))=true by decide+kernel];refine kT _ ?_;clear kT cF.k J;have P1:=h1.mono t0;obtain⟨pa,ca,wv,cs,e9,h7,_,_,a5⟩:=P1.parts;obtain⟨ka,na,wa,dv,c4,_,c1⟩:=P1.cut a5 hc;have a':n < g.cs.length:=by rw[pr.len];exact(List.getElem?_eq_some_iff.mp hc).1
  obtain⟨cd,h'⟩:∃cd,g.cs[n]?=some cd:=#[_,List.getElem?_eq_getElem a'];have cr:=(pr.cs n c cd hc h').mono t0;obtain⟨c2,e,c0⟩:=cd;obtain⟨e1,ed,d0,e5,l0,b0⟩:=cr;have e1:c2=canon c.M:=e1;subst e1;have W:OC.pre N (match g.cs[n]? with
   |none=>OC.long
   |some c=>match ip (cy x y j) y (bp c.nm hs) L1 (t+N.size) c.e with
    | .ok w L1 t1=>(nO (cy x y j) y g m (DH g c hs w.wh) L1 t1).cons (n:Int) hs w
    | .long=>.long
    | .deep=>.deep)=X:=W
  rw[h']at W;have W:OC.pre N (match ip (cy x y j) y (bp (canon c.M) hs) L1 (t+N.size) e with
    | .ok w L1 t1=>(nO (cy x y j) y g m (DH g #[canon c.M,e,c0] hs w.wh) L1 t1).cons (n:Int) hs w
    | .long=>.long
    | .deep=>.deep)=X:=W
  have gk:GT (bp (canon c.M) hs):=KB hi;refine ah λF1 J=>#[_,Z,r,dx,_,Z,w6.ins,Z,_,Z,jv h5 Z$ jv h5 Z #[v,n,D,d,ys,c,hs,e,Z,P1,hc,h6,hl,hi,ed,d0,λud H4 b1 s4=>?_]];have t8:=t0.trans (aa.tm s4);refine#[_,Z,r,dx,cA,lA,pA,U,t+N.size,L1,y,bp (canon c.M) hs,ud,e,ys,ds,ns,xs,x,Z,UO,w6.same s4,w7,w8,hP.mono t8,b1,d0.mono$ aa.tm s4,gk,?_,λw uw L' H5 e7 hw o1 ft d1 R5 l5 t5 k5=>J _ _ ?_,?_]
  ·cases e with
   |ask=>trivial
   |st p0 l=>cases l<;>first |trivial |exact hP.cs hd _ e5
  ·clear J;have K5:dH r lA H3 H5:=(dH.of_same s4).trans k5;have t6:ap H3 H5:=w6.tm K5;have g5:=t6 _ _ h5;have w0:H5 S=some (.lst R):=K5 _ _ s0 s3 w1;have l3:=qY w3 w2;refine ah λF1 J=>#[_,Z,.inl #[Z,_,aI.of w0],jv g5 Z$ jv g5 Z #[_,Z,i8,λO n3=>?_]];have s6:aa H5 (am H5 O$ .tup [.int (n:Int),.ref D,uw]):=je n3;have e6:am H5 O (.tup [.int (n:Int),.ref D,uw]) O=some (.tup [.int (n:Int),.ref D,uw]):=jc;refine#[S,_,_,Z,Z,s6 _ _ w0,UO,J _ _ ?_];clear J;generalize am H5 O (.tup [.int (n:Int),.ref D,uw])=H6 at s6 e6;have b7:aP S H6 (am H6 S$ .lst$ R++[.ref O]):=λb o nb e=>by rw[ji nb];exact e
   have t3:ap H6 (am H6 S$ .lst$ R++[.ref O]):=λb xs e=>b7 _ _ (jW e (s6 _ _ w0) (by intro z;cases z)) e;have w':am H6 S (.lst$ R++[.ref O]) S=some (.lst$ R++[.ref O]):=jc;generalize am H6 S (.lst$ R++[.ref O])=H7 at b7 t3 w';have t2:ap H5 H7:=λb xs e=>t3 _ _ (s6 _ _ e);have B:ap H3 H7:=t6.trans t2;have G:w.wh.side < c.ws.length:=by
    rw[c1.v.len,<- ed];cases e with
    |ask ta T=>show _ < 2;unfold Wh.side;split<;>(try split)<;>omega
    |st p0 l=>show _ < 1;cases w<;>first |exact Nat.one_pos |exact o1.elim | (cases l<;>exact ft.elim)
   obtain⟨I,h0⟩:∃I,c0[w.wh.side]?=some I:=#[_,List.getElem?_eq_getElem (by rw[l0];exact G)];obtain⟨e2,a0⟩:=b0 _ _ I (List.getElem?_eq_getElem G) h0;have sv:mV H7 nA d ys v O n D uw c hs w.wh e I:=#[P1.mono B,t3 _ _ e6,hc,B _ _ h6,hl,hi,(IV o1 hw).mono t2,ed,d0.mono B,ft,by rw[e2];exact List.getElem?_eq_getElem G,a0.mono B];have b2:fq (R++[V.ref O]) (-1)=some (.ref O):=Ck;refine#[_,Z,_,Z,_,Z,S,_,_,_,Z,Z,aI.of w',b2,v,uw,O,D,n,d,ys,c,hs,w.wh,e,I,Z,sv,λu2 H8 b3 s8=>?_];have t7:=aa.tm s8;have t':=B.trans t7;have g1:=uH (H:=H7) b3 (Jh sv.wdv.sets$ sT ft gk) sv.wdv.goal;have e8:DH g #[canon c.M,e,c0] hs w.wh=lQ (xU g) (dw I.sets$ sK e w.wh$ bp (canon c.M) hs) I.goal:=by show(match c0[w.wh.side]? with |some wd=>lQ (xU g) (dw wd.sets$ sK e w.wh$ bp (canon c.M) hs) wd.goal |none=>Gd.give 0)=_;rw[h0]
   rw[pr.nms,<- e8]at g1;rw[e7]at W;have W:OC.pre N ((nO (cy x y j) y g m (DH g #[canon c.M,e,c0] hs w.wh) L'$ t+N.size+1+w.size).cons (n:Int) hs w)=X:=W;rw[vE _ w3]at W;have s7:=X5 (n:=(n:Int)) (hs:=hs) (w:=w) w3;have R7:Rn H7 C r dx cA lA pA 60 (t+N.size+1+w.size) L' y:=#[b7 _ _ (Ne.symm s0)$ s6 _ _ R5.ins,b7 _ _ (Ne.symm s3)$ s6 _ _ R5.lf,b7 _ _ s9$ s6 _ _ R5.ce,R5.iL,R5.iC,R5.cl];have ez:t+N.size+1+w.size=t+(Sk.put (n:Int) hs w N).size:=by rw[s7];omega
   rw[ez]at R7 l5 t5 W;refine fE (kk - (w.size+1)) _ _ UO #[_,u2,_,m,Sk.put (n:Int) hs w N,R++[.ref O],L',Z,s8 _ _ w',(BG (t3 _ _ e6) (B _ _ h6) (hw.mono t2) w3$ w2.mono B).mono t7,ZM o1 w3,?_,g1,R7.same s8,l5,t5,?_,by rw[s7];omega,W,UO]
   ·have:=ZN (n:=(n:Int)) (hs:=hs) (w:=w) (j:=j) d1 w3 UO;omega
   ·intro b o n1 n2 e;exact s8 _ _$ b7 _ _ (jk e Y)$ s6 _ _$ K5 _ _ n1 n2$ w9 _ _ n1 n2 e
  ·exact n8.next ((t4.imp (λz=>by rw[z]at W;exact W.symm) (λz=>by rw[z]at W;exact W.symm)).mono λH5 kk=>λb o n1 n2 nx e=>kk b o n1 n2 nx (s4 _ _$ w9 _ _ n1 n2 e))
inductive pq(f e l:Addr)(o:List V)(H:Hp)(Q:VK)(E:XK):Prop
 |mk(n g h:Addr)(i:Nat)(c:bg)(d:Df)(j:List Df)(m:List Nat)(p:List V)(b:List fc)(k:List Int)(_:o=[.ref n,.str d.f,.ref g,.ref h,.int 60])(_:Ps H l n j m p b)(_:j[i]?=some d)(_:m[i]?=some k.length)(_:H g=some (.tup (k.map V.int)))(_:∀z∈k,gW z)(_:H h=some (.dK c))(_:GT c)(_:∀(u:V) (sk:Sk) (a:Int) (L':bg) (H':Hp),cy b c 16 d.f k [] 0= .ok sk a L' sk.size->mN H' d.f k sk a u->sk.ok true->sk.dep<=15->sk.size<=60->aa H H'->Q u H')(_:n8 (cy b c 16 d.f k [] 0= .long) (cy b c 16 d.f k [] 0= .deep) E f e (Kp H))
theorem Ad(h:aS H (fQ n d) v []):∃p r,v= .ref p/\H p=some (.tup (.str d.f:: .ref d.pa::r)):=by obtain⟨_,a,x,rfl,b,_,_,c,y,rfl,⟨rfl,_⟩,_,_,e,Y,rfl,⟨rfl,_⟩,_⟩:=h;exact#[a,_,Z,b]
theorem C5:af P w K mg base (gq P w) k f c z11z (d9 C T b N 0):=by
 have n:∀{V H Q E},¬d9 C T b N 0 V H Q E:=by rintro V H Q E ⟨r,e,g,l,j,m,D,t,i,L,q,v,d,u,x,X,p,I,_,_,z,_⟩;omega
 exact#[λV H Q E h=>(n h).elim,λA o s H a U V Q E y B F G h=>(n h).elim]
theorem Fg(d:RK K C)(F:aQ K "chain_of" "BookRun.chain_of" Ar k f)(B:aD K f z11z [])(m:bj K C "chain_of" k)(l:aQ K "what_of" "BookRun.what_of" As D e)(o:aD K e z18z [])(M:bj K C "what_of" D)(p:Cl P w K mg base 9 Q E ["part","args"] (gL n) "first_of")(q:Cl P w K mg base 9 U H z10z (gK n) "deed_at")(r:Cl P w K mg base 9 Y I ["part","step"] (wT n) "onward")(GT:af P w K mg base (gq P w) 1 J g ["self"] (iW C T))(s:aD K g ["self"] [])(a:bj K C "take_turn" J)(G:af P w K mg base aE 1 L h ["self","cell"] (gN C))(t:aD K h ["self","cell"] [])(b:bj K C "number_in" L)(u:af P w K mg base (gq P w) 1 v i ["deep"] (eX N))(x:aD K i ["deep"] [])(y:keepIn K (.ref v)=true)(z:mg "deeper"=some (.ref v))(A:Cl P w K mg base 2 fP O ["parts","f"] mx "part_of")(c:mg "tuple"=none):∀j,af P w K mg base (gq P w) (2*j+12) k f z11z (d9 C T N n j)
 |0=>C5
 |j+1=>Dg F d p q r (Dk l d GT s a G t b u x y z A (Fg d F B m l o M p q r GT s a G t b u x y z A c j) B m) o M c
theorem BO:ai ["parts","f","args","cells","most","part"] z25z (ae D'):=bP
theorem DA(F:aQ K "run" "run" D' f fd)(ck:RK K C)(mk:Mk K C fI)(GI:af P w K mg base aE 2 fI y z23z (mz C))(bI:aD K y z23z [])(mC:mg "BookRun"=some (.ref C))(cB:Cl P w K mg base 2 fB f0 ["ones","f","args"] iB "begun")(GA:af P w K mg base (gq P w) 44 fA B z11z (d9 C TL TD nA 16))(bA:aD K B z11z [])(M:bj K C "chain_of" fA):af P w K mg base (gq P w) 45 f fd z25z (pq TL TD nA):=by
 refine F.ok1 BO ?_ λc0 A O s H vs Q E G h=>?_
 ·rintro _ _ _ _ ⟨g,I,j,i,J,d,ds,ns,X,k,is,rfl,_⟩;rfl
 obtain⟨g,I,j,i,J,d,ds,ns,X,k,is,rfl,x,L,hn,ha,R,t,T,q,U⟩:=h;refine#[_,(jd (jB 5 BO.nd$ cB.e G.m$ ja (pv 0)$ ja (pv 1)$ ja (pv 2) jb)$ jg$ jp$ kh (Zv mk GI G.m Z mC bI .nil ba$ ja (pv 0)$ ja (pv 3)$ ja (pv 4) jb) ck.cl M GA G.m bA .nil qh$ ja (pv 5)$ ja (pv 2)$ ja jf jb),?_];obtain⟨v,hv,tv,h0,V⟩:=x.at L;obtain⟨p,pr,rfl,hp⟩:=Ad tv;obtain⟨ps,W,h1,_⟩:=x.pa.2 i d _ L hn;refine ah λF1 f1=>#[_,Z,_,Z,_,Z,g,I,d.f,X,_,i,.ref p,p,d.pa,pr,_,Z,x.at',hv,Z,hp,W,ha,by rw[LU,LU];omega,V,f1 _ _ ?_];clear f1;refine#[_,Z,_,Z,_,Z,λr D N nd ne=>?_];have s0:aa H (am (am H D$ .own r) r$ .ins C D []):=λc o e=>by rw[ji$ jk e N,ji$ jk e nd];exact e
 refine#[r,D,g,j,60,Z,jc,λl Y=>#[Z,?_]];have n0:l≠r:=λe=>by rw[e,jc]at Y;cases Y
 have n:H l=none:=by
  cases z:H l with
  |none=>rfl
  |some o=>have:=s0 _ _ z;rw[Y]at this;cases this
 have S:aa H (am (am (am (am H D$ .own r) r$ .ins C D []) l$ .dK []) r$ .ins C D$ iF j l g 60 0):=λc o e=>by rw[ji$ jk e N,ji$ jk e n];exact s0 _ _ e
 have R1:Rn (am (am (am (am H D$ .own r) r$ .ins C D []) l$ .dK []) r$ .ins C D$ iF j l g 60 0) C r D j l g 60 0 [] J:=#[jc,by rw[ji n0];exact jc,S _ _ t,GT.nil,T,jk t n];generalize am (am (am (am H D$ .own r) r$ .ins C D []) l$ .dK []) r (.ins C D$ iF j l g 60 0)=H1 at S R1;have t0:=aa.tm S;refine#[r,D,_,Z,R1.ins,Z,_,Z,_,Z,r,D,j,l,g,I,0,0,i,[],J,.ref p,d,ds,ns,X,k,is,Z,Z,UN,R1,LV _,UN,x.mono t0,L,hn,hv,S _ _ ha,R,λu sk a L' H2 eq hc ok dp ia R2 l2 t2 k2=>?_,n8.next$ U.mono λH' kk=>λb o nx e=>kk b o (jk e N) (jk e n) nx (S _ _ e)];exact q u sk a L' H2 (by rw[Oa]at eq;exact eq) hc ok UO UO λc o e=>k2 c o (jk e N) (jk e n) (S _ _ e)
noncomputable def EM:Sk->Tr
 | .nil=>.nil
 | .st n h w r=>.cons (aA [au n,aA (h.map au),EM w]) (EM r)
 | .ask b=>aA [aK "ask",au b]
 | .rd c i=>aA [aK "read",au c,au i]
 | .wr c i=>aA [aK "write",au c,au i]
 | .cl f I s a=>aA [aK "call",aA [aK f,aA (I.map au),.tp (EM s),au a]]
theorem wP:∀{b:Bool} {s:Sk},s.ok b->(EM s).isL=b
 |true,.nil,_=>rfl
 |true,.st _ _ _ _,_=>rfl
 |false,.cl _ _ _ _,_=>rfl
 |false,.ask _,_=>rfl
 |false,.rd _ _,_=>rfl
 |false,.wr _ _,_=>rfl
theorem km{H:Hp}{a:List Int}(e:H h=some (.tup$ a.map V.int)):aS H (aA$ a.map au) (.ref h) []:=jD e Kf
theorem Kr:∀{b:Bool} {s:Sk} {u:V} {X:List V},s.ok b->dF H s u X->(b=false->X=[])->(b=true->u= .non)->aS H (EM s) u X
 |true,.nil,_,_,_,h,_,_=>h
 |true,.st n t w r,_,_,o,q,_,z=>by obtain⟨p,h,u,y,e,d,j,k,l⟩:=q;rw[e,z Z];exact#[Z,wP o.2,_,_,Z,jD d$ jm Z jX$ jm Z (km j)$ jm (wP o.1) (Kr o.1 k (λ_=>Z) (λx=>nomatch x)) jA,Kr o.2 l (λx=>nomatch x) (λ_=>Z)]
 |false,.ask b,_,_,_,q,z,_=>by obtain⟨p,e,h⟩:=q;rw[e,z Z];exact jD h (jm Z jU (jm Z jX jA))
 |false,.rd c i,_,_,_,q,z,_=>by obtain⟨p,e,h⟩:=q;rw[e,z Z];exact jD h (jm Z jU (jm Z jX (jm Z jX jA)))
 |false,.wr c i,_,_,_,q,z,_=>by obtain⟨p,e,h⟩:=q;rw[e,z Z];exact jD h (jm Z jU (jm Z jX (jm Z jX jA)))
 |false,.cl f I s a,_,_,o,q,z,_=>by obtain⟨p,c,g,e,S,E,d,j,k,l,m⟩:=q;rw[E,z Z];exact jD d$ jm Z jU$ jm Z (jD j$ jm Z jU$ jm Z (km k)$ jm Z #[wP o,e,S,Z,l,Kr (b:=true) o m (λx=>nomatch x) (λ_=>Z)] (jm Z jX jA)) jA
theorem zq:∀i:List Int,(ay$ i.map au).dep=0
 | []=>rfl
 |_::i=>by show max 0 (ay (i.map au)).dep=0;rw[zq i];rfl
theorem DR{p:List Str}{v:V}(h:mQ H N d y v)(g:H d.pa=some (.tup$ p.map V.str)):∃q,x6 H N d y q:=by
 obtain⟨W,E,i⟩:=h.way;obtain⟨a,J,L,O,rfl,Q,m,r,j⟩:=h.parts;obtain⟨C,s,t⟩:=ye (R:=λc u=>ET H y N d c u) (bX N d) λc k=>by obtain⟨n,x,z⟩:=List.mem_iff_getElem.mp k;obtain⟨S,T,U,X,A,_,o⟩:=h.cut j (n:=n) (c:=c) (by rw[<- z];exact LP x);obtain⟨e,B,D,F⟩:=Fu o.v.deed;obtain⟨G,I,l⟩:=ye (R:=λ(w:Wy) (W:WD)=>W.wy N=w/\xS H y d.b.cuts d.b.size W) c.ws λw m=>o.v.ways w m;exact#[#[canon c.M,e,G],Z,B,D,F,I,l]
 exact#[#[d.f,p,W,C],Z,g,E,i,s,t]
theorem Gs{H:Hp}{D:List Df}(a:H l=some (.tup x))(T:aS H (ay$ D.map$ fQ n) .non x)(g:∃z,dh H D z)(o:pG D N)(j:nY H D N):∃p,Ps H n l D N x p:=by
 have L:=zo T;rw[LU]at L;obtain⟨p,m,q⟩:=ye (R:=λd c=>∃y,(d.b.Ok y/\y.length<=20)/\x6 H n d y c) D λd e=>by
  obtain⟨i,r,E⟩:=List.mem_iff_getElem.mp e;have h:D[i]?=some d:=by rw[<- E];exact LP r
  have s:x[i]?=some (x[i]'UO):=LP _;obtain⟨t,k,u⟩:=qW T i _ s;rw[Mp,h]at k;cases k;obtain⟨z,A⟩:=g;obtain⟨⟨y,Y,o⟩,_,S⟩:=(o.1 d e).1;obtain⟨C,f,_⟩:=j.v d e;obtain⟨c,B⟩:=DR (v:=x[i]'UO) #[u,tL A h,o,Y,S] f;exact#[c,y,#[o,Y],B]
 exact#[p,a,T,g,o,j,m,q]
theorem Bl{call:nP}{w:Sk}(h:ip call C k L t e= .ok w l T):t < 60:=by
 by_cases z:t < 60
 ·exact z
 ·rw[ZP z]at h;cases h
end _K
namespace _K
open PySem PySem.Spec PyProof.Rows _L
variable {P:Program}{w:World}{K:Frag}{mg:Str->Option Value}{base:Heap}
noncomputable def CZ:V->Bool
 | .int _=>true
 | .str _=>true
 |_=>false
noncomputable def _root_._L.Tr.In:Tr->Prop
 | .lf v=>CZ v=true
 | .tp l=>l.In
 | .nil=>True
 | .cons h t=>h.In/\t.In
noncomputable def _root_._L.Tr.items:Tr->List Tr
 | .cons h t=>h::t.items
 |_=>[]
theorem Q3{H:Hp}:∀{t u:Tr} {x:V} {xs:List V},aS H t x xs->aS H u x xs->t.isL=u.isL->t.In->u.In->t=u
 | .lf v,.lf w,_,_,h,k,_,_,_=>by rw[<- h.1,<- k.1]
 | .lf v,.tp m,_,_,h,k,_,i,_=>by obtain⟨_,a,_,e,_⟩:=k;have E:=h.1;rw[e]at E;rw[<- E]at i;cases i
 | .tp l,.lf v,_,_,k,h,_,_,i=>by obtain⟨_,a,_,e,_⟩:=k;have E:=h.1;rw[e]at E;rw[<- E]at i;cases i
 | .tp l,.tp m,_,_,h,k,_,i,j=>by obtain⟨o,a,xs,e,p,q⟩:=h;obtain⟨r,b,Y,c,d,f⟩:=k;rw[e]at c;cases c;rw[p]at d;cases d;rw[Q3 q f (o.trans r.symm) i j]
 | .nil,.nil,_,_,_,_,_,_,_=>rfl
 | .nil,.cons _ _,_,_,h,k,_,_,_=>by obtain⟨_,_,_,_,e,_⟩:=k;have h:_=[]:=h;rw[e]at h;cases h
 | .cons _ _,.nil,_,_,k,h,_,_,_=>by obtain⟨_,_,_,_,e,_⟩:=k;have h:_=[]:=h;rw[e]at h;cases h
 | .cons h t,.cons G T,_,_,k,s,_,i,j=>by obtain⟨A,B,y,Y,e,d,f⟩:=k;obtain⟨C,D,I,F,c,g,n⟩:=s;rw[e]at c;cases c;rw[Q3 d g (A.trans C.symm) i.1 j.1,Q3 f n (B.trans D.symm) i.2 j.2]
 | .lf _,.nil,_,_,_,_,z,_,_=>nomatch z
 | .lf _,.cons _ _,_,_,_,_,z,_,_=>nomatch z
 | .tp _,.nil,_,_,_,_,z,_,_=>nomatch z
 | .tp _,.cons _ _,_,_,_,_,z,_,_=>nomatch z
 | .nil,.lf _,_,_,_,_,z,_,_=>nomatch z
 | .nil,.tp _,_,_,_,_,z,_,_=>nomatch z
 | .cons _ _,.lf _,_,_,_,_,z,_,_=>nomatch z
 | .cons _ _,.tp _,_,_,_,_,z,_,_=>nomatch z
theorem qG:∀{l:Tr} {X:List V},l.isL=true->l.In->aS H l .non X->X.length=l.items.length/\∀(j:Nat) (x:V),X[j]?=some x->∃t,l.items[j]?=some t/\t.isL=false/\t.In/\t.dep<=l.dep/\aS H t x []
 | .nil,X,_,_,h=>by have h:X=[]:=h;rw[h];exact#[Z,λj x z=>by simp at z]
 | .cons a t,X,_,i,h=>by
  obtain⟨A,c,y,Y,e,k,d⟩:=h;subst e;obtain⟨L,f⟩:=qG c i.2 d;refine#[Ng (·+1) L,λj x b=>?_];cases j with
  |zero=>cases b;exact#[a,Z,A,i.1,Ol _ _,k]
  |succ j=>obtain⟨u,g,m,n,o,p⟩:=f j x (by simpa using b);exact#[u,by simpa [_L.Tr.items] using g,m,n,Mg o$ Ob _ _,p]
 | .lf _,_,z,_,_=>nomatch z
 | .tp _,_,z,_,_=>nomatch z
theorem X7:∀{l m:Tr} {x y:List V},l.isL=true->m.isL=true->aS H l .non x->aS H m .non y->(l=m↔l.items=m.items)
 | .nil,.nil,_,_,_,_,_,_=>#[λ_=>Z,λ_=>Z]
 | .nil,.cons _ _,_,_,_,_,_,_=>#[λz=>(nomatch z),λz=>(nomatch z)]
 | .cons _ _,.nil,_,_,_,_,_,_=>#[λz=>(nomatch z),λz=>(nomatch z)]
 | .cons a t,.cons b u,_,_,_,_,h,k=>by obtain⟨_,A,_,_,_,_,d⟩:=h;obtain⟨_,B,_,_,_,_,c⟩:=k;have i:=X7 A B d c;refine#[λz=>by cases z;rfl,λz=>?_];have z:a::t.items=b::u.items:=z;injection z with e f;rw[e,i.mpr f]
 | .lf _,_,_,_,z,_,_,_=>nomatch z
 | .tp _,_,_,_,z,_,_,_=>nomatch z
 | .nil,.lf _,_,_,_,z,_,_=>nomatch z
 | .nil,.tp _,_,_,_,z,_,_=>nomatch z
 | .cons _ _,.lf _,_,_,_,z,_,_=>nomatch z
 | .cons _ _,.tp _,_,_,_,z,_,_=>nomatch z
open Classical in
noncomputable def gp(t u:Tr):Bool:=decide (t=u)
open Classical in
theorem zD(h:t=u):gp t u=true:=by unfold gp;exact Mc h
open Classical in
theorem zj(h:t≠u):gp t u=false:=by unfold gp;exact LZ h
noncomputable def lh(l m:Tr)(j:Nat):Bool:=match l.items[j]?,m.items[j]? with
 |some t,some u=>gp t u
 |_,_=>true
theorem X8{l m:Tr}(a:l.isL=true)(b:m.isL=true)(h:aS H l .non x)(k:aS H m .non y)(d:n=l.items.length)(E:N=m.items.length):((List.range$ min n N).all (lh l m)&&n==N)=gp l m:=by
 by_cases e:l=m
 ·subst e;rw[zD Z,d,E,PY,Bool.and_true,O9];intro j _;unfold lh;cases l.items[j]? with
  |none=>rfl
  |some t=>exact zD Z
 ·rw[zj e];have f:l.items≠m.items:=λz=>e ((X7 a b h k).mpr z);by_cases g:n=N
  ·have z:(List.range$ min n N).all (lh l m)=false:=by rw[SU];intro z;rw[O9]at z;refine f$ O7 UO λj i o=>?_;have:=z j (List.mem_range.mpr UO);unfold lh at this;rw[LP i,LP o]at this;exact Classical.byContradiction λc=>by have C:=zj c;dsimp only at this;rw[C]at this;cases this
   rw[z];rfl
  ·rw[show(n==N)=false from beq_eq_false_iff_ne.mpr g,PQ]
section
open PySem.SeqAt
variable {X:Cx}
theorem FY{w:V}(H:CZ v=true)(h:CZ w=true)(R:aF v a)(r:aF w b):EqAt A s a b (gp (.lf v)$ .lf w):=by
 cases v with
 |int i=>
  obtain⟨T,rfl⟩:=R;cases w with
  |int j=>
   obtain⟨t,rfl⟩:=r;have z:=T1 (A:=A) (s:=s) i T j t;by_cases e:i=j
   ·subst e;rw[PY]at z;rw[zD Z];exact z
   ·rw[beq_eq_false_iff_ne.mpr e]at z;rw[zj (λc=>e (by injection c with c;injection c))];exact z
  |str y=>obtain⟨t,rfl⟩:=r;rw[zj (λc=>by injection c with c;cases c)];exact EqAt.int_str _ _ _ _
  |_=>cases h
 |str i=>
  obtain⟨T,rfl⟩:=R;cases w with
  |str j=>
   obtain⟨t,rfl⟩:=r;have z:=T0 (A:=A) (s:=s) i T j t;by_cases e:i=j
   ·subst e;rw[PY]at z;rw[zD Z];exact z
   ·rw[beq_eq_false_iff_ne.mpr e]at z;rw[zj (λc=>e (by injection c with c;injection c))];exact z
  |int y=>obtain⟨t,rfl⟩:=r;rw[zj (λc=>by injection c with c;cases c)];exact EqAt.str_int _ _ _ _
  |_=>cases h
 |_=>cases H
theorem GH(I:ax X p σ H s)(n:Nat)(G:∀(t:Tr) {A:Around},t.dep<=n->A.units+n < cLine->t.In->t.isL=false->∀{u:Tr} {x y:V},u.In->u.isL=false->aS H t x []->aS H u y []->∀a b,aF x a->aF y b->EqAt A s a b (gp t u)){l m:Tr}(hn:l.dep<=n)(hu:A.units+n+1 < cLine)(J:l.In)(L:m.In)(d:l.isL=true)(f:m.isL=true)(M:H g=some (.tup i))(N:H B=some (.tup o))(T:aS H l .non i)(q:aS H m .non o):RcAt A s (.ref g) (.ref B) (gp (.tp l)$ .tp m):=by
 obtain⟨v,r,O,_⟩:=I.tuple (aB.of (K:=X.K) M);obtain⟨C,R,Q,_⟩:=I.tuple (aB.of (K:=X.K) N);obtain⟨S,U⟩:=qG d J T;obtain⟨W,Y⟩:=qG f L q;have z:=RcAt.tuples (A:=A) (e:=lh l m) (show s.heap.IsTuple g v.toArray from O) (show s.heap.IsTuple B C.toArray from Q) UO (λj h1 h2=>?_)
 ·rw[X8 d f T q (by rw[LY,<- r.length,S]) (by rw[LY,<- R.length,W])]at z;have E:gp (.tp l) (.tp m)=gp l m:=by
   by_cases c:l=m
   ·rw[zD c,zD (by rw[c])]
   ·rw[zj c,zj (λk=>c (by injection k))]
  rw[E];exact z
 ·have la:=r.length;have lb:=R.length;have D:j < i.length:=by simp at h1;omega
  have h:j < o.length:=by simp at h2;omega
  obtain⟨u1,q1,r1⟩:=r.get (LP D);obtain⟨u2,q2,r2⟩:=R.get (LP h);have e1:v.toArray[j]=u1:=by obtain⟨_,e⟩:=List.getElem?_eq_some_iff.mp q1;simpa using e
  have E:C.toArray[j]=u2:=by obtain⟨_,e⟩:=List.getElem?_eq_some_iff.mp q2;simpa using e
  rw[e1,E];obtain⟨F,g1,g2,g3,g4,g5⟩:=U j _ (LP D);obtain⟨u',k1,k2,k3,k4,k5⟩:=Y j _ (LP h);have et:lh l m j=gp F u':=by unfold lh;rw[g1,k1]
  rw[et];exact G F (A:=A.in1) UO (by show A.units+1+n < cLine;omega) g3 g2 k3 k2 g5 k5 _ _ r1 r2
theorem Q4(I:ax X z Y H s):∀(n:Nat) (t:Tr) {A:Around},t.dep<=n->A.units+n < cLine->t.In->t.isL=false->∀{u:Tr} {x y:V},u.In->u.isL=false->aS H t x []->aS H u y []->∀a b,aF x a->aF y b->EqAt A s a b (gp t u):=by
 intro n;induction n with
 |zero=>
  intro t A k J i L u x y d g j h a b R r;cases t with
  |tp l=>exact absurd k (by show ¬l.dep+1<=0;omega)
  |nil |cons _ _=>cases L
  |lf v=>
   obtain⟨rfl,_⟩:=j;cases u with
   |nil |cons _ _=>cases g
   |lf w=>obtain⟨rfl,_⟩:=h;exact FY i d R r
   |tp m=>
    obtain⟨_,B,M,rfl,o,_⟩:=h;cases r;obtain⟨W,N,C,_⟩:=I.tuple (aB.of (K:=X.K) o);rw[zj (λc=>by cases c)];cases x<;>first |cases i |skip
    ·obtain⟨T,rfl⟩:=R;exact EqAt.int_tuple _ _ C UO
    ·obtain⟨T,rfl⟩:=R;exact EqAt.str_tuple _ _ C UO
 |succ n D=>
  intro t A k J i L u x y d g j h a b R r;cases t with
  |nil |cons _ _=>cases L
  |lf v=>exact D (.lf v) (Ma _) UO i L d g j h a b R r
  |tp l=>
   obtain⟨E,p,O,rfl,q,F⟩:=j;cases R;obtain⟨ia,Q,G,_⟩:=I.tuple (aB.of (K:=X.K) q);cases u with
   |nil |cons _ _=>cases g
   |lf w=>
    obtain⟨rfl,_⟩:=h;rw[zj (λc=>by cases c)];cases y<;>first |cases d |skip
    ·obtain⟨T,rfl⟩:=r;exact TB _ _ G UO
    ·obtain⟨T,rfl⟩:=r;exact EqAt.tuple_str _ _ G UO
   |tp m=>
    have f:=id h;obtain⟨S,B,M,rfl,o,U⟩:=h;cases r;by_cases e:p=B
    ·subst e;rw[zD$ Q3 (H:=H) (t:=.tp l) (u:=.tp m) (x:=.ref p) (xs:=[]) #[E,p,O,Z,q,F] f Z i d];exact EqAt.same _
    ·exact EqAt.of_refs e$ GH I n D (by have:l.dep+1<=n+1:=k;omega) UO i d E S q o F U
inductive Gx(d:Nat)(x y:V)(H:Hp)(Q:VK):Prop
 |mk(l m:Tr)(_:l.dep < d)(_:l.In)(_:m.In)(_:aS H (.tp l) x [])(_:aS H (.tp m) y [])(_:Q (.bl (gp (.tp l) (.tp m))) H)
theorem Q5{d:Nat}(c:X.A.units+d+1 < cLine):fb X (compareOp .Eq) (Gx d):=by intro p s n H x y v u Q I r R h;obtain⟨l,m,o,i,e,⟨f,a,z,rfl,g,t⟩,⟨j,b,B,rfl,k,T⟩,q⟩:=h;cases r;cases R;exact GH I d (Q4 I d) UO c i e f j g k t T X.prog X.w _ _ #[.bl _,H,I,Z,q]
end
end _K
namespace _K
open PySem PySem.Spec PyProof.Rows _L
variable {P:Program}{w:World}{K:Frag}{mg:Str->Option Value}{base:Heap}
noncomputable abbrev D5:Stmt:=bQ 27
theorem dG{w:V}:fq (v::u::w::y) 2=some w:=jL (j:=2) Z
theorem HK{w:V}:fq (v::u::w::z::y) 3=some z:=jL (j:=3) Z
theorem ZT{X:List V}{i:Nat}{x:V}(h:X[i]?=some x):X.drop i=x::X.drop (i+1):=by obtain⟨H,e⟩:=List.getElem?_eq_some_iff.mp h;rw[<- e,Nt]
theorem zQ(h:mN H f i s a u)(k:ap H b):mN b f i s a u:=by obtain⟨c,g,e,S,E,d,j,l,m⟩:=h;exact#[c,g,e,S,E,k _ _ d,k _ _ j,k _ _ l,m.mono k]
noncomputable def eK:Sk->Tr
 | .rd c _=>aA [aK "read",au c]
 | .cl f I _ _=>aA [aK "call",aK f,aA (I.map au)]
 | .wr c i=>aA [aK "write",au c,au i]
 | .ask b=>aA [aK "ask",au b]
 |_=>.nil
theorem Cy{call:nP}{w:Sk}(h:ip call C k L t e= .ok w i j):eK w=Fv k e:=by
 have b:=Bl h;cases e with
 |ask d T=>rw[YC b]at h;cases h;rfl
 |st p l=>
  cases l with
  |gv d T |st x d T=>unfold ip at h;rw[Mb b]at h;cases h
  |rd x d T=>rw[tI b]at h;cases h;rfl
  |wr d u T U=>rw[tJ b]at h;cases h;rfl
  |cl x f q g=>
   rw[Qu b]at h;cases e:call f (g.map λc=>c.2.ev k) L (t+1) with
   |long |deep=>rw[e]at h;cases h
   |ok s a _L m=>rw[e]at h;cases h;show aA [_,_,aA ((g.map λc=>c.2.ev k).map au)]=_;rw[N8];rfl
inductive nj(b:List V)(H:Hp)(Q:VK)(a:XK):Prop
 |mk(u:V)(w:Sk)(_:b=[u])(_:dF H w u [])(_:w.ok false)(_:∀(v:V) (H':Hp),aS H' (eK w) v []->aa H H'->Q v H')
theorem GN:ai ["what"] ["what"] (ae D5):=bP
theorem Dn(F:aQ K "deed_in" "deed_in" D5 f B):af P w K mg base aE 1 f B ["what"] nj:=by
 refine F.ok GN ?_ λC A o s H V Q E l h=>?_
 ·rintro _ _ _ _ ⟨u,w,rfl,_⟩;rfl
 obtain⟨u,w,rfl,m,t,q⟩:=h;refine#[_,(jd (jz (ki$ jy$ pv 0) (jg$ jp$ jJ j8 (pv 0) jT$ jK jf) ju)$ jd (jz (ki$ jy$ pv 0) (jg$ jp$ jw jQ (jh$ ja jl jb)$ jJ j8 (jy$ pv 0) jT$ jK jf) ju)$ jg$ jp$ pv 0),?_];cases w with
 |nil |st=>exact t.elim
 |ask b=>obtain⟨p,rfl,d⟩:=m;refine ah λk i=>(jv d Z #[Z,_,Z,aX UQ$ i _ _ ?_]);clear i;refine ah λk i=>(jv d Z #[Z,_,Z,aX UQ$ i _ _ ?_]);exact#[_,Z,q _ _ (jD d$ jm Z jU$ jm Z jX jA)$ aa.refl _]
 |wr b D=>obtain⟨p,rfl,d⟩:=m;refine ah λk i=>(jv d Z #[Z,_,Z,aX UQ$ i _ _ ?_]);clear i;refine ah λk i=>(jv d Z #[Z,_,Z,aX UQ$ i _ _ ?_]);exact#[_,Z,q _ _ (jD d$ jm Z jU$ jm Z jX$ jm Z jX jA)$ aa.refl _]
 |rd b D=>obtain⟨p,rfl,d⟩:=m;refine ah λk i=>(jv d Z #[Z,_,Z,cX UQ #[_,Z,_,Z,p,_,Z,d,λr y l S=>q _ _ ?_ S]]);have l:y r=some (.tup [.str "read",.int b]):=l;exact jD l$ jm Z jU$ jm Z jX jA
 |cl f R s a=>obtain⟨p,c,g,e,T,rfl,d,G,I,U,W⟩:=m;refine ah λk i=>(jv d Z #[Z,_,Z,aX UQ$ i _ _ ?_]);clear i;refine ah λk i=>(jv d Z #[Z,_,Z,cX UQ #[iE,λJ n=>(jv (aq d n) ij #[_,Z,c,_,Z,aq G n,λL y v S=>#[J,L,_,_,Z,Z,S _ _ jc,v,i8,λM N j z=>q _ _ ?_ (((je n).trans S).trans z)]])]]);have j:N M=some (.tup [.str "call",.str f,.ref g]):=j;exact jD j$ jm Z jU$ jm Z jU$ jm Z (km$ z _ _$ S _ _$ aq I n) jA
noncomputable abbrev AF:Stmt:=bQ 7
noncomputable abbrev AG:Stmt:=bQ 8
noncomputable abbrev AA:Stmt:=bQ 9
abbrev aJ:=List Int
abbrev aO:=Int×List Int×Sk
abbrev RA(a:Type):=Hp->V->a->Prop
def bq{a:Type}(R:RA a)(H:Hp):List a->List V->Prop
 | [],v=>v=[]
 |w::W,v=>∃x r,v=x::r/\R H x w/\bq R H W r
def Hu{a:Type}(R:RA a):Prop:=∀(H h:Hp) (x:V) (w:a),ap H h->R H x w->R h x w
section
variable {α:Type}{R:RA α}
theorem bq.mono(a:Hu R)(k:ap H b):∀{W:List α} {v:List V},bq R H W v->bq R b W v
 | [],_,h=>h
 |_::_,_,z=>by obtain⟨x,r,e,c,d⟩:=z;exact #[x,r,e,a _ _ _ _ k c,bq.mono a k d]
theorem bq.app(a:bq R H b y):∀{W:List α} {v:List V},bq R H W v->bq R H (W++b) (v++y)
 | [],_,h=>by have e:_=[]:=h;rw[e];exact a
 |_::_,_,z=>by obtain⟨x,r,e,c,d⟩:=z;exact #[x,r++y,by rw[e];rfl,c,bq.app a d]
theorem bq.len:∀{W:List α} {v:List V},bq R H W v->v.length=W.length
 | [],_,h=>by have e:_=[]:=h;rw[e];rfl
 |_::_,_,z=>by obtain⟨x,r,e,b,a⟩:=z;rw[e];exact Ng (·+1) (bq.len a)
theorem bq.at:∀{W:List α} {v:List V},bq R H W v->∀{i:Nat} {x:V},v[i]?=some x->∃w,W[i]?=some w/\R H x w
 | [],_,h,i,x,a=>by have e:_=[]:=h;rw[e]at a;simp at a
 |w::_,_,q,0,x,a=>by obtain⟨y,r,e,b,c⟩:=q;rw[e]at a;cases a;exact#[w,Z,b]
 |w::W,_,q,i+1,x,a=>by obtain⟨y,r,e,b,c⟩:=q;rw[e]at a;exact bq.at c (i:=i) (by simpa using a)
theorem bq.one{w:α}(h:R H x w):bq R H [w] [x]:=#[x,[],Z,h,Z]
theorem bq.map{a:Type}{S:RA a}{g:α->a}{f:V->V}(h:∀x w,R H x w->S H (f x) (g w)):∀{W:List α} {v:List V},bq R H W v->bq S H (W.map g) (v.map f)
 | [],_,e=>by have e:_=[]:=e;rw[e];rfl
 |_::_,_,z=>by obtain⟨x,r,e,b,c⟩:=z;exact #[f x,r.map f,by rw[e];rfl,h _ _ b,bq.map h c]
end
def gX:RA aJ:=λH x p=>∃a,x= .ref a/\H a=some (.tup$ p.map V.int)
theorem cn:Hu gX:=λ_ _ _ _ k #[a,e,h]=>#[a,e,k _ _ h]
def Fc:RA (aJ×Sk):=λH x w=>∃q p u,x= .ref q/\H q=some (.tup [.ref p,u])/\H p=some (.tup$ w.1.map V.int)/\dF H w.2 u []
theorem oH:Hu Fc:=λ_ _ _ _ k #[q,p,u,e,h,H,a]=>#[q,p,u,e,k _ _ h,k _ _ H,a.mono k]
noncomputable def Sk.steps:Sk->List aO
 | .st n h w r=>(n,h,w)::r.steps
 |_=>[]
noncomputable def Sk.ws:Sk->aJ->Nat->List (aJ×Sk)
 | .st _ _ w r,p,k=>((p++[(k:Int)],w)::w.ws (p++[(k:Int)]) 0)++r.ws p (k+1)
 | .cl _ _ s _,p,_=>s.ws p 0
 |_,_,_=>[]
noncomputable def eh:List aO->aJ->Nat->List (aJ×Sk)
 | [],_,_=>[]
 |s::r,p,k=>((p++[(k:Int)],s.2.2)::s.2.2.ws (p++[(k:Int)]) 0)++eh r p (k+1)
theorem zH:∀{s:Sk},s.ok true->∀p k,s.ws p k=eh s.steps p k
 | .nil,_,_,_=>rfl
 | .st _ _ w r,o,p,k=>by show _++r.ws p (k+1)=_++eh r.steps p (k+1);rw[zH o.2]
theorem zR:∀(a b:List aO) (p:aJ) (k:Nat),eh (a++b) p k=eh a p k++eh b p (k+a.length)
 | [],_,_,_=>rfl
 |s::a,b,p,k=>by show _++eh (a++b) p (k+1)=(_++eh a p (k+1))++eh b p (k+(a.length+1));rw[zR a b,NJ,show k+1+a.length=k+(a.length+1) by omega]
theorem zf:∀{b:Bool} {s:Sk},s.ok b->∀(p:aJ) (k:Nat),(s.ws p k).length=s.size
 |true,.nil,_,_,_=>rfl
 |true,.st _ _ w r,o,p,k=>by have h:=zf (b:=false) (s:=w) o.1 (p++[(k:Int)]) 0;have H:=zf (b:=true) (s:=r) o.2 p (k+1);show(((p++[(k:Int)],w)::w.ws (p++[(k:Int)]) 0)++r.ws p (k+1)).length=w.size+r.size+1;rw[LS,Mu,h,H];omega
 |false,.cl _ _ s _,o,p,_=>zf (b:=true) (s:=s) o p 0
 |false,.ask _,_,_,_=>rfl
 |false,.rd _ _,_,_,_=>rfl
 |false,.wr _ _,_,_,_=>rfl
theorem Q6(a:List aO)(i:Nat)(p:aJ)(k:Nat):(eh (a.take i) p k).length<=(eh a p k).length:=by have:=Ng List.length (zR (a.take i) (a.drop i) p k);rw[NZ,LS]at this;omega
theorem qE:∀{s:Sk} {S:List V},s.ok true->dF H s .non S->∀{i:Nat} {x:V},S[i]?=some x->∃n b w p h u,s.steps[i]?=some (n,b,w)/\w.ok false/\w.dep<=s.dep/\w.size+1<=s.size/\x= .ref p/\H p=some (.tup [.int n,.ref h,u])/\H h=some (.tup$ b.map V.int)/\dF H w u []
 | .nil,_,_,e,i,x,a=>by have e:_=[]:=e;rw[e]at a;simp at a
 | .st n b w r,_,o,q,0,x,a=>by obtain⟨p,h,u,y,e,d,f,g,j⟩:=q;rw[e]at a;cases a;exact#[n,b,w,p,h,u,Z,o.1,Ol _ _,by show w.size+1<=w.size+r.size+1;omega,Z,d,f,g]
 | .st n b w r,_,o,q,i+1,x,a=>by obtain⟨p,h,u,y,e,d,f,g,j⟩:=q;rw[e]at a;obtain⟨N,c,W,k,l,U,t,T,m,z,v⟩:=qE o.2 j (i:=i) (x:=x) (by simpa using a);exact#[N,c,W,k,l,U,t,T,Mg m$ Ob _ _,by show W.size+1<=w.size+r.size+1;omega,v]
theorem zw:∀{s:Sk} {S:List V},s.ok true->dF H s .non S->S.length=s.steps.length
 | .nil,_,_,e=>by have e:_=[]:=e;rw[e];rfl
 | .st n b w r,_,o,z=>by obtain⟨p,h,u,y,e,c,d,f,a⟩:=z;rw[e];exact Ng (·+1) (zw o.2 a)
theorem lK(p:aJ)(k:Nat):p.map V.int++[V.int (k:Int)]=(p++[(k:Int)]).map V.int:=by rw[Mz];rfl
inductive nH(n:Nat)(d:List V)(H:Hp)(Q:VK)(a:XK):Prop
 |mk(b:Addr)(c:aJ)(w:Sk)(u:V)(_:d=[.ref b,u])(_:H b=some (.tup (c.map V.int)))(_:c.length+n<=100)(_:dF H w u [])(_:w.ok false)(_:w.dep < n)(_:w.size<=1000)(_:∀(r:Addr) (xs:List V) (H':Hp),H r=none->H' r=some (.lst xs)->bq Fc H' ((c,w)::w.ws c 0) xs->aa H H'->Q (.ref r) H')
inductive iY(n:Nat)(g:List V)(H:Hp)(Q:VK)(b:XK):Prop
 |mk(d:Addr)(e:aJ)(f:Str)(c:List Int)(s:Sk)(a:Int)(u:V)(_:g=[.ref d,u])(_:H d=some (.tup (e.map V.int)))(_:e.length+n+1<=100)(_:mN H f c s a u)(_:s.ok true)(_:s.dep < n)(_:s.size<=1000)(_:∀(r:Addr) (xs:List V) (H':Hp),H r=none->H' r=some (.lst xs)->bq Fc H' (s.ws e 0) xs->aa H H'->Q (.ref r) H')
inductive Lh(h k:Addr)(j:aJ)(u:V)(s:Sk)(H:Hp)(i:Nat)(m:_L.St)(a:Hp):Prop
 |mk(f g:Option V)(l:List V)(b:m=[some (.ref h),some u,some (.ref k),f,g])(c:a k=some (.lst l))(d:bq Fc a (eh (s.steps.take i) j 0) l)(e:aa H a)
noncomputable def cg(p:aJ)(w:Sk):List aJ:=p::(w.ws p 0).map (·.1)
theorem qH{w:Sk}(o:w.ok false)(p:aJ):(cg p w).length=w.size+1:=by unfold cg;rw[Mu,LU,zf o]
inductive lI(n:Nat)(d:List V)(H:Hp)(Q:VK)(a:XK):Prop
 |mk(b:Addr)(c:aJ)(w:Sk)(u:V)(_:d=[.ref b,u])(_:H b=some (.tup (c.map V.int)))(_:c.length+n<=100)(_:dF H w u [])(_:w.ok false)(_:w.dep < n)(_:w.size<=1000)(_:∀(r:Addr) (xs:List V) (H':Hp),H r=none->H' r=some (.lst xs)->bq gX H' (cg c w) xs->aa H H'->Q (.ref r) H')
noncomputable def pW(H:Hp):V->V
 | .ref q=>match H q with
  |some (.tup (x::_))=>x
  |_=>.non
 |_=>.non
theorem Jn(l:List V):(List.range l.length).map (λi=>(l[i]?).getD .non)=l:=by refine O7 UP λi H h=>?_;simp [LP h]
theorem Bt{H:Hp}(h:H q=some (.tup [.ref p,u])):pW H (.ref q)= .ref p:=by show(match H q with |some (.tup (x::_))=>x |_=>V.non)=_;rw[h]
theorem BS:ai ["path","what","within"] z6z (ae AF):=bP
theorem vg{n:Nat}(F:aQ K "whats_at" "whats_at" AF f fd)(cI:Cl P w K mg base (2*n+2) fI f0 ["path","chain"] (iY n) "whats_in"):af P w K mg base aE (2*n+3) f fd z6z (nH$ n+1):=by
 refine F.ok BS ?_ λc0 A O s H vs Q E hr h=>?_
 ·rintro _ _ _ _ ⟨j,v,w,u,rfl,_⟩;rfl
 obtain⟨j,v,w,u,rfl,U,h0,D,k,W,hz,q⟩:=h;refine#[_,(jd (jB 2 BS.nd$ kW (ki$ jy$ pv 1) (cI.e hr.m$ ja (pv 0)$ ja (jy$ pv 1) jb)$ jG jb)$ jg$ jp$ jw qi (jG$ ja (jh$ ja (pv 0)$ ja (pv 1) jb) jb)$ pv 2),?_];have b0:=aH;have fl:=zf k v 0;refine ah λF1 G=>?_;suffices X:∀(l:Addr) (x:List V) (d:Hp),d l=some (.lst x)->bq Fc d (w.ws v 0) x->aa H d->F1 [some$ .ref j,some u,some$ .ref l] d by
  clear G;cases w with
  |nil |st=>exact k.elim
  |ask b |rd c i |wr c i=>obtain⟨p,rfl,y⟩:=D;exact(jv y Z #[Z,_,Z,aX UQ #[fg,λl Y=>X l [] _ jc Z (je Y)]])
  |cl f is s a=>obtain⟨p,c,g,e,ss,rfl,y,h2,h3,h4,h5⟩:=D;have W:s.dep+1 < n+1:=W;exact(jv y Z #[Z,_,Z,cX UQ #[_,Z,jv y Z #[j,v,f,is,s,a,.ref c,Z,U,UO,#[c,g,e,ss,Z,h2,h3,h4,h5],k,UO,hz,λl x d Y I B S=>X l x d I B S]]])
 intro l x d I B S;refine G _ _ ?_;clear G;have lx:=B.len;refine#[_,Z,_,Z,ci,λt J=>#[iE,λL N=>#[_,Z,L,l,_,_,Z,Z,jc,aq (aq I J) N,by show 1+x.length<=_;omega,λr M=>?_]]];have C:aa d (am (am (am d t$ .tup [.ref j,u]) L$ .lst [.ref t]) r$ .lst ([.ref t]++x)):=((je J).trans$ je N).trans (je M);have ht:am (am (am d t$ .tup [.ref j,u]) L$ .lst [.ref t]) r (.lst ([.ref t]++x)) t=some (.tup [.ref j,u]):=aq (aq jc N) M;have R:H r=none:=by
  cases z:H r with
  |none=>rfl
  |some o=>have:=((je (o:=.lst [.ref t]) N) _ _ ((je (o:=.tup [.ref j,u]) J) _ _ (S _ _ z)));rw[M]at this;cases this
 exact q r _ _ R jc #[.ref t,x,Z,#[t,j,u,Z,ht,C _ _$ S _ _ U,D.mono$ aa.tm$ S.trans C],B.mono oH$ aa.tm C] (S.trans C)
theorem oX:ai ["path","chain","told","number","step"] ["path","chain"] (ae AG):=bP
theorem DG(F:aQ K "whats_in" "whats_in" AG f fd)(cA:Cl P w K mg base (2*n+1) fA f2 z6z (nH n) "whats_at")(U:mg "enumerate"=none):af P w K mg base aE (2*n+2) f fd ["path","chain"] (iY n):=by
 refine F.ok oX ?_ λc0 A V s H vs Q E Y h=>?_
 ·rintro _ _ _ _ ⟨pa,k,f,is,s,a,u,rfl,_⟩;rfl
 obtain⟨pa,k,f,is,s,a,u,rfl,hp,h6,hc,d,hd,hz,q⟩:=h;refine#[_,(jd (jB 2 oX.nd$ jG jb)$ jd (kH MF Z (Jo Z U$ ja (jy$ pv 1) jb) (qC (n:=2) Z$ jC (jx (i:=3) oX.nd Z$ Or.inl Z)$ jC (jx (i:=4) oX.nd Z$ Or.inl Z) za)$ jg$ jF$ jZ L9 Nf Nc zC (pv 2)$ ja (cA.e Y.m$ ja (jw jQ (pv 0)$ jh$ ja (pv 3) jb)$ ja (jy$ pv 4) jb) jb)$ jg$ jp$ pv 2),?_];have b0:=aH;obtain⟨c,g,e,ss,rfl,h1,h2,h3,h4⟩:=hc;have fl:=zf d k 0;rw[zH d]at fl;have lt:=zw d h4;refine ah λF1 v=>#[fg,λT N=>v _ _ ?_];clear v;have s1:aa H (am H T$ .lst []):=je N;refine ah λF1 v=>dW λJ j=>(jv (s1 _ _ h1) Z #[e,Z,#[_,aB.of$ s1 _ _ h3],j _ _ ?_]);clear j;refine qt (K:=K) (xs:=ss) (Lh pa T k (.ref c) s H) #[none,none,[],Z,jc,Z,s1] (λi σ Hx _ h=>?_) ?_ (λσ Hx h=>v _ _ ?_)
 ·obtain⟨_,_,_,_,_,_,y⟩:=h;exact aB.of$ y _ _ h3
 ·intro E hE i x B σ O hx np f0 Gq l h;clear v;obtain⟨o3,o4,xs,rfl,R,W,y⟩:=h;have C:aa O (am O B$ .tup [.int i,x]):=je np;have e8:am O B (.tup [.int i,x]) B=some (.tup [.int i,x]):=jc;refine l ?_;clear l;generalize am O B (.tup [.int i,x])=H8 at C e8 ⊢;have S8:=y.trans C;obtain⟨n1,D,w,p,hh,u,ht,o1,d0,s2,rfl,h0,h7,hw⟩:=qE d (h4.mono$ aa.tm S8) hx;refine#[B,_,Z,aB.of e8,Z,_,_,Z,_,_,Z,Z,?_];refine#[_,Z,.inl #[Z,_,aI.of$ C _ _ R],_,Z,_,Z,iE,λt nt=>#[pa,t,_,_,Z,Z,aq (S8 _ _ hp) nt,jc,by rw[LU];show _+1<=_;omega,λr9 H9 e9 s9=>?_]];have S9:=(je (o:=.tup [.int i]) nt).trans s9;rw[lK]at e9;refine(jv (S9 _ _ h0) Z #[r9,_,w,u,Z,e9,by rw[LS];show _+1+_<=_;omega,hw.mono$ aa.tm S9,o1,UO,UO,λr X G nr Y I s0=>?_]);have S:=S9.trans s0;have L:=S _ _ (C _ _ R);have lx:=W.len;have l0:=I.len;have bl:=Q6 s.steps (i+1) k 0;have h5:i < s.steps.length:=(List.getElem?_eq_some_iff.mp ht).1;have et:s.steps.take (i+1)=s.steps.take i++[(n1,D,w)]:=by rw[MW,ht];rfl
  have eb:eh [(n1,D,w)] k (0+(s.steps.take i).length)=(k++[(i:Int)],w)::w.ws (k++[(i:Int)]) 0:=by rw[Mw,NG$ NM h5,Oa];show(_::_)++[]=_;rw[Mv]
  rw[fl,et,zR,eb]at bl;rw[LS]at bl;have M:ap G (am G T$ .lst$ xs++X):=λb ys e=>by rw[ji$ jW e L (by intro z;cases z)];exact e
  refine#[T,r,_,_,Z,Z,L,Y,UO,f0 _ _ #[_,_,xs++X,Z,jc,?_,λb o e=>?_]]
  ·rw[et,zR,eb];exact(I.mono oH M).app ((W.mono oH$ aa.tm$ C.trans S).mono oH M)
  ·rw[ji$ jk e N];exact S _ _$ S8 _ _ e
 ·obtain⟨o3,o4,xs,rfl,R,W,y⟩:=h;rw[lt,MN,<- zH d]at W;exact#[_,Z,q T xs Hx N R W y]
theorem C9:af P w K mg base aE k f c ["path","chain"] (iY 0):=by
 have n:∀v H Q E,¬iY 0 v H Q E:=λv H Q E h=>by obtain⟨p,d,f,i,s,a,u,_,_,_,_,_,z,_⟩:=h;omega
 exact#[λv H Q E h=>absurd h (n v H Q E),λA o s H b U v Q E _ _ _ _ h=>absurd h (n v H Q E)]
theorem Hq(F:aQ K "whats_at" "whats_at" AF g a)(B:aD K a z6z [])(M:mg "whats_at"=some (.ref g))(b:aQ K "whats_in" "whats_in" AG c f)(d:aD K f ["path","chain"] [])(e:mg "whats_in"=some (.ref c))(m:mg "enumerate"=none):∀n,af P w K mg base aE (2*n+2) c f ["path","chain"] (iY n)
 |0=>C9
 |n+1=>by have h:=Hq F B M b d e m n;have H:=vg F #[h,d,b.kp,e];exact DG b #[H,B,F.kp,M] m
theorem GV:ai z6z z6z (ae AA):=bP
noncomputable def sh:Scope:=#[.function,[(".0",.local),("one",.local),("done",.local)],false,false,[]]
theorem uP:(["one","done"]:List Str).Nodup:=by decide+kernel
theorem Cu:bh z6z (ae AA) sh ["one","done"] 2 []:=pO
theorem Dx{n:Nat}(F:aQ K "paths_at" "paths_at" AA f I)(J:Cl P w K mg base (2*n+3) fA L z6z (nH$ n+1) "whats_at"):af P w K mg base aE (2*n+4) f I z6z (lI$ n+1):=by
 refine F.ok GV ?_ λM A O s H vs Q E R h=>?_
 ·rintro _ _ _ _ ⟨y,p,w,u,rfl,_⟩;rfl
 obtain⟨y,p,w,u,rfl,T,j,V,b,W,Y,q⟩:=h;refine#[_,(jg$ jp$ @zO _ _ _ _ _ _ _ (["one","done"]) (2) ([]) _ _ _ _ Z (zr$ J.e R.m$ ja (pv 0)$ ja (pv 1) jb) Cu (λ_ _ _ _ _=>ZG (K:=K) (n:=2) Z Z (jC (jx (i:=0) uP Z$ Or.inl Z)$ jC (jx (i:=1) uP Z$ Or.inl Z) za) Z Z) (λ_ _ _ _ _=>(@qj _)) (λ_ _ _ _ _=>(pv 0)) (by intro _;rfl)),?_];have b0:=aH;have fl:=zf b p 0;refine#[_,Z,_,Z,y,p,w,u,Z,T,j,V,b,W,Y,λr X a nr c k C=>?_];have lx:=k.len;rw[Mu,fl]at lx;have lm:(X.map$ pW a).length=X.length:=LU _;refine#[r,Z,#[_,aI.of c],Yr (λi=>((X.map$ pW a)[i]?).getD .non) UO (aI.of c) (λi x D=>?_) λl N=>q l (X.map$ pW a) _ ?_ ?_ ?_ (C.trans$ je N)]
 ·obtain⟨⟨p',w'⟩,_,t,v,U,rfl,g,G,g3⟩:=k.at D;refine#[t,.ref v,U,Z,aB.of g,λQ d=>#[_,Z,?_]];rw[Mp,D]at d;have d:Q (pW a$ .ref t) a:=d;rw[Bt g]at d;exact d
 ·cases z:H l with
  |none=>rfl
  |some o=>rw[C _ _ z]at N;cases N
 ·rw[jc,<- lm,Jn]
 ·have e:cg p w=((p,w)::w.ws p 0).map (·.1):=rfl;rw[e];exact(bq.map (S:=gX) (f:=pW a) (λx w #[t,v,U,e0,g,G,g3]=>by subst e0;rw[Bt g];exact#[v,Z,G]) k).mono cn (aa.tm$ je N)
noncomputable abbrev wc:Stmt:=bQ 33
noncomputable abbrev wb:Stmt:=bQ 34
noncomputable abbrev Ea:Stmt:=bQ 35
theorem lD(h:bJ k A):A.units+10+1 < cLine:=by have:=h.un;omega
theorem qI:∀{I J:List Int},ay (I.map au)=ay (J.map au)->I=J
 | [],[],_=>rfl
 | [],_::_,e=>by cases e
 |_::_,[],e=>by cases e
 |i::I,j::J,e=>by have e:Tr.cons (au i) (ay$ I.map au)= .cons (au j) (ay$ J.map au):=e;injection e with E a;injection E with E;injection E with E;rw[E,qI a]
theorem zz:∀i:List Int,(ay$ i.map au).In
 | []=>trivial
 |_::i=>#[Z,zz i]
theorem JF(n:Int)(h:List Int):(ay [au n,aA$ h.map au]).In:=#[Z,zz h,trivial]
theorem Xh(n:Int)(H:List Int):(ay [au n,aA$ H.map au]).dep < 10:=by have h:=zq H;show max 0 (max ((ay$ H.map au).dep+1) 0) < 10;omega
noncomputable def pU(P:aO->Bool):Nat->List aO->Option Nat
 |_,[]=>none
 |k,s::r=>if P s=true then some k else pU P (k+1) r
noncomputable def lM(P:aO->Bool)(os:List aO)(m:Nat):Option Nat:=pU P m (os.drop m)
theorem uf{P:aO->Bool}{os:List aO}(h:os[m]?=some s):lM P os m=if P s=true then some m else lM P os (m+1):=by obtain⟨H,e⟩:=List.getElem?_eq_some_iff.mp h;unfold lM;rw[<- Nt (h:=H),e];rfl
theorem ZU{P:aO->Bool}{os:List aO}(h:os.length<=m):lM P os m=none:=by unfold lM;rw[R0 h];rfl
theorem ZV{P:aO->Bool}:∀{os:List aO} {k j:Nat},pU P k os=some j->∃i s,j=k+i/\os[i]?=some s/\P s=true
 | [],_,_,h=>nomatch h
 |s::r,k,j,h=>by
  have h:(if P s=true then some k else pU P (k+1) r)=some j:=h;by_cases H:P s=true
  ·rw[Mb H]at h;cases h;exact#[0,s,Z,Z,H]
  ·rw[Mf H]at h;obtain⟨i,S,e,a,b⟩:=ZV h;exact#[i+1,S,UO,by simpa using a,b]
theorem ZW{P:aO->Bool}{os:List aO}(h:lM P os m=some j):m<=j/\∃s,os[j]?=some s/\P s=true:=by obtain⟨i,s,e,H,a⟩:=ZV h;rw[OP]at H;exact#[UO,s,by rw[e];exact H,a]
noncomputable def vp:Option Nat->V
 |some j=>.int (j:Int)
 |none=>.non
noncomputable def aR(n:Int)(h:List Int)(s:aO):Bool:=decide (s.1=n/\s.2.1=h)
noncomputable def cV(f:Str)(i:List Int)(s:aO):Bool:=match s.2.2 with
 | .cl g j _ _=>decide (g=f/\j=i)
 |_=>false
noncomputable def lF(os:List aO)(m:Nat):Sk->Option Nat
 | .cl f i _ _=>lM (cV f i) os m
 |_=>none
noncomputable def fi(os:List aO)(m:Nat)(n:Int)(h:List Int)(w:Sk):Option Nat:=match lM (aR n h) os m with
 |some j=>some j
 |none=>lF os m w
theorem yn{H h:List Int}(e:aA [au n,aA$ H.map au]=aA [au N,aA$ h.map au]):n=N/\H=h:=by have e:Tr.tp (.cons (au n)$ .cons (aA$ H.map au) .nil)= .tp (.cons (au N)$ .cons (aA$ h.map au) .nil):=e;injection e with e;injection e with a A;injection A with b _;injection a with a;injection a with a;have b:Tr.tp (ay$ H.map au)= .tp (ay$ h.map au):=b;injection b with b;exact#[a,qI b]
theorem YD{a H:List Int}{w:Sk}:gp (aA [au N,aA$ H.map au]) (aA [au n,aA$ a.map au])=aR n a (N,H,w):=by
 by_cases h:N=n/\H=a
 ·rw[h.1,h.2,zD Z];exact(Mc #[Z,Z]).symm
 ·rw[zj λe=>h (yn e)];exact(LZ h).symm
theorem X9{i j:List Int}(e:aA [aK "call",aK g,aA$ j.map au]=aA [aK "call",aK f,aA$ i.map au]):g=f/\j=i:=by have e:Tr.tp (.cons (aK "call")$ .cons (aK g)$ .cons (aA$ j.map au) .nil)= .tp (.cons (aK "call")$ .cons (aK f)$ .cons (aA$ i.map au) .nil):=e;injection e with e;injection e with _ e;injection e with a A;injection A with b _;injection a with a;injection a with a;have b:Tr.tp (ay$ j.map au)= .tp (ay$ i.map au):=b;injection b with b;exact#[a,qI b]
theorem Ji(e:aA (aK a::x)=aA (aK b::y)):a=b:=by have e:Tr.tp (.cons (aK a)$ ay x)= .tp (.cons (aK b)$ ay y):=e;injection e with e;injection e with e _;injection e with e;injection e
theorem CW{n':Int}{hs':List Int}{w:Sk}(o:w.ok false):gp (eK w) (eK$ .cl f i s a)=cV f i (n',hs',w):=by
 cases w with
 |nil |st _ _ _ _=>exact o.elim
 |ask b |rd b c |wr b c=>show gp (aA _) (aA _)=_;rw[zj λe=>absurd (Ji e) UN];rfl
 |cl g j S A=>
  by_cases h:g=f/\j=i
  ·rw[h.1,h.2];show gp (aA _) (aA _)=_;rw[zD Z];exact(Mc #[Z,Z]).symm
  ·show gp (aA _) (aA _)=_;rw[zj λe=>h (X9 e)];exact(LZ h).symm
theorem ZX{w:Sk}(o:w.ok false):∃l,eK w= .tp l/\l.dep < 10/\l.In/\∃v t,l= .cons (aK v) t/\(v="call"↔∃f i s a,w= .cl f i s a):=by
 cases w with
 |nil |st _ _ _ _=>exact o.elim
 |ask b |rd b B=>exact#[_,Z,by show max 0 (max 0 0) < 10;decide,#[Z,Z,trivial],_,_,Z,λe=>absurd e UN,λ#[_,_,_,_,e]=>nomatch e]
 |wr b B=>exact#[_,Z,by show max 0 (max 0 (max 0 0)) < 10;decide,#[Z,Z,Z,trivial],_,_,Z,λe=>absurd e UN,λ#[_,_,_,_,e]=>nomatch e]
 |cl f i s a=>exact#[_,Z,by show max 0 (max 0 (max ((ay (i.map au)).dep+1) 0)) < 10;rw[zq];decide,#[Z,Z,zz i,trivial],_,_,Z,λ_=>#[_,_,_,_,Z],λ_=>Z]
inductive mv(f:List V)(H:Hp)(Q:VK)(a:XK):Prop
 |mk(e:Addr)(d:List V)(s:Sk)(m:Nat)(n:Int)(c:List Int)(b:V)(_:f=[.ref e,.int (m:Int),b])(_:H e=some (.tup d))(_:dF H s .non d)(_:s.ok true)(_:s.size<=1000)(_:m<=1000)(_:aS H (aA [au n,aA (c.map au)]) b [])(_:∀H',aa H H'->Q (vp (lM (aR n c) s.steps m)) H')
inductive ms(d:List V)(H:Hp)(Q:VK)(a:XK):Prop
 |mk(e:Addr)(c:List V)(s w:Sk)(m:Nat)(b:V)(_:d=[.ref e,.int (m:Int),b])(_:H e=some (.tup c))(_:dF H s .non c)(_:s.ok true)(_:s.size<=1000)(_:m<=1000)(_:aS H (eK w) b [])(_:w.ok false)(_:∀H',aa H H'->Q (vp (lF s.steps m w)) H')
inductive nG(d:List V)(H:Hp)(Q:VK)(a:XK):Prop
 |mk(e p h:Addr)(c:List V)(s w:Sk)(m:Nat)(n:Int)(b:List Int)(u:V)(_:d=[.ref e,.int (m:Int),.ref p])(_:H e=some (.tup c))(_:dF H s .non c)(_:s.ok true)(_:s.size<=1000)(_:m<=1000)(_:H p=some (.tup [.int n,.ref h,u]))(_:H h=some (.tup (b.map V.int)))(_:dF H w u [])(_:w.ok false)(_:∀H',aa H H'->Q (vp (fi s.steps m n b w)) H')
theorem wE:ai ["steps","mark","cut","at"] ["steps","mark","cut"] (ae wc):=bP
theorem yS(F:aQ K "like_from" "like_from" wc f T)(R:mg "len"=none)(U:mg "range"=none):af P w K mg base aE 1 f T ["steps","mark","cut"] mv:=by
 refine F.ok wE ?_ λV A O s H vs Q E W h=>?_
 ·rintro _ _ _ _ ⟨e,v,s,m,n,c,C,rfl,_⟩;rfl
 obtain⟨e,v,s,m,n,c,C,rfl,G,g,k,Y,hm,hc,q⟩:=h;refine#[_,(jd (kH MF Z (qg Z U$ ja (pv 1)$ ja (jR jO Z R Nh$ ja (pv 0) jb) jb) (jx (i:=3) wE.nd Z$ Or.inl Z)$ jg$ jz (jE (Q5 (d:=10)$ lD W) (jJ j8 (jo jH (pv 0) (pv 3) (λ_ _=>Z)) jT$ jK jf) (pv 2)$ aL _) (jg$ jp$ pv 3) ju)$ jg$ jp$ @Kt _ _ _),?_];have b0:=aH;have l0:=zw k g;have l1:=qY k g;refine ah λF1 f1=>dW λJ j=>#[_,Z,_,Z,e,_,Z,.inr$ aB.of G,_,_,Z,#[UO,UO,UO,UO],j _ _ ?_];clear j;refine zg (λi x I=>(∃y,x=[some$ .ref e,some$ .int (m:Int),some C,y])/\aa H I/\lM (aR n c) s.steps m=lM (aR n c) s.steps (m+i)) #[#[_,Z],aa.refl _,Z] ?_ (λx I h=>f1 _ _ ?_)
 ·intro L rt i x H2 hi fE X l h;obtain⟨⟨y,rfl⟩,S,b⟩:=h;refine l ?_;clear l;have e0:(m:Int)+(i:Int)=((m+i:Nat):Int):=by omega
  rw[e0];have o:m+i < v.length:=by omega
  obtain⟨N,a,w,p,h,u,ht,o1,_,_,ex,hp,hh,_⟩:=qE k (g.mono$ aa.tm S) (LP o);have B:v[m+i]?=some (.ref p):=by rw[LP o,ex]
  show gU _ _ _ L _ _;refine lO λG1 kT kF=>#[_,Z,_,Z,e,_,_,_,Z,Z,aB.of$ S _ _ G,jL B,_,Z,p,_,Z,hp,λq2 H1 D r=>#[_,Z,_,_,Xh N a,JF N a,JF n c,jD D$ jm Z jX$ jm Z (km$ r _ _ hh) jA,hc.mono$ aa.tm$ S.trans r,_,Z,?_]];rw[show gp (.tp$ ay [au N,aA$ a.map au]) (.tp$ ay [au n,aA$ c.map au])=aR n c (N,a,w) from YD];have t:=uf (P:=aR n c) ht;cases M:aR n c (N,a,w) with
  |true=>refine kT _ ?_;show lg _ L _ _;unfold lg;rw[rt];rw[Mb M]at t;have z:=q _ (S.trans r);rw[b,t]at z;exact#[_,Z,z]
  |false=>rw[Mf (by rw[M];intro z;cases z)]at t;exact kF _$ fE _ _ #[#[_,Z],S.trans r,by rw[b,t];rfl]
 ·obtain⟨⟨y,rfl⟩,S,b⟩:=h;have z:=q _ S;rw[b,ZU UO]at z;exact z
theorem wD:ai ["steps","mark","deed","at"] ["steps","mark","deed"] (ae wb):=bP
theorem yR(F:aQ K "lender_from" "lender_from" wb f fd)(cI:Cl P w K mg base 1 fI f0 ["what"] nj "deed_in")(ml:mg "len"=none)(mr:mg "range"=none):af P w K mg base aE 2 f fd ["steps","mark","deed"] ms:=by
 refine F.ok wD ?_ λc0 A O s H vs Q E hr h=>?_
 ·rintro _ _ _ _ ⟨e,D,s,w,m,dv,rfl,_⟩;rfl
 obtain⟨e,D,s,w,m,dv,rfl,he,c,g,h0,hm,G,L,q⟩:=h;refine#[_,(jd (jz (jE Xx (jy$ pv 2) jl$ aL _) (jg$ jp$ @Kt _ _ _) ju)$ jd (kH MF Z (qg Z mr$ ja (pv 1)$ ja (jR jO Z ml Nh$ ja (pv 0) jb) jb) (jx (i:=3) wD.nd Z$ Or.inl Z)$ jg$ jz (jE (Q5 (d:=10)$ lD hr) (cI.e hr.m$ ja (jy$ jo jH (pv 0) (pv 3) (λ_ _=>Z)) jb) (pv 2)$ aL _) (jg$ jp$ pv 3) ju)$ jg$ jp$ @Kt _ _ _),?_];have b0:=aH;have l0:=zw g c;have l1:=qY g c;obtain⟨l,el,dl,il,v0,ts,ev,r⟩:=ZX L;rw[el]at G;obtain⟨_,da,ds,rfl,M,t⟩:=id G;rw[ev]at t;obtain⟨_,_,y0,y1,rfl,⟨rfl,_⟩,_⟩:=t;refine ah λF1 y=>(jv M dU #[Z,_,Z,?_]);by_cases B:v0="call"
 ·obtain⟨f,I,s1,a1,rfl⟩:=r.mp B;subst B;refine aX UQ$ y _ _ ?_;clear y;refine ah λF1 y=>dW λJ j=>#[_,Z,_,Z,e,_,Z,.inr$ aB.of he,_,_,Z,#[UO,UO,UO,UO],j _ _ ?_];clear j;refine zg (λi N R=>(∃T,N=[some$ .ref e,some$ .int (m:Int),some$ .ref da,T])/\aa H R/\lM (cV f I) s.steps m=lM (cV f I) s.steps (m+i)) #[#[_,Z],aa.refl _,Z] ?_ (λN R h=>y _ _ ?_)
  ·intro E2 rt i N H2 hi fE Gq n h;obtain⟨⟨T,rfl⟩,S,b⟩:=h;refine n ?_;clear n;have e0:(m:Int)+(i:Int)=((m+i:Nat):Int):=by omega
   rw[e0];have v:m+i < D.length:=by omega
   obtain⟨n',hs',w,p,h,u,ht,o,_,_,ex,hp,hh,hw⟩:=qE g (c.mono$ aa.tm S) (LP v);have U:D[m+i]?=some (.ref p):=by rw[LP v,ex]
   obtain⟨l',x,W,X,_⟩:=ZX o;show gU _ _ _ E2 _ _;refine lO λG1 kT kF=>#[_,Z,_,Z,e,_,_,_,Z,Z,aB.of$ S _ _ he,jL U,p,_,_,_,Z,Z,aB.of hp,dG,u,w,Z,hw,o,λv1 H1 Y k=>#[_,Z,l',l,W,X,il,x▸Y,G.mono$ aa.tm$ S.trans k,_,Z,?_]];rw[<- x,<- el,CW (n':=n') (hs':=hs') o];have C:=uf (P:=cV f I) ht;cases hb:cV f I (n',hs',w) with
   |true=>refine kT _ ?_;show lg _ E2 _ _;unfold lg;rw[rt];rw[Mb hb]at C;have z:Q (vp$ lM (cV f I) s.steps m) H1:=q _ (S.trans k);rw[b,C]at z;exact#[_,Z,z]
   |false=>rw[Mf (by rw[hb];intro z;cases z)]at C;exact kF _$ fE _ _ #[#[_,Z],S.trans k,by rw[b,C];rfl]
  ·obtain⟨⟨T,rfl⟩,S,b⟩:=h;have z:Q (vp$ lM (cV f I) s.steps m) R:=q _ S;rw[b,ZU UO]at z;exact z
 ·refine cX ?_ ?_
  ·show(!decide (V.str v0=V.str "call"))=true;rw[LZ λz=>B (by injection z)];rfl
  have z:=q _ (aa.refl _);have en:lF s.steps m w=none:=by
   cases w with
   |cl f I s a=>exact absurd (r.mpr #[f,I,s,a,Z]) B
   |_=>rfl
  rw[en]at z;exact z
theorem BP:ai ["steps","mark","step","like"] ["steps","mark","step"] (ae Ea):=bP
theorem DB(F:aQ K "taken_from" "taken_from" Ea f I)(J:Cl P w K mg base 1 fL L ["steps","mark","cut"] mv "like_from")(M:Cl P w K mg base 2 fD N ["steps","mark","deed"] ms "lender_from")(R:Cl P w K mg base 1 fI T ["what"] nj "deed_in"):af P w K mg base aE 3 f I ["steps","mark","step"] nG:=by
 refine F.ok BP ?_ λU A O s H vs Q E i h=>?_
 ·rintro _ _ _ _ ⟨e,p,h,k,s,w,m,n,a,u,rfl,_⟩;rfl
 obtain⟨e,p,h,k,s,w,m,n,a,u,rfl,y,b,c,d,B,C,V,W,o,q⟩:=h;refine#[_,(jd (jB 3 BP.nd$ J.e i.m$ ja (pv 0)$ ja (pv 1)$ ja (jJ j8 (pv 2) jT$ jK jf) jb)$ jg$ jp$ kW (Ku$ @QV _ _ _ _ _$ pv 3) (M.e i.m$ ja (pv 0)$ ja (pv 1)$ ja (R.e i.m$ ja (jy$ pv 2) jb) jb)$ pv 3),?_];refine ah λF1 D=>#[_,Z,_,Z,_,Z,_,Z,p,_,Z,C,λq2 H1 l g=>#[e,k,s,m,n,a,_,Z,g _ _ y,b.mono$ aa.tm g,c,d,B,jD l$ jm Z jX$ jm Z (km$ g _ _ V) jA,λH2 X=>D _ _ ?_]];clear D;have S:=g.trans X;cases G:lM (aR n a) s.steps m with
 |some j=>
  refine#[_,Z,_,Z,aX (LZ (by intro z;cases z)) #[_,Z,?_]];have z:=q _ S;have r:fi s.steps m n a w=some j:=by unfold fi;rw[G]
  rw[r]at z;exact z
 |none=>
  refine#[_,Z,_,Z,cX (Mc Z) #[_,Z,_,Z,jv (S _ _ C) dG #[u,w,Z,W.mono$ aa.tm S,o,λY H3 t v=>#[e,k,s,w,m,Y,Z,v _ _$ S _ _ y,b.mono$ aa.tm$ S.trans v,c,d,B,t,o,λH4 s4=>?_]]]];have z:=q _ ((S.trans v).trans s4);have r:fi s.steps m n a w=lF s.steps m w:=by unfold fi;rw[G]
  rw[r]at z;exact z
abbrev EJ:=aJ×aJ
structure Ly where
 k:List EJ
 t:List EJ
 f:List aJ
 d:List aJ
noncomputable def Ly.app(a b:Ly):Ly:=#[a.k++b.k,a.t++b.t,a.f++b.f,a.d++b.d]
noncomputable def Ly.nil:Ly:=#[[],[],[],[]]
noncomputable def Ly.tot(a:Ly):Nat:=a.k.length+a.t.length+a.f.length+a.d.length
theorem Ly.app_assoc(a b c:Ly):(a.app b).app c=a.app (b.app c):=by unfold Ly.app;simp [NJ]
theorem Ly.app_nil(a:Ly):a.app .nil=a:=by unfold Ly.app Ly.nil;simp
theorem Ly.nil_app(a:Ly):Ly.nil.app a=a:=rfl
theorem Ly.tot_app(a b:Ly):(a.app b).tot=a.tot+b.tot:=by unfold Ly.app Ly.tot;simp only[LS];omega
noncomputable def Sk.fnd:Sk->Int
 | .ask b=>b
 | .rd _ i=>i
 | .wr _ i=>i
 | .cl _ _ _ a=>a
 |_=>0
noncomputable def lr:Sk->List aO
 | .cl _ _ s _=>s.steps
 |_=>[]
noncomputable def eG(p:aJ)(os:List aO)(m j:Nat):List aJ:=(eh ((os.drop m).take$ j - m) p m).map (·.1)
noncomputable def one(p:aJ)(o:aO)(a:aJ)(n:Int)(h:List Int)(w:Sk):Ly:=
 if aR n h o=true then (if o.2.2.fnd=w.fnd then #[[(p,a)],[],[],[]] else #[[],[(p,a)],[],[]]) else #[[],[],[a],[p]]
noncomputable def dJ:Sk->aJ->List aO->Nat->aJ->Nat->Ly
 | .st n h w r,p,os,m,a,k=>match fi os m n h w with
  |none=>(#[[],[],cg (a++[(k:Int)]) w,[]]:Ly).app (dJ r p os m a (k+1))
  |some j=>match os[j]? with
   |none=>.nil
   |some o=>((#[[],[],[],eG p os m j]:Ly).app ((one (p++[(j:Int)]) o (a++[(k:Int)]) n h w).app (dJ w (p++[(j:Int)]) (lr o.2.2) 0 (a++[(k:Int)]) 0))).app (dJ r p os (j+1) a (k+1))
 | .cl _ _ s _,p,os,m,a,k=>dJ s p os m a k
 | .nil,p,os,m,_,_=>#[[],[],[],eG p os m os.length]
 |_,_,_,_,_,_=>.nil
theorem qe{w:Sk}{os:List aO}(h:fi os m n H w=none):dJ (.st n H w r) a os m p k=(#[[],[],cg (p++[(k:Int)]) w,[]]:Ly).app (dJ r a os m p$ k+1):=by show(match fi os m n H w with |none=>_ |some j=>_)=_;rw[h]
theorem qf{w:Sk}{os:List aO}(h:fi os m n H w=some j)(b:os[j]?=some o):dJ (.st n H w r) p os m a k=((#[[],[],[],eG p os m j]:Ly).app ((one (p++[(j:Int)]) o (a++[(k:Int)]) n H w).app$ dJ w (p++[(j:Int)]) (lr o.2.2) 0 (a++[(k:Int)]) 0)).app (dJ r p os (j+1) a$ k+1):=by show(match fi os m n H w with |none=>_ |some j=>match os[j]? with |none=>Ly.nil |some o=>_)=_;rw[h];dsimp only;rw[b]
abbrev DF:=Str->Int->List Int->Tr
def Dt(D:DF):Str->Sk->Prop
 |f,.st n h w r=>eK w=D f n h/\Dt D f w/\Dt D f r
 |_,.cl g _ s _=>Dt D g s
 |_,_=>True
theorem Ks:∀{s:Sk},Dt D f s->∀{j:Nat} {o:aO},s.steps[j]?=some o->eK o.2.2=D f o.1 o.2.1/\Dt D f o.2.2
 | .st n H w r,h,0,o,e=>by cases e;exact#[h.1,h.2.1]
 | .st n H w r,h,j+1,o,e=>Ks h.2.2 (j:=j) (by have e:((n,H,w)::r.steps)[j+1]?=some o:=e;simpa using e)
 | .nil,_,j,o,e=>by have e:([]:List aO)[j]?=some o:=e;simp at e
 | .ask _,_,j,o,e=>by have e:([]:List aO)[j]?=some o:=e;simp at e
 | .rd _ _,_,j,o,e=>by have e:([]:List aO)[j]?=some o:=e;simp at e
 | .wr _ _,_,j,o,e=>by have e:([]:List aO)[j]?=some o:=e;simp at e
 | .cl _ _ _ _,_,j,o,e=>by have e:([]:List aO)[j]?=some o:=e;simp at e
theorem zh{os:List aO}{w:Sk}(h:fi os m n d w=some j):m<=j/\∃o,os[j]?=some o/\(aR n d o=true∨∃f I s a,w= .cl f I s a/\cV f I o=true):=by
 unfold fi at h;cases e:lM (aR n d) os m with
 |some i=>rw[e]at h;cases h;obtain⟨H,s,b,c⟩:=ZW e;exact#[H,s,b,.inl c]
 |none=>
  rw[e]at h;have h:lF os m w=some j:=h;cases w with
  |cl f I s a=>obtain⟨H,S,b,c⟩:=ZW (show lM (cV f I) os m=some j from h);exact#[H,S,b,.inr #[f,I,s,a,Z,c]]
  |_=>cases h
theorem uJ(h:aR n H o=true):o.1=n/\o.2.1=H:=Nn h
theorem uF(h:cV f i o=true):∃s a,o.2.2= .cl f i s a:=by
 unfold cV at h;split at h
 ·rename_i g j s a e
  obtain⟨rfl,rfl⟩:=Nn h;exact#[s,a,e]
 ·cases h
theorem YE{w:Sk}(o:w.ok false)(e:eK w=eK (.cl f i s a)):∃S A,w= .cl f i S A:=by
 cases w with
 |nil |st _ _ _ _=>exact o.elim
 |ask b |rd b c |wr b c=>exact absurd (Ji e) UN
 |cl g j S A=>obtain⟨rfl,rfl⟩:=X9 e;exact#[S,A,Z]
theorem YF{os s:Sk}{w:Sk}(r:os.ok true)(k:Dt D f os)(h:fi os.steps m n l w=some j)(b:os.steps[j]?=some o)(O:o.2.2.ok false)(p:eK w=D f n l):∀g i s a,w= .cl g i s a->∃S A,o.2.2= .cl g i S A:=by
 intro g i s a e;obtain⟨_,t,H,c⟩:=zh h;rw[b]at H;cases H;rcases c with c | ⟨F,I,S,A,E,c⟩
 ·obtain⟨C,q⟩:=uJ c;obtain⟨d,_⟩:=Ks k b;rw[C,q,<- p,e]at d;exact YE O d
 ·rw[e]at E;cases E;exact uF c
def mK:RA EJ:=λH x p=>∃q a b,x= .ref q/\H q=some (.tup [.ref a,.ref b])/\H a=some (.tup$ p.1.map V.int)/\H b=some (.tup$ p.2.map V.int)
theorem fu:Hu mK:=λ_ _ _ _ k #[q,a,b,e,h,H,c]=>#[q,a,b,e,k _ _ h,k _ _ H,k _ _ c]
structure LK(K:Frag)(C:Addr):Prop where
 cl:oC K C
 n1:a9 K C "kept"
 n2:a9 K C "turned"
 n3:a9 K C "fresh"
 n4:a9 K C "dropped"
noncomputable def HY(k t f d:Addr):List (Str×V):=[("kept",.ref k),("turned",.ref t),("fresh",.ref f),("dropped",.ref d)]
structure L4(H:Hp)(ob:HO)(r kA tA fA dA:Addr)(y:Ly):Prop where
 ins:H r=some ob
 kv:∃xs,H kA=some (.lst xs)/\bq mK H y.k xs
 tv:∃xs,H tA=some (.lst xs)/\bq mK H y.t xs
 fv:∃xs,H fA=some (.lst xs)/\bq gX H y.f xs
 dv:∃xs,H dA=some (.lst xs)/\bq gX H y.d xs
 ne:kA≠tA/\kA≠fA/\kA≠dA/\tA≠fA/\tA≠dA/\fA≠dA
 nl:∀xs,ob≠ .lst xs
abbrev Lg(H:Hp)(C r D k t f d:Addr)(y:Ly):Prop:=L4 H (.ins C D$ HY k t f d) r k t f d y
abbrev Lt(H:Hp)(z k t f d:Addr)(y:Ly):Prop:=L4 H (.tup [.ref k,.ref t,.ref f,.ref d]) z k t f d y
def a6(a b c d:Addr)(H h:Hp):Prop:=∀x o,x≠a->x≠b->x≠c->x≠d->H x=some o->h x=some o
theorem a6.of_same(s:aa H h):a6 a b c d H h:=λ_ _ _ _ _ _ e=>s _ _ e
theorem a6.trans(h:a6 a b c d H i)(k:a6 a b c d i j):a6 a b c d H j:=λx o n N f g e=>k x o n N f g (h x o n N f g e)
section
variable {H H':Hp}{ob:HO}{r kA tA fA dA:Addr}{y:Ly}
theorem L4.tm(h:L4 H ob r kA tA fA dA y)(k:a6 kA tA fA dA H H'):ap H H':=λb x e=>by obtain⟨_,a,_⟩:=h.kv;obtain⟨_,c,_⟩:=h.tv;obtain⟨_,d,_⟩:=h.fv;obtain⟨_,f,_⟩:=h.dv;exact k b _ (jW e a (by intro z;cases z)) (jW e c (by intro z;cases z)) (jW e d (by intro z;cases z)) (jW e f (by intro z;cases z)) e
theorem L4.same(h:L4 H ob r kA tA fA dA y)(s:aa H H'):L4 H' ob r kA tA fA dA y:=by obtain⟨x,a,g⟩:=h.kv;obtain⟨X,b,G⟩:=h.tv;obtain⟨c,d,g3⟩:=h.fv;obtain⟨e,f,i⟩:=h.dv;exact#[s _ _ h.ins,#[x,s _ _ a,g.mono fu$ aa.tm s],#[X,s _ _ b,G.mono fu$ aa.tm s],#[c,s _ _ d,g3.mono cn$ aa.tm s],#[e,s _ _ f,i.mono cn$ aa.tm s],h.ne,h.nl]
theorem JG{o:HO}(h:H a=some (.lst x)):ap H (am H a o):=λb Y e=>by rw[ji$ jW e h (by intro z;cases z)];exact e
theorem L4.setK(h:L4 H ob r kA tA fA dA y)(a:H kA=some (.lst x))(g:bq mK H p Y):L4 (am H kA$ .lst$ x++Y) ob r kA tA fA dA (y.app #[p,[],[],[]])/\a6 kA tA fA dA H (am H kA$ .lst$ x++Y):=by
 have T:=JG (o:=.lst (x++Y)) a;obtain⟨v,c,G⟩:=h.kv;obtain⟨X,i,j⟩:=h.tv;obtain⟨k,l,g3⟩:=h.fv;obtain⟨m,n,q⟩:=h.dv;obtain⟨N,s,u,z,B,C⟩:=h.ne;rw[c]at a;cases a;refine#[#[?_,#[_,jc,(bq.app g G).mono fu T],#[X,?_,?_],#[k,?_,?_],#[m,?_,?_],h.ne,h.nl],λb o A D E F e=>by rw[ji A];exact e]
 ·rw[ji$ jW h.ins c$ h.nl _];exact h.ins
 ·rw[ji$ ME N];exact i
 ·show bq mK _ (y.t++[]) _;rw[Mv];exact j.mono fu T
 ·rw[ji$ ME s];exact l
 ·show bq gX _ (y.f++[]) _;rw[Mv];exact g3.mono cn T
 ·rw[ji$ ME u];exact n
 ·show bq gX _ (y.d++[]) _;rw[Mv];exact q.mono cn T
theorem L4.setT(h:L4 H ob r kA tA fA dA y)(a:H tA=some (.lst x))(g:bq mK H p Y):L4 (am H tA$ .lst$ x++Y) ob r kA tA fA dA (y.app #[[],p,[],[]])/\a6 kA tA fA dA H (am H tA$ .lst$ x++Y):=by
 have t:=JG (o:=.lst (x++Y)) a;obtain⟨X,i,G⟩:=h.kv;obtain⟨z,c,j⟩:=h.tv;obtain⟨l,m,g3⟩:=h.fv;obtain⟨n,q,s⟩:=h.dv;obtain⟨N,B,C,u,v,D⟩:=h.ne;rw[c]at a;cases a;refine#[#[?_,#[X,?_,?_],#[_,jc,(bq.app g j).mono fu t],#[l,?_,?_],#[n,?_,?_],h.ne,h.nl],λb o E A F I e=>by rw[ji A];exact e]
 ·rw[ji$ jW h.ins c$ h.nl _];exact h.ins
 ·rw[ji N];exact i
 ·show bq mK _ (y.k++[]) _;rw[Mv];exact G.mono fu t
 ·rw[ji$ ME u];exact m
 ·show bq gX _ (y.f++[]) _;rw[Mv];exact g3.mono cn t
 ·rw[ji$ ME v];exact q
 ·show bq gX _ (y.d++[]) _;rw[Mv];exact s.mono cn t
theorem L4.setF(h:L4 H ob r kA tA fA dA y)(a:H fA=some (.lst x))(f:bq gX H p Y):L4 (am H fA$ .lst$ x++Y) ob r kA tA fA dA (y.app #[[],[],p,[]])/\a6 kA tA fA dA H (am H fA$ .lst$ x++Y):=by
 have T:=JG (o:=.lst (x++Y)) a;obtain⟨X,g,G⟩:=h.kv;obtain⟨i,j,l⟩:=h.tv;obtain⟨v,c,g3⟩:=h.fv;obtain⟨m,n,q⟩:=h.dv;obtain⟨z,N,B,s,C,u⟩:=h.ne;rw[c]at a;cases a;refine#[#[?_,#[X,?_,?_],#[i,?_,?_],#[_,jc,(bq.app f g3).mono cn T],#[m,?_,?_],h.ne,h.nl],λb o D E A F e=>by rw[ji A];exact e]
 ·rw[ji$ jW h.ins c$ h.nl _];exact h.ins
 ·rw[ji N];exact g
 ·show bq mK _ (y.k++[]) _;rw[Mv];exact G.mono fu T
 ·rw[ji s];exact j
 ·show bq mK _ (y.t++[]) _;rw[Mv];exact l.mono fu T
 ·rw[ji$ ME u];exact n
 ·show bq gX _ (y.d++[]) _;rw[Mv];exact q.mono cn T
theorem L4.setD(h:L4 H ob r kA tA fA dA y)(a:H dA=some (.lst x))(d:bq gX H p Y):L4 (am H dA$ .lst$ x++Y) ob r kA tA fA dA (y.app #[[],[],[],p])/\a6 kA tA fA dA H (am H dA$ .lst$ x++Y):=by
 have T:=JG (o:=.lst (x++Y)) a;obtain⟨X,g,G⟩:=h.kv;obtain⟨i,j,l⟩:=h.tv;obtain⟨m,n,g3⟩:=h.fv;obtain⟨v,c,q⟩:=h.dv;obtain⟨z,B,N,C,s,u⟩:=h.ne;rw[c]at a;cases a;refine#[#[?_,#[X,?_,?_],#[i,?_,?_],#[m,?_,?_],#[_,jc,(bq.app d q).mono cn T],h.ne,h.nl],λb o D E F A e=>by rw[ji A];exact e]
 ·rw[ji$ jW h.ins c$ h.nl _];exact h.ins
 ·rw[ji N];exact g
 ·show bq mK _ (y.k++[]) _;rw[Mv];exact G.mono fu T
 ·rw[ji s];exact j
 ·show bq mK _ (y.t++[]) _;rw[Mv];exact l.mono fu T
 ·rw[ji u];exact n
 ·show bq gX _ (y.f++[]) _;rw[Mv];exact g3.mono cn T
end
theorem yo(p:aJ)(os:List aO)(m:Nat):eG p os m m=[]:=by unfold eG;rw[Rb,List.take_zero];rfl
theorem tK{po:aJ}{os:List aO}{m j:Nat}(h:m<=j)(H:os[j]?=some o):eG po os m (j+1)=eG po os m j++cg (po++[(j:Int)]) o.2.2:=by
 unfold eG;have e:(os.drop m).take (j+1 - m)=(os.drop m).take (j - m)++[o]:=by rw[show j+1 - m=(j - m)+1 by omega,MW,OP,show m+(j - m)=j by omega,H];rfl
 have a:((os.drop m).take$ j - m).length=j - m:=by have:=(List.getElem?_eq_some_iff.mp H).1;rw[Mw,M8];omega
 rw[e,zR,Mz,a,show m+(j - m)=j by omega];congr 1;show(((_,_)::_)++[]).map _=_;rw[Mv];rfl
noncomputable abbrev vZ:Stmt:=bo (bQ 36) 0
noncomputable abbrev Az:Stmt:=bo (bQ 36) 1
noncomputable abbrev vX:Stmt:=bo (bQ 36) 2
noncomputable abbrev Ay:Stmt:=bo (bQ 36) 3
noncomputable abbrev v6:Stmt:=bQ 37
section
open SeqAt
variable {X:Cx}
theorem IB(I:ax X p σ H s)(n:Nat)(G:∀(t:Tr) {A:Around},t.dep<=n->A.units+n < cLine->t.In->t.isL=false->∀{u:Tr} {x y:V},u.In->u.isL=false->aS H t x []->aS H u y []->∀a b,aF x a->aF y b->EqAt A s a b (gp t u)){l m:Tr}(hn:l.dep<=n)(hu:A.units+n+1 < cLine)(J:l.In)(L:m.In)(d:l.isL=true)(f:m.isL=true)(M:H g=some (.tup i))(N:H B=some (.tup o))(T:aS H l .non i)(q:aS H m .non o):RcNeAt A s (.ref g) (.ref B) (!gp (.tp l) (.tp m)):=by
 obtain⟨v,r,O,_⟩:=I.tuple (aB.of (K:=X.K) M);obtain⟨C,R,Q,_⟩:=I.tuple (aB.of (K:=X.K) N);obtain⟨S,U⟩:=qG d J T;obtain⟨W,Y⟩:=qG f L q;have z:=RcNeAt.tuples (A:=A) (e:=lh l m) (show s.heap.IsTuple g v.toArray from O) (show s.heap.IsTuple B C.toArray from Q) UO (λj h1 h2=>?_)
 ·rw[X8 d f T q (by rw[LY,<- r.length,S]) (by rw[LY,<- R.length,W])]at z;have E:gp (.tp l) (.tp m)=gp l m:=by
   by_cases c:l=m
   ·rw[zD c,zD (by rw[c])]
   ·rw[zj c,zj (λk=>c (by injection k))]
  rw[E];exact z
 ·have la:=r.length;have lb:=R.length;have D:j < i.length:=by simp at h1;omega
  have h:j < o.length:=by simp at h2;omega
  obtain⟨u1,q1,r1⟩:=r.get (LP D);obtain⟨u2,q2,r2⟩:=R.get (LP h);have e1:v.toArray[j]=u1:=by obtain⟨_,e⟩:=List.getElem?_eq_some_iff.mp q1;simpa using e
  have E:C.toArray[j]=u2:=by obtain⟨_,e⟩:=List.getElem?_eq_some_iff.mp q2;simpa using e
  rw[e1,E];obtain⟨F,g1,g2,g3,g4,g5⟩:=U j _ (LP D);obtain⟨u',k1,k2,k3,k4,k5⟩:=Y j _ (LP h);have et:lh l m j=gp F u':=by unfold lh;rw[g1,k1]
  rw[et];exact G F (A:=A.in1) UO (by show A.units+1+n < cLine;omega) g3 g2 k3 k2 g5 k5 _ _ r1 r2
inductive DY(d:Nat)(x y:V)(H:Hp)(Q:VK):Prop
 |mk(l m:Tr)(_:l.dep < d)(_:l.In)(_:m.In)(_:aS H (.tp l) x [])(_:aS H (.tp m) y [])(_:Q (.bl (!gp (.tp l) (.tp m))) H)
theorem vo{d:Nat}(c:X.A.units+d+1 < cLine):fb X (compareOp .NotEq) (DY d):=by intro p s n H x y v u Q I r R h;obtain⟨l,m,o,i,e,⟨f,a,z,rfl,g,t⟩,⟨j,b,B,rfl,k,T⟩,q⟩:=h;cases r;cases R;exact IB I d (Q4 I d) UO c i e f j g k t T X.prog X.w _ _ #[.bl _,H,I,Z,q]
end
inductive iS(b:List V)(H:Hp)(Q:VK)(a:XK):Prop
 |mk(u:V)(w:Sk)(_:b=[u])(_:dF H w u [])(_:w.ok false)(_:Q (.int w.fnd) H)
inductive mj(C:Addr)(d:List V)(H:Hp)(Q:VK)(a:XK):Prop
 |mk(r c:Addr)(_:d=[.ref r])(_:H r=some (.ins C c []))(_:∀(kA tA fA dA:Addr) (H':Hp),Lg H' C r c kA tA fA dA .nil->(∀b o,b≠r->H b=some o->H' b=some o)->H kA=none->H tA=none->H fA=none->H dA=none->Q .non H')
inductive iR(C:Addr)(o:List V)(H:Hp)(Q:VK)(b:XK):Prop
 |mk(r e i n g d k c:Addr)(l:aJ)(f:Str)(h:List Int)(s:Sk)(a:Int)(m j:Nat)(y:Ly)(_:o=[.ref r,.ref k,.ref c,.int (m:Int),.int (j:Int)])(_:Lg H C r e i n g d y)(_:H k=some (.tup (l.map V.int)))(_:l.length<=50)(_:mN H f h s a (.ref c))(_:s.ok true)(_:s.dep<=15)(_:s.size<=1000)(_:m<=j)(_:j<=s.steps.length)(_:y.d.length+(eG l s.steps m j).length<=100000)(_:∀H',Lg H' C r e i n g d (y.app #[[],[],[],eG l s.steps m j])->a6 i n g d H H'->Q .non H')
inductive nB(C:Addr)(n:Nat)(A:List V)(H:Hp)(Q:VK)(b:XK):Prop
 |mk(D:DF)(r f k w h e t q i o p j:Addr)(v u:aJ)(l m:Int)(c d:List Int)(x z:V)(B E:Sk)(y:Ly)(_:A=[.ref r,.ref t,.ref q,.ref o,.ref p])(_:Lg H C r f k w h e y)(_:H t=some (.tup (v.map V.int)))(_:H o=some (.tup (u.map V.int)))(_:v.length+n<=50)(_:u.length+n<=50)(_:H q=some (.tup [.int l,.ref i,x]))(_:H i=some (.tup (c.map V.int)))(_:dF H B x [])(_:B.ok false)(_:B.dep<=15)(_:B.size<=1000)(_:H p=some (.tup [.int m,.ref j,z]))(_:H j=some (.tup (d.map V.int)))(_:dF H E z [])(_:E.ok false)(_:E.dep < n)(_:E.dep<=15)(_:E.size<=1000)(_:∀g is s a,E= .cl g is s a->∃s' a',B= .cl g is s' a'/\Dt D g s/\Dt D g s')(_:(y.app ((one v (l,c,B) u m d E).app (dJ E v (lr B) 0 u 0))).tot<=100000)(_:∀H',Lg H' C r f k w h e (y.app ((one v (l,c,B) u m d E).app (dJ E v (lr B) 0 u 0)))->a6 k w h e H H'->Q .non H')
inductive lH(C:Addr)(n:Nat)(v:List V)(H:Hp)(Q:VK)(a:XK):Prop
 |mk(D:DF)(r h l u i g o c m b:Addr)(q p:aJ)(f:Str)(j k:List Int)(s t:Sk)(d e:Int)(y:Ly)(_:v=[.ref r,.ref o,.ref c,.ref m,.ref b])(_:Lg H C r h l u i g y)(_:H o=some (.tup (q.map V.int)))(_:H m=some (.tup (p.map V.int)))(_:q.length+n<=49)(_:p.length+n<=49)(_:mN H f j s d (.ref c))(_:s.ok true)(_:s.dep<=15)(_:s.size<=1000)(_:mN H f k t e (.ref b))(_:t.ok true)(_:t.dep < n)(_:t.dep<=15)(_:t.size<=1000)(_:Dt D f s)(_:Dt D f t)(_:(y.app (dJ t q s.steps 0 p 0)).tot<=100000)(_:∀H',Lg H' C r h l u i g (y.app (dJ t q s.steps 0 p 0))->a6 l u i g H H'->Q .non H')
inductive I9(C r d k q h b o c:Addr)(p:aJ)(n:List aO)(m j:Nat)(y:Ly)(H:Hp)(i:Nat)(s:_L.St)(a:Hp):Prop
 |mk(l:Option V)(e:s=[some (.ref r),some (.ref o),some (.ref c),some (.int (m:Int)),some (.int (j:Int)),l])(f:Lg a C r d k q h b (y.app #[[],[],[],eG p n m (m+i)]))(g:a6 k q h b H a)
inductive K'(D:DF)(C r h w M v g F c x b:Addr)(J I:aJ)(f:Str)(G:List aO)(L:List V)(K:Sk)(d:Ly)(H:Hp)(i:Nat)(N:_L.St)(e:Hp):Prop
 |mk(z A B E:Option V)(m:Nat)(a:Sk)(y:Ly)(j:N=[some (.ref r),some (.ref F),some (.ref c),some (.ref x),some (.ref b),some (.int (m:Int)),z,A,B,E])(k:Lg e C r h w M v g y)(l:dF e a .non (L.drop i))(n:a.ok true)(o:a.dep<=K.dep)(p:a.size<=K.size)(q:Dt D f a)(s:m<=G.length)(t:y.app (dJ a J G m I i)=d)(u:a6 w M v g H e)
theorem Gj:one p (n,h,b) a N H c=if aR N H (n,h,b)=true then (if b.fnd=c.fnd then #[[(p,a)],[],[],[]] else #[[],[(p,a)],[],[]]) else #[[],[],[a],[p]]:=rfl
theorem rE(F:aQ K "found_in" "found_in" gE f r):af P w K mg base aE 1 f r ["what"] iS:=by
 refine F.ok lG ?_ λC A o s H v Q E x h=>?_
 ·rintro _ _ _ _ ⟨u,w,rfl,_⟩;rfl
 obtain⟨u,w,rfl,l,d,q⟩:=h;refine#[_,(jg$ jp$ kW (ki$ jy$ pv 0) (jy$ jo jH (pv 0) jf (λ_ _=>Z))$ jo jH (pv 0) (vv Yx jf) (λ_ _=>Z)),?_];cases w with
 |nil |st _ _ _ _=>exact d.elim
 |ask b |rd a i |wr a i=>obtain⟨p,rfl,m⟩:=l;exact(jv m dU #[Z,_,Z,aX UQ #[_,Z,_,Z,p,_,_,_,Z,Z,aB.of m,Z,q]])
 |cl f I s i=>obtain⟨p,c,g,e,S,rfl,n,t,_⟩:=l;exact(jv n dU #[Z,_,Z,cX UQ$ jv n ij #[c,_,_,_,Z,Z,aB.of t,jL (j:=3) Z,q]])
theorem Ed:ai ["self"] ["self"] (ae vZ):=bP
theorem yU(F:aQ K "__init__" "Laying.__init__" vZ f U)(c:LK K C):af P w K mg base aE 1 f U ["self"] (mj C):=by
 refine F.ok Ed ?_ λR A O s H V Q E S h=>?_
 ·rintro _ _ _ _ ⟨r,D,rfl,_⟩;rfl
 obtain⟨r,D,rfl,g,q⟩:=h;refine#[_,(jd (@zG _ _ _ _ _ _ _ _ (pv 0) (jG jb) Z)$ jd (@zG _ _ _ _ _ _ _ _ (pv 0) (jG jb) Z)$ jd (@zG _ _ _ _ _ _ _ _ (pv 0) (jG jb) Z)$ jg$ @zG _ _ _ _ _ _ _ _ (pv 0) (jG jb) Z),?_];refine ah λM d=>#[fg,λk l=>#[_,Z,r,C,D,_,Z,aq g l,c.cl,c.n1,(by show 0 < 1000;decide),d _ _ ?_]];clear d;refine ah λM d=>#[fg,λt a=>#[_,Z,r,C,D,_,Z,aq jc a,c.cl,c.n2,(by show 1 < 1000;decide),d _ _ ?_]];clear d;refine ah λM d=>#[fg,λi N=>#[_,Z,r,C,D,_,Z,aq jc N,c.cl,c.n3,(by show 2 < 1000;decide),d _ _ ?_]];clear d;refine#[fg,λj n=>#[_,Z,r,C,D,_,Z,aq jc n,c.cl,c.n4,(by show 3 < 1000;decide),?_]];have m:k≠r:=(jk g l).symm;have T:t≠r:=λz=>by rw[z,jc]at a;cases a
 have p:i≠r:=λz=>by rw[z,jc]at N;cases N
 have u:j≠r:=λz=>by rw[z,jc]at n;cases n
 rw[ji T]at a;have x:t≠k:=λz=>by rw[z,jc]at a;cases a
 rw[ji x]at a;rw[ji p]at N;have y:i≠t:=λz=>by rw[z,jc]at N;cases N
 rw[ji y,ji p]at N;have B:i≠k:=λz=>by rw[z,jc]at N;cases N
 rw[ji B]at N;rw[ji u]at n;have G:j≠i:=λz=>by rw[z,jc]at n;cases n
 rw[ji G,ji u]at n;have I:j≠t:=λz=>by rw[z,jc]at n;cases n
 rw[ji I,ji u]at n;have J:j≠k:=λz=>by rw[z,jc]at n;cases n
 rw[ji J]at n;refine q k t i j _ #[jc,#[[],?_,Z],#[[],?_,Z],#[[],?_,Z],#[[],?_,Z],#[x.symm,B.symm,J.symm,y.symm,I.symm,G.symm],λ_ z=>nomatch z] (λb o v e=>?_) l a N n
 ·rw[ji m,ji J.symm,ji m,ji B.symm,ji m,ji x.symm,ji m,jc]
 ·rw[ji T,ji I.symm,ji T,ji y.symm,ji T,jc]
 ·rw[ji p,ji G.symm,ji p,jc]
 ·rw[ji u,jc]
 ·rw[ji v,ji$ jk e n,ji v,ji$ jk e N,ji v,ji$ jk e a,ji v,ji$ jk e l];exact e
theorem ww:ai ["self","path","chain","begin","end","at"] z19z (ae vX):=bP
theorem yP(F:aQ K "drop" "Laying.drop" vX f fd)(ck:LK K C)(cP:Cl P w K mg base 36 fP f0 z6z (lI 17) "paths_at")(mr:mg "range"=none):af P w K mg base aE 37 f fd z19z (iR C):=by
 refine F.ok ww ?_ λc0 A O s H vs Q E hr h=>?_
 ·rintro _ _ _ _ ⟨r,D,kA,tA,fA,G,I,c,po,f,is,s,a,m,j,y,rfl,_⟩;rfl
 obtain⟨r,D,kA,tA,fA,G,I,c,po,f,is,s,a,m,j,y,rfl,hL,M,h5,hc,b,h6,h7,h',a0,h0,q⟩:=h;refine#[_,(jg$ kH MF Z (qg Z mr$ ja (pv 3)$ ja (pv 4) jb) (jx (i:=5) ww.nd Z$ Or.inl Z)$ jg$ jF$ jZ L9 Nf Nc zC (kf (pv 0) Z)$ ja (cP.e hr.m$ ja (jw jQ (pv 1)$ jh$ ja (pv 5) jb)$ ja (jy$ jo jH (jo jH (pv 2) jf (λ_ _=>Z)) (pv 5) (λ_ _=>Z)) jb) jb),?_];have b1:=aH;obtain⟨_,g,e,ss,ec,h1,h2,h3,N⟩:=id hc;cases ec;have l0:=zw b N;have l1:=qY b N;refine dW λJ jj=>#[_,Z,_,Z,_,_,Z,#[UO,UO,UO,UO],jj _ _ ?_];clear jj;refine zg (I9 C r D kA tA fA G I c po s.steps m j y H) #[none,Z,?_,λ_ _ _ _ _ _ e=>e] ?_ (λσ H' h=>?_)
 ·rw[Ue,yo];exact(Ly.app_nil y).symm▸hL
 ·intro E2 rt i σ H2 hi fE Gq k h;obtain⟨o5,rfl,_L,B⟩:=h;refine k ?_;clear k;have T:=hL.tm B;have e0:(m:Int)+(i:Int)=((m+i:Nat):Int):=by omega
  rw[e0];have n:m+i < ss.length:=by omega
  obtain⟨n',a1,w,p,h,u,ht,R,d0,s0,ex,hp,hh,hw⟩:=qE b (N.mono T) (LP n);have U:ss[m+i]?=some (.ref p):=by rw[LP n,ex]
  obtain⟨xs,W,lx⟩:=_L.dv;refine#[_,Z,r,C,D,_,_,Z,_L.ins,ck.cl,ck.n4,Z,.inl #[Z,_,aI.of W],_,Z,_,Z,iE,λt nt=>#[I,t,_,_,Z,Z,aq (T _ _ M) nt,jc,by rw[LU];show _+1<=_;omega,λr9 H9 z s9=>?_]];have v:=(je (o:=.tup [.int ((m+i:Nat):Int)]) nt).trans s9;have z:H9 r9=some (.tup$ po.map V.int++[.int ((m+i:Nat):Int)]):=z;rw[lK]at z;refine(jv (v _ _$ T _ _ h1) dG #[_,Z,e,_,_,_,Z,Z,aB.of$ v _ _$ T _ _ h3,jL U,p,_,_,_,Z,Z,aB.of$ v _ _ hp,dG,r9,_,w,u,Z,z,by rw[LS];show _+1+_<=_;omega,hw.mono$ aa.tm v,R,UO,UO,λl zs H0 nl hl hz X=>?_]);have S:=v.trans X;have Y:=_L.same S;have lz:=hz.len;have x:=lx.len;have ds:eG po s.steps m (m+i+1)=eG po s.steps m (m+i)++cg (po++[((m+i:Nat):Int)]) w:=tK (po:=po) (os:=s.steps) (m:=m) (j:=m+i) UO ht;have dl:(eG po s.steps m$ m+i+1).length<=(eG po s.steps m j).length:=by unfold eG;rw[LU,LU];have:=Q6 ((s.steps.drop m).take$ j - m) (m+i+1 - m) po m;rw[List.take_take,NG UO]at this;exact this
  rw[ds,LS]at dl;have x:xs.length=y.d.length+(eG po s.steps m$ m+i).length:=by rw[x];exact LS
  obtain⟨L,b0⟩:=Y.setD (S _ _ W) hz;refine#[G,l,_,_,Z,Z,S _ _ W,hl,UO,fE _ _ #[_,Z,?_,(B.trans$ a6.of_same S).trans b0]];rw[Ly.app_assoc]at L;have ee:(#[[],[],[],eG po s.steps m$ m+i]:Ly).app #[[],[],[],cg (po++[((m+i:Nat):Int)]) w]=#[[],[],[],eG po s.steps m$ m+(i+1)]:=by rw[show m+(i+1)=m+i+1 by omega,ds];rfl
  rw[ee]at L;exact L
 ·obtain⟨o5,rfl,_L,B⟩:=h;rw[show m+((j:Int) - (m:Int)).toNat=j by omega]at _L;exact q _ _L B
theorem uE{w:Sk}{os:List aO}(o:w.ok false)(h:∀f i s a,w≠ .cl f i s a):dJ w p os m b k= .nil:=by
 cases w with
 |nil |st _ _ _ _=>exact o.elim
 |cl f i s a=>exact absurd Z (h f i s a)
 |_=>rfl
theorem Jj{w:Sk}(o:w.ok false)(h:dF H w u []):∃p v r,u= .ref p/\H p=some (.tup (.str v::r))/\(v="call"↔∃f i s a,w= .cl f i s a):=by
 cases w with
 |nil |st _ _ _ _=>exact o.elim
 |ask b |rd b c |wr b c=>obtain⟨p,e,h⟩:=h;exact#[p,_,_,e,h,λe=>absurd e UN,λ#[_,_,_,_,e]=>nomatch e]
 |cl f i s a=>obtain⟨p,c,g,E,S,e,h,_⟩:=h;exact#[p,_,_,e,h,λ_=>#[_,_,_,_,Z],λ_=>Z]
theorem qM:decide (V.str a=V.str b)=decide (a=b):=by
 by_cases h:a=b
 ·rw[Mc h,Mc (by rw[h])]
 ·rw[LZ h,LZ λz=>h (by injection z)]
theorem Ly.f_le(a b:Ly):a.f.length<=(a.app b).tot/\a.k.length<=(a.app b).tot/\a.t.length<=(a.app b).tot/\a.d.length<=(a.app b).tot:=by rw[Ly.tot_app];unfold Ly.tot;omega
theorem GU:ai z3z z3z (ae Ay):=bP
theorem Du(F:aQ K "lay_step" "Laying.lay_step" Ay f fd)(l:LK K C)(cF:Cl P w K mg base 1 fF f3 ["what"] iS "found_in")(GL:af P w K mg base aE (2*n+38) fL f0 z3z (lH C n))(bL:aD K f0 z3z [])(m0:bj K C "lay" fL):af P w K mg base aE (2*n+39) f fd z3z (nB C$ n+1):=by
 refine F.ok GU ?_ λc2 A o2 s H vs Q E hr h=>?_
 ·rintro _ _ _ _ ⟨D,r,x,kA,tA,fA,dA,O,q0,h0,N,p,h1,B,G,I,V,b,c,u0,u1,W,w1,y,rfl,_⟩;rfl
 obtain⟨D,r,x,kA,tA,fA,dA,O,q0,h0,N,p,h1,B,G,I,V,b,c,u0,u1,W,w1,y,rfl,hL,h3,h4,b0,b1,X,a2,h5,o1,h6,a3,hp,a4,Y,o,h7,J,a5,h2,L,q⟩:=h;refine#[_,(jd (jz (jE (vo (d:=10)$ lD hr) (jJ j8 (pv 2) jT$ jK jf) (jJ j8 (pv 4) jT$ jK jf)$ aL _) (jd (jF$ jZ L9 Ml Mj jM (kf (pv 0) Z)$ ja (pv 3) jb)$ jg$ jF$ jZ L9 Ml Mj jM (kf (pv 0) Z)$ ja (pv 1) jb)$ jg$ jz (jE Ja (cF.e hr.m$ ja (jy$ pv 2) jb) (cF.e hr.m$ ja (jy$ pv 4) jb)$ aL _) (jg$ jF$ jZ L9 Ml Mj jM (kf (pv 0) Z)$ ja (jh$ ja (pv 1)$ ja (pv 3) jb) jb)$ jg$ jF$ jZ L9 Ml Mj jM (kf (pv 0) Z)$ ja (jh$ ja (pv 1)$ ja (pv 3) jb) jb)$ jg$ jz (ki$ jy$ jo jH (pv 4) jf (λ_ _=>Z)) (jg$ jF$ kh (pv 0) l.cl m0 GL hr.m bL .nil ba$ ja (pv 1)$ ja (jy$ jo jH (pv 2) jf (λ_ _=>Z))$ ja (pv 3)$ ja (jy$ jo jH (pv 4) jf (λ_ _=>Z)) jb) ju),?_];have b2:=aH;refine ah λF1 f1=>?_;suffices M:∀H',Lg H' C r x kA tA fA dA (y.app$ one B (I,b,W) G V c w1)->a6 kA tA fA dA H H'->F1 [some$ .ref r,some$ .ref O,some$ .ref q0,some$ .ref N,some$ .ref p] H' by
  clear f1;have vj:=Ly.f_le y ((one B (I,b,W) G V c w1).app$ dJ w1 B (lr W) 0 G 0);refine#[_,Z,_,Z,q0,_,Z,X,λq1 H1 e1 u=>#[_,Z,_,Z,p,_,Z,u _ _ hp,λq2 H2 e2 s2=>#[_,_,Xh I b,JF I b,JF V c,jD (s2 _ _ e1)$ jm Z jX$ jm Z (km$ s2 _ _$ u _ _ a2) jA,jD e2$ jm Z jX$ jm Z (km$ s2 _ _$ u _ _ a4) jA,_,Z,?_]]];rw[show gp (.tp$ ay [au I,aA$ b.map au]) (.tp$ ay [au V,aA$ c.map au])=aR V c (I,b,W) from YD];have v:=u.trans s2;have _L:=hL.same v;have t0:=aa.tm v;have i:=v _ _ h3;have j:=v _ _ h4;rw[Gj]at M;cases hb:aR V c (I,b,W) with
  |false=>
   rw[hb,Mf (by intro z;cases z)]at M;refine cX Z ?_;obtain⟨xs,k,lx⟩:=_L.fv;have l0:=lx.len;refine ah λF2 f2=>#[_,Z,r,C,x,_,_,Z,_L.ins,l.cl,l.n3,Z,.inl #[Z,_,aI.of k],_,Z,fA,_,_,Z,Z,k,UO,f2 _ _ ?_];clear f2;obtain⟨U,b3⟩:=_L.setF k (bq.one (R:=gX) (w:=G) #[N,Z,j]);have T:=_L.tm b3;generalize am H2 fA (.lst$ xs++[.ref N])=H3 at U b3 T ⊢;obtain⟨zs,hz,lz⟩:=U.dv;have l1:=lz.len;have l1:zs.length=y.d.length:=by rw[l1];show(y.d++[]).length=_;rw[Mv]
   refine#[_,Z,r,C,x,_,_,Z,U.ins,l.cl,l.n4,Z,.inl #[Z,_,aI.of hz],_,Z,dA,_,_,Z,Z,hz,UO,?_];obtain⟨L4,b4⟩:=U.setD hz (bq.one (R:=gX) (w:=B) #[O,Z,T _ _ i]);rw[Ly.app_assoc]at L4;exact M _ L4 (((a6.of_same v).trans b3).trans b4)
  |true=>
   rw[hb,Mb Z]at M;refine aX Z ?_;refine(jv (v _ _ X) dG #[u0,W,Z,h5.mono t0,o1,jv (v _ _ hp) dG #[u1,w1,Z,Y.mono t0,o,Z,_,Z,?_]]);by_cases hf:W.fnd=w1.fnd
   ·rw[Mb hf]at M;refine cX (Mc (by rw[hf])) ?_;obtain⟨xs,k,lx⟩:=_L.kv;have l0:=lx.len;refine#[_,Z,r,C,x,_,_,Z,_L.ins,l.cl,l.n1,Z,.inl #[Z,_,aI.of k],_,Z,_,Z,ci,λt nt=>#[kA,_,_,Z,Z,aq k nt,UO,?_]];have S:aa H2 (am H2 t$ .tup [.ref O,.ref N]):=je nt;obtain⟨L4,b4⟩:=(_L.same S).setK (S _ _ k) (bq.one (R:=mK) (w:=(B,G)) #[t,O,N,Z,jc,S _ _ i,S _ _ j]);exact M _ L4 ((a6.of_same$ v.trans S).trans b4)
   ·rw[Mf hf]at M;refine aX (LZ λz=>hf (by injection z)) ?_;obtain⟨xs,k,lx⟩:=_L.tv;have l0:=lx.len;refine#[_,Z,r,C,x,_,_,Z,_L.ins,l.cl,l.n2,Z,.inl #[Z,_,aI.of k],_,Z,_,Z,ci,λt nt=>#[tA,_,_,Z,Z,aq k nt,UO,?_]];have S:aa H2 (am H2 t$ .tup [.ref O,.ref N]):=je nt;obtain⟨L4,b4⟩:=(_L.same S).setT (S _ _ k) (bq.one (R:=mK) (w:=(B,G)) #[t,O,N,Z,jc,S _ _ i,S _ _ j]);exact M _ L4 ((a6.of_same$ v.trans S).trans b4)
 intro H3 U b3;refine f1 _ _ ?_;clear f1;have T:=hL.tm b3;rw[<- Ly.app_assoc]at L q;obtain⟨p3,v3,r3,eu,a',h'⟩:=Jj o (Y.mono T);subst eu;refine(jv (T _ _ hp) dG #[p3,_,_,_,Z,Z,aB.of a',dU,Z,_,Z,?_]);rw[qM];by_cases hv:v3="call"
 ·obtain⟨g,is,u,a1,rfl⟩:=h'.mp hv;obtain⟨s0,a0,rfl,D1,D0⟩:=h2 g is u a1 Z;refine cX (Mc hv) ?_;obtain⟨x1,c1,g1,e1,s4,e3,k1,k2,k3,k4,k5⟩:=Y.mono T;obtain⟨x0,c0,g0,e0,s5,e4,i1,i2,i3,i4,i5⟩:=h5.mono T;cases e3;subst e4;have h7:u.dep+1 < n+1:=h7;have J:u.dep+1<=15:=J;have h6:s0.dep+1<=15:=h6;exact#[_,Z,r,x,_,Z,U.ins,Z,_,Z,jv (T _ _ X) dG #[x0,_,_,_,Z,Z,aB.of i1,ij,_,Z,jv (T _ _ hp) dG #[p3,_,_,_,Z,Z,aB.of k1,ij,D,r,x,kA,tA,fA,dA,O,c0,N,c1,B,G,g,is,is,s0,u,a0,a1,_,Z,U,T _ _ h3,T _ _ h4,UO,UO,#[c0,g0,e0,s5,Z,i2,i3,i4,i5],o1,UO,a3,#[c1,g1,e1,s4,Z,k2,k3,k4,k5],o,UO,UO,a5,D0,D1,L,λH4 L4 b4=>q H4 L4 (b3.trans b4)]]]
 ·refine aX (LZ hv) ?_;rw[uE o (λf is s a e=>hv (h'.mpr #[f,is,s,a,e])),Ly.app_nil]at q;exact q H3 U b3
theorem iK:ai ["self","old_path","old","new_path","new","mark","number","step","here","taken"] z3z (ae Az):=bP
theorem uY(F:aQ K "lay" "Laying.lay" Az f fd)(ck:LK K C)(cT:Cl P w K mg base 3 fT f3 ["steps","mark","step"] nG "taken_from")(cP:Cl P w K mg base 36 fP f4 z6z (lI 17) "paths_at")(GD:af P w K mg base aE 37 fD f0 z19z (iR C))(bD:aD K f0 z19z [])(m0:bj K C "drop" fD)(GS:af P w K mg base aE (2*n+37) fS f2 z3z (nB C n))(bS:aD K f2 z3z [])(m1:bj K C "lay_step" fS)(m2:mg "enumerate"=none)(ml:mg "len"=none):af P w K mg base aE (2*n+38) f fd z3z (lH C n):=by
 refine F.ok iK ?_ λd4 A o1 s H vs Q E hr h=>?_
 ·rintro _ _ _ _ ⟨D,r,U,kA,tA,fA,dA,X,c,na,b,u,G,f,is,js,p,s1,a0,a1,y,rfl,_⟩;rfl
 obtain⟨D,r,U,kA,tA,fA,dA,X,c,na,b,u,G,f,is,js,p,s1,a0,a1,y,rfl,hL,h6,c2,d5,d6,h7,O,a4,a2,c3,o2,d7,c',d8,D0,D1,M,q⟩:=h;refine#[_,(jd (jB 5 iK.nd jf)$ jd (kH MF Z (Jo Z m2$ ja (jy$ pv 4) jb) (qC (n:=2) Z$ jC (jx (i:=6) iK.nd Z$ Or.inl Z)$ jC (jx (i:=7) iK.nd Z$ Or.inl Z) za)$ jd (jB 8 iK.nd$ jw jQ (pv 3)$ jh$ ja (pv 6) jb)$ jd (jB 9 iK.nd$ cT.e hr.m$ ja (jy$ pv 2)$ ja (pv 5)$ ja (pv 7) jb)$ jg$ jz (Ku$ @QV _ _ _ _ _$ pv 9) (jg$ jF$ jZ L9 Nf Nc zC (kf (pv 0) Z)$ ja (cP.e hr.m$ ja (pv 8)$ ja (jy$ pv 7) jb) jb)$ jd (jF$ kh (pv 0) ck.cl m0 GD hr.m bD .nil ba$ ja (pv 1)$ ja (pv 2)$ ja (pv 5)$ ja (pv 9) jb)$ jd (jF$ kh (pv 0) ck.cl m1 GS hr.m bS .nil ba$ ja (jw jQ (pv 1)$ jh$ ja (pv 9) jb)$ ja (jo jH (jy$ pv 2) (pv 9) (λ_ _=>Z))$ ja (pv 8)$ ja (pv 7) jb)$ jg$ jB 5 iK.nd$ jw ke (pv 9) jf)$ jg$ jF$ kh (pv 0) ck.cl m0 GD hr.m bD .nil ba$ ja (pv 1)$ ja (pv 2)$ ja (pv 5)$ ja (jR jO Z ml Nh$ ja (jy$ pv 2) jb) jb),?_];have d':=aH;obtain⟨_,g0,e0,s2,e4,h1,h2,h3,h4⟩:=id h7;cases e4;obtain⟨_,g1,e1,s3,e6,k1,k2,k3,k4⟩:=id c3;cases e6;have l0:=zw O h4;have l1:=qY O h4;refine ah λF1 v=>v _ _ ?_;clear v;refine ah λF1 v=>dW λJ jj=>(jv k1 dG #[e1,Z,#[_,aB.of k3],jj _ _ ?_]);clear jj;refine qt (K:=K) (xs:=s3) (K' D C r U kA tA fA dA X c na b u G f p.steps s3 s1 (y.app$ dJ s1 u p.steps 0 G 0) H) #[none,none,none,none,0,s1,y,Z,hL,k4,o2,LV _,LV _,D1,Ma _,Z,λ_ _ _ _ _ _ e=>e] (λk σ Hx _ h=>?_) ?_ (λσ Hx h=>v _ _ ?_)
 ·obtain⟨_,_,_,_,_,_,_,_,_,_,_,_,_,_,_,_,b7⟩:=h;exact aB.of$ hL.tm b7 _ _ k3
 ·intro E rt k x pp σ H4 c4 n2 fE Gq kq h;clear v;obtain⟨o6,o7,o8,o9,m,R,Y,rfl,L4,w2,w3,w4,w5,w6,w7,W,b4⟩:=h;have s5:aa H4 (am H4 pp$ .tup [.int k,x]):=je n2;have e5:am H4 pp (.tup [.int k,x]) pp=some (.tup [.int k,x]):=jc;refine kq ?_;clear kq;generalize am H4 pp (.tup [.int k,x])=H5 at s5 e5 ⊢;have b5:=b4.trans (a6.of_same s5);have c5:=hL.tm b5;have L5:=L4.same s5;refine#[pp,_,Z,aB.of e5,Z,_,_,Z,_,_,Z,Z,?_];rw[ZT c4]at w2;have w2:=w2.mono (aa.tm s5);cases R with
  |nil=>exact nomatch (show _::_=[] from w2)
  |ask _ |rd _ _ |wr _ _ |cl _ _ _ _=>exact w3.elim
  |st n1 h5 w r1=>
   obtain⟨p',h',u',y0,ex,i1,i2,i3,i4⟩:=w2;injection ex with ex ey;subst ex;subst ey;have e7:w.dep<=s1.dep:=Mg (Ol _ _) w4;have d2:r1.dep<=s1.dep:=Mg (Ob _ _) w4;have w5:w.size+r1.size+1<=s1.size:=w5;show fh (dP _ _) (fh _ _) E [some$ .ref r,some$ .ref X,some$ .ref c,some$ .ref na,some$ .ref b,some$ .int (m:Int),some$ .int k,some$ .ref p',o8,o9] H5;refine ah λF1 v=>#[_,Z,_,Z,iE,λt nt=>#[na,t,_,_,Z,Z,aq (c5 _ _ c2) nt,jc,by rw[LU];show _+1<=_;omega,λr9 H9 e9 s9=>v _ _ ?_]];clear v;have S9:aa H5 H9:=(je (o:=.tup [.int k]) nt).trans s9;have e9:H9 r9=some (.tup$ G.map V.int++[.int (k:Int)]):=e9;rw[lK]at e9;have b9:=b5.trans (a6.of_same S9);have a3:=hL.tm b9;refine ah λF1 v=>(jv (a3 _ _ h1) dG #[_,Z,_,Z,e0,p',h',s2,p,w,m,n1,h5,u',Z,a3 _ _ h3,h4.mono a3,O,a2,UO,S9 _ _ i1,S9 _ _ i2,i3.mono$ aa.tm S9,w3.1,λH0 s4=>v _ _ ?_]);clear v;have B:=S9.trans s4;have b1:=b5.trans (a6.of_same B);have t5:=hL.tm b1;have L:=L5.same B;have e3:=s4 _ _ e9;have i0:=B _ _ i1;have j0:=i3.mono (aa.tm B);cases hb:fi p.steps m n1 h5 w with
   |none=>
    rw[qe hb]at W;show gU _ _ _ E [some$ .ref r,some$ .ref X,some$ .ref c,some$ .ref na,some$ .ref b,some$ .int (m:Int),some$ .int k,some$ .ref p',some$ .ref r9,some .non] H0;refine lO λG1 yT yF=>#[_,Z,_,Z,?_];rw[Mc Z];refine yT _ ?_;obtain⟨xs,hx,lx⟩:=L.fv;have l2:=lx.len;have pl:=qH w3.1 (G++[(k:Int)]);have tt:Y.tot+((w.size+1)+(dJ r1 u p.steps m G$ k+1).tot)<=100000:=by
     have z:=M;rw[<- W,Ly.tot_app,Ly.tot_app]at z;have z2:(#[[],[],cg (G++[(k:Int)]) w,[]]:Ly).tot=w.size+1:=by show 0+0+(cg (G++[(k:Int)]) w).length+0=_;rw[pl];omega
     rw[z2]at z;exact z
    have ty:Y.f.length<=Y.tot:=by unfold Ly.tot;omega
    refine#[_,Z,r,C,U,_,_,Z,L.ins,ck.cl,ck.n3,Z,.inl #[Z,_,aI.of hx],_,Z,jv i0 dG #[r9,G++[(k:Int)],w,u',Z,e3,by rw[LS];show _+1+_<=_;omega,j0,w3.1,UO,UO,λl zs H1 nl hl hz I=>?_]];have lz:=hz.len;obtain⟨L1,b2⟩:=(L.same I).setF (I _ _ hx) hz;refine#[fA,l,_,_,Z,Z,I _ _ hx,hl,UO,fE _ _ #[_,_,_,_,m,r1,_,Z,L1,?_,w3.2,d2,UO,w6.2.2,w7,?_,?_]]
    ·exact i4.mono ((aa.tm$ B.trans I).trans ((L.same I).tm b2))
    ·rw[Ly.app_assoc];exact W
    ·exact(b1.trans$ a6.of_same I).trans b2
   |some j=>
    obtain⟨c6,o,ho,e8⟩:=zh hb;have e':=(List.getElem?_eq_some_iff.mp ho).1;obtain⟨n0,a5,w0⟩:=o;rw[qf hb ho]at W;show gU _ _ _ E [some$ .ref r,some$ .ref X,some$ .ref c,some$ .ref na,some$ .ref b,some$ .int (m:Int),some$ .int k,some$ .ref p',some$ .ref r9,some$ .int (j:Int)] H0;refine lO λG1 yT yF=>#[_,Z,_,Z,?_];rw[LZ (by intro z;cases z)];refine yF _ ?_;have tt:=M;rw[<- W,Ly.tot_app,Ly.tot_app,Ly.tot_app,Ly.tot_app]at tt;have z2:(#[[],[],[],eG u p.steps m j]:Ly).tot=(eG u p.steps m j).length:=Oa _;rw[z2]at tt;have ty:Y.d.length<=Y.tot:=by unfold Ly.tot;omega
    show fh _ (fh _ _) E [some$ .ref r,some$ .ref X,some$ .ref c,some$ .ref na,some$ .ref b,some$ .int (m:Int),some$ .int k,some$ .ref p',some$ .ref r9,some$ .int (j:Int)] H0;refine ah λF1 v=>#[_,Z,r,U,_,Z,L.ins,Z,_,Z,_,Z,_,Z,_,Z,r,U,kA,tA,fA,dA,X,c,u,f,is,p,a0,m,j,Y,Z,L,t5 _ _ h6,UO,zQ h7 t5,O,a4,a2,c6,UO,UO,λH1 L0 b3=>v _ _ ?_];clear v;have b0:=b1.trans b3;have T:=hL.tm b0;have N:=L.tm b3;obtain⟨xv,b8⟩:∃xv,s2[j]?=some xv:=#[_,LP UO];obtain⟨n4,d3,w1,q,h0,u0,t1,t2,t3,t4,rfl,t6,t7,t8⟩:=qE O (h4.mono T) b8;rw[ho]at t1;cases t1;refine ah λF1 v=>#[_,Z,r,U,_,Z,L0.ins,Z,_,Z,_,Z,iE,λt nt=>#[X,t,_,_,Z,Z,aq (T _ _ h6) nt,jc,by rw[LU];show _+1<=_;omega,λr0 H2 e2 s6=>?_]];have S:aa H1 H2:=(je (o:=.tup [.int (j:Int)]) nt).trans s6;have e2:H2 r0=some (.tup$ u.map V.int++[.int (j:Int)]):=e2;rw[lK]at e2;have t':=T.trans (aa.tm S);have c9:=YF (s:=.nil) O D0 hb ho t2 w6.1;refine(jv (t' _ _ h1) dG #[_,Z,e0,_,_,_,Z,Z,aB.of$ t' _ _ h3,jL b8,_,Z,_,Z,D,r,U,kA,tA,fA,dA,r0,q,h0,r9,p',h',u++[(j:Int)],G++[(k:Int)],n0,n1,a5,h5,u0,u',w0,w,_,Z,L0.same S,e2,aa.tm S _ _$ N _ _ e3,by rw[LS];show _+1+_<=_;omega,by rw[LS];show _+1+_<=_;omega,S _ _ t6,S _ _ t7,t8.mono$ aa.tm S,t2,UO,UO,aa.tm S _ _$ N _ _ i0,aa.tm S _ _$ N _ _$ B _ _ i2,(j0.mono N).mono$ aa.tm S,w3.1,UO,UO,UO,λg is s a e=>?_,?_,λH3 L3 b'=>v _ _ ?_])
    ·obtain⟨s',a',ew⟩:=c9 g is s a e;have ew:w0= .cl g is s' a':=ew;have d0:Dt D f w0:=(Ks D0 ho).2;have d1:Dt D f w:=w6.2.1;rw[e]at d1;rw[ew]at d0;exact#[s',a',ew,d1,d0]
    ·rw[Ly.tot_app,Ly.tot_app,Ly.tot_app,z2];have tt:Y.tot+(((eG u p.steps m j).length+((one (u++[(j:Int)]) (n0,a5,w0) (G++[(k:Int)]) n1 h5 w).tot+(dJ w (u++[(j:Int)]) (lr w0) 0 (G++[(k:Int)]) 0).tot))+(dJ r1 u p.steps (j+1) G$ k+1).tot)<=100000:=tt;omega
    clear v;have c0:=(b0.trans$ a6.of_same S).trans b';have c1:=(L0.same S).tm b';have ej:(j:Int)+1=((j+1:Nat):Int):=by omega
    refine#[_,Z,_,_,Z,Z,fE _ _ #[some$ .int k,some$ .ref p',some$ .ref r9,some$ .int (j:Int),j+1,r1,_,?_,L3,?_,w3.2,d2,UO,w6.2.2,UO,?_,c0]]
    ·rw[<- ej];rfl
    ·exact i4.mono (((aa.tm B).trans N).trans ((aa.tm S).trans c1))
    ·rw[Ly.app_assoc,Ly.app_assoc];rw[Ly.app_assoc]at W;exact W
 ·obtain⟨o6,o7,o8,o9,m,R,Y,rfl,L4,w2,w3,w4,w5,w6,w7,W,b4⟩:=h;have t0:=hL.tm b4;rw[S4]at w2;cases R with
  |st n hs w r=>obtain⟨_,_,_,_,z,_⟩:=w2;cases z
  |ask _ |rd _ _ |wr _ _ |cl _ _ _ _=>exact w3.elim
  |nil=>
   have W:Y.app #[[],[],[],eG u p.steps m p.steps.length]=_:=W;have tt:=M;rw[<- W,Ly.tot_app]at tt;have z2:(#[[],[],[],eG u p.steps m p.steps.length]:Ly).tot=(eG u p.steps m p.steps.length).length:=Oa _;rw[z2]at tt;have ty:Y.d.length<=Y.tot:=by unfold Ly.tot;omega
   refine#[_,Z,r,U,_,Z,L4.ins,Z,_,Z,_,Z,_,Z,jv (t0 _ _ h1) dG #[e0,_,Z,.inr$ aB.of$ t0 _ _ h3,r,U,kA,tA,fA,dA,X,c,u,f,is,p,a0,m,p.steps.length,Y,by rw[<- l0];rfl,L4,t0 _ _ h6,UO,zQ h7 t0,O,a4,a2,w7,LV _,UO,λH5 L5 b5=>q H5 (W▸L5) (b4.trans b5)]]
theorem Cz(p:aJ)(os:List aO)(m j:Nat):(eG p os m j).length<=(eh (os.drop m) p m).length:=by unfold eG;rw[LU];exact Q6 _ _ _ _
theorem xN{os:List aO}(p:aJ)(h:m<=j)(H:os[j]?=some o)(O:o.2.2.ok false):(eh (os.drop m) p m).length=(eG p os m j).length+(o.2.2.size+1)+(eh (os.drop$ j+1) p$ j+1).length:=by
 have d:=(List.getElem?_eq_some_iff.mp H).1;have e:os.drop m=(os.drop m).take (j - m)++(o::os.drop (j+1)):=by have z:=NZ (j - m) (os.drop m);rw[Tv,show m+(j - m)=j by omega]at z;obtain⟨a,E⟩:=List.getElem?_eq_some_iff.mp H;rw[<- Nt (h:=a),E]at z;exact z.symm
 have b:((os.drop m).take$ j - m).length=j - m:=by rw[Mw,M8];omega
 have z:(eh (os.drop m) p m).length=((eh ((os.drop m).take$ j - m) p m)++eh (o::os.drop (j+1)) p (m+(j - m))).length:=by
  conv=>lhs;rw[e]
  rw[zR,b]
 rw[z,LS,show m+(j - m)=j by omega];have c:(eh (o::os.drop (j+1)) p j).length=(o.2.2.size+1)+(eh (os.drop$ j+1) p$ j+1).length:=by show(((_,_)::_)++_).length=_;rw[LS,Mu,zf O]
 rw[c];unfold eG;rw[LU];omega
theorem KC:∀{s:Sk},s.ok true->∀{j:Nat} {o:aO},s.steps[j]?=some o->o.2.2.ok false
 | .st n H w r,h,0,o,e=>by cases e;exact h.1
 | .st n H w r,h,j+1,o,e=>KC h.2 (j:=j) (by have e:((n,H,w)::r.steps)[j+1]?=some o:=e;simpa using e)
 | .nil,_,j,o,e=>by have e:([]:List aO)[j]?=some o:=e;simp at e
theorem Co{w:Sk}(o:w.ok false)(p:aJ):(eh (lr w) p 0).length=w.size:=by
 cases w with
 |nil |st _ _ _ _=>exact o.elim
 |cl f i s a=>show(eh s.steps p 0).length=s.size;rw[<- zH (show s.ok true from o),zf (show s.ok true from o)]
 |_=>rfl
theorem Ab(p:aJ)(o:aO)(a:aJ)(n:Int)(h:List Int)(w:Sk):(one p o a n h w).tot<=2:=by
 unfold one;split
 ·split
  ·exact MU 1
  ·exact MU 1
 ·exact LV 2
theorem qN:∀{b:Bool} {s:Sk},s.ok b->∀(p:aJ) (os:List aO) (m:Nat) (c:aJ) (k:Nat),(∀o∈os,o.2.2.ok false)->(dJ s p os m c k).tot<=s.size+(eh (os.drop m) p m).length
 |true,.nil,_,p,os,m,c,k,_=>by have:=Cz p os m os.length;show 0+0+0+(eG p os m os.length).length<=0+_;omega
 |true,.st n q w r,o,p,os,m,c,k,H=>by
  show _<=w.size+r.size+1+_;cases h:fi os m n q w with
  |none=>
   rw[qe h,Ly.tot_app];have t:(#[[],[],cg (c++[(k:Int)]) w,[]]:Ly).tot=w.size+1:=by show 0+0+(cg (c++[(k:Int)]) w).length+0=_;rw[qH o.1];omega
   have u:=qN o.2 p os m c (k+1) H;omega
  |some j=>
   obtain⟨g,x,l,_⟩:=zh h;have O:=H x (Mr l);rw[qf h l,Ly.tot_app,Ly.tot_app,Ly.tot_app];have t:(#[[],[],[],eG p os m j]:Ly).tot=(eG p os m j).length:=Oa _;have u:=Ab (p++[(j:Int)]) x (c++[(k:Int)]) n q w;have v:=qN o.1 (p++[(j:Int)]) (lr x.2.2) 0 (c++[(k:Int)]) 0 (λy d=>by
    cases e:x.2.2 with
    |cl f I s a=>rw[e]at d O;obtain⟨i,z⟩:=PM d;exact KC (show s.ok true from O) z
    |_=>rw[e]at d;cases d)
   rw[NO,Co O]at v;have A:=qN o.2 p os (j+1) c (k+1) H;have B:=xN p g l O;omega
 |false,.cl _ _ s _,o,p,os,m,c,k,H=>qN (b:=true) (s:=s) o p os m c k H
 |false,.ask _,_,p,os,m,c,k,_=>Ma _
 |false,.rd _ _,_,p,os,m,c,k,_=>Ma _
 |false,.wr _ _,_,p,os,m,c,k,_=>Ma _
def EF(H:Hp)(x:V)(k t f d:Addr)(y:Ly):Prop:=∃q,x= .ref q/\Lt H q k t f d y
inductive mq(k:List V)(H:Hp)(Q:VK)(a:XK):Prop
 |mk(D:DF)(c b:Addr)(f:Str)(g h:List Int)(i j:Sk)(d e:Int)(_:k=[.ref c,.ref b])(_:mN H f g i d (.ref c))(_:i.ok true)(_:i.dep<=15)(_:i.size<=1000)(_:mN H f h j e (.ref b))(_:j.ok true)(_:j.dep<=15)(_:j.size<=1000)(_:Dt D f i)(_:Dt D f j)(_:∀(x:V) (kA tA fA dA:Addr) (H':Hp),EF H' x kA tA fA dA (dJ j [] i.steps 0 [] 0)->H kA=none->H tA=none->H fA=none->H dA=none->aa H H'->Q x H')
theorem C7:af P w K mg base aE k f d z3z (nB C 0):=by
 have n:∀{v H Q E},¬nB C 0 v H Q E:=by rintro v H Q E ⟨D,r,e,g,t,F,i,O,q,j,N,p,l,m,u,x,B,b,c,U,G,W,I,y,_,_,_,_,_,_,_,_,_,_,_,_,_,_,_,_,z,_⟩;omega
 exact#[λv H Q E h=>(n h).elim,λA o s H a J v Q E L M R S h=>(n h).elim]
theorem FQ(c:LK K C)(F:aQ K "lay" "Laying.lay" Az k f)(l:aD K f z3z [])(b:bj K C "lay" k)(o:aQ K "lay_step" "Laying.lay_step" Ay q d)(B:aD K d z3z [])(m:bj K C "lay_step" q)(e:Cl P w K mg base 3 v r ["steps","mark","step"] nG "taken_from")(g:Cl P w K mg base 36 x s z6z (lI 17) "paths_at")(G:af P w K mg base aE 37 t h z19z (iR C))(i:aD K h z19z [])(M:bj K C "drop" t)(p:Cl P w K mg base 1 y u ["what"] iS "found_in")(a:mg "enumerate"=none)(j:mg "len"=none):∀n,af P w K mg base aE (2*n+38) k f z3z (lH C n)
 |0=>uY F c e g G i M C7 B m a j
 |n+1=>uY F c e g G i M (Du o c p (FQ c F l b o B m e g G i M p a j n) l b) B m a j
theorem wC:ai ["old","new","laying"] ["old","new"] (ae v6):=bP
theorem yQ(F:aQ K "laid" "laid" v6 f fd)(a:LK K C)(mk:Mk K C fI)(GI:af P w K mg base aE 1 fI v ["self"] (mj C))(bI:aD K v ["self"] [])(mC:mg "Laying"=some (.ref C))(GL:af P w K mg base aE 70 fL y z3z (lH C 16))(bL:aD K y z3z [])(M:bj K C "lay" fL):af P w K mg base aE 71 f fd ["old","new"] mq:=by
 refine F.ok wC ?_ λc0 A B s H vs Q E hr h=>?_
 ·rintro _ _ _ _ ⟨D,c,b,f,is,js,G,S,a0,a1,rfl,_⟩;rfl
 obtain⟨D,c,b,f,is,js,G,S,a0,a1,rfl,I,O,J,R,T,g,U,V,D0,D1,q⟩:=h;refine#[_,(jd (jB 2 wC.nd$ @vq _ _ _ _ _ _ _ _ _ _ _ _ _ _ mk GI hr.m Z mC bI .nil ba UN)$ jd (jF$ kh (pv 2) a.cl M GL hr.m bL .nil ba$ ja (jh jb)$ ja (pv 0)$ ja (jh jb)$ ja (pv 1) jb)$ jg$ jp$ jh$ ja (kf (pv 2) Z)$ ja (kf (pv 2) Z)$ ja (kf (pv 2) Z)$ ja (kf (pv 2) Z) jb),?_];have b0:=aH;refine ah λF1 j=>λr d nr N h0=>#[r,d,Z,jc,λW X Y dA t L1 k nk nt nf nd=>#[Z,j _ _ ?_]];clear j;have up:∀b o,b≠r->b≠d->H b=some o->t b=some o:=λb o n1 n2 e=>k b o n1 (by rw[ji n1,ji n2];exact e);have s1:aa H t:=λb o e=>up b o (jk e nr) (jk e N) e;have n:∀x,am (am H d$ .own r) r (.ins C d []) x=none->H x=none:=λx hx=>by
  cases z:H x with
  |none=>rfl
  |some o=>rw[ji (jk z nr),ji (jk z N),z]at hx;cases hx
 have t0:=qN g [] G.steps 0 [] 0 λo ho=>by obtain⟨i,hi⟩:=PM ho;exact KC O hi
 rw[NO,<- zH O,zf O]at t0;refine ah λF1 j=>#[_,Z,r,d,_,Z,L1.ins,Z,fg,λpa n0=>#[_,Z,fg,λpb l=>#[_,Z,?_]]];have u:aa t (am (am t pa$ .tup []) pb$ .tup []):=(je n0).trans (je l);refine#[D,r,d,W,X,Y,dA,pa,c,pb,b,[],[],f,is,js,G,S,a0,a1,.nil,Z,L1.same u,aq jc l,jc,UN,UN,zQ I$ aa.tm$ s1.trans u,O,J,R,zQ T$ aa.tm$ s1.trans u,g,UO,U,V,D0,D1,by rw[Ly.nil_app];omega,λH3 L b3=>j _ _ ?_];clear j;rw[Ly.nil_app]at L;refine#[_,Z,r,C,d,_,_,Z,L.ins,a.cl,a.n1,Z,_,Z,r,C,d,_,_,Z,L.ins,a.cl,a.n2,Z,_,Z,r,C,d,_,_,Z,L.ins,a.cl,a.n3,Z,_,Z,r,C,d,_,_,Z,L.ins,a.cl,a.n4,Z,xW,λz nz=>?_];have s4:aa H3 (am H3 z$ .tup [.ref W,.ref X,.ref Y,.ref dA]):=je nz;have p:=L.same s4;refine q _ W X Y dA _ #[z,Z,jc,p.kv,p.tv,p.fv,p.dv,p.ne,λ_ z=>nomatch z] (n _ nk) (n _ nt) (n _ nf) (n _ nd) λx o e=>?_;exact s4 _ _$ b3 _ _ (jk e$ n _ nk) (jk e$ n _ nt) (jk e$ n _ nf) (jk e$ n _ nd)$ u _ _$ s1 _ _ e
noncomputable abbrev oh:Stmt:=bQ 73
noncomputable abbrev D4:Stmt:=bQ 74
noncomputable abbrev on:Stmt:=bQ 83
theorem An(a:bg)(k:bH)(v:V):(bb a k v).length<=a.length+1:=qd
inductive iD(b:List V)(H:Hp)(Q:VK)(a:XK):Prop
 |mk(p:Addr)(_:b=[.ref p])(_:aG H p)(_:∀(l:Addr) (C:bg) (H':Hp),H l=none->H' l=some (.dK C)->GT C->C.length<=13->aG H' p->aP p H H'->Q (.ref l) H')
inductive CL(p l:Addr)(H:Hp)(i:Nat)(k:_L.St)(a:Hp):Prop
 |mk(h j:Option V)(C:bg)(b:k=[some (.ref p),some (.ref l),h,j])(c:a l=some (.dK C))(d:GT C)(e:C.length<=i)(f:aG a p)(g:aP p H a)
theorem Db:NX (.lst x):=λa z=>by cases z
theorem Dc:NX (.tup x):=λa z=>by cases z
theorem Kp.tm(k:Kp H h):ap H h:=λb x e=>k b _ Dc e
theorem Kp.seq{K:Frag}(e:Kp H b)(h:aI K H a x):aI K b a x:=by
 rcases h with (h | ⟨o,h⟩) |h
 ·exact .inl$ .inl$ e _ _ Db h
 ·exact .inl$ .inr #[o,e _ _ (by intro c z;cases z) h]
 ·exact .inr h
theorem Gc:NX (.dK x):=λa z=>by cases z
def sQ(H:Hp)(X:List V):Prop:=∀x∈X,∃(q:Addr) (c i:Int),x= .ref q/\H q=some (.tup [.int c,.int i])/\gW i
theorem sQ.mono(k:ap H a)(h:sQ H b):sQ a b:=λx d=>let #[q,c,i,e,f,g]:=h x d;#[q,c,i,e,k _ _ f,g]
inductive o0(b:List V)(H:Hp)(Q:VK)(a:XK):Prop
 |mk(p:Addr)(m:Int)(_:b=[.ref p,.int m])(_:aG H p)(_:0 < m)(_:m<=100)(_:∀(l:Addr) (xs:List V) (H':Hp),H l=none->H' l=some (.lst xs)->sQ H' xs->xs.length<=100->aG H' p->aP p H H'->Q (.ref l) H')
inductive IZ(p l:Addr)(m:Int)(H:Hp)(i:Nat)(n:_L.St)(a:Hp):Prop
 |mk(h j:Option V)(k:List V)(b:n=[some (.ref p),some (.int m),some (.ref l),h,j])(c:a l=some (.lst k))(d:sQ a k)(e:k.length<=i)(f:aG a p)(g:aP p H a)
def Lm(r R:R2):R2:=λx y H Q=>r x y H Q∨R x y H Q
theorem DM{X:Cx}(b:fb X o c)(d:fb X o e):fb X o (Lm c e):=λp s a H x y v u Q I r R h=>h.elim (b p s a H x y v u Q I r R) (d p s a H x y v u Q I r R)
structure EO(H:Hp)(nA pA ag cA:Addr)(i:Nat)(Cs:bg)(d:Df)(ds:List Df)(ns:List Nat)(xs:List V)(pds:List fc)(is:List Int):Prop where
 ps:Ps H nA pA ds ns xs pds
 xl:xs.length<=1000
 hd:ds[i]?=some d
 hn:ns[i]?=some is.length
 ag:H ag=some (.tup$ is.map V.int)
 hi:∀z∈is,gW z
 il:is.length<=100
 ce:H cA=some (.dK Cs)
 gc:GT Cs
theorem EO.kp(h:EO H n a A c i C d D N x p I)(k:Kp H b):EO b n a A c i C d D N x p I:=#[h.ps.mono k.tm,h.xl,h.hd,h.hn,k.tm _ _ h.ag,h.hi,h.il,k _ _ Gc h.ce,h.gc]
inductive mn(l:Addr)(o:List V)(H:Hp)(Q:VK)(b:XK):Prop
 |mk(n g h:Addr)(i:Nat)(f:bg)(d:Df)(j:List Df)(m:List Nat)(p:List V)(e:List fc)(k:List Int)(_:o=[.ref n,.str d.f,.ref g,.ref h])(_:EO H l n g h i f d j m p e k)(_:∀(c:Addr) (sk:Sk) (a:Int) (L':bg) (H':Hp),cy e f 16 d.f k [] 0= .ok sk a L' sk.size->mN H' d.f k sk a (.ref c)->sk.ok true->sk.dep<=15->sk.size<=60->Kp H H'->Q (.ref c) H')(_:(∀sk a L' t',cy e f 16 d.f k [] 0≠ .ok sk a L' t')->∀H',Kp H H'->Q .non H')
inductive nC(K:Frag)(d:List V)(H:Hp)(Q:VK)(b:XK):Prop
 |mk(a:Addr)(c:List Int)(_:d=[.ref a])(_:aI K H a (c.map V.int))(_:c.length<=63)(_:∀H',Q (.bl true) H')
theorem gG:ai ["_law_box_here","_law_cells_here","_law_k","_law_cell"] z4z (ae oh):=bP
theorem uT(F:aQ K "_law_cells" "_law_cells" oh f fd)(r:Cl P w K mg base 1 fT f0 z2z bN "_law_take")(cU:Cl P w K mg base 2 fU f2 z4z nD "_law_number")(mr:mg "range"=none):af P w K mg base aE 3 f fd z4z iD:=by
 refine F.ok gG ?_ λc0 A O s H vs Q E g h=>?_
 ·rintro _ _ _ _ ⟨p,rfl,_⟩;rfl
 obtain⟨p,rfl,B,q⟩:=h;refine#[_,(jd (jB 1 gG.nd XJ)$ jd (kH MF Z (zA Z mr$ ja (r.e g.m$ ja (pv 0)$ ja jf jb) jb) (jx (i:=2) gG.nd Z$ Or.inl Z)$ jd (jB 3 gG.nd$ r.e g.m$ ja (pv 0)$ ja jf jb)$ jd (jz (zW$ r.e g.m$ ja (pv 0)$ ja jf jb) (jg$ jB 3 gG.nd$ jw qV (jw qV (jw Kv jf jf) jf)$ r.e g.m$ ja (pv 0)$ ja jf jb) ju)$ jg$ Je (zM g) (pv 1) (pv 3) (cU.e g.m$ ja (pv 0) jb) Z)$ jg$ jp$ pv 1),?_];have b0:=aH;have t0:=pE;refine ah λt a=>λl N=>a _ _ ?_;clear a;have S:aa H (am H l$ .dK []):=je N;have I:am H l (.dK []) l=some (.dK []):=jc;generalize am H l (.dK [])=H1 at S I;have L:l≠p:=B.ne N;have B1:=B.same S;refine ah λt a=>dW λJ j=>#[_,Z,p,14,Z,B1,UN,UN,λd H2 d0 d1 B2 M=>#[_,Z,UO,UO,j _ _ ?_]];clear j;refine zg (lo:=0) (CL p l H) #[none,none,[],Z,by rw[M l L];exact I,_K.GT.nil,LV _,B2,(aP.of_same S).trans$ aP.of_eq M] ?_ (λσ H' h=>a _ _ ?_)
 ·clear a;intro E0 _ i σ H3 hi fE Gq o h;obtain⟨o2,o3,C,rfl,x,G,lC,y,D⟩:=h;refine o ?_;clear o;show fh (dP _ _) _ E0 _ _;refine ah λt a=>#[_,Z,p,14,Z,y,UN,UN,λc4 H4 d2 d3 B4 R=>a _ _ ?_];clear a;refine ah λt a=>?_;have c:∀(u:Int) (v:Hp),aG v p->(∀b,b≠p->v b=H3 b)->t [some$ .ref p,some$ .ref l,some$ .int (0+(i:Int)),some$ .int u] v:=λu v BH T=>a _ _ (by
   refine#[_,Z,p,Z,BH,λm H7 m0 m1 B7 U=>?_];have h7:H7 l=some (.dK C):=by rw[U l L,T l L];exact x
   have pl:=An C (.inl u) (.int m);exact#[_,Z,_,Z,l,_,Z,nQ.k (k:=.inl u) h7 UO,fE _ _ #[_,_,_,Z,jc,G.put _ #[m0,m1],UO,B7.eq$ ji$ ME L,(D.trans ((aP.of_eq T).trans$ aP.of_eq U)).upd_own N]])
  refine lO λG1 yT yF=>#[_,Z,p,8,Z,B4,UN,UN,λd5 H5 d4 d7 W X=>#[Z,_,Z,?_]];by_cases Y:d5=0
  ·rw[Y,Mc (Z:V.int 0=V.int 0)];refine yT _ #[_,_,Z,Z,#[UN,UN,UN],_,_,Z,Z,_,Z,p,4,Z,W,UN,UN,λd6 H6 d8 d' B6 e6=>#[_,_,Z,Z,c _ H6 B6 λb n=>(e6 b n).trans ((X b n).trans$ R b n)]]
  ·rw[LZ (λz=>Y (by injection z))];exact yF _$ c _ H5 W λb n=>(X b n).trans (R b n)
 ·obtain⟨o2,o3,C,rfl,x,G,lC,y,D⟩:=h;exact#[_,Z,q l C H' N x G UO y D]
theorem m9:ai ["_law_box_here","_law_most","_law_found_here","_law_k","_law_cell"] ["_law_box_here","_law_most"] (ae D4):=bP
theorem Dm(F:aQ K "_law_changes" "_law_changes" D4 f fd)(D:Cl P w K mg base 1 fT f0 z2z bN "_law_take")(cN:Cl P w K mg base 2 fN f2 z4z nD "_law_number")(mr:mg "range"=none):af P w K mg base aE 3 f fd ["_law_box_here","_law_most"] o0:=by
 refine F.ok m9 ?_ λc0 A O s H vs Q E g h=>?_
 ·rintro _ _ _ _ ⟨p,m,rfl,_⟩;rfl
 obtain⟨p,m,rfl,B,m0,m1,q⟩:=h;refine#[_,(jd (jB 2 m9.nd$ jG jb)$ jd (kH MF Z (zA Z mr$ ja (jw ke jf$ D.e g.m$ ja (pv 0)$ ja (pv 1) jb) jb) (jx (i:=3) m9.nd Z$ Or.inl Z)$ jd (jB 4 m9.nd$ D.e g.m$ ja (pv 0)$ ja jf jb)$ jd (jz (zW$ D.e g.m$ ja (pv 0)$ ja jf jb) (jg$ jB 4 m9.nd$ jw qV (jw qV (jw Kv jf jf) jf)$ D.e g.m$ ja (pv 0)$ ja jf jb) ju)$ jg$ jF$ jZ L9 Ml Mj jM (pv 2)$ ja (jh$ ja (pv 4)$ ja (cN.e g.m$ ja (pv 0) jb) jb) jb)$ jg$ jp$ pv 2),?_];have b0:=aH;have t0:=pE;refine ah λG a=>#[fg,λl I=>a _ _ ?_];clear a;have R:aa H (am H l$ .lst []):=je I;have e1:am H l (.lst []) l=some (.lst []):=jc;generalize am H l (.lst [])=H1 at R e1;have L:l≠p:=B.ne I;have B1:=B.same R;refine ah λG a=>dW λJ j=>#[_,Z,_,Z,p,m,Z,B1,m0,UO,λd H2 d0 d1 B2 e2=>#[_,_,Z,Z,_,Z,UO,UO,j _ _ ?_]];clear j;refine zg (lo:=0) (IZ p l m H) #[none,none,[],Z,by rw[e2 l L];exact e1,(λ_ h=>nomatch h),LV _,B2,(aP.of_same R).trans$ aP.of_eq e2] ?_ (λσ H' h=>a _ _ ?_)
 ·clear a;intro E0 _ i σ H3 hi fE Gq k h;obtain⟨o3,o4,X,rfl,U,W,lV,M,Y⟩:=h;refine k ?_;clear k;show fh (dP _ _) _ E0 _ _;refine ah λG a=>#[_,Z,p,15,Z,M,UN,UN,λc4 H4 d2 d3 B4 e4=>a _ _ ?_];clear a;refine ah λG a=>?_;have c:∀(C:Int) (r:Hp),aG r p->(∀b,b≠p->r b=H3 b)->G [some$ .ref p,some$ .int m,some$ .ref l,some$ .int (0+(i:Int)),some$ .int C] r:=λC r BH eH=>a _ _ (by
   have u:r l=some (.lst X):=by rw[eH l L];exact U
   refine#[_,Z,.inl #[Z,_,aI.of u],_,Z,_,Z,p,Z,BH,λn v n0 n1 B7 e7=>#[ci,λt nt=>?_]];have h7:v l=some (.lst X):=by rw[e7 l L];exact u
   have S:aa v (am v t$ .tup [.int C,.int n]):=je nt;have t8:am v t (.tup [.int C,.int n]) t=some (.tup [.int C,.int n]):=jc;refine#[l,_,_,Z,Z,S _ _ h7,UO,fE _ _ ?_];generalize am v t (.tup [.int C,.int n])=y at S t8;have k8:aP p H3 y:=((aP.of_eq eH).trans$ aP.of_eq e7).trans (aP.of_same S);have l8:=S _ _ h7;have kl:aP l y (am y l$ .lst$ X++[.ref t]):=λb o N e=>by rw[ji N];exact e
   have T:ap y (am y l$ .lst$ X++[.ref t]):=λb ys e=>kl _ _ (jW e l8 (by intro z;cases z)) e;refine#[_,_,X++[.ref t],Z,jc,?_,by rw[LS];show X.length+1<=_;omega,(B7.same S).eq$ ji$ ME L,(Y.trans k8).upd_own I];intro x hx;rcases List.mem_append.mp hx with z |z
   ·exact((W.mono$ k8.tm M).mono T) x z
   ·rw[List.mem_singleton.mp z];exact#[t,C,n,Z,T _ _ t8,n0,n1])
  refine lO λG1 yT yF=>#[_,Z,p,8,Z,B4,UN,UN,λd5 H5 d4 d7 B5 e5=>#[Z,_,Z,?_]];by_cases h3:d5=0
  ·rw[h3,Mc (Z:V.int 0=V.int 0)];refine yT _ #[_,_,Z,Z,#[UN,UN,UN],_,_,Z,Z,_,Z,p,4,Z,B5,UN,UN,λd6 H6 d8 d' B6 e6=>#[_,_,Z,Z,c _ H6 B6 λb N=>(e6 b N).trans ((e5 b N).trans$ e4 b N)]]
  ·rw[LZ (λz=>h3 (by injection z))];exact yF _$ c _ H5 B5 λb N=>(e5 b N).trans (e4 b N)
 ·obtain⟨o3,o4,X,rfl,U,W,lV,M,Y⟩:=h;exact#[_,Z,q l X H' I U W UO M Y]
noncomputable abbrev om:Stmt:=bQ 79
noncomputable abbrev D3:Stmt:=bQ 80
structure Xb(K:Frag)(mg:Str->Option Value)(B TL TD:Addr):Prop where
 g:mg "BookError"=some (.ref B)
 h:clsIn K B≠none
 t:typeIn K (.ref B)=some (.type "type")
 m:mroIn K B (.type "BaseException")=some true
 L:mroIn K TL (.ref B)=some true
 D:mroIn K TD (.ref B)=some true
theorem GT.drop(h:GT C)(k:bH):GT (lv C k):=λp H=>h p (List.mem_filter.mp H).1
inductive oZ(c:List V)(H:Hp)(Q:VK)(a:XK):Prop
 |mk(p b:Addr)(C:bg)(_:c=[.ref p,.ref b])(_:aG H p)(_:H b=some (.dK C))(_:GT C)(_:C.length<=100)(_:∀(l:Addr) (C':bg) (H':Hp),H l=none->H' l=some (.dK C')->GT C'->C'.length<=C.length+100->aG H' p->aP p H H'->Q (.ref l) H')
inductive IY(p c l:Addr)(C:bg)(H:Hp)(i:Nat)(n:_L.St)(b:Hp):Prop
 |mk(k m:Option V)(a:bg)(d:n=[some (.ref p),some (.ref c),some (.ref l),k,m])(e:b l=some (.dK a))(f:GT a)(g:a.length<=C.length+i)(h:aG b p)(j:dH p l H b)
def EC(H:Hp)(p:List fc)(f:Str)(i:List Int)(s:Sk)(a:Int)(u:V):Prop:=mN H f i s a u/\s.ok true/\s.dep<=15/\s.size<=60/\∃(C L:bg),cy p C 16 f i [] 0= .ok s a L s.size
theorem EC.mono(k:ap H b)(h:EC H p f i s a u):EC b p f i s a u:=#[zQ h.1 k,h.2]
theorem iA:ai ["_law_parts","_law_f","_law_args","_law_cells_here","_law_book_here"] z32z (ae om):=bP
theorem uZ(F:aQ K "_law_book" "_law_book" om f fd)(GR:af P w K mg base (gq P w) 45 Y q z25z (pq TL TD nA))(bR:aD K q z25z [])(kR:keepIn K (.ref Y)=true)(mR:mg "run"=some (.ref Y))(X:Xb K mg B TL TD)(M:mg "dict"=none):af P w K mg base aE 46 f fd z32z (mn nA):=by
 refine F.ok iA ?_ λc0 A r s H vs Q E hr h=>?_
 ·rintro _ _ _ _ ⟨v,y,G,i,j,d,V,W,xs,p,is,rfl,_⟩;rfl
 obtain⟨v,y,G,i,j,d,V,W,xs,p,is,rfl,c,q1,q2⟩:=h;refine#[_,(jd (jB 4 iA.nd$ @Kt _ _ _)$ jd (@Ak _ _ _ _ _ _ _ _ _ _ _ Z Z (@Al _ _ _ _ (4) _ _ iA.nd Z (Or.inl Z) (@vw _ _ _ _ _ _ _ _ _ _ _ _ _ _ GR hr.m Z mR kR bR .nil (ja (pv 0)$ ja (pv 1)$ ja (pv 2)$ ja (jN QE Z M boot_dict$ ja (pv 3) jb)$ ja jf jb) UN UR UR) UR (by first |exact .inl Z |exact .inr Z)) Z X.g X.h X.t X.m (λ_=>(jg$ jB 4 iA.nd$ @Kt _ _ _)) UN)$ jg$ jp$ pv 4),?_];refine ah λF1 k=>k _ _ ?_;clear k;refine ah λF1 k=>?_;show BY _ _ _ _ _ [some$ .ref v,some$ .str d.f,some$ .ref y,some$ .ref G,some .non] H;refine#[_,Z,_,Z,_,Z,_,Z,G,j,Z,c.ce,λO not=>?_];have S:aa H (am H O$ .dK j):=je not;have e1:am H O (.dK j) O=some (.dK j):=jc;generalize am H O (.dK j)=H1 at S e1 ⊢;have c:=c.kp (Kp.of_same S);refine#[v,y,O,i,j,d,V,W,xs,p,is,Z,c.ps,c.hd,c.hn,c.ag,c.hi,e1,c.gc,λu sk a L' H2 l hc ok dp sz s2=>?_,λl=>?_,λl=>?_]
 ·obtain⟨c',z⟩:=id hc;obtain⟨_,_,_,rfl,_⟩:=z;exact k _ _ #[_,Z,q1 c' sk a L' H2 l hc ok dp sz$ Kp.of_same$ S.trans s2]
 ·intro _ H7 I x C T J R hT U;cases J;refine#[X.L,λT' n=>k _ _ #[_,Z,q2 (λ_ _ _ _ z=>by rw[l]at z;cases z) _ ?_]];exactλb o N e=>Kg (H:=H) (I _ _ N$ S _ _ e) N R n
 ·intro _ H7 I x C T J R hT U;cases J;refine#[X.D,λT' n=>k _ _ #[_,Z,q2 (λ_ _ _ _ z=>by rw[l]at z;cases z) _ ?_]];exactλb o N e=>Kg (H:=H) (I _ _ N$ S _ _ e) N R n
theorem oU:ai ["_law_box_here","_law_cells_here","_law_other","_law_cell","_law_number_here"] ["_law_box_here","_law_cells_here"] (ae D3):=bP
theorem Dl(F:aQ K "_law_changed" "_law_changed" D3 f fd)(cG:Cl P w K mg base 3 fG f0 ["_law_box_here","_law_most"] o0 "_law_changes")(cT:Cl P w K mg base 1 fT f2 z2z bN "_law_take")(Y:mg "dict"=none):af P w K mg base aE 4 f fd ["_law_box_here","_law_cells_here"] oZ:=by
 refine F.ok oU ?_ λc0 A o1 s H vs Q E hr h=>?_
 ·rintro _ _ _ _ ⟨p,O,C,rfl,_⟩;rfl
 obtain⟨p,O,C,rfl,B,hC,gC,h3,q⟩:=h;refine#[_,(jd (jB 2 oU.nd$ jN QE Z Y boot_dict$ ja (pv 1) jb)$ jd (kH MF Z (zr$ cG.e hr.m$ ja (pv 0)$ ja jf jb) (qC (n:=2) Z$ jC (jx (i:=3) oU.nd Z$ Or.inl Z)$ jC (jx (i:=4) oU.nd Z$ Or.inl Z) za)$ jd (Je (zM hr) (pv 2) (pv 3) (pv 4) Z)$ jg$ jz (zW$ cT.e hr.m$ ja (pv 0)$ ja jf jb) (jg$ jF$ jZ Rz RP PySem.F.type_dict_pop yE (pv 2)$ ja (pv 3) jb) ju)$ jg$ jp$ pv 2),?_];have b0:=aH;refine ah λF1 g=>#[_,Z,O,C,Z,hC,λl R=>g _ _ ?_];clear g;have s1:aa H (am H l$ .dK C):=je R;have e1:am H l (.dK C) l=some (.dK C):=jc;generalize am H l (.dK C)=H1 at s1 e1 ⊢;have S:l≠p:=B.ne R;have B1:=B.same s1;refine ah λF1 g=>dW λJ j=>#[_,Z,p,4,Z,B1,UN,UN,λT x0 H2 N u pV lV B2 k2=>#[T,Z,#[_,aI.of u],j _ _ ?_]];clear j;have l2:H2 l=some (.dK C):=k2 _ _ S e1;have l0:T≠l:=(jk e1 N).symm;have p0:T≠p:=B1.ne N;refine JK (K:=K) (a:=T) (xs:=x0) (IY p O l C H2) #[none,none,C,Z,l2,gC,LV _,B2,λ_ _ _ _ e=>e] (λk σ H' _ h=>?_) ?_ (λσ H' h=>g _ _ ?_)
 ·obtain⟨_,_,_,_,_,_,_,_,kk⟩:=h;exact aI.of$ kk _ _ p0 l0 u
 ·clear g;intro E rt k x σ r y fE Gq t h;obtain⟨o3,o4,d,rfl,l3,g3,n3,B3,U⟩:=h;refine t ?_;clear t;have h4:=(List.getElem?_eq_some_iff.mp y).1;obtain⟨qq,c,I,rfl,D,h1⟩:=pV x (Mr y);obtain⟨_,_,_,_,_,h2⟩:=B2.ob;have D:=U _ _ (jW D h2 (by intro z;cases z)) (jW D l2 (by intro z;cases z)) D;refine#[qq,_,Z,aB.of D,Z,_,_,Z,_,_,Z,Z,?_];show fh _ _ E [some$ .ref p,some$ .ref O,some$ .ref l,some$ .int c,some$ .int I] r;have pl:=qd (kvs:=d) (k:=.inl c) (v:=.int I);refine ah λF1 g=>#[_,Z,_,Z,_,Z,l,_,Z,nQ.k (k:=.inl c) l3 UO,g _ _ ?_];clear g;have kE:aP l r (am r l$ .dK$ bb d (.inl c)$ .int I):=λb o W e=>by rw[ji W];exact e
  have eE:am r l (.dK$ bb d (.inl c)$ .int I) l=some (.dK$ bb d (.inl c)$ .int I):=jc;have B4:aG (am r l$ .dK$ bb d (.inl c)$ .int I) p:=B3.eq (ji S.symm);generalize am r l (.dK$ bb d (.inl c)$ .int I)=H4 at kE eE B4;have g4:=g3.put (.inl c) h1;refine lO λG1 yT yF=>#[_,Z,p,5,Z,B4,UN,UN,λd1 G d0 d2 L q1=>#[Z,_,Z,?_]];have l5:G l=some (.dK$ bb d (.inl c)$ .int I):=by rw[q1 l S];exact eE
  have k5:dH p l H2 G:=λb o X M e=>by rw[q1 b X];exact kE _ _ M$ U _ _ X M e
  by_cases h0:d1=0
  ·rw[h0,Mc (Z:V.int 0=V.int 0)];refine yT _ #[_,Z,.inr$ .inr$ .inl #[Z,.inl #[_,l5]],_,Z,l,_,.inl c,.int I,Z,Z,l5,by rw[xF,Mb Z],fE _ _ #[_,_,_,Z,jc,g4.drop _,?_,L.eq$ ji S.symm,λb o X M e=>by rw[ji M];exact k5 _ _ X M e]];have:=XI (bb d (.inl c)$ .int I) (.inl c);omega
  ·rw[LZ (λz=>h0 (by injection z))];exact yF _$ fE _ _ #[_,_,_,Z,l5,g4,UO,L,k5]
 ·obtain⟨_,_,d,rfl,l3,g3,n3,B3,U⟩:=h;exact#[_,Z,q l d H' R l3 g3 UO B3 λb o W e=>U _ _ W (jk e R) (k2 _ _ W$ s1 _ _ e)]
theorem yv{call:nP}(h:nO call C p (m+1) (.go n H) L t= .ok d a g i):∃c w l T r,p.cs[n]?=some c/\ip call C (bp c.nm H) L t c.e= .ok w l T/\d= .st (n:Int) H w r/\nO call C p m (DH p c H w.wh) l T= .ok r a g i:=by
 unfold nO at h;cases e:p.cs[n]? with
 |none=>rw[e]at h;cases h
 |some c=>
  rw[e]at h;dsimp only at h;cases E:ip call C (bp c.nm H) L t c.e with
  |long |deep=>rw[E]at h;cases h
  |ok w l T=>
   rw[E]at h;dsimp only at h;cases f:nO call C p m (DH p c H w.wh) l T with
   |long |deep=>rw[f]at h;cases h
   |ok r b _L j=>rw[f]at h;cases h;exact#[c,w,l,T,r,Z,E,Z,f]
noncomputable def Bj(p:List fc):DF:=λf n h=>match ff p f with
 |none=>.nil
 |some a=>match a.cs[n.toNat]? with
  |none=>.nil
  |some c=>Fv (bp c.nm h) c.e
def HV(D:DF)(call:nP):Prop:=∀f i L t s a l T,call f i L t= .ok s a l T->Dt D f s
theorem Fx{call:nP}{w:Sk}(H:HV D call)(h:ip call C k L t e= .ok w j m)(g:Str):Dt D g w:=by
 have b:=Bl h;cases e with
 |ask d T=>rw[YC b]at h;cases h;trivial
 |st p l=>
  cases l with
  |gv d T |st x d T=>unfold ip at h;rw[Mb b]at h;cases h
  |rd x d T=>rw[tI b]at h;cases h;trivial
  |wr d u T U=>rw[tJ b]at h;cases h;trivial
  |cl x f q i=>
   rw[Qu b]at h;cases e:call f (i.map λc=>c.2.ev k) L (t+1) with
   |long |deep=>rw[e]at h;cases h
   |ok s a _L n=>rw[e]at h;cases h;show Dt D f s;exact H _ _ _ _ _ _ _ _ e
theorem Bu{call:nP}(H:HV (Bj p) call)(d:ff p f=some c):∀(m:Nat) {g:Gd} {L l:bg} {t T:Nat} {R:Sk} {a:Int},nO call q c m g L t= .ok R a l T->Dt (Bj p) f R
 |0,_,_,_,_,_,_,_,h=>by cases h
 |m+1,.give b,_,_,_,_,_,_,h=>by cases h;trivial
 |m+1,.go n j,_,_,_,_,_,_,h=>by obtain⟨C,w,s,u,r,k,i,rfl,o⟩:=yv h;refine#[?_,Fx H i f,Bu H d m o];rw[Cy i];show _=(match ff p f with |none=>Tr.nil |some c=>match c.cs[((n:Int)).toNat]? with |none=>Tr.nil |some C=>Fv (bp C.nm j) C.e);rw[d];dsimp only;rw[M6,k]
theorem vP:∀j,HV (Bj p) (cy p C j)
 |0=>λf i L t s a l T h=>by cases h
 |j+1=>λf i L t s a l T h=>by
  have h:(match ff p f with |none=>OC.long |some b=>nO (cy p C j) C b 62 (lQ (xU b) (dw b.way.sets$ bp b.ps i) b.way.goal) L t)= .ok s a l T:=h;cases e:ff p f with
  |none=>rw[e]at h;cases h
  |some b=>rw[e]at h;exact Bu (vP j) e 62 h
theorem EC.dt(h:EC H p f i s a u):Dt (Bj p) f s:=by obtain⟨_,_,_,_,C,L,e⟩:=h;exact vP 16 _ _ _ _ _ _ _ _ e
noncomputable def iq:Sk->aJ->List aO->Nat->List aJ
 | .st n h w r,p,os,m=>match fi os m n h w with
  |none=>iq r p os m
  |some j=>match os[j]? with
   |none=>[]
   |some o=>((if aR n h o=true then [p++[(j:Int)]] else [])++iq w (p++[(j:Int)]) (lr o.2.2) 0)++iq r p os (j+1)
 | .cl _ _ s _,p,os,m=>iq s p os m
 |_,_,_,_=>[]
theorem Jp{w:Sk}{os:List aO}(h:fi os m n H w=none):iq (.st n H w r) p os m=iq r p os m:=by show(match fi os m n H w with |none=>_ |some j=>_)=_;rw[h]
theorem Jq{w:Sk}{os:List aO}(h:fi os m n H w=some j)(a:os[j]?=some o):iq (.st n H w r) p os m=((if aR n H o=true then [p++[(j:Int)]] else [])++iq w (p++[(j:Int)]) (lr o.2.2) 0)++iq r p os (j+1):=by show(match fi os m n H w with |none=>_ |some j=>match os[j]? with |none=>([]:List aJ) |some o=>_)=_;rw[h];dsimp only;rw[a]
def pI(a:aJ)(m:Nat)(p:aJ):Prop:=∃(j:Nat) (q:aJ),m<=j/\p=a++(j:Int)::q
theorem wN(p:aJ)(m:Nat):pI p m (p++[(m:Int)]):=#[m,[],LV _,Z]
theorem pI.le(h:pI a m p)(l:M<=m):pI a M p:=let #[j,q,H,b]:=h;#[j,q,Mg l H,b]
theorem pI.up{a:aJ}{m j i:Nat}{p:aJ}(h:pI (a++[(j:Int)]) i p)(l:m<=j):∃q,p=a++(j:Int)::q/\q≠[]:=by obtain⟨k,q,_,e⟩:=h;exact#[(k:Int)::q,by rw[e,NJ];rfl,λz=>by cases z]
theorem ql{q:aJ}(h:p++(i:Int)::q=p++(j:Int)::Q):i=j/\q=Q:=by have:=O8 h;injection this with a H;exact#[UO,H]
theorem Qv:∀(s:Sk) (p:aJ) (k:Nat),∀q∈(s.ws p k).map (·.1),pI p 0 q
 | .st _ _ w r,p,k,q,h=>by
  have h:q∈(((p++[(k:Int)],w)::w.ws (p++[(k:Int)]) 0)++r.ws p (k+1)).map (·.1):=h;rw[Mz,Ni]at h;rcases List.mem_append.mp h with h |h
  ·rcases List.mem_cons.mp h with rfl |h
   ·exact(wN p k).le (Ma _)
   ·obtain⟨Q,e,_⟩:=(Qv w _ 0 q h).up (m:=0) (Ma _);exact#[k,Q,Ma _,e]
  ·exact Qv r p (k+1) q h
 | .cl _ _ s _,p,_,q,h=>Qv s p 0 q h
 | .nil,_,_,_,h=>nomatch h
 | .ask _,_,_,_,h=>nomatch h
 | .rd _ _,_,_,_,h=>nomatch h
 | .wr _ _,_,_,_,h=>nomatch h
theorem Kj{w:Sk}{p:aJ}{k:Nat}{q:aJ}(h:q∈cg (p++[(k:Int)]) w):∃Q,q=p++(k:Int)::Q:=by
 rcases List.mem_cons.mp h with rfl |h
 ·exact#[[],Z]
 ·obtain⟨Q,e,_⟩:=(Qv w _ 0 q h).up (m:=0) (Ma _);exact#[Q,e]
theorem KK(s:aO)(r:List aO)(p:aJ)(k:Nat):(eh (s::r) p k).map (·.1)=cg (p++[(k:Int)]) s.2.2++(eh r p$ k+1).map (·.1):=by show((_::_)++_).map _=_;rw[Mz];rfl
theorem Q7:∀(os:List aO) (p:aJ) (k:Nat),∀q∈(eh os p k).map (·.1),∃(i:Nat) (Q:aJ),k<=i/\i < k+os.length/\q=p++(i:Int)::Q
 | [],_,_,_,h=>nomatch h
 |s::r,p,k,q,h=>by
  rw[KK]at h;rcases List.mem_append.mp h with h |h
  ·obtain⟨Q,e⟩:=Kj h;exact#[k,Q,LV _,by show k < k+(r.length+1);omega,e]
  ·obtain⟨i,Q,H,a,e⟩:=Q7 r p (k+1) q h;exact#[i,Q,UO,by show i < k+(r.length+1);omega,e]
theorem JH:∀(s:Sk) (a:aJ) (os:List aO) (m:Nat),∀p∈iq s a os m,pI a m p
 | .st n b w r,a,os,m,p,h=>by
  cases e:fi os m n b w with
  |none=>rw[Jp e]at h;exact JH r a os m p h
  |some j=>
   obtain⟨H,x,d,_⟩:=zh e;rw[Jq e d]at h;rcases List.mem_append.mp h with h |h
   ·rcases List.mem_append.mp h with h |h
    ·by_cases c:aR n b x=true
     ·rw[Mb c]at h;cases List.mem_singleton.mp h;exact(wN a j).le H
     ·rw[Mf c]at h;cases h
    ·obtain⟨q,E,_⟩:=(JH w _ _ 0 p h).up (m:=m) H;exact#[j,q,H,E]
   ·exact(JH r a os (j+1) p h).le UO
 | .cl _ _ s _,a,os,m,p,h=>JH s a os m p h
 | .nil,_,_,_,_,h=>nomatch h
 | .ask _,_,_,_,_,h=>nomatch h
 | .rd _ _,_,_,_,_,h=>nomatch h
 | .wr _ _,_,_,_,_,h=>nomatch h
theorem xO{os:List aO}(p:aJ)(h:m<=j)(H:os[j]?=some o):(eh (os.drop m) p m).map (·.1)=eG p os m j++(cg (p++[(j:Int)]) o.2.2++(eh (os.drop$ j+1) p$ j+1).map (·.1)):=by
 have e:os.drop m=(os.drop m).take (j - m)++(o::os.drop (j+1)):=by have z:=NZ (j - m) (os.drop m);rw[Tv,show m+(j - m)=j by omega]at z;obtain⟨a,E⟩:=List.getElem?_eq_some_iff.mp H;rw[<- Nt (h:=a),E]at z;exact z.symm
 have c:=(List.getElem?_eq_some_iff.mp H).1;have b:((os.drop m).take$ j - m).length=j - m:=by rw[Mw,M8];omega
 conv=>lhs;rw[e]
 rw[zR,b,Mz,show m+(j - m)=j by omega,KK];rfl
theorem yy{W w:Sk}(o:W.ok false)(O:w.ok false)(k:Dt D f W)(j:Dt D f w)(h:∀g i s a,w= .cl g i s a->∃S A,W= .cl g i S A)(H:∀g i s a,W= .cl g i s a->∃S A,w= .cl g i S A):∃g d,d.ok true/\lr W=d.steps/\Dt D g d/\Dt D g w/\(∀G i s a,w= .cl G i s a->g=G)/\((∀g i s a,w≠ .cl g i s a)->d= .nil):=by
 cases W with
 |nil |st _ _ _ _=>exact o.elim
 |cl g i s a=>obtain⟨S,A,rfl⟩:=H g i s a Z;exact#[g,s,o,Z,k,j,λ_ _ _ _ e=>by cases e;rfl,λz=>absurd Z (z _ _ _ _)]
 |ask b |rd b c |wr b c=>exact#[f,.nil,trivial,Z,trivial,j,λg i s a e=>(let #[_,_,z]:=h g i s a e;nomatch z),λ_=>Z]
theorem Er{os:Sk}{w:Sk}(O:w.ok false)(k:Dt D f os)(h:fi os.steps m n l w=some j)(b:os.steps[j]?=some o)(p:eK w=D f n l):∀g i s a,o.2.2= .cl g i s a->∃S A,w= .cl g i S A:=by
 intro g i s a e;obtain⟨_,t,H,c⟩:=zh h;rw[b]at H;cases H;rcases c with c | ⟨F,I,S,A,q,c⟩
 ·obtain⟨C,r⟩:=uJ c;obtain⟨d,_⟩:=Ks k b;rw[C,r,<- p,e]at d;exact YE O d.symm
 ·obtain⟨u,v,E⟩:=uF c;rw[e]at E;cases E;exact#[S,A,q]
noncomputable def eM(L:List aJ)(l:List aJ):List aJ:=l.filter λp=>decide (p∉L)
theorem KL(L a b:List aJ):eM L (a++b)=eM L a++eM L b:=On ..
theorem Ya(h:∀p∈a,p∉L):eM L a=a:=List.filter_eq_self.mpr λp H=>Mc (h p H)
theorem QT(L:List aJ)(p:aJ)(l:List aJ):eM L (p::l)=if p∈L then eM L l else p::eM L l:=by
 unfold eM;by_cases h:p∈L
 ·rw[Mb h,O6 (by simp [h])]
 ·rw[Mf h,O5 (by simp [h])]
theorem Fj{w:Sk}(o:w.ok false)(p:aJ):w.ws p 0=eh (lr w) p 0:=by
 cases w with
 |nil |st _ _ _ _=>exact o.elim
 |cl f i s a=>exact zH (s:=s) o p 0
 |_=>rfl
theorem Xz{D:DF}:∀{b:Bool} {s:Sk},s.ok b->∀{f:Str} {so:Sk} {po pn:aJ} {m k:Nat} {L:List aJ},so.ok true->Dt D f so->Dt D f s->(∀g I t a,s= .cl g I t a->f=g)->(b=false->(∀g I t a,s≠ .cl g I t a)->so= .nil)->(∀p,pI po m p->(p∈L↔p∈iq s po so.steps m))->
  (dJ s po so.steps m pn k).d=eM L ((eh (so.steps.drop m) po m).map (·.1))
 |true,.nil,_,f,so,po,pn,m,k,L,_,_,_,_,_,H=>by show eG po so.steps m so.steps.length=_;unfold eG;rw[Pn (by rw[M8];exact LV _),Ya];intro p c z;obtain⟨i,Q,J,_,e⟩:=Q7 _ _ _ p c;exact nomatch (H p #[i,Q,J,e]).mp z
 |true,.st n E w r,o,f,so,po,pn,m,k,L,O,v,y,_,_,H=>by
  have nr:∀g I t a,r= .cl g I t a->f=g:=λg I t a e=>by have z:=o.2;rw[e]at z;exact z.elim
  cases h:fi so.steps m n E w with
  |none=>rw[qe h];rw[Jp h]at H;exact Xz (b:=true) (s:=r) o.2 O v y.2.2 nr (λz=>nomatch z) H
  |some j=>
   obtain⟨l,x,A,hc⟩:=zh h;have B:=KC O A;obtain⟨d1,d2⟩:=Ks v A;have kd:=YF (s:=.nil) O v h A B y.1;have N:=Er o.1 v h A y.1;obtain⟨g,S,R,T,U,V,W,X⟩:=yy B o.1 d2 y.2.1 kd N;rw[Jq h A,T]at H;have M:∀p,p∈((if aR n E x=true then [po++[(j:Int)]] else [])++iq w (po++[(j:Int)]) S.steps 0)++iq r po so.steps (j+1)↔((aR n E x=true/\p=po++[(j:Int)])∨p∈iq w (po++[(j:Int)]) S.steps 0)∨p∈iq r po so.steps (j+1):=λp=>by
    rw[NF,NF];by_cases u:aR n E x=true
    ·rw[Mb u,Om];simp [u]
    ·rw[Mf u];simp [u]
   have C:∀p,p∈iq w (po++[(j:Int)]) S.steps 0->∃q,p=po++(j:Int)::q/\q≠[]:=λp c=>(JH w _ _ 0 p c).up (m:=m) l;have inR:∀p,p∈iq r po so.steps (j+1)->pI po (j+1) p:=λp c=>JH r _ _ _ p c;have ih:=Xz (D:=D) (b:=false) (s:=w) o.1 (m:=0) (k:=0) (pn:=pn++[(k:Int)]) (po:=po++[(j:Int)]) (L:=L) R U V W (λ_=>X) λp c=>by
    obtain⟨q,e,Y⟩:=c.up (m:=m) l;rw[H p #[j,q,l,e],M p];constructor
    ·rintro ((⟨_,z⟩ |z) |z)
     ·rw[e]at z;obtain⟨_,z⟩:=ql z;exact absurd z Y
     ·exact z
     ·obtain⟨i,Q,hi,z⟩:=inR p z;rw[e]at z;have:=(ql z).1;omega
    ·exactλz=>.inl (.inr z)
   have i0:=Xz (D:=D) (b:=true) (s:=r) o.2 (m:=j+1) (k:=k+1) (pn:=pn) (po:=po) (L:=L) O v y.2.2 nr (λz=>nomatch z) λp c=>by
    obtain⟨i,q,hi,e⟩:=c;rw[H p #[i,q,UO,e],M p];constructor
    ·rintro ((⟨_,z⟩ |z) |z)
     ·rw[e]at z;have:=(ql z).1;omega
     ·obtain⟨Q,z,_⟩:=C p z;rw[e]at z;have:=(ql z).1;omega
     ·exact z
    ·exactλz=>.inr z
   rw[NO]at ih;rw[qf h A,xO po l A,KL,KL,<- i0];have e1:eM L (eG po so.steps m j)=eG po so.steps m j:=Ya λp c z=>by
    obtain⟨i,Q,J,h2,e⟩:=Q7 _ _ _ p c;rw[Mw,M8]at h2;rw[H p #[i,Q,J,e],M p]at z;rcases z with (⟨_,z⟩ |z) |z
    ·rw[e]at z;have:=(ql z).1;omega
    ·obtain⟨q2,z,_⟩:=C p z;rw[e]at z;have:=(ql z).1;omega
    ·obtain⟨i',q2,hi,z⟩:=inR p z;rw[e]at z;have:=(ql z).1;omega
   have e2:eM L (cg (po++[(j:Int)]) x.2.2)=(one (po++[(j:Int)]) x (pn++[(k:Int)]) n E w).d++(dJ w (po++[(j:Int)]) S.steps 0 (pn++[(k:Int)]) 0).d:=by
    rw[ih];unfold cg;rw[QT,Fj B,T];have hm:=(H (po++[(j:Int)]) #[j,[],l,Z]).trans (M _);unfold one;by_cases u:aR n E x=true
    ·rw[Mb$ hm.mpr$ .inl$ .inl #[u,Z],Mb u];by_cases G:x.2.2.fnd=w.fnd
     ·rw[Mb G];rfl
     ·rw[Mf G];rfl
    ·rw[Mf u,Mf]
     ·rfl
     ·rw[hm];rintro ((⟨z,_⟩ |z) |z)
      ·exact u z
      ·obtain⟨q2,z,Y⟩:=C _ z;obtain⟨_,z⟩:=ql (q:=[]) z;exact Y z.symm
      ·obtain⟨i',q2,hi,z⟩:=inR _ z;have:=(ql (q:=[]) z).1;omega
   rw[e1,e2,T];show(eG po so.steps m j++((one _ _ _ _ _ _).d++(dJ _ _ _ _ _ _).d))++(dJ _ _ _ _ _ _).d=_;rw[NJ]
 |false,.cl g _ s _,o,f,so,po,pn,m,k,L,O,v,y,G,_,H=>by
  have z:=G g _ s _ Z;subst z;exact Xz (b:=true) (s:=s) o O v y (λg I t a e=>by
   rw[e]at o;exact o.elim) (λz=>nomatch z) H
 |false,.ask _,_,f,so,po,pn,m,k,L,_,_,_,_,F,_=>by have z:=F Z (λ_ _ _ _ z=>nomatch z);subst z;show []=eM L ((eh (([]:List aO).drop m) po m).map (·.1));rw[RS];rfl
 |false,.rd _ _,_,f,so,po,pn,m,k,L,_,_,_,_,F,_=>by have z:=F Z (λ_ _ _ _ z=>nomatch z);subst z;show []=eM L ((eh (([]:List aO).drop m) po m).map (·.1));rw[RS];rfl
 |false,.wr _ _,_,f,so,po,pn,m,k,L,_,_,_,_,F,_=>by have z:=F Z (λ_ _ _ _ z=>nomatch z);subst z;show []=eM L ((eh (([]:List aO).drop m) po m).map (·.1));rw[RS];rfl
theorem Xi:∀(p x y:aJ),lR (p++x) (p++y)=lR x y
 | [],_,_=>rfl
 |a::p,x,y=>by show(if a=a then lR (p++x) (p++y) else _)=_;rw[Mb Z,Xi p]
theorem Xj{p q Q:aJ}{i j:Nat}(h:i < j):lR (p++(i:Int)::q) (p++(j:Int)::Q)=true:=by rw[Xi];show(if (i:Int)=(j:Int) then _ else decide ((i:Int) < (j:Int)))=true;rw[Mf UO];exact Mc UO
theorem Xk:lR p (p++(i:Int)::q)=true:=by have:=Xi p [] ((i:Int)::q);rw[Mv]at this;exact this
abbrev sR(l:List aJ):Prop:=l.Pairwise λa b=>lR a b=true
theorem sJ:∀(s:Sk) (p:aJ) (k:Nat),s.ok true->∀q∈(s.ws p k).map (·.1),pI p k q
 |s,p,k,o,q,h=>by rw[zH o]at h;obtain⟨i,Q,H,_,e⟩:=Q7 _ _ _ q h;exact#[i,Q,H,e]
theorem YG(H:sR a)(c:sR b)(h:∀x∈a,∀y∈b,lR x y=true):sR (a++b):=List.pairwise_append.mpr #[H,c,h]
theorem Zq:∀{b:Bool} {s:Sk},s.ok b->∀(p:aJ) (k:Nat),sR ((s.ws p k).map (·.1))
 |true,.nil,_,_,_=>List.Pairwise.nil
 |true,.st _ _ w r,o,p,k=>by
  show sR ((((p++[(k:Int)],w)::w.ws (p++[(k:Int)]) 0)++r.ws p (k+1)).map (·.1));rw[Mz];refine YG ?_ (Zq o.2 p$ k+1) λx H y h=>?_
  ·rw[Ni];refine List.pairwise_cons.mpr #[λy h=>?_,Zq o.1 _ 0];obtain⟨i,q,_,e⟩:=Qv w _ 0 y h;rw[e];exact Xk
  ·obtain⟨q,e⟩:=Kj (w:=w) (show x∈cg (p++[(k:Int)]) w from H);obtain⟨i,Q,a,E⟩:=sJ r p (k+1) o.2 y h;rw[e,E];exact Xj a
 |false,.cl _ _ s _,o,p,_=>Zq (b:=true) (s:=s) o p 0
 |false,.ask _,_,_,_=>List.Pairwise.nil
 |false,.rd _ _,_,_,_=>List.Pairwise.nil
 |false,.wr _ _,_,_,_=>List.Pairwise.nil
theorem Am{w:Sk}(o:w.ok false)(p:aJ):sR (cg p w):=by refine List.pairwise_cons.mpr #[λy h=>?_,Zq o _ 0];obtain⟨i,q,_,e⟩:=Qv w _ 0 y h;rw[e];exact Xk
theorem XA:∀{b:Bool} {s:Sk},s.ok b->∀(c:aJ) (os:List aO) (m:Nat) (a:aJ) (k:Nat),sR (dJ s c os m a k).f/\∀p∈(dJ s c os m a k).f,pI a k p
 |true,.nil,_,_,_,_,_,_=>#[List.Pairwise.nil,λ_ h=>(nomatch h)]
 |true,.st n H w r,o,c,os,m,a,k=>by
  cases h:fi os m n H w with
  |none=>
   rw[qe h];obtain⟨l,I⟩:=XA o.2 c os m a (k+1);show sR (cg (a++[(k:Int)]) w++_)/\∀p∈(cg (a++[(k:Int)]) w++_),_;refine#[YG (Am o.1 _) l λx d y g=>?_,λp hp=>?_]
   ·obtain⟨q,e⟩:=Kj d;obtain⟨i,Q,t,E⟩:=I y g;rw[e,E];exact Xj t
   ·rcases List.mem_append.mp hp with hp |hp
    ·obtain⟨q,e⟩:=Kj hp;exact#[k,q,LV _,e]
    ·exact(I p hp).le (MU _)
  |some j=>
   obtain⟨z,x,d,_⟩:=zh h;rw[qf h d];obtain⟨l,I⟩:=XA o.2 c os (j+1) a (k+1);obtain⟨J,u⟩:=XA o.1 (c++[(j:Int)]) (lr x.2.2) 0 (a++[(k:Int)]) 0;have o1:(one (c++[(j:Int)]) x (a++[(k:Int)]) n H w).f=[]∨(one (c++[(j:Int)]) x (a++[(k:Int)]) n H w).f=[a++[(k:Int)]]:=by
    unfold one;split
    ·split
     ·exact .inl Z
     ·exact .inl Z
    ·exact .inr Z
   have M:sR ((one (c++[(j:Int)]) x (a++[(k:Int)]) n H w).f++(dJ w (c++[(j:Int)]) (lr x.2.2) 0 (a++[(k:Int)]) 0).f)/\∀p∈((one (c++[(j:Int)]) x (a++[(k:Int)]) n H w).f++(dJ w (c++[(j:Int)]) (lr x.2.2) 0 (a++[(k:Int)]) 0).f),∃q,p=a++(k:Int)::q:=by
    have v:∀p∈(dJ w (c++[(j:Int)]) (lr x.2.2) 0 (a++[(k:Int)]) 0).f,∃q,p=a++(k:Int)::q:=λp hp=>let #[q,e,_]:=(u p hp).up (m:=0) (Ma _);#[q,e]
    rcases o1 with o1 |o1
    ·rw[o1];exact#[J,v]
    ·rw[o1];refine#[List.pairwise_cons.mpr #[λy g=>?_,J],λp hp=>?_]
     ·obtain⟨i,q,_,e⟩:=u y g;rw[e];exact Xk
     ·rcases List.mem_cons.mp hp with rfl |hp
      ·exact#[[],Z]
      ·exact v p hp
   show sR (([]++(_++_))++_)/\∀p∈(([]++(_++_))++_),_;rw[Tk];refine#[YG M.1 l λx d y g=>?_,λp hp=>?_]
   ·obtain⟨q,e⟩:=M.2 x d;obtain⟨i,Q,t,E⟩:=I y g;rw[e,E];exact Xj t
   ·rcases List.mem_append.mp hp with hp |hp
    ·obtain⟨q,e⟩:=M.2 p hp;exact#[k,q,LV _,e]
    ·exact(I p hp).le (MU _)
 |false,.cl _ _ s _,o,c,os,m,a,k=>XA (b:=true) (s:=s) o c os m a k
 |false,.ask _,_,_,_,_,_,_=>#[List.Pairwise.nil,λ_ h=>(nomatch h)]
 |false,.rd _ _,_,_,_,_,_,_=>#[List.Pairwise.nil,λ_ h=>(nomatch h)]
 |false,.wr _ _,_,_,_,_,_,_=>#[List.Pairwise.nil,λ_ h=>(nomatch h)]
theorem AT(h:sR l)(H:l[i]?=some p)(c:l[i+1]?=some q):lR p q=true:=by obtain⟨a,e⟩:=List.getElem?_eq_some_iff.mp H;obtain⟨b,E⟩:=List.getElem?_eq_some_iff.mp c;have:=(List.pairwise_iff_getElem.mp h) i (i+1) a b (Na i);rw[e,E]at this;exact this
theorem G0(h:pI a k p):p≠[]:=by obtain⟨i,q,_,e⟩:=h;rw[e];intro z;simp at z
noncomputable abbrev D7:Stmt:=bQ 75
noncomputable abbrev Aq:Stmt:=bQ 76
noncomputable abbrev rX:Stmt:=bQ 77
noncomputable abbrev Ax:Stmt:=bQ 78
noncomputable def BB:Sk->V->V
 | .cl _ _ _ a,_=>.int a
 |_,u=>u
inductive ny(b:List V)(H:Hp)(Q:VK)(a:XK):Prop
 |mk(p h:Addr)(n:Int)(u:V)(w:Sk)(_:b=[.ref p])(_:H p=some (.tup [.int n,.ref h,u]))(_:dF H w u [])(_:w.ok false)(_:Q (BB w u) H)
theorem CD{w W:Sk}(o:w.ok false)(O:W.ok false)(e:eK w=eK W):(w.fnd=W.fnd->(∃f I s a S A,w= .cl f I s a/\W= .cl f I S A/\a=A)∨(w=W/\∀f I s a,w≠ .cl f I s a))/\(w.fnd≠W.fnd->(∃f I s a S A,w= .cl f I s a/\W= .cl f I S A/\a≠A)∨∃c i d,w= .rd c i/\W= .rd c d/\i≠d):=by
 cases w with
 |nil |st _ _ _ _=>exact o.elim
 |cl f I s a=>obtain⟨S,A,rfl⟩:=YE O e.symm;exact#[λh=>.inl #[f,I,s,a,S,A,Z,Z,h],λh=>.inl #[f,I,s,a,S,A,Z,Z,h]]
 |ask b=>
  cases W with
  |nil |st _ _ _ _=>exact O.elim
  |ask B=>have e:Tr.tp (.cons (aK "ask")$ .cons (au b) .nil)= .tp (.cons (aK "ask")$ .cons (au B) .nil):=e;injection e with e;injection e with _ e;injection e with e _;injection e with e;injection e with e;subst e;exact#[λ_=>.inr #[Z,λ_ _ _ _ z=>nomatch z],λh=>absurd Z h]
  |rd _ _ |wr _ _ |cl _ _ _ _=>exact absurd (Ji e) UN
 |rd b i=>
  cases W with
  |nil |st _ _ _ _=>exact O.elim
  |rd B d=>have e:Tr.tp (.cons (aK "read")$ .cons (au b) .nil)= .tp (.cons (aK "read")$ .cons (au B) .nil):=e;injection e with e;injection e with _ e;injection e with e _;injection e with e;injection e with e;subst e;exact#[λ(h:i=d)=>by subst h;exact .inr #[Z,λ_ _ _ _ z=>nomatch z],λh=>.inr #[b,i,d,Z,Z,h]]
  |ask _ |wr _ _ |cl _ _ _ _=>exact absurd (Ji e) UN
 |wr b i=>
  cases W with
  |nil |st _ _ _ _=>exact O.elim
  |wr B d=>have e:Tr.tp (.cons (aK "write")$ .cons (au b)$ .cons (au i) .nil)= .tp (.cons (aK "write")$ .cons (au B)$ .cons (au d) .nil):=e;injection e with e;injection e with _ e;injection e with E e;injection e with g _;injection E with E;injection E with E;injection g with g;injection g with g;subst E;subst g;exact#[λ_=>.inr #[Z,λ_ _ _ _ z=>nomatch z],λh=>absurd Z h]
  |ask _ |rd _ _ |cl _ _ _ _=>exact absurd (Ji e) UN
theorem wQ{w:Sk}(o:w.ok false)(h:∀f i s a,w≠ .cl f i s a):∃l,EM w= .tp l/\l.dep < 10/\l.In:=by
 cases w with
 |nil |st _ _ _ _=>exact o.elim
 |cl f i s a=>exact absurd Z (h f i s a)
 |ask b=>exact#[_,Z,by show max 0 (max 0 0) < 10;decide,Z,Z,trivial]
 |rd b B |wr b B=>exact#[_,Z,by show max 0 (max 0 (max 0 0)) < 10;decide,Z,Z,Z,trivial]
theorem uI{w:Sk}(h:∀f i s a,w≠ .cl f i s a):BB w u=u:=by
 cases w with
 |cl f i s a=>exact absurd Z (h f i s a)
 |_=>rfl
theorem YH{X:Cx}(d:X.A.units < cLine):fb X (compareOp .Eq) (λx y H Q=>∃a b c,x= .ref a/\y= .ref b/\H a=some (.lst c)/\H b=some (.lst [])/\Q (.bl c.isEmpty) H):=by
 intro p s J H x y v u Q I l m h;obtain⟨a,b,c,rfl,rfl,n,o,q⟩:=h;cases l;cases m;obtain⟨t,R,f,_⟩:=I.list (aI.of n);obtain⟨B,C,g,_⟩:=I.list (aI.of o);have E:B=[]:=C.nil_iff.mpr Z;subst E;cases i:c with
 |nil=>subst i;have D:t=[]:=R.nil_iff.mpr Z;subst D;refine Ts (e:=λ_=>true) f.isList g.isList Z d (λj F M=>absurd F UP) X.prog X.w _ _ ?_;exact#[.bl true,H,I,Z,q]
 |cons z r=>subst i;have L:=R.length;refine Tq f.isList g.isList (by simp [<- L]) d X.prog X.w _ _ ?_;exact#[.bl false,H,I,Z,q]
theorem Jx{lo:Int}{n:Nat}{t:TT}{Q:List V->Hp->Prop}(Pv:Nat->List V->Hp->Prop)(j:Pv 0 [] H)(k:n<=sizeLine)(c:∀i Y h,Pv i Y h->Y.length<=i)
  (l:∀i Y h,i < n->Pv i Y h->t (some (.int$ lo+i)::d) h λb f=>if b=true then T (some (.int$ lo+i)::d) f λy o=>Pv (i+1) (Y++[y]) o else Pv (i+1) Y f) (q:∀Y h,Pv n Y h->Q Y h):
  eN (sM lo n) 1 d (aU 0) t T Q H:=by
 refine#[λi m Y h=>m=n - i/\i<=n/\Pv i Y h,#[n,UP,Ma _,j],?_];rintro i m Y h ⟨rfl,u,p⟩;by_cases a:i < n
 ·refine .inr #[a,Nj (c i Y h p)$ Mi a k,Pv$ i+1,λr f s=>#[n - (i+1),UO,Z,a,s],λx f z g y=>?_];obtain⟨e,y⟩:=y;subst e y;obtain⟨v,rfl⟩:=p8 g;exact#[#[[some _],Z,Z],l i Y _ a p]
 ·have e:i=n:=by omega
  subst e;exact .inl #[LV _,q Y h p]
theorem K0{K:Frag}{a:Addr}{xs:List V}{t:TT}{Q:List V->Hp->Prop}(A:xs.length<=sizeLine)(Pv:Nat->List V->Hp->Prop)(n:Pv 0 [] H)
  (o:∀i Y h,Pv i Y h->aI K h a xs/\Y.length<=i) (q:∀i x Y h,xs[i]?=some x->Pv i Y h->t (some x::c) h λb d=>if b=true then T (some x::c) d λy r=>Pv (i+1) (Y++[y]) r else Pv (i+1) Y d) (s:∀Y h,Pv xs.length Y h->Q Y h):
  eN (xQ K a) 1 c (aU 0) t T Q H:=by
 refine#[λi m Y h=>m=xs.length - i/\i<=xs.length/\Pv i Y h,#[xs.length,UP,Ma _,n],?_];intro i m Y h g;obtain⟨rfl,B,p⟩:=g;obtain⟨j,C⟩:=o i Y h p;by_cases f:i < xs.length
 ·refine .inr #[#[xs,xs[i],j,LP f],UO,Pv$ i+1,λu d z=>#[xs.length - (i+1),UO,Z,f,z],λv d D k y=>?_];obtain⟨e,y⟩:=y;subst e;obtain⟨w,rfl⟩:=p8 k;exact#[#[[some _],Z,Z],q i v Y d (y xs j) p]
 ·have e:i=xs.length:=by omega
  subst e;exact .inl #[#[xs,j,LV _],s Y h p]
theorem kS{X:Cx}{K:Frag}(h:X.K=K):EX X (cw K):=by subst h;exact jH
noncomputable def g9(P:aO->Bool):Nat->List aO->List Nat
 |_,[]=>[]
 |k,s::r=>if P s=true then k::g9 P (k+1) r else g9 P (k+1) r
noncomputable def cQ(P:aO->Bool)(os:List aO)(m:Nat):List Nat:=g9 P m (os.drop m)
theorem KD{P:aO->Bool}{os:List aO}(h:os[m]?=some s):cQ P os m=if P s=true then m::cQ P os (m+1) else cQ P os (m+1):=by obtain⟨H,e⟩:=List.getElem?_eq_some_iff.mp h;unfold cQ;rw[<- Nt (h:=H),e];rfl
theorem Kk{P:aO->Bool}{os:List aO}(h:os.length<=m):cQ P os m=[]:=by unfold cQ;rw[R0 h];rfl
theorem QU(P:aO->Bool):∀(k:Nat) (os:List aO),(g9 P k os).head?=pU P k os
 |_,[]=>rfl
 |k,s::r=>by
  show(if P s=true then k::g9 P (k+1) r else g9 P (k+1) r).head?=if P s=true then some k else pU P (k+1) r;by_cases h:P s=true
  ·rw[Mb h,Mb h];rfl
  ·rw[Mf h,Mf h,QU P]
theorem Yb(P:aO->Bool)(os:List aO)(m:Nat):(cQ P os m).head?=lM P os m:=QU P m _
theorem Yc(P:aO->Bool):∀(k:Nat) (os:List aO),(g9 P k os).length<=os.length
 |_,[]=>LV 0
 |k,s::r=>by
  have:=Yc P (k+1) r;show(if P s=true then k::g9 P (k+1) r else g9 P (k+1) r).length<=r.length+1;by_cases h:P s=true
  ·rw[Mb h];show _+1<=_;omega
  ·rw[Mf h];omega
theorem Xl(P:aO->Bool)(os:List aO)(m:Nat):(cQ P os m).length<=os.length:=Mg (Yc P m _) (by rw[M8];omega)
noncomputable def eQ(s:aO):Bool:=match s.2.2 with
 | .cl _ _ _ _=>true
 |_=>false
noncomputable def Bi(P:aO->Bool)(os:List aO)(j:Nat):Bool:=match os[j]? with
 |some s=>P s
 |none=>false
theorem K1{P Q:aO->Bool}(h:∀s,P s=true->Q s=true)(os:List aO):∀(n m:Nat),n=os.length - m->(cQ Q os m).filter (Bi P os)=cQ P os m
 |0,m,e=>by rw[Kk UO,Kk UO];rfl
 |n+1,m,e=>by
  have c:m < os.length:=by omega
  have a:=LP c;rw[KD a,KD a];have i:=K1 h os n (m+1) UO;have E:Bi P os m=P os[m]:=by unfold Bi;rw[a]
  by_cases H:P os[m]=true
  ·rw[Mb$ h _ H,Mb H,O5 (by rw[E];exact H),i]
  ·rw[Mf H];by_cases b:Q os[m]=true
   ·rw[Mb b,O6 (by rw[E];exact H),i]
   ·rw[Mf b,i]
theorem FT(s:aO)(h:cV f i s=true):eQ s=true:=by obtain⟨S,a,e⟩:=uF h;unfold eQ;rw[e]
noncomputable def mM(s:Sk)(p:aJ)(os:List aO)(m:Nat)(a:aJ)(k:Nat):Ly:=#[(dJ s p os m a k).k,(dJ s p os m a k).t,(dJ s p os m a k).f,iq s p os m]
noncomputable def vj(p:aJ)(o:aO)(a:aJ)(n:Int)(h:List Int)(w:Sk):Ly:=
 if aR n h o=true then (if o.2.2.fnd=w.fnd then #[[(p,a)],[],[],[p]] else #[[],[(p,a)],[],[p]]) else #[[],[],[a],[]]
theorem Yd{w:Sk}{os:List aO}(h:fi os m n H w=none):mM (.st n H w r) a os m p k=(#[[],[],cg (p++[(k:Int)]) w,[]]:Ly).app (mM r a os m p$ k+1):=by unfold mM;rw[qe h,Jp h];rfl
theorem sV{w r:Sk}{po:aJ}{os:List aO}{pn:aJ}{k:Nat}(h:fi os m n b w=some j)(c:os[j]?=some o):mM (.st n b w r) po os m pn k=(vj (po++[(j:Int)]) o (pn++[(k:Int)]) n b w).app ((mM w (po++[(j:Int)]) (lr o.2.2) 0 (pn++[(k:Int)]) 0).app$ mM r po os (j+1) pn$ k+1):=by
 unfold mM;rw[qf h c,Jq h c];unfold vj one Ly.app;by_cases H:aR n b o=true
 ·rw[Mb H,Mb H,Mb H];by_cases a:o.2.2.fnd=w.fnd
  ·rw[Mb a,Mb a];simp
  ·rw[Mf a,Mf a];simp
 ·rw[Mf H,Mf H,Mf H];simp
theorem sU{w:Sk}{os:List aO}(o:w.ok false)(h:∀f i s a,w≠ .cl f i s a):mM w p os m b k= .nil:=by
 cases w with
 |nil |st _ _ _ _=>exact o.elim
 |cl f i s a=>exact absurd Z (h f i s a)
 |_=>rfl
inductive fV(n:Nat)(e:List V)(H:Hp)(Q:VK)(b:XK):Prop
 |mk(d:Addr)(p:aJ)(f:Str)(c:List Int)(s:Sk)(a:Int)(u:V)(_:e=[u,.ref d])(_:H d=some (.tup (p.map V.int)))(_:p.length+n<=100)(_:mN H f c s a u)(_:s.ok true)(_:s.dep < n)(_:s.size<=1000)(_:∀(r:Addr) (xs:List V) (H':Hp),H r=none->H' r=some (.lst xs)->bq gX H' ((s.ws p 0).map (·.1)) xs->aa H H'->Q (.ref r) H')
inductive IW(h j:Addr)(p:aJ)(u:V)(s:Sk)(H:Hp)(i:Nat)(l:_L.St)(a:Hp):Prop
 |mk(f g:Option V)(k:List V)(b:l=[some u,some (.ref h),some (.ref j),f,g])(c:a j=some (.lst k))(d:bq gX a ((eh (s.steps.take i) p 0).map (·.1)) k)(e:aa H a)
inductive ie(n:Nat)(t:List V)(H:Hp)(Q:VK)(a:XK):Prop
 |mk(D:DF)(z k s h g m c l b:Addr)(p o:aJ)(f:Str)(i j:List Int)(q r:Sk)(d e:Int)(y:Ly)(_:t=[.ref c,.ref b,.ref m,.ref l,.ref z])(_:Lt H z k s h g y)(_:H m=some (.tup (p.map V.int)))(_:H l=some (.tup (o.map V.int)))(_:p.length+n<=49)(_:o.length+n<=49)(_:mN H f i q d (.ref c))(_:q.ok true)(_:q.dep<=15)(_:q.size<=1000)(_:mN H f j r e (.ref b))(_:r.ok true)(_:r.dep < n)(_:r.dep<=15)(_:r.size<=1000)(_:Dt D f q)(_:Dt D f r)(_:(y.app (mM r p q.steps 0 o 0)).tot<=100000)(_:∀H',Lt H' z k s h g (y.app (mM r p q.steps 0 o 0))->a6 k s h g H H'->Q .non H')
inductive IX(D:DF)(z B P A n J c C b:Addr)(M L:aJ)(f:Str)(K:List aO)(O:List V)(N:Sk)(k:Ly)(H:Hp)(i:Nat)(Q:_L.St)(l:Hp):Prop
 |mk(E F G I d e g h j:Option V)(m:Nat)(a:Sk)(y:Ly)(o:Q=[some (.ref c),some (.ref b),some (.ref J),some (.ref C),some (.ref z),some (.int (m:Int)),E,F,G,I,d,e,g,h,j])(p:Lt l z B P A n y)(q:dF l a .non (O.drop i))(r:a.ok true)(s:a.dep<=N.dep)(t:a.size<=N.size)(u:Dt D f a)(v:m<=K.length)(w:y.app (mM a M K m L i)=k)(x:a6 B P A n H l)
noncomputable def db(l:List Nat):List V:=l.map λ(j:Nat)=>V.int (j:Int)
theorem GQ:ai ["_law_step"] ["_law_step"] (ae D7):=bP
theorem Dr(F:aQ K "_law_found" "_law_found" D7 f l):af P w K mg base aE 1 f l ["_law_step"] ny:=by
 refine F.ok GQ ?_ λC A o s H v Q E t h=>?_
 ·rintro _ _ _ _ ⟨p,h,n,u,w,rfl,_⟩;rfl
 obtain⟨p,h,n,u,w,rfl,b,i,d,q⟩:=h;refine#[_,(jd (jz (ki$ jy$ jo jH (pv 0) jf (λ_ _=>Z)) (jg$ jp$ jy$ jo jH (jo jH (pv 0) jf (λ_ _=>Z)) jf (λ_ _=>Z)) ju)$ jg$ jp$ jy$ pv 0),?_];cases w with
 |nil |st _ _ _ _=>exact d.elim
 |ask _ |rd _ _ |wr _ _=>obtain⟨x,rfl,G⟩:=i;refine ah λm j=>(jv b dG #[x,_,_,_,Z,Z,aB.of G,dU,Z,_,Z,aX UQ$ j _ _ ?_]);exact(jv b dG q)
 |cl f I s a=>obtain⟨x,c,g,e,S,rfl,G,r,_⟩:=i;exact ah λm j=>(jv b dG #[x,_,_,_,Z,Z,aB.of G,dU,Z,_,Z,cX UQ$ jv b dG #[x,_,_,_,Z,Z,aB.of G,ij,c,_,_,_,Z,Z,aB.of r,HK,q]])
theorem oQ:ai ["_law_chain","_law_at","_law_found_here","_law_k","_law_step"] z12z (ae Aq):=bP
theorem De(F:aQ K "_law_all_in" "_law_all_in" Aq f fd)(cS:Cl P w K mg base (n+1) fS f0 z12z (fV n) "_law_all_in")(m0:mg "enumerate"=none):af P w K mg base aE (n+2) f fd z12z (fV$ n+1):=by
 refine F.ok oQ ?_ λc0 A o1 s H vs Q E hr h=>?_
 ·rintro _ _ _ _ ⟨M,p,f,is,s,a,u,rfl,_⟩;rfl
 obtain⟨M,p,f,is,s,a,u,rfl,hp,a0,hc,d,hd,hz,q⟩:=h;refine#[_,(jd (jB 2 oQ.nd$ jG jb)$ jd (kH MF Z (Jo Z m0$ ja (jy$ pv 0) jb) (qC (n:=2) Z$ jC (jx (i:=3) oQ.nd Z$ Or.inl Z)$ jC (jx (i:=4) oQ.nd Z$ Or.inl Z) za)$ jd (jF$ jZ L9 Ml Mj jM (pv 2)$ ja (jw jQ (pv 1)$ jh$ ja (pv 3) jb) jb)$ jg$ jz (ki$ jy$ jo jH (pv 4) jf (λ_ _=>Z)) (jg$ jF$ jZ L9 Nf Nc zC (pv 2)$ ja (cS.e hr.m$ ja (jy$ jo jH (pv 4) jf (λ_ _=>Z))$ ja (jw jQ (pv 1)$ jh$ ja (pv 3) jb) jb) jb) ju)$ jg$ jp$ pv 2),?_];have b1:=aH;obtain⟨c,g,e,ss,rfl,h1,h2,h3,h4⟩:=hc;have lt:=zw d h4;have fl:=zf d p 0;rw[zH d]at fl;refine ah λF1 B=>#[fg,λT N=>B _ _ ?_];clear B;have s1:aa H (am H T$ .lst []):=je N;refine ah λF1 B=>dW λJ j=>(jv (s1 _ _ h1) dG #[e,Z,#[_,aB.of$ s1 _ _ h3],j _ _ ?_]);clear j;refine qt (K:=K) (xs:=ss) (IW M T p (.ref c) s H) #[none,none,[],Z,jc,Z,s1] (λi σ Hx _ h=>?_) ?_ (λσ Hx h=>B _ _ ?_)
 ·obtain⟨_,_,_,_,_,_,W⟩:=h;exact aB.of$ W _ _ h3
 ·intro E hE i x X σ H7 hx np Y Gq U h;clear B;obtain⟨o3,o4,xs,rfl,w1,w2,W⟩:=h;have s8:aa H7 (am H7 X$ .tup [.int i,x]):=je np;have e8:am H7 X (.tup [.int i,x]) X=some (.tup [.int i,x]):=jc;refine U ?_;clear U;generalize am H7 X (.tup [.int i,x])=H8 at s8 e8 ⊢;have S8:=W.trans s8;obtain⟨n1,h6,w,q,hh,u,ht,O,d0,s0,rfl,h0,a1,hw⟩:=qE d (h4.mono$ aa.tm S8) hx;refine#[X,_,Z,aB.of e8,Z,_,_,Z,_,_,Z,Z,?_];have h7:i < s.steps.length:=(List.getElem?_eq_some_iff.mp ht).1;have et:s.steps.take (i+1)=s.steps.take i++[(n1,h6,w)]:=by rw[MW,ht];rfl
  have eb:(eh (s.steps.take$ i+1) p 0).map (·.1)=(eh (s.steps.take i) p 0).map (·.1)++cg (p++[(i:Int)]) w:=by rw[et,zR,Mz,Mw,NG$ NM h7,Oa,KK];show _++(_++[])=_;rw[Mv]
  have bl:=Q6 s.steps (i+1) p 0;have b0:=Ng List.length eb;rw[LS,LU,qH O]at b0;have lx:=w2.len;rw[fl]at bl;show fh _ _ E [some$ .ref c,some$ .ref M,some$ .ref T,some$ .int i,some$ .ref q] H8;refine ah λF1 B=>#[_,Z,.inl #[Z,_,aI.of$ s8 _ _ w1],_,Z,_,Z,iE,λt nt=>#[M,t,_,_,Z,Z,aq (S8 _ _ hp) nt,jc,by rw[LU];show _+1<=_;omega,λR C e9 s9=>?_]];have S9:aa H8 C:=(je (o:=.tup [.int i]) nt).trans s9;have e9:C R=some (.tup$ p.map V.int++[.int (i:Int)]):=e9;rw[lK]at e9;have w9:=S9 _ _ (s8 _ _ w1);refine#[T,xs,_,Z,Z,w9,UO,B _ _ ?_];clear B;have G:ap C (am C T$ .lst$ xs++[.ref R]):=JG w9;have k:am C T (.lst$ xs++[.ref R]) T=some (.lst$ xs++[.ref R]):=jc;have k0:∀b o,b≠T->C b=some o->am C T (.lst$ xs++[.ref R]) b=some o:=λb o nb e=>by rw[ji nb];exact e
  generalize am C T (.lst$ xs++[.ref R])=v at G k k0;have r:ap H8 v:=(aa.tm S9).trans G;have I:aa H v:=λb o e=>k0 _ _ (jk e N) (S9 _ _$ S8 _ _ e);have x0:bq gX v ((eh (s.steps.take i) p 0).map (·.1)++[p++[(i:Int)]]) (xs++[.ref R]):=bq.app (bq.one #[R,Z,G _ _ e9]) (((w2.mono cn$ aa.tm s8).mono cn r));obtain⟨p3,v3,r3,eu,h',h5⟩:=Jj O (hw.mono r);subst eu;refine lO λG1 yT yF=>(jv (r _ _ h0) dG #[p3,_,_,_,Z,Z,aB.of h',dU,Z,_,Z,?_]);rw[qM];by_cases hv:v3="call"
  ·obtain⟨g',L,D,a',rfl⟩:=h5.mp hv;rw[Mc hv];obtain⟨x1,c1,g1,e1,s2,e2,k1,k2,k3,k4,k5⟩:=hw.mono r;cases e2;have d0:D.dep+1<=s.dep:=d0;have s0:D.size+1<=s.size:=s0;refine yT _ #[_,Z,.inl #[Z,_,aI.of k],jv (r _ _ h0) dG #[p3,_,_,_,Z,Z,aB.of k1,ij,_,Z,_,Z,iE,λt2 n0=>#[M,t2,_,_,Z,Z,aq (I _ _ hp) n0,jc,by rw[LU];show _+1<=_;omega,λr0 H0 y s3=>?_]]];have S:aa v H0:=(je (o:=.tup [.int i]) n0).trans s3;have y:H0 r0=some (.tup$ p.map V.int++[.int (i:Int)]):=y;rw[lK]at y;refine#[r0,_,g',L,D,a',.ref c1,Z,y,by rw[LS];show _+1+_<=_;omega,#[c1,g1,e1,s2,Z,S _ _ k2,S _ _ k3,S _ _ k4,k5.mono$ aa.tm S],O,UO,UO,λl zs H1 nl hl hz s4=>?_];have z:=S.trans s4;have lz:=hz.len;rw[LU,zf (show D.ok true from O)]at lz;have ez:(xs++[V.ref R]).length=xs.length+1:=by rw[LS];rfl
   have s5:(Sk.cl g' L D a').size=D.size:=rfl;refine#[T,l,_,_,Z,Z,z _ _ k,hl,UO,Y _ _ #[_,_,_,Z,jc,?_,λb o e=>?_]]
   ·rw[eb];have t0:ap H1 (am H1 T$ .lst$ xs++[.ref R]++zs):=JG (z _ _ k);have e0:cg (p++[(i:Int)]) (.cl g' L D a')=[p++[(i:Int)]]++(D.ws (p++[(i:Int)]) 0).map (·.1):=rfl;rw[e0,<- NJ];exact(bq.app hz$ x0.mono cn$ aa.tm z).mono cn t0
   ·rw[ji$ jk e N];exact z _ _$ I _ _ e
  ·rw[LZ hv];refine yF _$ Y _ _ #[_,_,_,Z,k,?_,I];rw[eb];have e0:cg (p++[(i:Int)]) w=[p++[(i:Int)]]:=by
    cases w with
    |nil |st _ _ _ _=>exact O.elim
    |cl f is s a=>exact absurd (h5.mpr #[f,is,s,a,Z]) hv
    |_=>rfl
   rw[e0];exact x0
 ·obtain⟨o3,o4,xs,rfl,w1,w2,W⟩:=h;rw[lt,MN,<- zH d]at w2;exact#[_,Z,q T xs Hx N w1 w2 W]
theorem C4:af P w K mg base aE k f c z12z (fV 0):=by
 have n:∀{v H Q E},¬fV 0 v H Q E:=by rintro v H Q E ⟨d,p,f,i,s,a,u,_,_,_,_,_,z,_⟩;omega
 exact#[λv H Q E h=>(n h).elim,λA o s H b U v Q E e g j l h=>(n h).elim]
theorem Ff(F:aQ K "_law_all_in" "_law_all_in" Aq f a)(b:aD K a z12z [])(M:mg "_law_all_in"=some (.ref f))(m:mg "enumerate"=none):∀n,af P w K mg base aE (n+1) f a z12z (fV n)
 |0=>C4
 |n+1=>De F #[(Ff F b M m n),b,F.kp,M] m
noncomputable def lP(os:List aO)(m:Nat)(n:Int)(h:List Int)(w:Sk):List Nat:=if cQ (aR n h) os m=[] then (match w with
 | .cl f i _ _=>cQ (cV f i) os m
 |_=>[]) else []
theorem JL(os:List aO)(m:Nat)(n:Int)(h:List Int)(w:Sk):(cQ (aR n h) os m++lP os m n h w).head?=fi os m n h w:=by
 have H:=Yb (aR n h) os m;unfold fi lP;cases e:cQ (aR n h) os m with
 |cons j r=>rw[e]at H;rw[<- H];rfl
 |nil=>
  rw[e]at H;rw[<- H,Mb Z];show(match w with | .cl f i _ _=>cQ (cV f i) os m |_=>[]).head?=lF os m w;cases w with
  |cl f i s a=>exact Yb (cV f i) os m
  |_=>rfl
theorem Hk(l:List Nat):l.take 1=match l.head? with |some j=>[j] |none=>[]:=by cases l<;>rfl
theorem yA(os:List aO)(m:Nat)(n:Int)(h:List Int)(w:Sk):(lP os m n h w).length<=os.length:=by
 unfold lP;split
 ·split
  ·exact Xl _ _ _
  ·exact Ma _
 ·exact Ma _
theorem Fq(l:List Nat):bZ (db l) none (some 1)=db (l.take 1):=by
 unfold bZ db;have e:HT.sIx (l.map λ(j:Nat)=>V.int (j:Int)).length 0 none=0:=rfl;rw[e,NO,PX,Po];cases l with
 |nil=>simp
 |cons a r=>
  have E:HT.sIx ((a::r).map λ(j:Nat)=>V.int (j:Int)).length ((a::r).map λ(j:Nat)=>V.int (j:Int)).length (some 1)=1:=by unfold HT.sIx;simp
  rw[E]
theorem Ye(l:List Nat):(db l).isEmpty=l.isEmpty:=by cases l<;>rfl
theorem Xm(a b:List Nat):db a++db b=db (a++b):=by unfold db;rw[Mz]
theorem Kl(l:List Nat):(db l).length=l.length:=LU _
theorem XB{H:Hp}{s:Sk}{S:List V}{j:Nat}{o:aO}(O:s.ok true)(h:dF H s .non S)(a:s.steps[j]?=some o):∃p h u,S[j]?=some (.ref p)/\H p=some (.tup [.int o.1,.ref h,u])/\H h=some (.tup$ o.2.1.map V.int)/\dF H o.2.2 u []/\o.2.2.ok false/\o.2.2.dep<=s.dep/\o.2.2.size+1<=s.size:=by have l:=zw O h;have k:=(List.getElem?_eq_some_iff.mp a).1;obtain⟨x,b⟩:∃x,S[j]?=some x:=#[_,LP UO];obtain⟨n,m,w,p,c,u,t,T,d,e,rfl,f,g,i⟩:=qE O h b;rw[a]at t;cases t;exact#[p,c,u,b,f,g,i,T,d,e]
theorem Cp{w:Sk}(o:w.ok false)(h:dF H w u []):∃p v r,u= .ref p/\H p=some (.tup (.str v::r))/\∀n c,decide (v="call")=eQ (n,c,w):=by
 obtain⟨p,v,r,e,g,d⟩:=Jj o h;refine#[p,v,r,e,g,λn c=>?_];by_cases b:v="call"
 ·obtain⟨f,i,s,a,rfl⟩:=d.mp b;rw[Mc b];rfl
 ·rw[LZ b];cases w with
  |cl f i s a=>exact absurd (d.mpr #[f,i,s,a,Z]) b
  |_=>rfl
theorem yz{j i:List Int}:gp (aA [aK g,aA$ j.map au]) (aA [aK f,aA$ i.map au])=cV f i (n,H,.cl g j s a):=by
 by_cases h:g=f/\j=i
 ·rw[h.1,h.2,zD Z];exact(Mc #[Z,Z]).symm
 ·rw[zj]
  ·exact(LZ h).symm
  intro e;have e:Tr.tp (.cons (aK g)$ .cons (aA$ j.map au) .nil)= .tp (.cons (aK f)$ .cons (aA$ i.map au) .nil):=e;injection e with e;injection e with A c;injection c with b _;injection A with A;injection A with A;have b:Tr.tp (ay$ j.map au)= .tp (ay$ i.map au):=b;injection b with b;exact h #[A,qI b]
theorem BC(f:Str)(i:List Int):(ay [aK f,aA$ i.map au]).In:=#[Z,zz i,trivial]
theorem C3(f:Str)(i:List Int):(ay [aK f,aA$ i.map au]).dep < 10:=by have h:=zq i;show max 0 (max ((ay$ i.map au).dep+1) 0) < 10;omega
theorem ur{P:aO->Bool}{os:List aO}(b:os[m+i]?=some o)(h:a++db (cQ P os$ m+i)=db (cQ P os m)):(P o=true->(a++[.int ((m:Int)+(i:Int))])++db (cQ P os$ m+(i+1))=db (cQ P os m))/\(P o=false->a++db (cQ P os$ m+(i+1))=db (cQ P os m)):=by
 rw[KD b]at h;have e:(m:Int)+(i:Int)=((m+i:Nat):Int):=by omega
 refine#[λH=>?_,λH=>?_]
 ·rw[Mb H]at h;rw[<- h,e,NJ];rfl
 ·rw[Mf (by rw[H];intro z;cases z)]at h;exact h
theorem ZY{P:aO->Bool}{os:List aO}(h:os[j]?=some o)(H:P o=true):∀(d m:Nat),j=m+d->j∈cQ P os m
 |0,m,e=>by have e:j=m:=e;subst e;rw[KD h,Mb H];exact Mm
 |d+1,m,e=>by
  have b:=(List.getElem?_eq_some_iff.mp h).1;have a:m < os.length:=by omega
  rw[KD$ LP a];have i:=ZY h H d (m+1) UO;split
  ·exact Mt _ i
  ·exact i
theorem ZZ(P:aO->Bool):∀(k:Nat) (os:List aO),∀j∈g9 P k os,∃i s,j=k+i/\os[i]?=some s/\P s=true
 |_,[],_,h=>nomatch h
 |k,s::r,j,h=>by
  have h:j∈(if P s=true then k::g9 P (k+1) r else g9 P (k+1) r):=h;have g:j∈g9 P (k+1) r->∃i S,j=k+i/\(s::r)[i]?=some S/\P S=true:=λz=>by obtain⟨i,S,e,a,b⟩:=ZZ P (k+1) r j z;exact#[i+1,S,UO,by simpa using a,b]
  by_cases H:P s=true
  ·rw[Mb H]at h;rcases List.mem_cons.mp h with rfl |h
   ·exact#[0,s,Z,Z,H]
   ·exact g h
  ·rw[Mf H]at h;exact g h
theorem YI{P:aO->Bool}{os:List aO}{m j:Nat}(h:j∈cQ P os m):m<=j/\∃s,os[j]?=some s/\P s=true:=by obtain⟨i,s,e,H,a⟩:=ZZ P m _ j h;rw[OP]at H;exact#[UO,s,by rw[e];exact H,a]
noncomputable def xT(os:List aO)(m:Nat)(n:Int)(h:List Int)(w:Sk)(p a:aJ)(k:Nat):Ly:=match cQ (aR n h) os m with
 | []=>#[[],[],[a++[(k:Int)]],[]]
 |j::_=>match os[j]? with
  |some o=>if o.2.2.fnd=w.fnd then #[[(p++[(j:Int)],a++[(k:Int)])],[],[],[p++[(j:Int)]]] else #[[],[(p++[(j:Int)],a++[(k:Int)])],[],[p++[(j:Int)]]]
  |none=>.nil
theorem sY{os:List aO}{w:Sk}{po pn:aJ}{k:Nat}(h:fi os m n H w=some j)(b:os[j]?=some o):xT os m n H w po pn k=vj (po++[(j:Int)]) o (pn++[(k:Int)]) n H w:=by
 have a:=JL os m n H w;rw[h]at a;obtain⟨d,_⟩:=zh h;unfold xT vj;cases e:cQ (aR n H) os m with
 |cons J r=>rw[e]at a;injection a with a;subst a;obtain⟨_,s,c,f⟩:=YI (P:=aR n H) (os:=os) (m:=m) (j:=J) (by rw[e];exact Mm);rw[b]at c;cases c;rw[Mb f];dsimp only;rw[b]
 |nil=>rw[Mf];intro g;have:=ZY b g (j - m) m UO;rw[e]at this;cases this
theorem sX{os:List aO}{w:Sk}(h:fi os m n H w=none):xT os m n H w b p k=#[[],[],[p++[(k:Int)]],[]]:=by
 have a:=JL os m n H w;rw[h]at a;unfold xT;cases e:cQ (aR n H) os m with
 |cons j r=>rw[e]at a;cases a
 |nil=>rfl
theorem yg(os:List aO)(m:Nat)(n:Int)(h:List Int)(w:Sk)(p a:aJ)(k:Nat):(xT os m n h w p a k).tot<=2:=by
 unfold xT;split
 ·exact MU 1
 ·split
  ·split
   ·exact LV 2
   ·exact LV 2
  ·exact Ma 2
theorem t9{W b:Sk}(o:W.ok false)(O:b.ok false)(E:eK W=eK b)(I:dF c W u [])(j:dF c b U [])(G:V->Hp->Prop)(h:G (.bl (!decide (W.fnd=b.fnd))) c):(Lm Ll$ DY 10) (BB W u) (BB b U) c G:=by
 obtain⟨F,k⟩:=CD o O E;by_cases H:W.fnd=b.fnd
 ·rw[Mc H]at h;rcases F H with ⟨f,i,S,A,s,a,rfl,rfl,e⟩ | ⟨rfl,n⟩
  ·refine .inl #[Z,?_];rw[show decide (BB (.cl f i S A) u=BB (.cl f i s a) U)=true from Mc (by show V.int A=V.int a;rw[e])];exact h
  ·obtain⟨l,m,dl,g⟩:=wQ o n;rw[uI n,uI n];have T:=Kr o I (λ_=>Z) (λz=>nomatch z);have t:=Kr o j (λ_=>Z) (λz=>nomatch z);rw[m]at T t;refine .inr #[l,l,dl,g,g,T,t,?_];rw[zD Z];exact h
 ·rw[LZ H]at h;rcases k H with ⟨f,i,S,A,s,a,rfl,rfl,e⟩ | ⟨C,p,d,rfl,rfl,e⟩
  ·refine .inl #[Z,?_];rw[show decide (BB (.cl f i S A) u=BB (.cl f i s a) U)=false from LZ λz=>e (by injection z)];exact h
  ·have T:=Kr o I (λ_=>Z) (λz=>nomatch z);have t:=Kr O j (λ_=>Z) (λz=>nomatch z);refine .inr #[ay [aK "read",au C,au p],ay [aK "read",au C,au d],by show max 0 (max 0$ max 0 0) < 10;decide,#[Z,Z,Z,trivial],#[Z,Z,Z,trivial],T,t,?_];rw[zj]
   ·exact h
   intro z;injection z with z;injection z with _ z;injection z with _ z;injection z with z _;injection z with z;injection z with z;exact e z
theorem L4.new(h:L4 H o r k t f d y)(n:H x=none):x≠k/\x≠t/\x≠f/\x≠d:=by obtain⟨_,a,_⟩:=h.kv;obtain⟨_,b,_⟩:=h.tv;obtain⟨_,c,_⟩:=h.fv;obtain⟨_,e,_⟩:=h.dv;exact#[(jk a n).symm,(jk b n).symm,(jk c n).symm,(jk e n).symm]
theorem a6.kept(b:a6 k t f d H a)(n:x≠k/\x≠t/\x≠f/\x≠d)(h:H x=some o):a x=some o:=b _ _ n.1 n.2.1 n.2.2.1 n.2.2.2 h
theorem kU(s:aa H h)(n:h x=none):H x=none:=by
 cases z:H x with
 |none=>rfl
 |some o=>rw[s _ _ z]at n;cases n
def I0(os:List aO)(m i:Nat)(P:aO->Bool)(H:Hp)(z:List V)(h:Hp):Prop:=aa H h/\z.length<=i/\z++db (cQ P os$ m+i)=db (cQ P os m)
theorem dM:ai z33z z15z (ae rX):=bP
noncomputable def rZ:Scope:=#[.function,[(".0",.local),("_law_j",.local),("_law_old",.free),("_law_step",.free)],false,false,[]]
theorem uN:(z26z:List Str).Nodup:=by decide+kernel
theorem tq:bh z33z (ae rX) rZ z26z 1 [0,7]:=pO
noncomputable def sd:Scope:=#[.function,[(".0",.local),("_law_j",.local),("_law_old",.free)],false,false,[]]
theorem C1:(["_law_j","_law_old"]:List Str).Nodup:=by decide+kernel
theorem Cq:bh z33z (ae rX) sd ["_law_j","_law_old"] 1 [0]:=pO
theorem Dh(F:aQ K "_law_beside" "_law_beside" rX f fd)(cF:Cl P w K mg base 1 fF m3 ["_law_step"] ny "_law_found")(cW:Cl P w K mg base 18 fW m4 z12z (fV 17) "_law_all_in")(cS:Cl P w K mg base (n+20) fS m5 z15z (ie n) "_law_beside")(m0:mg "enumerate"=none)(ml:mg "len"=none)(mr:mg "range"=none)(mi:mg "int"=none):af P w K mg base aE (n+21) f fd z15z (ie$ n+1):=by
 refine F.ok dM ?_ λm7 A o' s H vs Q E hr h=>?_
 ·rintro _ _ _ _ ⟨D,z,kA,tA,fA,dA,oa,c,na,b,po,pn,f,is,js,S,s1,a0,a1,y,rfl,_⟩;rfl
 obtain⟨D,z,kA,tA,fA,dA,oa,c,na,b,po,pn,f,is,js,S,s1,a0,a1,y,rfl,hL,b9,d4,m8,m',d5,o1,p0,p1,d6,d7,p2,m2,h6,D0,D1,b',q⟩:=h;refine#[_,(jd (jB 5 dM.nd jf)$ jg$ kH MF Z (Jo Z m0$ ja (jy$ pv 1) jb) (qC (n:=2) Z$ jC (jx (i:=6) dM.nd Z$ Or.inl Z)$ jC (jx (i:=7) dM.nd Z$ Or.inr Z) za)$ jd (jB 8 dM.nd$ jw jQ (pv 3)$ jh$ ja (pv 6) jb)$ jd (@qL _ _ _ _ _ _ _ _ _ _ (10) (z26z) (1) ([0,7]) _ _ _ _ dM.nd Z (Or.inl Z) Z (qg Z mr$ ja (pv 5)$ ja (jR jO Z ml Nh$ ja (jy$ pv 0) jb) jb) tq (λ_ _ _ _ _=>(jx (i:=0) uN Z$ Or.inl Z)) (λ_ _ _ _ _=>(@Kw _ _ _$ jE (Q5 (d:=10)$ lD hr) (jJ j8 (jo (r:=cw K) (kS (K:=K) Z) (jo (r:=cw K) (kS (K:=K) Z) (pv 1) jf (λ_ _=>Z)) (pv 0) (λ_ _=>Z)) jT$ jK jf) (jJ j8 (pv 2) jT$ jK jf)$ aL _)) (λ_ _ _ _ _=>(pv 0)) UR (by first |exact .inl Z |exact .inr Z) (by intro _;rfl))$ jd (jB 11 dM.nd$ jG jb)$ jd (jz (PW.pt$ Yw (jE (YH$ OA$ zM hr) (pv 10) (jG jb)$ aL _)$ Q8$ ki$ jy$ jo jH (pv 7) jf (λ_ _=>Z)) (jd (@qL _ _ _ _ _ _ _ _ _ _ (12) (["_law_j","_law_old"]) (1) ([0]) _ _ _ _ dM.nd Z (Or.inl Z) Z (qg Z mr$ ja (pv 5)$ ja (jR jO Z ml Nh$ ja (jy$ pv 0) jb) jb) Cq (λ_ _ _ _ _=>(jx (i:=0) C1 Z$ Or.inl Z)) (λ_ _ _ _ _=>(@Kw _ _ _$ jE Ja (jo (r:=cw K) (kS (K:=K) Z) (jo (r:=cw K) (kS (K:=K) Z) (jo (r:=cw K) (kS (K:=K) Z) (jo (r:=cw K) (kS (K:=K) Z) (pv 1) jf (λ_ _=>Z)) (pv 0) (λ_ _=>Z)) jf (λ_ _=>Z)) jf (λ_ _=>Z)) jl$ aL _)) (λ_ _ _ _ _=>(pv 0)) UR (by first |exact .inl Z |exact .inr Z) (by intro _;rfl))$ jg$ @qL _ _ _ _ _ _ _ _ _ _ (11) (z26z) (1) ([0,7]) _ _ _ _ dM.nd Z (Or.inl Z) Z (zr$ pv 12) tq (λ_ _ _ _ _=>(jx (i:=0) uN Z$ Or.inl Z)) (λ_ _ _ _ _=>(@Kw _ _ _$ jE (Q5 (d:=10)$ lD hr) (jJ j8 (jo (r:=cw K) (kS (K:=K) Z) (jo (r:=cw K) (kS (K:=K) Z) (jo (r:=cw K) (kS (K:=K) Z) (jo (r:=cw K) (kS (K:=K) Z) (pv 1) jf (λ_ _=>Z)) (pv 0) (λ_ _=>Z)) jf (λ_ _=>Z)) jf (λ_ _=>Z)) jT$ jK jf) (jJ j8 (jo (r:=cw K) (kS (K:=K) Z) (jo (r:=cw K) (kS (K:=K) Z) (pv 2) jf (λ_ _=>Z)) jf (λ_ _=>Z)) jT$ jK jf)$ aL _)) (λ_ _ _ _ _=>(pv 0)) UR (by first |exact .inl Z |exact .inr Z) (by intro _;rfl)) ju)$ jd (jz (jE (YH$ OA$ zM hr) (pv 10) (jG jb)$ aL _) (jg$ jF$ jZ L9 Ml Mj jM (jy$ pv 4)$ ja (pv 8) jb)$ jd (jB 13 dM.nd$ jh$ ja (jw jQ (pv 2)$ jh$ ja (jo jr (pv 10) jf (λ_ _=>Z)) jb)$ ja (pv 8) jb)$ jd (jF$ jZ L9 Ml Mj jM (jo jH (pv 4) (jN JI Z mi UH$ ja (Q9 (DM Xx$ vo (d:=10)$ lD hr) (cF.e hr.m$ ja (jo jH (jy$ pv 0) (jo jr (pv 10) jf (λ_ _=>Z)) (λ_ _=>Z)) jb) (cF.e hr.m$ ja (pv 7) jb)$ aL _) jb) (λ_ _=>Z))$ ja (pv 13) jb)$ jg$ jF$ jZ L9 Ml Mj jM (jy$ pv 4)$ ja (jy$ pv 13) jb)$ jd (jB 14 dM.nd$ jJ zu (jw qi (pv 10)$ pv 11) jT$ jK jf)$ jd (kH MF Z (zr$ pv 14) (jx (i:=9) dM.nd Z$ Or.inl Z)$ jd (jB 5 dM.nd$ jw ke (pv 9) jf)$ jg$ jz (ki$ jy$ jo jH (pv 7) jf (λ_ _=>Z)) (jg$ jF$ cS.e hr.m$ ja (jo jH (jy$ jo jH (jo jH (pv 0) jf (λ_ _=>Z)) (pv 9) (λ_ _=>Z)) jf (λ_ _=>Z))$ ja (jy$ jo jH (pv 7) jf (λ_ _=>Z))$ ja (jw jQ (pv 2)$ jh$ ja (pv 9) jb)$ ja (pv 8)$ ja (pv 4) jb) ju)$ jg$ jz (PW.pt$ Yw (jE (YH$ OA$ zM hr) (pv 14) (jG jb)$ aL _)$ Q8$ ki$ jy$ jo jH (pv 7) jf (λ_ _=>Z)) (jg$ jF$ jZ L9 Nf Nc zC (jy$ pv 4)$ ja (cW.e hr.m$ ja (jy$ jo jH (pv 7) jf (λ_ _=>Z))$ ja (pv 8) jb) jb) ju),?_];have p6:=aH;obtain⟨_,g0,e0,s8,d8,h1,h2,h3,h4⟩:=id d5;cases d8;obtain⟨_,g1,e1,s',d',k1,k2,k3,k4⟩:=id d6;cases d';have p7:=zw o1 h4;have p9:=qY o1 h4;refine ah λF1 v=>v _ _ ?_;clear v;refine dW λJ jj=>(jv k1 dG #[e1,Z,#[_,aB.of k3],jj _ _ ?_]);clear jj;refine qt (K:=K) (xs:=s') (IX D z kA tA fA dA oa c na b po pn f S.steps s' s1 (y.app$ mM s1 po S.steps 0 pn 0) H) #[none,none,none,none,none,none,none,none,none,0,s1,y,Z,hL,k4,d7,LV _,LV _,D1,Ma _,Z,λ_ _ _ _ _ _ e=>e] (λk σ Hx _ h=>?_) ?_ (λσ Hx h=>?_)
 ·obtain⟨_,_,_,_,_,_,_,_,_,_,_,_,_,_,_,_,_,_,_,_,_,b7⟩:=h;exact aB.of$ hL.tm b7 _ _ k3
 ·intro E rt k x pp σ H4 f5 f6 fE Gq kq h;obtain⟨o6,o7,o8,o9,o4,o5,O,C,o2,m,r2,y4,rfl,L4,w2,w3,w4,w5,w6,w7,w8,b4⟩:=h;have s5:aa H4 (am H4 pp$ .tup [.int k,x]):=je f6;have e5:am H4 pp (.tup [.int k,x]) pp=some (.tup [.int k,x]):=jc;refine kq ?_;clear kq;generalize am H4 pp (.tup [.int k,x])=H5 at s5 e5 ⊢;have b5:=b4.trans (a6.of_same s5);have c0:=hL.tm b5;have L5:=L4.same s5;refine#[pp,_,Z,aB.of e5,Z,_,_,Z,_,_,Z,Z,?_];rw[ZT f5]at w2;have w2:=w2.mono (aa.tm s5);cases r2 with
  |nil=>exact nomatch (show _::_=[] from w2)
  |ask _ |rd _ _ |wr _ _ |cl _ _ _ _=>exact w3.elim
  |st N p w r1=>
   obtain⟨p',h',u',y6,ex,i1,i2,i3,i4⟩:=w2;injection ex with ex ey;subst ex;subst ey;have d0:w.dep<=s1.dep:=Mg (Ol _ _) w4;have d2:r1.dep<=s1.dep:=Mg (Ob _ _) w4;have w5:w.size+r1.size+1<=s1.size:=w5;show fh (dP _ _) (fh _ _) E [some$ .ref c,some$ .ref b,some$ .ref oa,some$ .ref na,some$ .ref z,some$ .int (m:Int),some$ .int k,some$ .ref p',o8,o9,o4,o5,O,C,o2] H5;refine ah λF1 v=>#[_,Z,_,Z,iE,λt nt=>#[na,t,_,_,Z,Z,aq (c0 _ _ d4) nt,jc,by rw[LU];show _+1<=_;omega,λr9 H9 e9 s9=>v _ _ ?_]];clear v;have S9:aa H5 H9:=(je (o:=.tup [.int k]) nt).trans s9;have e9:H9 r9=some (.tup$ pn.map V.int++[.int (k:Int)]):=e9;rw[lK]at e9;have t6:=hL.tm (b5.trans$ a6.of_same S9);refine ah λF1 v=>#[_,Z,jv (t6 _ _ h1) dG #[e0,_,Z,.inr$ aB.of$ t6 _ _ h3,_,_,Z,#[UO,UO,UO,UO],?_]];refine Jx (lo:=(m:Int)) (n:=((s8.length:Int) - (m:Int)).toNat) (λi B Hx=>I0 S.steps m i (aR N p) H9 B Hx) #[aa.refl _,LV 0,Z] UO (λi B Hx h=>h.2.1) ?_ ?_
   ·intro i B Hx hi h;obtain⟨W,lz,ez⟩:=h;have a2:m+i < S.steps.length:=by omega
    have X:=LP a2;generalize S.steps[m+i]=o at X;obtain⟨q,hq,uq,q1,q2,q3,_⟩:=XB o1 (h4.mono$ t6.trans$ aa.tm W) X;have ei:(m:Int)+(i:Int)=((m+i:Nat):Int):=by omega
    obtain⟨gy,gn⟩:=ur X ez;refine(jv (W _ _$ t6 _ _ h1) dG #[_,Z,e0,_,_,_,Z,Z,aB.of$ W _ _$ t6 _ _ h3,by rw[ei];exact jL q1,_,Z,q,_,Z,q2,λt1 Hy a3 sy=>#[_,Z,_,Z,p',_,Z,sy _ _$ W _ _$ S9 _ _ i1,λt2 Hz h6 sz=>#[_,_,Xh o.1 o.2.1,JF o.1 o.2.1,JF N p,jD (sz _ _ a3)$ jm Z jX$ jm Z (km$ sz _ _$ sy _ _ q3) jA,jD h6$ jm Z jX$ jm Z (km$ sz _ _$ sy _ _$ W _ _$ S9 _ _ i2) jA,_,Z,?_]]]);rw[show gp (.tp$ ay [au o.1,aA$ o.2.1.map au]) (.tp$ ay [au N,aA$ p.map au])=aR N p o from YD (w:=o.2.2)];have c2:=(W.trans sy).trans sz;cases hb:aR N p o with
    |true=>exact uB #[_,Z,c2,by rw[LS];show _+1<=_;omega,gy hb]
    |false=>exact uA #[c2,UO,gn hb]
   intro B HA h sl n5;obtain⟨sA,_,ez⟩:=h;rw[Kk UO]at ez;have ez:B=db (cQ (aR N p) S.steps m):=by rw[<- ez];exact(Mv _).symm
   subst ez;refine v _ _ ?_;clear v;have sB:aa HA (am HA sl$ .lst$ db$ cQ (aR N p) S.steps m):=je n5;have eB:am HA sl (.lst$ db$ cQ (aR N p) S.steps m) sl=some (.lst$ db$ cQ (aR N p) S.steps m):=jc;generalize am HA sl (.lst$ db$ cQ (aR N p) S.steps m)=HB at sB eB ⊢;refine ah λF1 v=>#[fg,λlA n6=>v _ _ ?_];clear v;have sC:aa HB (am HB lA$ .lst []):=je n6;have eC:am HB lA (.lst []) lA=some (.lst []):=jc;generalize am HB lA (.lst [])=HC at sC eC ⊢;have SC:aa H5 HC:=((S9.trans sA).trans sB).trans sC;have eB:=sC _ _ eB;have t':=c0.trans (aa.tm SC);have e9:=sC _ _ (sB _ _$ sA _ _ e9);have n7:H5 lA=none:=kU ((S9.trans sA).trans sB) n6;have f7:H5 sl=none:=kU (S9.trans sA) n5;have q0:=Xl (aR N p) S.steps m;have q':=yA S.steps m N p w;refine ah λF1 v=>?_;suffices g2:∀(l2:Addr) (O:Option V) (HD:Hp),H5 l2=none->aa HC HD->HD l2=some (.lst$ db$ lP S.steps m N p w)->F1 [some$ .ref c,some$ .ref b,some$ .ref oa,some$ .ref na,some$ .ref z,some$ .int (m:Int),some$ .int k,some$ .ref p',some$ .ref r9,o9,some$ .ref sl,some$ .ref l2,O,C,o2] HD by
    clear v;refine#[_,Z,fg,λl0 n0=>#[sl,l0,_,Z,Z,aq eB n0,jc,_,Z,?_]];have sD:aa HC (am HC l0$ .lst []):=je n0;generalize am HC l0 (.lst [])=HD at sD ⊢;have SD:=SC.trans sD;rw[Ye];cases e2:cQ (aR N p) S.steps m with
    |cons j0 r0=>
     refine aX Z$ aX Z$ g2 lA O HD n7 sD ?_;have z:lP S.steps m N p w=[]:=by unfold lP;rw[e2];rfl
     rw[z];exact sD _ _ eC
    |nil=>
     refine cX Z ?_;obtain⟨p3,v3,r3,eu,h7,h0⟩:=Jj w3.1 (i3.mono$ aa.tm SD);subst eu;refine(jv (SD _ _ i1) dG #[p3,_,_,_,Z,Z,aB.of h7,dU,Z,_,Z,?_]);rw[qM];by_cases hv:v3="call"
     ·refine cX (Mc hv) ?_;obtain⟨g,L,sw,aw,rfl⟩:=h0.mp hv;have zl:lP S.steps m N p (.cl g L sw aw)=cQ (cV g L) S.steps m:=by unfold lP;rw[Mb e2]
      rw[zl]at g2;clear h0;obtain⟨x1,c1,g4,e4,s3,e3,j1,j2,j3,j4,j5⟩:=i3.mono (aa.tm SD);cases e3;have t0:=t'.trans (aa.tm sD);refine ah λF2 f2=>#[_,Z,jv (t0 _ _ h1) dG #[e0,_,Z,.inr$ aB.of$ t0 _ _ h3,_,_,Z,#[UO,UO,UO,UO],?_]];refine Jx (lo:=(m:Int)) (n:=((s8.length:Int) - (m:Int)).toNat) (λi B Hx=>I0 S.steps m i eQ HD B Hx) #[aa.refl _,LV 0,Z] UO (λi B Hx h=>h.2.1) ?_ ?_
      ·intro i B Hx hi h;obtain⟨W,lz,ez⟩:=h;have a2:m+i < S.steps.length:=by omega
       have X:=LP a2;generalize S.steps[m+i]=o at X;obtain⟨q,hq,uq,q1,q2,q3,q4,q5,_⟩:=XB o1 (h4.mono$ t0.trans$ aa.tm W) X;have ei:(m:Int)+(i:Int)=((m+i:Nat):Int):=by omega
       obtain⟨gy,gn⟩:=ur X ez;obtain⟨p5,v5,r5,eu,f8,f9⟩:=Cp q5 q4;subst eu;refine(jv (W _ _$ t0 _ _ h1) dG #[_,Z,e0,_,_,_,Z,Z,aB.of$ W _ _$ t0 _ _ h3,by rw[ei];exact jL q1,q,_,_,_,Z,Z,aB.of q2,dG,p5,_,_,_,Z,Z,aB.of f8,dU,Z,_,Z,?_]);rw[qM,f9 o.1 o.2.1];cases hb:eQ o with
       |true=>exact uB #[_,Z,W,by rw[LS];show _+1<=_;omega,gy hb]
       |false=>exact uA #[W,UO,gn hb]
      intro B HE h ca f';obtain⟨sE,_,ez⟩:=h;rw[Kk UO]at ez;have ez:B=db (cQ eQ S.steps m):=by rw[<- ez];exact(Mv _).symm
      subst ez;refine f2 _ _ ?_;clear f2;have sF:aa HE (am HE ca$ .lst$ db$ cQ eQ S.steps m):=je f';have eF:am HE ca (.lst$ db$ cQ eQ S.steps m) ca=some (.lst$ db$ cQ eQ S.steps m):=jc;generalize am HE ca (.lst$ db$ cQ eQ S.steps m)=HF at sF eF ⊢;have SF:=(sD.trans sE).trans sF;have t3:=t'.trans (aa.tm SF);have S6:=SC.trans SF;have r6:=Xl eQ S.steps m;refine#[_,Z,ca,Z,#[_,aI.of eF],?_];refine K0 (K:=K) (a:=ca) (xs:=db (cQ eQ S.steps m)) (by rw[Kl];omega) (λi B Hx=>aa HF Hx/\B.length<=i/\B=db (((cQ eQ S.steps m).take i).filter$ Bi (cV g L) S.steps)) #[aa.refl _,LV 0,Z] (λi B Hx h=>#[aI.of$ h.1 _ _ eF,h.2.1]) ?_ ?_
      ·intro i x B Hx G h;obtain⟨W,lz,ez⟩:=h;unfold db at G;rw[Mp]at G;obtain⟨j,hj,rfl⟩:=Option.map_eq_some_iff.mp G;obtain⟨_,o,X,g7⟩:=YI (Mr hj);have et:(cQ eQ S.steps m).take (i+1)=(cQ eQ S.steps m).take i++[j]:=by rw[MW,hj];rfl
       obtain⟨q,hq,uq,q1,q2,q3,q4,q5,_⟩:=XB o1 (h4.mono$ t3.trans$ aa.tm W) X;obtain⟨no,h5,wo⟩:=o;have q4:dF Hx wo uq []:=q4;have ea:Bi (cV g L) S.steps j=cV g L (no,h5,wo):=by unfold Bi;rw[X]
       have f0:∀Hz,aa Hx Hz->cV g L (no,h5,wo)=true->aa HF Hz/\(B++[V.int (j:Int)]).length<=i+1/\B++[V.int (j:Int)]=db (((cQ eQ S.steps m).take$ i+1).filter$ Bi (cV g L) S.steps):=λHz sz hb=>by rw[et,On,<- Xm,<- ez];exact#[W.trans sz,by rw[LS];show _+1<=_;omega,by rw[O5 (by rw[ea];exact hb)];rfl]
       have f3:∀Hz,aa Hx Hz->cV g L (no,h5,wo)=false->aa HF Hz/\B.length<=i+1/\B=db (((cQ eQ S.steps m).take$ i+1).filter$ Bi (cV g L) S.steps):=λHz sz hb=>by rw[et,On,<- Xm,<- ez];exact#[W.trans sz,UO,by rw[O6 (by rw[ea,hb];intro z;cases z)];exact(Mv _).symm]
       cases wo with
       |cl g5 l3 c3 a5=>
        obtain⟨x5,c5,g6,e',c4,rfl,y1,y2,y3,_⟩:=q4;refine(jv (W _ _$ t3 _ _ h1) dG #[_,Z,e0,_,_,_,Z,Z,aB.of$ W _ _$ t3 _ _ h3,jL q1,q,_,_,_,Z,Z,aB.of q2,dG,x5,_,_,_,Z,Z,aB.of y1,ij,_,Z,c5,_,Z,y2,λt1 Hy a3 sy=>?_]);have Sy:=(S6.trans W).trans sy;refine(jv (Sy _ _ i1) dG #[p3,_,_,_,Z,Z,aB.of$ sy _ _$ W _ _$ sF _ _$ sE _ _ j1,ij,_,Z,c1,_,Z,sy _ _$ W _ _$ sF _ _$ sE _ _ j2,λt2 Hz h6 sz=>#[_,_,C3 g5 l3,BC g5 l3,BC g L,jD (sz _ _ a3)$ jm Z jU$ jm Z (km$ sz _ _$ sy _ _ y3) jA,jD h6$ jm Z jU$ jm Z (km$ sz _ _$ sy _ _$ W _ _$ sF _ _$ sE _ _ j3) jA,_,Z,?_]]);rw[show gp (.tp$ ay [aK g5,aA$ l3.map au]) (.tp$ ay [aK g,aA$ L.map au])=cV g L (no,h5,.cl g5 l3 c3 a5) from yz];cases hb:cV g L (no,h5,.cl g5 l3 c3 a5) with
        |true=>exact uB #[_,Z,f0 Hz (sy.trans sz) hb]
        |false=>exact uA (f3 Hz (sy.trans sz) hb)
       |_=>cases g7
      intro B HG h l2 n';obtain⟨sG,_,ez⟩:=h;rw[Kl,MN,K1 (λs hs=>FT s hs) S.steps _ m Z]at ez;subst ez;exact g2 l2 _ _ (kU (S6.trans sG) n') ((SF.trans sG).trans$ je n') jc
     ·refine aX (LZ hv)$ g2 lA O HD n7 sD ?_;have z:lP S.steps m N p w=[]:=by
       unfold lP;rw[Mb e2];cases w with
       |cl f is s a=>exact absurd (h0.mpr #[f,is,s,a,Z]) hv
       |_=>rfl
      rw[z];exact sD _ _ eC
   intro l2 O HD n2 sD eD;refine v _ _ ?_;clear v;have SD:=SC.trans sD;have t0:=t'.trans (aa.tm sD);have LD:=L5.same SD;have eS:=sD _ _ eB;have e9:=sD _ _ e9;have bD:=b5.trans (a6.of_same SD);have i':=SD _ _ i1;have r7:=SD _ _ i2;have i0:=i3.mono (aa.tm SD);have g8:=i4.mono (aa.tm SD);clear sA sB sC eC;have tt:=b';rw[<- w8,Ly.tot_app]at tt;have r8:=yg S.steps m N p w po pn k;refine ah λF1 v=>?_;suffices I:∀(C:Option V) (HE:Hp),Lt HE z kA tA fA dA (y4.app$ xT S.steps m N p w po pn k)->a6 kA tA fA dA HD HE->F1 [some$ .ref c,some$ .ref b,some$ .ref oa,some$ .ref na,some$ .ref z,some$ .int (m:Int),some$ .int k,some$ .ref p',some$ .ref r9,o9,some$ .ref sl,some$ .ref l2,O,C,o2] HE by
    clear v;refine#[_,Z,fg,λl0 n0=>#[sl,l0,_,Z,Z,aq eS n0,jc,_,Z,?_]];have s2:aa HD (am HD l0$ .lst []):=je n0;generalize am HD l0 (.lst [])=HE at s2 ⊢;have LE:=LD.same s2;have ty:y4.f.length<=y4.tot/\y4.k.length<=y4.tot/\y4.t.length<=y4.tot/\y4.d.length<=y4.tot:=by unfold Ly.tot;omega
    rw[Ye];unfold xT at I;cases e2:cQ (aR N p) S.steps m with
    |nil=>rw[e2]at I;refine cX Z ?_;obtain⟨xs,G,lx⟩:=LE.fv;have l4:=lx.len;refine(jv LE.ins dG #[.inl #[Z,_,aI.of G],_,Z,fA,_,_,Z,Z,G,UO,?_]);obtain⟨L3,b3⟩:=LE.setF G (bq.one (R:=gX) (w:=pn++[(k:Int)]) #[r9,Z,s2 _ _ e9]);exact I C _ L3 ((a6.of_same s2).trans b3)
    |cons j r=>
     obtain⟨g',o,X,j'⟩:=YI (P:=aR N p) (os:=S.steps) (m:=m) (j:=j) (by rw[e2];exact Mm);rw[e2]at I;dsimp only at I;rw[X]at I;dsimp only at I;obtain⟨l1,l5⟩:=uJ j';obtain⟨d1,_⟩:=Ks D0 X;have dd:eK o.2.2=eK w:=by rw[d1,l1,l5,w6.1]
     have c6:HE sl=some (.lst (V.int (j:Int)::db r)):=by have z:=s2 _ _ eS;rw[e2]at z;exact z
     refine aX Z ?_;refine ah λF2 f2=>#[_,Z,_,Z,sl,_,_,_,Z,Z,aI.of c6,dU,iE,λt nt=>#[oa,t,_,_,Z,Z,aq (s2 _ _$ t0 _ _ b9) nt,jc,by rw[LU];show _+1<=_;omega,λM H0 T s7=>#[_,Z,ci,λpr k0=>f2 _ _ ?_]]];clear f2;have u:aa HE H0:=(je (o:=.tup [.int (j:Int)]) nt).trans s7;have T:H0 M=some (.tup$ po.map V.int++[.int (j:Int)]):=T;rw[lK]at T;have s4:aa H0 (am H0 pr$ .tup [.ref M,.ref r9]):=je k0;have e6:am H0 pr (.tup [.ref M,.ref r9]) pr=some (.tup [.ref M,.ref r9]):=jc;generalize am H0 pr (.tup [.ref M,.ref r9])=H1 at s4 e6 ⊢;have U:=(s2.trans u).trans s4;have t4:=t0.trans (aa.tm U);have Y:=LD.same U;obtain⟨q,hq,uq,q1,q2,q3,q4,q5,_⟩:=XB o1 (h4.mono t4) X;have rp:mK H1 (.ref pr) (po++[(j:Int)],pn++[(k:Int)]):=#[pr,M,r9,Z,e6,s4 _ _ T,U _ _ e9];have e7:H1 sl=some (.lst (V.int (j:Int)::db r)):=s4 _ _ (u _ _ c6);by_cases hf:o.2.2.fnd=w.fnd
     ·rw[Mb hf]at I;obtain⟨xs,G,lx⟩:=Y.kv;have l4:=lx.len;refine ah λF2 f2=>#[_,Z,jv (t4 _ _ h1) dG #[_,Z,sl,_,_,_,Z,Z,aI.of e7,dU,e0,_,_,_,Z,Z,aB.of$ t4 _ _ h3,jL q1,q,hq,o.1,uq,o.2.2,Z,q2,q4,q5,_,Z,p',h',N,u',w,Z,U _ _ i',i0.mono$ aa.tm U,w3.1,t9 q5 w3.1 dd q4 (i0.mono$ aa.tm U) _$ .inr #[_,Eq.refl _,z,_,_,V.ref kA,Z,Z,aB.of Y.ins,by rw[Mc hf];rfl,.inl #[Z,_,aI.of G],_,Z,kA,_,_,Z,Z,G,UO,f2 _ _ ?_]]];clear f2;obtain⟨L0,b0⟩:=Y.setK G (bq.one (R:=mK) rp);have t5:=Y.tm b0;generalize am H1 kA (.lst$ xs++[.ref pr])=H2 at L0 b0 t5 ⊢;obtain⟨B,hz,lz⟩:=L0.dv;have l6:B.length=y4.d.length:=by rw[lz.len];show(y4.d++[]).length=_;rw[Mv]
      refine(jv L0.ins HK #[.inl #[Z,_,aI.of hz],jv (t5 _ _ e6) dU #[dA,_,_,Z,Z,hz,UO,?_]]);obtain⟨L1,b1⟩:=L0.setD hz (bq.one (R:=gX) (w:=po++[(j:Int)]) #[M,Z,t5 _ _$ s4 _ _ T]);rw[Ly.app_assoc]at L1;exact I _ _ L1 (((a6.of_same U).trans b0).trans b1)
     ·rw[Mf hf]at I;obtain⟨xs,G,lx⟩:=Y.tv;have l4:=lx.len;refine ah λF2 f2=>#[_,Z,jv (t4 _ _ h1) dG #[_,Z,sl,_,_,_,Z,Z,aI.of e7,dU,e0,_,_,_,Z,Z,aB.of$ t4 _ _ h3,jL q1,q,hq,o.1,uq,o.2.2,Z,q2,q4,q5,_,Z,p',h',N,u',w,Z,U _ _ i',i0.mono$ aa.tm U,w3.1,t9 q5 w3.1 dd q4 (i0.mono$ aa.tm U) _$ .inr #[_,Eq.refl _,z,_,_,V.ref tA,Z,Z,aB.of Y.ins,by rw[LZ hf];rfl,.inl #[Z,_,aI.of G],_,Z,tA,_,_,Z,Z,G,UO,f2 _ _ ?_]]];clear f2;obtain⟨L0,b0⟩:=Y.setT G (bq.one (R:=mK) rp);have t5:=Y.tm b0;generalize am H1 tA (.lst$ xs++[.ref pr])=H2 at L0 b0 t5 ⊢;obtain⟨B,hz,lz⟩:=L0.dv;have l6:B.length=y4.d.length:=by rw[lz.len];show(y4.d++[]).length=_;rw[Mv]
      refine(jv L0.ins HK #[.inl #[Z,_,aI.of hz],jv (t5 _ _ e6) dU #[dA,_,_,Z,Z,hz,UO,?_]]);obtain⟨L1,b1⟩:=L0.setD hz (bq.one (R:=gX) (w:=po++[(j:Int)]) #[M,Z,t5 _ _$ s4 _ _ T]);rw[Ly.app_assoc]at L1;exact I _ _ L1 (((a6.of_same U).trans b0).trans b1)
   intro C HE LE bE;refine v _ _ ?_;clear v;have t7:=LD.tm bE;have c9:=t0.trans t7;have nS:=L5.new f7;have k5:=L5.new n2;have eS:=bE.kept nS eS;have eD:=bE.kept k5 eD;have e9:=t7 _ _ e9;have k6:=t7 _ _ i';have k7:=i0.mono t7;have k8:=g8.mono t7;have k9:=bD.trans bE;have r':=(a6.of_same SD).trans bE;have u0:=Kl (cQ (aR N p) S.steps m);have u1:=Kl (lP S.steps m N p w);refine ah λF1 v=>#[_,Z,_,Z,sl,l2,_,_,Z,Z,eS,eD,UO,λcA c'=>#[_,Z,cA,_,Z,aI.of jc,λbA n4=>v _ _ ?_]];clear v;have sF:aa HE (am (am HE cA$ .lst$ db (cQ (aR N p) S.steps m)++db (lP S.steps m N p w)) bA$ .lst$ bZ (db (cQ (aR N p) S.steps m)++db (lP S.steps m N p w)) none$ some 1):=(je c').trans (je n4);have eF:am (am HE cA$ .lst$ db (cQ (aR N p) S.steps m)++db (lP S.steps m N p w)) bA (.lst$ bZ (db (cQ (aR N p) S.steps m)++db (lP S.steps m N p w)) none$ some 1) bA=some (.lst$ db ((cQ (aR N p) S.steps m++lP S.steps m N p w).take 1)):=by rw[jc,Xm,Fq]
   generalize am (am HE cA$ .lst$ db (cQ (aR N p) S.steps m)++db (lP S.steps m N p w)) bA (.lst$ bZ (db (cQ (aR N p) S.steps m)++db (lP S.steps m N p w)) none$ some 1)=HF at sF eF n4 ⊢;rw[Hk,JL]at eF;have LF:=LE.same sF;have t3:=c9.trans (aa.tm sF);have b2:=k9.trans (a6.of_same sF);have i5:=sF _ _ k6;have a4:=k7.mono (aa.tm sF);have a':=k8.mono (aa.tm sF);have d3:=sF _ _ e9;obtain⟨p3,v3,r3,eu,h7,h0⟩:=Jj w3.1 a4;subst eu;cases ht:fi S.steps m N p w with
   |none=>
    rw[ht]at eF;have eF:HF bA=some (.lst []):=eF;rw[sX ht]at LF;rw[Yd ht]at w8;have t8:=tt;rw[Yd ht,Ly.tot_app]at t8;have pl:=qH w3.1 (pn++[(k:Int)]);have z2:(#[[],[],cg (pn++[(k:Int)]) w,[]]:Ly).tot=w.size+1:=by show 0+0+(cg (pn++[(k:Int)]) w).length+0=_;rw[pl];omega
    rw[z2]at t8;refine ah λF1 v=>dW λJ jj=>#[_,Z,bA,Z,#[_,aI.of eF],jj _ _ ?_];clear jj;refine JK (K:=K) (a:=bA) (xs:=[]) (λ_ σ H'=>σ=[some$ .ref c,some$ .ref b,some$ .ref oa,some$ .ref na,some$ .ref z,some$ .int (m:Int),some$ .int k,some$ .ref p',some$ .ref r9,o9,some$ .ref sl,some$ .ref l2,O,C,some$ .ref bA]/\H'=HF) #[Z,Z] (λi σ H' _ h=>by rw[h.2];exact aI.of eF) (λE2 r4 i x σ H' G=>absurd G UP) (λσ H' h=>v _ _ ?_);clear v;obtain⟨rfl,rfl⟩:=h;refine lO λG1 yT yF=>#[_,Z,fg,λl0 n0=>#[bA,l0,_,Z,Z,aq eF n0,jc,_,Z,?_]];have sG:aa H' (am H' l0$ .lst []):=je n0;generalize am H' l0 (.lst [])=HG at sG ⊢;refine cX Z$ jv (sG _ _ i5) dG #[p3,_,_,_,Z,Z,aB.of$ sG _ _ h7,dU,Z,_,Z,?_];have LG:=LF.same sG;rw[qM];by_cases hv:v3="call"
    ·obtain⟨g,L,sw,aw,rfl⟩:=h0.mp hv;rw[Mc hv];obtain⟨x1,c1,g4,e4,s3,e3,j1,j2,j3,j4,j5⟩:=a4.mono (aa.tm sG);cases e3;obtain⟨xs,G,lx⟩:=LG.fv;have l4:xs.length=y4.f.length+1:=by rw[lx.len];exact LS
     have ty:y4.f.length<=y4.tot:=by unfold Ly.tot;omega
     have d0:sw.dep+1<=s1.dep:=d0;have o3:sw.ok true:=w3.1;have k':(Sk.cl g L sw aw).size=sw.size:=rfl;refine yT _$ jv LG.ins dG #[.inl #[Z,_,aI.of G],jv (sG _ _ i5) dG #[p3,_,_,_,Z,Z,aB.of j1,ij,_,Z,r9,pn++[(k:Int)],g,L,sw,aw,.ref c1,Z,sG _ _ d3,by rw[LS];show _+1+_<=_;omega,#[c1,g4,e4,s3,Z,j2,j3,j4,j5],o3,UO,UO,λl B HI nl hl hz sI=>?_]];have lz:=hz.len;rw[LU,zf o3]at lz;obtain⟨L7,b7⟩:=(LG.same sI).setF (sI _ _ G) hz;refine#[fA,l,_,_,Z,Z,sI _ _ G,hl,UO,fE _ _ #[_,_,_,_,_,_,_,_,_,m,r1,_,Z,L7,?_,w3.2,d2,UO,w6.2.2,w7,?_,?_]]
     ·exact(a'.mono$ aa.tm$ sG.trans sI).mono ((LG.same sI).tm b7)
     ·rw[<- w8,Ly.app_assoc,Ly.app_assoc,<- Ly.app_assoc _ _ (mM r1 po S.steps m pn$ k+1)];rfl
     ·exact(b2.trans$ a6.of_same$ sG.trans sI).trans b7
    ·rw[LZ hv];refine yF _$ fE _ _ #[_,_,_,_,_,_,_,_,_,m,r1,_,Z,LG,a'.mono$ aa.tm sG,w3.2,d2,UO,w6.2.2,w7,?_,b2.trans$ a6.of_same sG];have e0:cg (pn++[(k:Int)]) w=[pn++[(k:Int)]]:=by
      have o3:=w3.1;cases w with
      |nil |st _ _ _ _=>exact o3.elim
      |cl f is s a=>exact absurd (h0.mpr #[f,is,s,a,Z]) hv
      |_=>rfl
     rw[e0]at w8;rw[Ly.app_assoc];exact w8
   |some j=>
    rw[ht]at eF;have eF:HF bA=some (.lst [V.int (j:Int)]):=eF;obtain⟨g',o,X,u2⟩:=zh ht;have u3:=(List.getElem?_eq_some_iff.mp X).1;have bs:=sV (r:=r1) (po:=po) (pn:=pn) (k:=k) ht X;rw[<- sY (po:=po) (pn:=pn) (k:=k) ht X]at bs;have t8:=tt;rw[bs,Ly.tot_app,Ly.tot_app]at t8;rw[bs]at w8;have n3:bA≠kA/\bA≠tA/\bA≠fA/\bA≠dA:=(LE.same$ je c').new n4;refine ah λF1 v=>dW λJ jj=>#[_,Z,bA,Z,#[_,aI.of eF],jj _ _ ?_];clear jj;refine JK (K:=K) (a:=bA) (xs:=[V.int (j:Int)]) (λi σ H'=>(i=0/\σ=[some$ .ref c,some$ .ref b,some$ .ref oa,some$ .ref na,some$ .ref z,some$ .int (m:Int),some$ .int k,some$ .ref p',some$ .ref r9,o9,some$ .ref sl,some$ .ref l2,O,C,some$ .ref bA]/\H'=HF)∨(i=1/\σ=[some$ .ref c,some$ .ref b,some$ .ref oa,some$ .ref na,some$ .ref z,some$ .int ((j+1:Nat):Int),some$ .int k,some$ .ref p',some$ .ref r9,some$ .int (j:Int),some$ .ref sl,some$ .ref l2,O,C,some$ .ref bA]/\Lt H' z kA tA fA dA ((y4.app$ xT S.steps m N p w po pn k).app$ mM w (po++[(j:Int)]) (lr o.2.2) 0 (pn++[(k:Int)]) 0)/\a6 kA tA fA dA HF H')) (.inl #[Z,Z,Z]) (λi σ H' _ h=>?_) ?_ (λσ H' h=>v _ _ ?_)
    ·rcases h with ⟨_,_,rfl⟩ | ⟨_,_,_,b8⟩
     ·exact aI.of eF
     ·exact aI.of$ b8.kept n3 eF
    ·clear v;intro E2 r4 i x σ H' G f4 Gq kq h;rcases h with ⟨rfl,rfl,rfl⟩ | ⟨rfl,_⟩
     ·cases G;refine kq ?_;clear kq;show fh (dP _ _) _ E2 [some$ .ref c,some$ .ref b,some$ .ref oa,some$ .ref na,some$ .ref z,some$ .int (m:Int),some$ .int k,some$ .ref p',some$ .ref r9,some$ .int (j:Int),some$ .ref sl,some$ .ref l2,O,C,some$ .ref bA] H';refine ah λF2 f2=>#[_,Z,_,_,Z,Z,f2 _ _ ?_];clear f2;have ej:(j:Int)+1=((j+1:Nat):Int):=by omega
      show gU _ _ _ E2 [some$ .ref c,some$ .ref b,some$ .ref oa,some$ .ref na,some$ .ref z,some$ .int ((j:Int)+1),some$ .int k,some$ .ref p',some$ .ref r9,some$ .int (j:Int),some$ .ref sl,some$ .ref l2,O,C,some$ .ref bA] H';rw[ej];refine lO λG1 yT yF=>(jv i5 dG #[p3,_,_,_,Z,Z,aB.of h7,dU,Z,_,Z,?_]);rw[qM];by_cases hv:v3="call"
      ·obtain⟨g,L,sw,aw,rfl⟩:=h0.mp hv;rw[Mc hv];obtain⟨q,hq,uq,q1,q2,q3,q4,q5,q6,q7⟩:=XB o1 (h4.mono t3) X;obtain⟨s6,ao,e8⟩:=YF (s:=.nil) o1 D0 ht X q5 w6.1 g L sw aw Z;obtain⟨no,h5,wo⟩:=o;have e8:wo= .cl g L s6 ao:=e8;subst e8;obtain⟨x5,c5,g6,e',c4,rfl,y1,y2,y3,y0,y5⟩:=q4;obtain⟨x1,c1,g4,e4,s3,e3,j1,j2,j3,j4,j5⟩:=a4;cases e3;have d0:sw.dep+1<=s1.dep:=d0;have q6:s6.dep+1<=S.dep:=q6;have q7:s6.size+1<=S.size:=q7;have k':(Sk.cl g L sw aw).size=sw.size:=rfl;refine yT _$ jv (t3 _ _ h1) dG #[_,Z,e0,_,_,_,Z,Z,aB.of$ t3 _ _ h3,jL q1,q,_,_,_,Z,Z,aB.of q2,dG,x5,_,_,_,Z,Z,aB.of y1,ij,jv i5 dG #[p3,_,_,_,Z,Z,aB.of j1,ij,_,Z,_,Z,iE,λt nt=>#[oa,t,_,_,Z,Z,aq (t3 _ _ b9) nt,jc,by rw[LU];show _+1<=_;omega,λM H0 T s7=>?_]]];have u:aa H' H0:=(je (o:=.tup [.int (j:Int)]) nt).trans s7;have T:H0 M=some (.tup$ po.map V.int++[.int (j:Int)]):=T;rw[lK]at T;have l8:Dt D g s6:=(Ks D0 X).2;have l':Dt D g sw:=w6.2.1;refine#[_,Z,_,Z,D,z,kA,tA,fA,dA,M,c5,r9,c1,po++[(j:Int)],pn++[(k:Int)],g,L,L,s6,sw,ao,aw,_,Z,LF.same u,T,u _ _ d3,by rw[LS];show _+1+_<=_;omega,by rw[LS];show _+1+_<=_;omega,#[c5,g6,e',c4,Z,u _ _ y2,u _ _ y3,u _ _ y0,y5.mono$ aa.tm u],q5,UO,UO,#[c1,g4,e4,s3,Z,u _ _ j2,u _ _ j3,u _ _ j4,j5.mono$ aa.tm u],w3.1,UO,UO,UO,l8,l',?_,λH1 Y m1=>f4 _ _ (.inr #[Z,Z,Y,(a6.of_same u).trans m1])];have u4:y4.tot+((xT S.steps m N p (.cl g L sw aw) po pn k).tot+((mM sw (po++[(j:Int)]) s6.steps 0 (pn++[(k:Int)]) 0).tot+(mM r1 po S.steps (j+1) pn$ k+1).tot))<=100000:=t8;rw[Ly.tot_app,Ly.tot_app];omega
      ·rw[LZ hv];refine yF _$ f4 _ _$ .inr #[Z,Z,?_,λ_ _ _ _ _ _ e=>e];rw[sU w3.1 (λf is s a e=>hv (h0.mpr #[f,is,s,a,e])),Ly.app_nil];exact LF
     ·exact absurd G UP
    ·rcases h with ⟨z0,_⟩ | ⟨_,rfl,L8,b8⟩
     ·exact absurd z0 UP
     refine lO λG1 yT yF=>#[_,Z,fg,λl0 n0=>#[bA,l0,_,Z,Z,aq (b8.kept n3 eF) n0,jc,_,Z,aX Z$ yF _$ fE _ _ #[_,_,_,_,_,_,_,_,_,j+1,r1,_,Z,L8.same$ je n0,?_,w3.2,d2,UO,w6.2.2,UO,?_,?_]]]
     ·exact(a'.mono$ LF.tm b8).mono (aa.tm$ je n0)
     ·rw[Ly.app_assoc,Ly.app_assoc];exact w8
     ·exact(b2.trans b8).trans (a6.of_same$ je n0)
 ·obtain⟨o6,o7,o8,o9,o4,o5,O,C,o2,m,r2,y4,rfl,L4,w2,w3,w4,w5,w6,w7,w8,b4⟩:=h;rw[S4]at w2;cases r2 with
  |st n hs w r=>obtain⟨_,_,_,_,z,_⟩:=w2;cases z
  |ask _ |rd _ _ |wr _ _ |cl _ _ _ _=>exact w3.elim
  |nil=>have w8:y4.app .nil=_:=w8;rw[Ly.app_nil]at w8;exact q Hx (w8▸L4) b4
noncomputable def FD(H:Hp)(p:aJ):Value->Bool
 | .ref a=>match H a with
  |some (.tup x)=>decide (x=p.map V.int)
  |_=>false
 |_=>false
theorem uu{p q:aJ}:p.map V.int=q.map V.int↔p=q:=#[λh=>(Su λa b e=>by injection e).mp h,λh=>by rw[h]]
theorem tN{H:Hp}{q:aJ}(h:H a=some (.tup$ q.map V.int)):FD H p (.ref a)=decide (q=p):=by
 show(match H a with |some (.tup x)=>decide (x=p.map V.int) |_=>false)=_;rw[h];dsimp only;by_cases e:q=p
 ·rw[Mc e,Mc (by rw[e])]
 ·rw[LZ e,LZ λz=>e (uu.mp z)]
theorem A0{p q:aJ}:gp (aA$ q.map au) (aA$ p.map au)=decide (q=p):=by
 by_cases e:q=p
 ·rw[Mc e,e,zD Z]
 ·rw[LZ e,zj];intro z;have z:Tr.tp (ay$ q.map au)= .tp (ay$ p.map au):=z;injection z with z;exact e$ qI z
theorem Z0:∀{b:List aJ} {X:List V} {u:List Value},bq gX H b X->aC X u->u.any (FD H p)=decide (p∈b)
 | [],_,_,h,r=>by have h:_=[]:=h;subst h;cases r;simp
 |q::b,_,_,Q,r=>by
  obtain⟨x,y,e,⟨a,E,c⟩,h⟩:=Q;subst e;subst E;cases r with
  |cons R d=>
   cases R;rw[OJ,Z0 h d,tN c];by_cases e:q=p
   ·subst e;simp
   ·rw[LZ e];simp [ME e]
theorem uL:∀{p:List aJ} {X:List V} {U:List Value},bq gX H p X->aC X U->∀u∈U,∃(a:Addr) (q:aJ),u= .ref a/\H a=some (.tup$ q.map V.int)
 | [],_,_,h,r,u,hu=>by have h:_=[]:=h;subst h;cases r;cases hu
 |q::p,_,_,Q,r,u,hu=>by
  obtain⟨x,y,e,⟨a,E,b⟩,h⟩:=Q;subst e;subst E;cases r with
  |cons R c=>
   cases R;rcases List.mem_cons.mp hu with rfl |hu
   ·exact#[a,q,Z,b]
   ·exact uL h c u hu
theorem rP{X:Cx}(k:X.A.in1.units+10 < cLine):fb X (compareOp .NotIn) (λx y H Q=>∃(a l:Addr) (p:aJ) (c:List aJ) (f:List V),x= .ref a/\y= .ref l/\H a=some (.tup$ p.map V.int)/\H l=some (.lst f)/\bq gX H c f/\Q (.bl$ decide$ p∉c) H):=by
 intro g s B H x y v u Q I R m h;obtain⟨a,l,p,c,f,rfl,rfl,n,o,L,q⟩:=h;cases R;cases m;obtain⟨i,r,t,C⟩:=I.list (aI.of (K:=X.K) o);refine UJ (FD H p) t.isList (λw z=>?_) #[.bl _,H,I,Z,?_]
 ·obtain⟨b,d,rfl,j⟩:=uL L r w (by simpa using z);rw[tN j,<- A0];exact Q4 I 10 (aA$ d.map au) (by show(ay$ d.map au).dep+1<=10;rw[zq];decide) k (show(aA$ d.map au).In from zz d) Z (u:=aA (p.map au)) (show(aA$ p.map au).In from zz p) Z (km j) (km n) _ _ Z Z
 ·rw[show i.toArray.any (FD H p)=i.any (FD H p) by simp,Z0 L r];have e:(!decide (p∈c))=decide (p∉c):=by by_cases h:p∈c<;>simp [h]
  rw[e];exact q
theorem Iu(h:bJ k A):A.in1.units+10 < cLine:=by have:=h.un;show A.units+1+10 < cLine;omega
theorem rj(L l:List aJ)(p:aJ):eM L (l++[p])=eM L l++if p∈L then [] else [p]:=by rw[KL,QT];split<;>rfl
inductive pi(k:List V)(H:Hp)(Q:VK)(a:XK):Prop
 |mk(D:DF)(c b:Addr)(f:Str)(g h:List Int)(i j:Sk)(d e:Int)(_:k=[.ref c,.ref b])(_:mN H f g i d (.ref c))(_:i.ok true)(_:i.dep<=15)(_:i.size<=60)(_:mN H f h j e (.ref b))(_:j.ok true)(_:j.dep<=15)(_:j.size<=60)(_:Dt D f i)(_:Dt D f j)(_:∀(x:V) (kA tA fA dA:Addr) (H':Hp),EF H' x kA tA fA dA (dJ j [] i.steps 0 [] 0)->H kA=none->H tA=none->H fA=none->H dA=none->aa H H'->Q x H')
theorem Jk:∀{b:Bool} {s:Sk},s.ok b->∀(p:aJ) (os:List aO) (m:Nat),(iq s p os m).length<=s.size
 |true,.nil,_,_,_,_=>Ma _
 |true,.st n H w r,o,p,os,m=>by
  show _<=w.size+r.size+1;cases h:fi os m n H w with
  |none=>rw[Jp h];have:=Jk o.2 p os m;omega
  |some j=>
   obtain⟨a,x,c,_⟩:=zh h;rw[Jq h c,LS,LS];have d:=Jk o.1 (p++[(j:Int)]) (lr x.2.2) 0;have e:=Jk o.2 p os (j+1);have f:(if aR n H x=true then [p++[(j:Int)]] else ([]:List aJ)).length<=1:=by
    split
    ·exact LV 1
    ·exact Ma 1
   omega
 |false,.cl _ _ s _,o,p,os,m=>Jk (b:=true) (s:=s) o p os m
 |false,.ask _,_,_,_,_=>Ma _
 |false,.rd _ _,_,_,_,_=>Ma _
 |false,.wr _ _,_,_,_,_=>Ma _
theorem CV{s:Sk}(o:s.ok b)(c:aJ)(os:List aO)(m:Nat)(p:aJ)(k:Nat):(dJ s c os m p k).f.length<=s.size:=by
 induction s generalizing b c os m p k with
 |nil |ask _ |rd _ _ |wr _ _=>exact Ma _
 |cl f q s a d=>cases b with
  |true=>exact o.elim
  |false=>exact d (b:=true) o c os m p k
 |st n H w r I i=>
  cases b with
  |false=>exact o.elim
  |true=>
  show _<=w.size+r.size+1;cases h:fi os m n H w with
  |none=>rw[qe h];have e:=i (b:=true) o.2 c os m p (k+1);show(cg (p++[(k:Int)]) w++_).length<=_;rw[LS,qH o.1];omega
  |some j=>
   obtain⟨g,x,l,_⟩:=zh h;rw[qf h l];have e:=i (b:=true) o.2 c os (j+1) p (k+1);have t:=I (b:=false) o.1 (c++[(j:Int)]) (lr x.2.2) 0 (p++[(k:Int)]) 0;have u:(one (c++[(j:Int)]) x (p++[(k:Int)]) n H w).f.length<=1:=by
    unfold one;split
    ·split<;>exact Ma 1
    ·exact LV 1
   show(([]++((one _ _ _ _ _ _).f++(dJ _ _ _ _ _ _).f))++(dJ _ _ _ _ _ _).f).length<=_;rw[Tk,LS,LS];omega
theorem C6:af P w K mg base aE k f d z15z (ie 0):=by
 have n:∀{v H Q E},¬ie 0 v H Q E:=by rintro v H Q E ⟨D,z,e,t,F,g,O,c,N,b,p,i,f,I,j,S,l,m,q,y,_,_,_,_,_,_,_,_,_,_,_,_,z,_⟩;omega
 exact#[λv H Q E h=>(n h).elim,λA o s H a u v Q E r x B C h=>(n h).elim]
theorem Fh(FB:aQ K "_law_beside" "_law_beside" rX f a)(b:aD K a z15z [])(M:mg "_law_beside"=some (.ref f))(c:Cl P w K mg base 1 j h ["_law_step"] ny "_law_found")(C:Cl P w K mg base 18 k i z12z (fV 17) "_law_all_in")(m:mg "enumerate"=none)(d:mg "len"=none)(e:mg "range"=none)(g:mg "int"=none):∀n,af P w K mg base aE (n+20) f a z15z (ie n)
 |0=>C6
 |n+1=>Dh FB c C #[(Fh FB b M c C m d e g n),b,FB.kp,M] m d e g
theorem wB:ai ["_law_old","_law_new","_law_found_here","_law_gone"] ["_law_old","_law_new"] (ae Ax):=bP
noncomputable def se:Scope:=#[.function,[(".0",.local),("_law_path",.local),("_law_found_here",.free)],false,false,[]]
theorem C2:(["_law_path","_law_found_here"]:List Str).Nodup:=by decide+kernel
theorem Cr:bh ["_law_old","_law_new","_law_found_here","_law_gone"] (ae Ax) se ["_law_path","_law_found_here"] 1 [2]:=pO
theorem Ds(F:aQ K "_law_laid" "_law_laid" Ax f fd)(cB:Cl P w K mg base 36 fB f0 z15z (ie 16) "_law_beside")(cW:Cl P w K mg base 18 fW f2 z12z (fV 17) "_law_all_in")(m0:mg "sorted"=none):af P w K mg base aE 37 f fd ["_law_old","_law_new"] pi:=by
 refine F.ok wB ?_ λc0 A o1 s H vs Q E hr h=>?_
 ·rintro _ _ _ _ ⟨D,c,b,f,is,js,j,S,a0,a1,rfl,_⟩;rfl
 obtain⟨D,c,b,f,is,js,j,S,a0,a1,rfl,Y,O,h4,a4,h5,l,h6,a5,D0,D1,q⟩:=h;refine#[_,(jd (ze (i:=2) wB.nd Z (Or.inr Z)$ jh$ ja (jG jb)$ ja (jG jb)$ ja (jG jb)$ ja (jG jb) jb)$ jd (jF$ cB.e hr.m$ ja (pv 0)$ ja (pv 1)$ ja (jh jb)$ ja (jh jb)$ ja (pv 2) jb)$ jd (@qL _ _ _ _ _ _ _ _ _ _ (3) (["_law_path","_law_found_here"]) (1) ([2]) _ _ _ _ wB.nd Z (Or.inl Z) Z (zr$ cW.e hr.m$ ja (pv 0)$ ja (jh jb) jb) Cr (λ_ _ _ _ _=>(jx (i:=0) C2 Z$ Or.inl Z)) (λ_ _ _ _ _=>(@Kw _ _ _$ jE (rP$ Iu hr) (pv 0) (jo (r:=cw K) (kS (K:=K) Z) (pv 1) jf (λ_ _=>Z)) Z)) (λ_ _ _ _ _=>(pv 0)) UR (by first |exact .inl Z |exact .inr Z) (by intro _;rfl))$ jg$ jp$ jh$ ja (jy$ pv 2)$ ja (jy$ pv 2)$ ja (jR Xw Z m0 P8$ ja (jy$ pv 2) jb)$ ja (pv 3) jb),?_];have b1:=aH;refine ah λF1 M=>#[fg,λn W=>#[fg,λT U=>#[fg,λu I=>#[fg,λy N=>#[xW,λz nz=>M _ _ ?_]]]]];clear M;have tk:T≠n:=λz=>by rw[z,jc]at U;cases U
 have ft:u≠T:=λz=>by rw[z,jc]at I;cases I
 have fk:u≠n:=λz=>by rw[z,ji tk.symm,jc]at I;cases I
 have df:y≠u:=λz=>by rw[z,jc]at N;cases N
 have dt:y≠T:=λz=>by rw[z,ji ft.symm,jc]at N;cases N
 have dk:y≠n:=λz=>by rw[z,ji fk.symm,ji tk.symm,jc]at N;cases N
 have n0:=kU (je (o:=.lst []) W) U;have n5:=kU ((je (o:=.lst []) W).trans$ je (o:=.lst []) U) I;have n6:=kU (((je (o:=.lst []) W).trans$ je (o:=.lst []) U).trans$ je (o:=.lst []) I) N;have s1:aa H (am (am (am (am (am H n$ .lst []) T$ .lst []) u$ .lst []) y$ .lst []) z$ .tup [.ref n,.ref T,.ref u,.ref y]):=((((je W).trans$ je U).trans$ je I).trans$ je N).trans (je nz);have L1:Lt (am (am (am (am (am H n$ .lst []) T$ .lst []) u$ .lst []) y$ .lst []) z$ .tup [.ref n,.ref T,.ref u,.ref y]) z n T u y .nil:=#[jc,#[[],aq (aq (aq (aq jc U) I) N) nz,Z],#[[],aq (aq (aq jc I) N) nz,Z],#[[],aq (aq jc N) nz,Z],#[[],aq jc nz,Z],#[tk.symm,fk.symm,dk.symm,ft.symm,dt.symm,df.symm],λ_ z=>nomatch z];generalize am (am (am (am (am H n$ .lst []) T$ .lst []) u$ .lst []) y$ .lst []) z (.tup [.ref n,.ref T,.ref u,.ref y])=H1 at s1 L1 ⊢;have t0:=qN l [] j.steps 0 [] 0 λo ho=>by obtain⟨i,hi⟩:=PM ho;exact KC O hi
 rw[NO,<- zH O,zf O]at t0;have l3:=Jk l [] j.steps 0;have b0:(mM S [] j.steps 0 [] 0).tot<=1000:=by unfold mM Ly.tot;unfold Ly.tot at t0;dsimp only;omega
 refine ah λF1 M=>#[_,Z,_,Z,fg,λpa n'=>#[fg,λpb n1=>#[_,Z,?_]]];have s2:aa H1 (am (am H1 pa$ .tup []) pb$ .tup []):=(je n').trans (je n1);have S2:=s1.trans s2;refine#[D,z,n,T,u,y,pa,c,pb,b,[],[],f,is,js,j,S,a0,a1,.nil,Z,L1.same s2,aq jc n1,jc,UN,UN,zQ Y$ aa.tm S2,O,h4,UO,zQ h5$ aa.tm S2,l,UO,h6,UO,D0,D1,by rw[Ly.nil_app];omega,λH3 L3 b3=>M _ _ ?_];clear M;rw[Ly.nil_app]at L3;have S3:aa H H3:=λx o e=>b3 _ _ (jk e W) (jk e n0) (jk e n5) (jk e n6) (S2 _ _ e);obtain⟨xd,h7,l0⟩:=L3.dv;refine ah λF1 M=>#[_,Z,fg,λpe a2=>?_];have s4:aa H3 (am H3 pe$ .tup []):=je a2;refine#[pe,[],f,is,j,a0,.ref c,Z,jc,UN,zQ Y$ aa.tm$ S3.trans s4,O,UO,UO,λal xa H5 a' h0 V s5=>?_];have S5:=s4.trans s5;have l1:=V.len;rw[LU,zf O]at l1;refine#[al,Z,#[_,aI.of h0],?_];refine K0 (K:=K) (a:=al) (xs:=xa) UO (λi G Hx=>Hx=H5/\G.length<=i/\bq gX H5 (eM (iq S [] j.steps 0) (((j.ws [] 0).map (·.1)).take i)) G) #[Z,LV 0,Z] (λi G Hx h=>#[by rw[h.1];exact aI.of h0,h.2.1]) ?_ ?_
 ·intro i x G Hx hx h;obtain⟨rfl,lz,B⟩:=h;obtain⟨p,hp,a,rfl,ha⟩:=V.at hx;have et:((j.ws [] 0).map (·.1)).take (i+1)=((j.ws [] 0).map (·.1)).take i++[p]:=by rw[MW,hp];rfl
  refine#[_,Z,jv (S5 _ _ L3.ins) HK #[a,y,p,_,xd,Z,Z,ha,S5 _ _ h7,l0.mono cn$ aa.tm S5,_,Z,?_]];rw[et,rj];show if decide (p∉iq S [] j.steps 0)=true then _ else _;by_cases hm:p∈iq S [] j.steps 0
  ·rw[LZ (λz=>z hm),Mb hm,Mv];exact uA #[Z,UO,B]
  ·rw[Mc hm,Mf hm];exact uB #[_,Z,Z,by rw[LS];show _+1<=_;omega,bq.app (bq.one #[a,Z,ha]) B]
 intro G H6 h R n2;obtain⟨rfl,_,B⟩:=h;have ew:eM (iq S [] j.steps 0) (((j.ws [] 0).map (·.1)).take xa.length)=(dJ S [] j.steps 0 [] 0).d:=by
  have lw:=V.len;rw[lw,MN,zH O];have z:=Xz (D:=D) (b:=true) (s:=S) l (f:=f) (so:=j) (po:=[]) (pn:=[]) (m:=0) (k:=0) (L:=iq S [] j.steps 0) O D0 D1 (λg is t a e=>by
   have z:=l;rw[e]at z;exact z.elim) (λz=>nomatch z) (λp _=>Rg)
  rw[z,NO]
 rw[ew]at B;refine M _ _ ?_;clear M;have s7:aa H6 (am H6 R$ .lst G):=je n2;have e7:am H6 R (.lst G) R=some (.lst G):=jc;generalize am H6 R (.lst G)=H7 at s7 e7 ⊢;have S7:=S5.trans s7;have X:=L3.same S7;obtain⟨xf,h',C⟩:=X.fv;have C:bq gX H7 (dJ S [] j.steps 0 [] 0).f xf:=C;have l2:=C.len;have l4:=CV l [] j.steps 0 [] 0;obtain⟨sr,sg⟩:=XA l [] j.steps 0 [] 0;refine(jv X.ins dU$ jv X.ins ij$ jv X.ins dG #[u,xf,(dJ S [] j.steps 0 [] 0).f,Z,aI.of h',l2,UO,λi v p h1 h2=>?_,λi p q h1 h2=>AT sr h1 h2,λsf J=>#[_,Z,xW,λtp n4=>?_]])
 ·obtain⟨p',h3,a3⟩:=C.at h1;rw[h2]at h3;cases h3;exact#[a3,G0$ sg p$ Mr h2]
 have s8:aa H7 (am (am H7 sf$ .lst xf) tp$ .tup [.ref n,.ref T,.ref sf,.ref R]):=(je J).trans (je n4);have L8:=X.same s8;have n7:=X.new J;have g0:H3 R=none:=kU S5 n2;have n3:=L3.new g0;have gs:sf≠R:=(jk e7 J).symm;obtain⟨xk,hk,lk⟩:=L8.kv;obtain⟨xt,ht,lt⟩:=L8.tv;have t1:=aa.tm s8;refine q _ n T sf R _ #[tp,Z,jc,#[xk,hk,lk],#[xt,ht,lt],#[xf,aq jc n4,C.mono cn t1],#[G,s8 _ _ e7,(B.mono cn$ aa.tm s7).mono cn t1],#[tk.symm,n7.1.symm,n3.1.symm,n7.2.1.symm,n3.2.1.symm,gs],λ_ z=>nomatch z] W n0 (kU (S3.trans S7) J) (kU S3 g0) ((S3.trans S7).trans s8)
noncomputable abbrev Eb:Stmt:=bQ 81
structure Fd(K:Frag):Prop where
 tt:kitOne K (.type "tuple") (.type "tuple")=some true
 ll:kitOne K (.type "list") (.type "list")=some true
def EK(H:Hp)(x y:V):Prop:=∃t:Tr,t.dep<=5/\t.In/\t.isL=false/\aS H t x []/\aS H t y []
theorem G4(h:gX H x p)(g:gX H y p):EK H x y:=by obtain⟨a,rfl,h⟩:=h;obtain⟨b,rfl,g⟩:=g;exact#[aA$ p.map au,(by show(ay$ p.map au).dep+1<=5;rw[zq];decide),zz p,Z,km h,km g]
theorem G3(h:mK H x p)(g:mK H y p):EK H x y:=by obtain⟨q,a,b,rfl,h,c,d⟩:=h;obtain⟨Q,A,B,rfl,g,G,e⟩:=g;refine#[aA [aA$ p.1.map au,aA$ p.2.map au],?_,#[zz p.1,zz p.2,trivial],Z,jD h$ jm Z (km c)$ jm Z (km d) Z,jD g$ jm Z (km G)$ jm Z (km e) Z];show max ((ay$ p.1.map au).dep+1) (max ((ay$ p.2.map au).dep+1) 0)+1<=5;rw[zq,zq];decide
theorem DL{X:Cx}(hu:X.A.units+10 < cLine):fb X (compareOp .NotEq) (λx y H Q=>∃(a b:Addr) (c Y:List V),x= .ref a/\y= .ref b/\H a=some (.lst c)/\H b=some (.lst Y)/\c.length=Y.length/\(∀(j:Nat) (u v:V),c[j]?=some u->Y[j]?=some v->EK H u v)/\Q (.bl false) H):=by
 intro p s σ H x y v u Q I k l h;obtain⟨a,b,c,Y,rfl,rfl,m,n,hl,o,q⟩:=h;cases k;cases l;obtain⟨i,r,B,_⟩:=I.list (aI.of (K:=X.K) m);obtain⟨C,R,D,_⟩:=I.list (aI.of (K:=X.K) n);have la:=r.length;have lb:=R.length;refine SX (e:=λ_=>true) B.isList D.isList (by simp;omega) UO (λj E h2=>?_) X.prog X.w _ _ ?_
 ·have f:j < c.length:=by simp at E;omega
  have d:j < Y.length:=by omega
  obtain⟨U,F,G⟩:=r.get (LP f);obtain⟨J,L,M⟩:=R.get (LP d);have N:i.toArray[j]=U:=by obtain⟨_,e⟩:=List.getElem?_eq_some_iff.mp F;simpa using e
  have O:C.toArray[j]=J:=by obtain⟨_,e⟩:=List.getElem?_eq_some_iff.mp L;simpa using e
  rw[N,O];obtain⟨t,S,T,g,W,t5⟩:=o j _ _ (LP f) (LP d);have z:=Q4 I 5 t (A:=X.A.in1) S (by show X.A.units+1+5 < cLine;omega) T g T g W t5 _ _ G M;rw[zD Z]at z;exact z
 ·have e:((List.range i.toArray.size).all λ_=>true)=true:=by simp
  rw[e];exact#[.bl false,H,I,Z,q]
theorem bq.sm{a:Type}{R:RA a}(c:∀{H x y w},R H x w->R H y w->EK H x y){W:List a}(h:bq R H W b)(g:bq R H W Y):b.length=Y.length/\∀(j:Nat) (u v:V),b[j]?=some u->Y[j]?=some v->EK H u v:=by refine#[by rw[h.len,g.len],λj u v d f=>?_];obtain⟨w,E,r⟩:=h.at d;obtain⟨k,e,i⟩:=g.at f;rw[E]at e;cases e;exact c r i
theorem FR{tB:Addr}(h:Lt H z k t f d y)(g:Lt H M c tB e D y):∀i:Nat,i < 4->∃(a b:Addr) (x Y:List V),fq [V.ref k,.ref t,.ref f,.ref d] ((0:Int)+i)=some (.ref a)/\fq [V.ref c,.ref tB,.ref e,.ref D] ((0:Int)+i)=some (.ref b)/\H a=some (.lst x)/\H b=some (.lst Y)/\x.length=Y.length/\∀(j:Nat) (u v:V),x[j]?=some u->Y[j]?=some v->EK H u v:=by
 obtain⟨_,A,l⟩:=h.kv;obtain⟨_,B,m⟩:=h.tv;obtain⟨_,C,n⟩:=h.fv;obtain⟨_,o,p⟩:=h.dv;obtain⟨_,q,r⟩:=g.kv;obtain⟨_,s,E⟩:=g.tv;obtain⟨_,F,G⟩:=g.fv;obtain⟨_,I,J⟩:=g.dv;intro i L
 match i,L with
 |0,_=>exact#[_,_,_,_,Z,Z,A,q,l.sm G3 r]
 |1,_=>exact#[_,_,_,_,Z,Z,B,s,m.sm G3 E]
 |2,_=>exact#[_,_,_,_,Z,Z,C,F,n.sm G4 G]
 |3,_=>exact#[_,_,_,_,Z,Z,o,I,p.sm G4 J]
inductive pw(j:List V)(H:Hp)(Q:VK)(a:XK):Prop
 |mk(x y:V)(f h d b g i e c:Addr)(l:Ly)(_:j=[x,y])(_:EF H x f h d b l)(_:EF H y g i e c l)(_:Q (.bl true) H)
theorem Lr(h:bJ k A):A.units+10 < cLine:=by have:=h.un;omega
theorem BQ:ai ["_law_told","_law_due","_law_k"] ["_law_told","_law_due"] (ae Eb):=bP
theorem DC(F:aQ K "_law_told_so" "_law_told_so" Eb f D)(t:Fd K)(m:mg "isinstance"=none)(M:mg "tuple"=none)(e:mg "list"=none)(G:mg "len"=none)(I:mg "range"=none):af P w K mg base aE 3 f D ["_law_told","_law_due"] pw:=by
 refine F.ok BQ ?_ λN A o s H vs Q E R h=>?_
 ·rintro _ _ _ _ ⟨x,y,S,T,U,V,W,tB,X,Y,l,rfl,_⟩;rfl
 obtain⟨x,y,S,T,U,V,W,tB,X,Y,l,rfl,l1,l2,q⟩:=h;refine#[_,(jd (jz (PW.pt$ vJ (vG$ vI$ jR JU Z m Uf$ ja (pv 0)$ ja (Zr (v:=.ty "tuple") Z M Oc Z) jb)$ Yv$ jE Xx (jR jO Z G Nh$ ja (pv 0) jb) jf$ aL _) (jg$ jp$ @Zm _ _ _ _) ju)$ jd (kH MF Z (zA Z I$ ja jf jb) (jx (i:=2) BQ.nd Z$ Or.inl Z)$ jg$ jz (PW.pt$ vJ (vG$ vI$ jR JU Z m Uf$ ja (jo jH (pv 0) (pv 2) (λ_ _=>Z))$ ja (Zr (v:=.ty "list") Z e T3 Z) jb)$ Yv$ jE (DL$ Lr R) (jo jH (pv 0) (pv 2) (λ_ _=>Z)) (jo jH (pv 1) (pv 2) (λ_ _=>Z))$ aL _) (jg$ jp$ @Zm _ _ _ _) ju)$ jg$ jp$ @Zm _ _ _ _),?_];obtain⟨z,rfl,L⟩:=l1;obtain⟨g,rfl,_L⟩:=l2;refine ah λF1 d=>#[_,Z,_,.ty "tuple",_,.type "tuple",true,Z,Z,.tup L.ins,t.tt,_,Z,aX Z #[_,Z,z,_,Z,.inr$ aB.of L.ins,Z,_,Z,aX Z$ d _ _ ?_]];clear d;have j:=FR L _L;refine ah λF1 d=>dW λJ r=>#[4,Z,UN,UN,r _ _ ?_];clear r;refine zg (lo:=0) (n:=4) (λ_ p u=>(∃O,p=[some$ .ref z,some$ .ref g,O])/\u=H) #[#[_,Z],Z] ?_ (λp u h=>?_)
 ·intro E rt k p H2 hk fE Gq c h;obtain⟨⟨O,rfl⟩,rfl⟩:=h;refine c ?_;clear c;obtain⟨a,b,xs,ys,B,e2,C,hb,hl,hv⟩:=j k hk;show gU _ _ _ E [some$ .ref z,some$ .ref g,some$ .int ((0:Int)+k)] H2;exact lO λG1 yT yF=>#[_,Z,_,Z,z,_,_,_,Z,Z,aB.of L.ins,B,_,.ty "list",_,.type "list",true,Z,Z,.lst C,t.ll,_,Z,aX Z #[_,Z,_,Z,z,_,_,_,Z,Z,aB.of L.ins,B,_,Z,_,Z,g,_,_,_,Z,Z,aB.of _L.ins,e2,a,b,xs,ys,Z,Z,C,hb,hl,hv,_,Z,yF _$ fE _ _ #[#[_,Z],Z]]]
 ·obtain⟨_,rfl⟩:=h;exact d _ _ q
def EQ(H:Hp)(p:List fc)(f:Str)(i:List Int)(x:V):Prop:=∃(c:Addr) (s:Sk) (a:Int),x= .ref c/\EC H p f i s a (.ref c)
theorem EQ.mono(k:ap H d)(h:EQ H p f i x):EQ d p f i x:=let #[c,s,a,e,b]:=h;#[c,s,a,e,b.mono k]
structure Cb(H:Hp)(r:Addr)(d:Df)(ds:List Df)(xs:List V)(ns:List Nat):Prop where
 r:H r=some (.tup (.ref d.p::xs))
 v:dh H (d::ds) (.ref d.p::xs)
 n:pG (d::ds) (1::ns)
 pa:nY H (d::ds) (1::ns)
 l:ds.length<=2
theorem Cb.mono{H a:Hp}{r:Addr}{d:Df}{D:List Df}{x:List V}{N:List Nat}(h:Cb H r d D x N)(m:ap H a):Cb a r d D x N:=#[m _ _ h.r,h.v.mono m,h.n,h.pa.mono m,h.l]
theorem Cb.p{H:Hp}{r:Addr}{d:Df}{D:List Df}{x:List V}{n:List Nat}(h:Cb H r d D x n):H d.p=some (.tup [.str d.f,.ref d.pa,.ref d.pb]):=by obtain⟨u,R,e,⟨b,E,a,_⟩,_⟩:=h.v;exact a
theorem BF{H:Hp}(f:H r=some (.tup g))(c:dh H D g)(e:D.length=2∨D.length=3)(i:pG D N)(j:nY H D N)(k:∃r,N=1::r):∃d a x n,Cb H r d a x n:=by
 obtain⟨l,rfl⟩:=k;cases D with
 |nil=>rcases e with h |h<;>cases h
 |cons d D=>have b:=c;obtain⟨u,R,rfl,⟨B,rfl,m,_⟩,_⟩:=b;exact#[d,D,R,l,f,c,i,j,by simp only[Mu]at e;omega]
theorem Z1(h:EF H x k t f d y)(s:aa H a):EF a x k t f d y:=let #[q,e,l]:=h;#[q,e,l.same s]
theorem gJ:ai ["_law_script","_law_box_here","_law_program","_law_parts","_law_args","_law_cells_here","_law_old","_law_new"] ["_law_script"] (ae on):=bP
theorem Dq(F:aQ K "law" "law" on f fd)(cB:Cl P w K mg base 1 fB f0 ["_law_script","_law_k"] (oY K) "_law_box")(cF:Cl P w K mg base 4 fF f2 z4z mh "_law_busy")(cT:Cl P w K mg base 1 fT f3 z2z bN "_law_take")(cR:Cl P w K mg base 4 fR f4 z4z pf "_law_gathering")(cM:Cl P w K mg base 65 fM f5 ["program"] (mw K nA) "made")(cC:Cl P w K mg base 3 fC f6 z4z iD "_law_cells")(cU:Cl P w K mg base 46 fU f7 z32z (mn nA) "_law_book")(cD:Cl P w K mg base 4 fD f8 ["_law_box_here","_law_cells_here"] oZ "_law_changed")(cL:Cl P w K mg base 37 fL f9 ["_law_old","_law_new"] pi "_law_laid")(cE:Cl P w K mg base 71 fE f' ["old","new"] mq "laid")(cS:Cl P w K mg base 3 fS a3 ["_law_told","_law_due"] pw "_law_told_so"):af P w K mg base aE 72 f fd ["_law_script"] (nC K):=by
 refine F.ok gJ ?_ λc2 A o1 s H vs Q E t h=>?_
 ·rintro _ _ _ _ ⟨a,ns,rfl,_⟩;rfl
 obtain⟨a,ns,rfl,hS,h5,q⟩:=h;refine#[_,(jd (jB 1 gJ.nd$ cB.e t.m$ ja (pv 0)$ ja jf jb)$ jd (jB 2 gJ.nd$ cF.e t.m$ ja (pv 1) jb)$ jd (kj$ jz (zW$ cT.e t.m$ ja (pv 1)$ ja jf jb) (jg$ jB 2 gJ.nd$ cR.e t.m$ ja (pv 1) jb) ju)$ jd (jB 3 gJ.nd$ cM.e t.m$ ja (pv 2) jb)$ jd (jB 4 gJ.nd$ jh$ ja (jw ke jf$ cT.e t.m$ ja (pv 1)$ ja jf jb) jb)$ jd (jB 5 gJ.nd$ cC.e t.m$ ja (cB.e t.m$ ja (pv 0)$ ja jf jb) jb)$ jd (jB 6 gJ.nd$ cU.e t.m$ ja (pv 3)$ ja (jy$ jo jH (pv 2) jf (λ_ _=>Z))$ ja (pv 4)$ ja (pv 5) jb)$ jd (jB 7 gJ.nd$ cU.e t.m$ ja (pv 3)$ ja (jy$ jo jH (pv 2) jf (λ_ _=>Z))$ ja (pv 4)$ ja (cD.e t.m$ ja (cB.e t.m$ ja (pv 0)$ ja jf jb)$ ja (pv 5) jb) jb)$ jd (jz (PW.pt$ vJ (Ku$ @QV _ _ _ _ _$ pv 6)$ Yv$ Ku$ @QV _ _ _ _ _$ pv 7) (jg$ jp$ @Zm _ _ _ _) ju)$ jg$ jp$ DS (cS.e t.m$ ja (cE.e t.m$ ja (pv 6)$ ja (pv 7) jb)$ ja (cL.e t.m$ ja (pv 6)$ ja (pv 7) jb) jb)$ DV$ cS.e t.m$ ja (cE.e t.m$ ja (pv 7)$ ja (pv 6) jb)$ ja (cL.e t.m$ ja (pv 7)$ ja (pv 6) jb) jb),?_];have b2:=aH;refine ah λI g=>#[_,Z,a,ns,1,Z,hS,UN,UN,λp H1 np B1 e1=>g _ _ ?_];clear g;refine ah λI g=>#[_,Z,p,Z,B1,λr ds xs H2 g1 g2 g3 n4 L R g6 B2 k2=>g _ _ ?_];clear g;obtain⟨d,S,X,N,p0⟩:=BF g1 g2 (.inr g3) L R g6;clear g1 g2 g3 L R g6;refine ah λI g=>dZ (λσ0 H'=>∃(r:Addr) (d:Df) (ds:List Df) (xs:List V) (N:List Nat),σ0=[some$ .ref a,some$ .ref p,some$ .ref r,none,none,none,none,none]/\Cb H' r d ds xs N/\aG H' p/\aP p H1 H') (λE1 _ fm=>#[_,Z,p,2,Z,B2,UN,UN,λd1 H3 d0 d2 B3 e3=>#[Z,_,Z,fe (λ_=>?_) (λ_=>?_)]]) λσ2 H3 hq=>?_
 ·exact#[_,Z,p,Z,B3,λr ds xs H4 g1 g2 g3 n4 L R g6 B4 k4=>let #[d,S,X,N,u]:=BF g1 g2 (.inl g3) L R g6;fm _ _ #[r,d,S,X,N,Z,u,B4,(k2.trans$ aP.of_eq e3).trans k4]]
 ·exact fm _ _ #[r,d,S,X,N,Z,p0.mono ((aP.of_eq e3).tm B2),B3,k2.trans$ aP.of_eq e3]
 clear p0 k2 B2;obtain⟨r,d,dz,xz,N,rfl,u,B3,k3⟩:=hq;refine g _ _ ?_;clear g;have dl:=u.l;refine ah λI g=>#[_,Z,r,d::dz,_,Z,u.r,u.v,(by rw[Mu];omega),λd hd=>(u.n.1 d hd).1,λv H4 hv s4=>g _ _ ?_];clear g;obtain⟨pA,U,rfl,h1,h2⟩:=Kh hv;refine ah λI g=>#[_,Z,p,5,Z,B3.same s4,UN,UN,λj5 M i0 i1 B5 e5=>#[_,_,Z,Z,iE,λT n5=>g _ _ ?_]];clear g;try dsimp only
 generalize h6:(1:Int)+j5=J;have s1:aa H H1:=λb o e=>by rw[e1 b$ jk e np];exact e
 have k0:aP p H1 M:=(k3.trans$ aP.of_same s4).trans (aP.of_eq e5);have T9:ap H4 M:=(aP.of_eq e5).tm (B3.same s4);have s5:aa H M:=λb o e=>k0 _ _ (jk e np) (s1 _ _ e);have su:aa M (am M T$ .tup [.int J]):=je n5;have h0:am M T (.tup [.int J]) T=some (.tup [.int J]):=jc;generalize am M T (.tup [.int J])=H6 at su h0 ⊢;have S6:=s5.trans su;have T':=T9.trans (aa.tm su);refine ah λI g=>#[_,Z,a,ns,2,Z,S6.seq hS,UN,UN,λp7 H7 n2 B7 e7=>#[p7,Z,B7,λcA Cs H8 n6 h3 gC lC B8 k8=>g _ _ ?_]];clear g;have s8:aa H6 H8:=λb o e=>k8 _ _ (jk e n2) (by rw[e7 b$ jk e n2];exact e);have S8:=S6.trans s8;have W:=T'.trans (aa.tm s8);have u:=u.mono ((aa.tm s4).trans W);obtain⟨p2,p3,p5,_⟩:=u.pa.2 0 d 1 Z Z;obtain⟨k,hP⟩:=Gs (W _ _ h1) (h2.mono W) #[_,u.v] u.n u.pa;have lx:=zo hP.tr;rw[LU]at lx;have ak:EO H8 nA pA T cA 0 Cs d (d::dz) (1::N) U k [J]:=#[hP,(by rw[lx,Mu];omega),Z,Z,s8 _ _ h0,(λi hi=>by rw[List.mem_singleton.mp hi];exact#[UO,UO]),(by show 1<=100;decide),h3,gC];have kz:Kp H H8:=Kp.of_same S8;refine ah λI g=>?_;suffices go:∀(ch:V) (D:Hp),Kp H8 D->(ch= .non∨EQ D k d.f [J] ch)->I [some$ .ref a,some$ .ref p,some$ .ref r,some$ .ref pA,some$ .ref T,some$ .ref cA,some ch,none] D by clear g;exact#[_,Z,jv u.r dU #[d.p,_,_,_,Z,Z,aB.of u.p,dU,_,Z,_,Z,pA,T,cA,0,Cs,d,d::dz,1::N,U,k,[J],Z,ak,λc sk b L' D eq hc ok dp sz Y=>go _ D Y (.inr #[c,sk,b,Z,hc,ok,dp,sz,Cs,L',eq]),λno D Y=>go _ D Y (.inl Z)]]
 intro ch D Y rv;refine g _ _ ?_;clear g;have a2:=ak.kp Y;have k1:=kz.trans Y;have p1:=u.mono Y.tm;refine ah λI g=>?_;suffices go:∀(G:V) (Ha:Hp),Kp D Ha->(G= .non∨EQ Ha k d.f [J] G)->I [some$ .ref a,some$ .ref p,some$ .ref r,some$ .ref pA,some$ .ref T,some$ .ref cA,some ch,some G] Ha by
  clear g;refine#[_,Z,jv p1.r dU #[d.p,_,_,_,Z,Z,aB.of p1.p,dU,_,Z,_,Z,a,ns,3,Z,k1.seq hS,UN,UN,λpy Ha n3 BA eA=>#[_,Z,?_]]];have sA:aa D Ha:=λb o e=>by rw[eA b$ jk e n3];exact e
  refine#[py,cA,Cs,Z,BA,sA _ _ a2.ce,gC,UO,λl C' Hb n7 h4 gy ly By k5=>?_];have sy:aa D Hb:=λb o e=>k5 _ _ (jk e n3) (sA _ _ e);have C:=a2.kp (Kp.of_same sy);exact#[pA,T,l,0,C',d,d::dz,1::N,U,k,[J],Z,#[C.ps,C.xl,C.hd,C.hn,C.ag,C.hi,C.il,h4,gy],λc sk b L' Hc eq hc ok dp sz kc=>go _ Hc ((Kp.of_same sy).trans kc) (.inr #[c,sk,b,Z,hc,ok,dp,sz,C',L',eq]),λno Hc kc=>go _ Hc ((Kp.of_same sy).trans kc) (.inl Z)]
 intro G Ha ka r0;refine g _ _ ?_;clear g;refine ah λI g=>#[_,Z,_,Z,?_];rcases rv with rfl |bk0
 ·exact cX (Mc Z)$ q _
 have n0:ch≠ .non:=by obtain⟨_,_,_,rfl,_⟩:=bk0;exactλz=>by cases z
 refine aX (LZ n0) #[_,Z,_,Z,?_];rcases r0 with rfl |bk1
 ·exact cX (Mc Z)$ q _
 have n1:G≠ .non:=by obtain⟨_,_,_,rfl,_⟩:=bk1;exactλz=>by cases z
 refine aX (LZ n1)$ g _ _ ?_;clear g;have bk0:=bk0.mono ka.tm;generalize d.f=f at bk0 bk1;generalize [J]=O at bk0 bk1;obtain⟨c0,z0,a0,rfl,B⟩:=bk0;obtain⟨c1,z1,a1,rfl,j⟩:=bk1;have y0:=B.2.2.2.1;have y1:=j.2.2.2.1;refine#[_,Z,_,Z,Bj k,c0,c1,f,O,O,z0,z1,a0,a1,Z,B.1,B.2.1,B.2.2.1,UO,j.1,j.2.1,j.2.2.1,UO,B.dt,j.dt,λx kX tX fX dX H3 ld _ _ _ _ g3=>#[_,Z,_,Z,?_]];have B:=B.mono (aa.tm g3);have j:=j.mono (aa.tm g3);refine#[Bj k,c0,c1,f,O,O,z0,z1,a0,a1,Z,B.1,B.2.1,B.2.2.1,UO,j.1,j.2.1,j.2.2.1,UO,B.dt,j.dt,λy kY tY fY dY H4 le _ _ _ _ L=>#[x,y,kX,tX,fX,dX,kY,tY,fY,dY,_,Z,Z1 ld L,le,true,Z,uB ?_]];have B:=B.mono (aa.tm L);have j:=j.mono (aa.tm L);refine#[_,Z,_,Z,Bj k,c1,c0,f,O,O,z1,z0,a1,a0,Z,j.1,j.2.1,j.2.2.1,UO,B.1,B.2.1,B.2.2.1,UO,j.dt,B.dt,λx kX tX fX dX M ld _ _ _ _ R=>#[_,Z,_,Z,?_]];have B:=B.mono (aa.tm R);have j:=j.mono (aa.tm R);exact#[Bj k,c1,c0,f,O,O,z1,z0,a1,a0,Z,j.1,j.2.1,j.2.2.1,UO,B.1,B.2.1,B.2.2.1,UO,j.dt,B.dt,λy kY tY fY dY H6 le _ _ _ _ g6=>#[x,y,kX,tX,fX,dX,kY,tY,fY,dY,_,Z,Z1 ld g6,le,q _]]
@[elab_as_elim] theorem LI{P:List Value->Prop}(u:List Value)(h:u.length=1)(q:∀a,P [a]):P u:=by
 cases u with
 |nil=>cases h
 |cons a r=>
  cases r with
  |nil=>exact q a
  |cons _ _=>cases h
theorem _root_._L.aQ.b1{K:Frag}{st:Stmt}{p:List Str}(F:aQ K x q st f g)(h:∀(kV d b:Value) (A:Option Addr) (c C a:Value),bindArgs (fnOf x q (bV st) (bn st) (ae st) .none kV d b A c C) #[[a],[]]=pure (p.zip [a]):=by intros;rfl)(e:p.length=1:=by rfl):aD K g p []:=F.binds λkV d b A c C u H=>LI u (H.trans e) λa=>h kV d b A c C a
@[elab_as_elim] theorem LJ{P:List Value->Prop}(u:List Value)(h:u.length=2)(q:∀a b,P [a,b]):P u:=by
 cases u with
 |nil=>cases h
 |cons a r=>
  cases r with
  |nil=>cases h
  |cons b R=>
   cases R with
   |nil=>exact q a b
   |cons _ _=>cases h
theorem _root_._L.aQ.b2{K:Frag}{st:Stmt}{p:List Str}(F:aQ K x q st f i)(h:∀(kV d g:Value) (A:Option Addr) (c C a b:Value),bindArgs (fnOf x q (bV st) (bn st) (ae st) .none kV d g A c C) #[[a,b],[]]=pure (p.zip [a,b]):=by intros;rfl)(e:p.length=2:=by rfl):aD K i p []:=F.binds λkV d g A c C u H=>LJ u (H.trans e) λa b=>h kV d g A c C a b
@[elab_as_elim] theorem LL{P:List Value->Prop}(u:List Value)(h:u.length=3)(q:∀a b c,P [a,b,c]):P u:=by
 cases u with
 |nil=>cases h
 |cons a r=>
  cases r with
  |nil=>cases h
  |cons b R=>
   cases R with
   |nil=>cases h
   |cons c d=>
    cases d with
    |nil=>exact q a b c
    |cons _ _=>cases h
theorem _root_._L.aQ.b3{K:Frag}{st:Stmt}{p:List Str}(F:aQ K x q st f j)(h:∀(kV d g:Value) (A:Option Addr) (C i a b c:Value),bindArgs (fnOf x q (bV st) (bn st) (ae st) .none kV d g A C i) #[[a,b,c],[]]=pure (p.zip [a,b,c]):=by intros;rfl)(e:p.length=3:=by rfl):aD K j p []:=F.binds λkV d g A C i u H=>LL u (H.trans e) λa b c=>h kV d g A C i a b c
@[elab_as_elim] theorem LM{P:List Value->Prop}(u:List Value)(h:u.length=4)(q:∀a b c d,P [a,b,c,d]):P u:=by
 cases u with
 |nil=>cases h
 |cons a r=>
  cases r with
  |nil=>cases h
  |cons b R=>
   cases R with
   |nil=>cases h
   |cons c e=>
    cases e with
    |nil=>cases h
    |cons d f=>
     cases f with
     |nil=>exact q a b c d
     |cons _ _=>cases h
theorem _root_._L.aQ.b4{K:Frag}{st:Stmt}{p:List Str}(F:aQ K x q st f j)(h:∀(kV D g:Value) (A:Option Addr) (C i a b c d:Value),bindArgs (fnOf x q (bV st) (bn st) (ae st) .none kV D g A C i) #[[a,b,c,d],[]]=pure (p.zip [a,b,c,d]):=by intros;rfl)(e:p.length=4:=by rfl):aD K j p []:=F.binds λkV D g A C i u H=>LM u (H.trans e) λa b c d=>h kV D g A C i a b c d
@[elab_as_elim] theorem LN{P:List Value->Prop}(u:List Value)(h:u.length=5)(q:∀a b c d e,P [a,b,c,d,e]):P u:=by
 cases u with
 |nil=>cases h
 |cons a r=>
  cases r with
  |nil=>cases h
  |cons b R=>
   cases R with
   |nil=>cases h
   |cons c f=>
    cases f with
    |nil=>cases h
    |cons d g=>
     cases g with
     |nil=>cases h
     |cons e i=>
      cases i with
      |nil=>exact q a b c d e
      |cons _ _=>cases h
theorem _root_._L.aQ.b5{K:Frag}{st:Stmt}{p:List Str}(F:aQ K x q st f j)(h:∀(kV D g:Value) (A:Option Addr) (C i a b c d e:Value),bindArgs (fnOf x q (bV st) (bn st) (ae st) .none kV D g A C i) #[[a,b,c,d,e],[]]=pure (p.zip [a,b,c,d,e]):=by intros;rfl)(e:p.length=5:=by rfl):aD K j p []:=F.binds λkV D g A C i u H=>LN u (H.trans e) λa b c d e=>h kV D g A C i a b c d e
def dR(K:Frag)(p q:Str)(st:Stmt)(f:Addr):Prop:=∃(o:Value) (O:Option Addr) (kV d a:Value) (A:Option Addr) (c C:Value) (s:Array (Option Value)),K.lookup f=some #[o,O,.func$ fnOf p q (bV st) (bn st) (ae st) .none kV d a A c C,s]/\codeIn K c q=true/\keepIn K (.ref f)=true
def cp(K:Frag)(p:Str)(st:Stmt)(f:Addr):Prop:=nsIn K mainGlobals p=some (some$ .ref f)/\dR K p p st f
section
variable {K:Frag}{py q:Str}{st:Stmt}{f:Addr}{oc:Value}{od:Option Addr}{kV dc pm:Value}{an:Option Addr}{cd ct:Value}{sl:Array (Option Value)}
theorem Li(l:K.lookup f=some #[oc,od,.func$ fnOf py q (bV st) (bn st) (ae st) .none kV dc pm an cd ct,sl])(c:codeIn K cd q=true)(k:keepIn K (.ref f)=true):dR K py q st f:=#[_,_,_,_,_,_,_,_,_,l,c,k]
theorem IR(a:nsIn K mainGlobals py=some (some$ .ref f))(l:K.lookup f=some #[oc,od,.func$ fnOf py py (bV st) (bn st) (ae st) .none kV dc pm an cd ct,sl])(c:codeIn K cd py=true)(k:keepIn K (.ref f)=true):cp K py st f:=#[a,Li l c k]
theorem dR.go(h:dR K py q st f):∃F,aQ K py q st f F/\keepIn K (.ref f)=true:=by obtain⟨oc,od,kV,dc,pm,an,cd,ct,sl,l,c,k⟩:=h;exact#[_,ug l c k,k]
theorem cp.go{mg:Str->Option Value}(t:cp K py st f)(X:K.In h)(G:h.Ns mainGlobals mg):∃a,aQ K py py st f a/\keepIn K (.ref f)=true/\mg py=some (.ref f):=by obtain⟨a,F,k⟩:=t.2.go;exact#[a,F,k,Rh X G t.1]
end
theorem Cj{l:PySem.W.OpenLaw}{w:World}{K:Frag}{mg:Str->Option Value}(X:K.In h)(G:h.Ns mainGlobals mg)(o2:mg "law"=some (.ref fa))
                 
  (t3:cp K "names_in" eV f0)
  (t4:cp K "own_terms" D8 o3)
  (t5:cp K "used_behind_terms" wq fUb)
  (t6:cp K "used_ahead_of" AD f1)
  (t7:cp K "used_ahead" AC fUa)
  (t8:cp K "bodies_in" DZ o4)
  (t':cp K "many_cuts" we o5)
  (o6:cp K "deed_of" vW o7)
  (o8:cp K "place_of_give" me f2)
  (o9:cp K "place_of_set" wg o')
  (p0:cp K "part_made" wf p1)
  (p2:cp K "made" oM p3)
  (p5:cp K "_law_box" D2 p6)
  (sL:cp K "_law_take" wn p7)
  (p9:cp K "_law_number" l9 p')
  (q0:cp K "_law_names" iJ q1)
  (dQ:cp K "_law_op" ID q2)
  (q3:cp K "_law_inner" oj q4)
  (q5:cp K "_law_looped" iy q6)
  (q7:cp K "_law_ticking" gF q')
  (r0:cp K "_law_busy" vS r1)
  (r2:cp K "joined" lY r3)
  (r4:cp K "worth" mf r5)
  (r6:cp K "named" l7 r7)
  (r8:cp K "begun" og r9)
  (r':cp K "deeper" lU s0)
  (s1:cp K "part_of" md s2)
  (s3:cp K "cut_at" oi s4)
  (s5:cp K "held_at" lX s6)
  (s7:cp K "worths" iz s8)
  (s9:cp K "deed_at" lT s')
  (u0:cp K "found_in" gE f3)
  (u1:cp K "end_of" lW u2)
  (u3:cp K "first_of" iI u4)
  (u5:cp K "onward" ma u6)
  (u8:cp K "run" D' u9)
  (u':cp K "whats_at" AF v1)
  (v2:cp K "whats_in" AG v3)
  (v4:cp K "paths_at" AA v5)
  (v7:cp K "deed_in" D5 v8)
  (v9:cp K "like_from" wc v')
  (w0:cp K "lender_from" wb w1)
  (w2:cp K "taken_from" Ea w3)
  (w4:cp K "laid" v6 w5)
  (w6:cp K "_law_cells" oh w7)
  (w8:cp K "_law_changes" D4 w9)
  (w':cp K "_law_found" D7 x0)
  (x1:cp K "_law_book" om x2)
  (x3:cp K "_law_changed" D3 x4)
  (x5:cp K "_law_all_in" Aq x7)
  (x8:cp K "_law_beside" rX x9)
  (x':cp K "_law_laid" Ax y0)
  (y1:cp K "_law_gathering" Aw y2)
  (y3:cp K "_law_told_so" Eb y4)
  (tZ:cp K "law" on fZ)
  (y5:nsIn K mainGlobals "NOUGHT"=some (some$ .ref B)) (y6:K.lookup B=some #[.type "tuple",odN,.seq (List.toArray [.str "num" rN0,.int 0 rN1]) nN,slN]) (y':nsIn K mainGlobals "Cutting"=some (some$ .ref C)) (v0:nsIn K mainGlobals "TOP"=some (some$ .int 1000000000000000000 tTop)) (vD:nsIn K mainGlobals "DEEPEST"=some (some$ .int 15 tD)) (vR:nsIn K mainGlobals "BookRun"=some (some$ .ref c)) (vT:nsIn K mainGlobals "Turns"=some (some$ .ref c0)) (vL:nsIn K mainGlobals "Laying"=some (some$ .ref g)) (vB:nsIn K mainGlobals "BookError"=some (some$ .ref xB))
  (z6:nsIn K mainGlobals "TooLong"=some (some$ .ref D))
  (z7:nsIn K mainGlobals "TooDeep"=some (some$ .ref E))
  (z8:K.lookup D=some #[ocxL,odxL,.cls cdxL,slxL]) (t0:typeIn K (.ref D)=some (.type "type")) (mbxL:mroIn K D (.type "BaseException")=some true) (k2:keepIn K (.ref D)=true)
  (z':K.lookup E=some #[ocxD,odxD,.cls cdxD,slxD]) (t1:typeIn K (.ref E)=some (.type "type")) (mbxD:mroIn K E (.type "BaseException")=some true) (k3:keepIn K (.ref E)=true)
  (A':K.lookup xB=some #[ocxB,odxB,.cls cdxB,slxB]) (t2:typeIn K (.ref xB)=some (.type "type")) (m7:mroIn K xB (.type "BaseException")=some true) (B1:mroIn K D (.ref xB)=some true) (B2:mroIn K E (.ref xB)=some true)
  (e0:excIn K D pJ "ValueError.__new__"=true) (e1:excIn K E pJ "ValueError.__new__"=true)
  (X':sS K D) (b0:sS K E)
  (rk:RK K c) (B3:Mk K c f4) (tm:B0 K c0 "__init__" f5) (m8:bj K c "take_turn" f6) (m':bj K c "number_in" f7) (m2:bj K c "chain_of" B4) (b7:bj K c "what_of" B5)
  (lk:LK K g) (B6:Mk K g f8) (m3:bj K g "lay" f9) (b8:bj K g "drop" f') (b9:bj K g "lay_step" B7)
  (ck:CK K C) (mk:Mk K C b') (c1:bj K C "place_of_body" c2) (B8:bj K C "place_of" B') (C':bj K C "place_of_cut" D0) (D1:bj K C "ways_of" E1)
  (E2:dR K "__init__" "Cutting.__init__" vY b')
  (E3:dR K "place_of_body" "Cutting.place_of_body" At c2)
  (E4:dR K "place_of" "Cutting.place_of" AB B')
  (E5:dR K "place_of_cut" "Cutting.place_of_cut" Au D0)
  (E6:dR K "ways_of" "Cutting.ways_of" AE E1)
  (E9:dR K "__init__" "Turns.__init__" wj f5)
  (E':dR K "take_turn" "Turns.take_turn" oq f6)
  (H0:dR K "number_in" "Turns.number_in" wm f7)
  (H1:dR K "__init__" "BookRun.__init__" vQ f4)
  (H2:dR K "chain_of" "BookRun.chain_of" Ar B4)
  (H3:dR K "what_of" "BookRun.what_of" As B5)
  (H4:dR K "__init__" "Laying.__init__" vZ f8)
  (H5:dR K "lay" "Laying.lay" Az f9)
  (H6:dR K "drop" "Laying.drop" vX f')
  (H7:dR K "lay_step" "Laying.lay_step" Ay B7)
  (z2:nsIn K mainGlobals "len"=some none)
  (z3:nsIn K mainGlobals "int"=some none)
  (T:nsIn K mainGlobals "range"=some none)
  (z0:nsIn K mainGlobals "list"=some none)
  (t:nsIn K mainGlobals "reversed"=some none)
  (U:nsIn K mainGlobals "tuple"=some none)
  (I:nsIn K mainGlobals "sorted"=some none)
  (z4:nsIn K mainGlobals "set"=some none)
  (z5:nsIn K mainGlobals "zip"=some none)
  (z1:nsIn K mainGlobals "dict"=some none)
  (r:nsIn K mainGlobals "enumerate"=some none)
  (o:nsIn K mainGlobals "isinstance"=some none)
  (tk:Fd K)
  :∃fd:FuncData,(∀(s:Shared) (v:Value),BindsTo s fd #[[v],[]] [("_law_script",v)])/\∀base:Heap,K.In base->base.Ns mainGlobals mg->af l.prog w K mg base aE 72 fa fd ["_law_script"] (nC K):=by
 have e:=o2.symm.trans (Rh X G tZ.1);cases e;obtain⟨H8,u,V,M⟩:=t3.go X G;obtain⟨dOw,c3,H9,H'⟩:=t4.go X G;obtain⟨dUb,c4,kUb,I1⟩:=t5.go X G;obtain⟨dUo,Y,k4,m4⟩:=t6.go X G;obtain⟨dUa,c5,kUa,I2⟩:=t7.go X G;obtain⟨dBi,c6,I3,I4⟩:=t8.go X G;obtain⟨dMc,F4,k5,c9⟩:=t'.go X G;obtain⟨dDe,c',I5,I6⟩:=o6.go X G;obtain⟨dPg,F0,k6,d0⟩:=o8.go X G;obtain⟨dPs,d1,I7,I'⟩:=o9.go X G;obtain⟨dPm,d2,J0,K5⟩:=p0.go X G;obtain⟨dMa,d3,L0,L1⟩:=p2.go X G;obtain⟨dBx,d4,L3,L5⟩:=p5.go X G;obtain⟨dTk,F,k,m⟩:=sL.go X G;obtain⟨dNu,F5,k7,d5⟩:=p9.go X G;obtain⟨dNm,F6,k8,d6⟩:=q0.go X G;obtain⟨dOp,A,J,L⟩:=dQ.go X G;obtain⟨dIn,d7,L6,L7⟩:=q3.go X G;obtain⟨dLo,d8,L8,L'⟩:=q5.go X G;obtain⟨dTi,d',N1,N2⟩:=q7.go X G;obtain⟨dBu,e2,N3,N'⟩:=r0.go X G;obtain⟨dJo,e3,O',P1⟩:=r2.go X G;obtain⟨dWo,O,k1,m0⟩:=r4.go X G;obtain⟨dNd,F7,k9,e4⟩:=r6.go X G;obtain⟨dBe,e5,P4,Q'⟩:=r8.go X G;obtain⟨dDp,e6,R1,R5⟩:=r'.go X G;obtain⟨dPf,e7,R7,R'⟩:=s1.go X G;obtain⟨dCu,Q,k0,m1⟩:=s3.go X G;obtain⟨dHe,F8,k',e8⟩:=s5.go X G;obtain⟨dWs,e9,S1,S2⟩:=s7.go X G;obtain⟨dDa,e',S3,S5⟩:=s9.go X G;obtain⟨dFo,F1,g0,g1⟩:=u0.go X G;obtain⟨dEn,F9,g2,g4⟩:=u1.go X G;obtain⟨dFi,g5,S6,S7⟩:=u3.go X G;obtain⟨dOn,g6,S8,S9⟩:=u5.go X G;obtain⟨dRu,g7,S',T9⟩:=u8.go X G;obtain⟨dWa,F2,T',g8⟩:=u'.go X G;obtain⟨dWi,a0,U0,g'⟩:=v2.go X G;obtain⟨dPa,a1,h0,h1⟩:=v4.go X G;obtain⟨dDi,a2,h2,h3⟩:=v7.go X G;obtain⟨dLk,h4,U1,U2⟩:=v9.go X G;obtain⟨dLd,h5,U3,U4⟩:=w0.go X G;obtain⟨dTn,h6,U5,U6⟩:=w2.go X G;obtain⟨dLa,h7,U7,U8⟩:=w4.go X G;obtain⟨dCe,h',U9,U'⟩:=w6.go X G;obtain⟨dCg,i0,V0,V1⟩:=w8.go X G;obtain⟨dLf,i1,V2,V3⟩:=w'.go X G;obtain⟨dLb,i2,V4,V5⟩:=x1.go X G;obtain⟨dLc,i3,V6,V7⟩:=x3.go X G;obtain⟨dAl,F3,i4,m5⟩:=x5.go X G;obtain⟨dBs,a3,V8,i5⟩:=x8.go X G;obtain⟨dLl,i',V9,V'⟩:=x'.go X G;obtain⟨dGa,j0,W0,W1⟩:=y1.go X G;obtain⟨dTo,j1,W2,W3⟩:=y3.go X G;obtain⟨dmI,j2,kmI⟩:=E2.go;obtain⟨dmB,a4,kmB⟩:=E3.go;obtain⟨dmO,j3,kmO⟩:=E4.go;obtain⟨dmC,j4,kmC⟩:=E5.go;obtain⟨dmW,j5,kmW⟩:=E6.go;obtain⟨dTI,j',kTI⟩:=E9.go;obtain⟨dTT,l0,kTT⟩:=E'.go;obtain⟨dTN,l1,kTN⟩:=H0.go;obtain⟨dRI,l2,kRI⟩:=H1.go;obtain⟨dRC,a5,kRC⟩:=H2.go;obtain⟨dRW,l3,kRW⟩:=H3.go;obtain⟨dLI,l4,kLI⟩:=H4.go;obtain⟨dLL,a',kLL⟩:=H5.go;obtain⟨dLD,l5,kLD⟩:=H6.go;obtain⟨dLS,l6,kLS⟩:=H7.go;obtain⟨ocZ,odZ,W4,W5,W6,W7,W8,W9,slZ,lZ,cZ,kZ⟩:=tZ.2;have FZ:=ug (st:=on) lZ cZ kZ;have i:=NR X G z2;have y:=NR X G z3;have a:=NR X G T;have x:=NR X G z0;have d:=NR X G t;have N:=NR X G U;have f:=NR X G I;have R:=NR X G z4;have n0:=NR X G z5;have p:=NR X G z1;have b:=NR X G r;have q:=NR X G o;have l8:nW K B:=λH=>.inr #[_,_,_,y6,Z,Z,ci,(.cons #[_,Z] (.cons #[_,Z] .nil))];refine#[fnOf "law" "law" (bV on) (bn on) (ae on) .none W4 W5 W6 W7 W8 W9,λs v=>.of_eq Z,λbase _ _=>?_];have j:af l.prog w K mg base aE 1 p7 _ _ bN:=y8 F;have W':af l.prog w K mg base aE 1 p6 _ _ (oY K):=Dj d4 i y;have l':af l.prog w K mg base aE 2 p' _ _ nD:=rK F5 #[j,F.b2,k,m];have n1:af l.prog w K mg base aE 2 q1 _ _ gM:=u7 F6 j F.b2 k m a;have S:af l.prog w K mg base aE 2 q2 _ _ my:=Gg A #[j,F.b2,k,m];have Y':af l.prog w K mg base aE 3 q4 _ _ (dy 2):=uX d7 #[j,F.b2,k,m] #[S,A.b3,J,L];have Z':af l.prog w K mg base aE 3 q6 _ _ (dy 1):=rH d8 #[j,F.b2,k,m] #[S,A.b3,J,L] y N;have GTi:af l.prog w K mg base aE 3 q' _ _ (dy 1):=Zh d' #[j,F.b2,k,m] #[S,A.b3,J,L] y N;have GBu:af l.prog w K mg base aE 4 r1 _ _ mh:=yN e2 #[j,F.b2,k,m] #[S,A.b3,J,L] #[n1,F6.b2,k8,d6] #[Z',d8.b4,L8,L'] #[GTi,d'.b4,N1,N2] #[Y',d7.b4,L6,L7];have NS:=BD (P:=l.prog) (w:=w) (base:=base) u u.b1 M R f;have n2:af l.prog w K mg base aE 7 f0 _ _ (dC 6):=NS 6;have GNc:af l.prog w K mg base aE 7 f0 _ _ (pj K):=Dv (fN:=f0) (fdN:=H8) u #[NS 5,u.b1,V,M] R f;have GOw:af l.prog w K mg base aE 1 o3 _ _ nE:=Dw c3;have US:=Hm (P:=l.prog) (w:=w) (base:=base) c5 c4 Y c5.b2 I2 c4.b2 I1 Y.b2 m4 #[GOw,c3.b1,H9,H'] #[n2,u.b1,V,M] x R f d;have GUo:af l.prog w K mg base aE 31 f1 _ _ (gQ 7):=(US 7).2;have GUz:af l.prog w K mg base aE 10 f1 _ _ (gQ 0):=(US 0).2;have GBi:af l.prog w K mg base aE 1 o4 _ _ ni:=Di c6;have n3:af l.prog w K mg base aE 2 o5 _ _ hV:=yW F4 #[GBi,c6.b1,I3,I4] x;have GDe:af l.prog w K mg base aE 1 o7 _ _ iQ:=yO c';have GPg:af l.prog w K mg base aE 8 f2 _ _ gO:=va F0 #[n2,u.b1,V,M];have GPc:af l.prog w K mg base aE 8 f2 _ _ (pk K):=Dy F0 #[GNc,u.b1,V,M];have GPs:af l.prog w K mg base aE 11 o' _ _ iV:=y7 d1 #[GUz,Y.b2,k4,m4];have GmB:af l.prog w K mg base aE 63 c2 _ _ (nF C 8):=Lk (P:=l.prog) (w:=w) (base:=base) ck a4 j3 j4 j5 a4.b3 c1 j3.b3 B8 j4.b3 C' j5.b4 D1 #[n3,F4.b1,k5,c9] #[GUo,Y.b2,k4,m4] #[GDe,c'.b1,I5,I6] #[GPg,F0.b1,k6,d0] #[GPs,d1.b2,I7,I'] i N d 8 (LV _);have GmI:af l.prog w K mg base aE 3 b' _ _ (ph C):=Dp j2 ck #[n3,F4.b1,k5,c9];have GPm:af l.prog w K mg base aE 64 p1 _ _ (mE K B):=yY d2 ck mk GmI j2.b2 (Rh X G y') (Rh X G y5) l8 GmB a4.b3 c1 #[GPc,F0.b1,k6,d0] N d;have GMa:af l.prog w K mg base aE 65 p3 _ _ (mw K B):=yV d3 #[GPm,d2.b3,J0,K5] N;have GJo:af l.prog w K mg base aE 1 r3 _ _ iU:=rG e3 (Rh X G v0);have G':af l.prog w K mg base aE 7 r5 _ _ (cY K 6):=xK (P:=l.prog) (w:=w) (base:=base) O O.b2 m0 #[GJo,e3.b3,O',P1] 6;have G1:af l.prog w K mg base aE 1 s4 _ _ (iP B):=uU Q;have n4:af l.prog w K mg base aE 2 s6 _ _ (iT B):=rF F8 #[G1,Q.b2,k0,m1] p n0;have GWs:af l.prog w K mg base aE 8 s8 _ _ gR:=rN e9 #[G',O.b2,k1,m0] N;have GDa:af l.prog w K mg base aE 9 s' _ _ (gK B):=rB e' #[n4,F8.b3,k',e8] #[G1,Q.b2,k0,m1] #[G',O.b2,k1,m0] #[GWs,e9.b2,S1,S2];have GFo:af l.prog w K mg base aE 1 f3 _ _ eZ:=uW F1;have n5:af l.prog w K mg base aE 8 u2 _ _ (nq B):=uV F9 #[G1,Q.b2,k0,m1] #[G',O.b2,k1,m0] N l8;have GFi:af l.prog w K mg base aE 9 u4 _ _ (gL B):=Zk g5 #[n5,F9.b3,g2,g4] p n0;have GOn:af l.prog w K mg base aE 9 u6 _ _ (wT B):=rL g6 #[G1,Q.b2,k0,m1] #[n4,F8.b3,k',e8] #[GFo,F1.b1,g0,g1] #[n5,F9.b3,g2,g4];have hxL:clsIn K D≠none:=by
  unfold clsIn;rw[z8];intro z;cases z
 have hxD:clsIn K E≠none:=by unfold clsIn;rw[z'];intro z;cases z
 have mxL:=Rh X G z6;have mxD:=Rh X G z7;have xmL:XM K mg "TooLong" D:=#[e0,k2,X',t0,mxL];have xmD:XM K mg "TooDeep" E:=#[e1,k3,b0,t1,mxD];have n6:af l.prog w K mg base aE 1 r7 _ _ mx:=rJ F7;have GPf:af l.prog w K mg base aE 2 s2 _ _ mx:=rM e7 #[n6,F7.b2,k9,e4];have GBe:af l.prog w K mg base aE 2 r9 _ _ iB:=uS e5 #[n6,F7.b2,k9,e4] i;have GDp:af l.prog w K mg base (gq l.prog w) 1 s0 _ _ (eX E):=rC e6 (Rh X G vD) xmD;have GTI:af l.prog w K mg base aE 1 f5 _ _ (mG c):=y9 j' rk;have GTT:af l.prog w K mg base (gq l.prog w) 1 f6 _ _ (iW c D):=vb l0 rk xmL;have GTN:af l.prog w K mg base aE 1 f7 _ _ (gN c):=Aa l1 rk;have GRI:af l.prog w K mg base aE 2 f4 _ _ (mz c):=yZ l2 rk GTI j'.b3 (Rh X G vT) tm;have GRC:=Fg (P:=l.prog) (w:=w) (base:=base) rk a5 a5.b4 m2 l3 l3.b3 b7 #[GFi,g5.b2,S6,S7] #[GDa,e'.b3,S3,S5] #[GOn,g6.b2,S8,S9] GTT l0.b1 m8 GTN l1.b2 m' (GDp) e6.b1 R1 R5 #[GPf,e7.b2,R7,R'] N 16;have GRu:af l.prog w K mg base (gq l.prog w) 45 u9 _ _ (pq D E B):=DA g7 rk B3 GRI l2.b4 (Rh X G vR) #[GBe,e5.b3,P4,Q'] GRC a5.b4 m2;have GCe:af l.prog w K mg base aE 3 w7 _ _ iD:=uT h' #[j,F.b2,k,m] #[l',F5.b1,k7,d5] a;have GCg:af l.prog w K mg base aE 3 w9 _ _ o0:=Dm i0 #[j,F.b2,k,m] #[l',F5.b1,k7,d5] a;have hxB:clsIn K xB≠none:=by unfold clsIn;rw[A'];intro z;cases z
 have mxB:=Rh X G vB;have GWi:af l.prog w K mg base aE 34 v3 _ _ (iY 16):=Hq (P:=l.prog) (w:=w) (base:=base) F2 F2.b2 g8 a0 a0.b2 g' b 16;have GWa:af l.prog w K mg base aE 35 v1 _ _ (nH 17):=vg (n:=16) F2 #[GWi,a0.b2,U0,g'];have n7:af l.prog w K mg base aE 36 v5 _ _ (lI 17):=Dx (n:=16) a1 #[GWa,F2.b2,T',g8];have n':af l.prog w K mg base aE 1 v8 _ _ nj:=Dn a2;have GFz:af l.prog w K mg base aE 1 f3 _ _ iS:=rE F1;have GLk:af l.prog w K mg base aE 1 v' _ _ mv:=yS h4 i a;have GLd:af l.prog w K mg base aE 2 w1 _ _ ms:=yR h5 #[n',a2.b1,h2,h3] i a;have GTn:af l.prog w K mg base aE 3 w3 _ _ nG:=DB h6 #[GLk,h4.b3,U1,U2] #[GLd,h5.b3,U3,U4] #[n',a2.b1,h2,h3];have GLI:af l.prog w K mg base aE 1 f8 _ _ (mj g):=yU l4 lk;have GLD:af l.prog w K mg base aE 37 f' _ _ (iR g):=yP l5 lk #[n7,a1.b2,h0,h1] a;have GLL:af l.prog w K mg base aE 70 f9 _ _ (lH g 16):=FQ (P:=l.prog) (w:=w) (base:=base) lk a' a'.b5 m3 l6 l6.b5 b9 #[GTn,h6.b3,U5,U6] #[n7,a1.b2,h0,h1] GLD l5.b5 b8 #[GFz,F1.b1,g0,g1] b i 16;have GLa:af l.prog w K mg base aE 71 w5 _ _ mq:=yQ h7 lk B6 GLI l4.b1 (Rh X G vL) GLL a'.b5 m3;have GLb:af l.prog w K mg base aE 46 x2 _ _ (mn B):=uZ i2 (GRu) g7.b5 S' T9 #[mxB,hxB,t2,m7,B1,B2] p;have GLc:af l.prog w K mg base aE 4 x4 _ _ oZ:=Dl i3 #[GCg,i0.b2,V0,V1] #[j,F.b2,k,m] p;have GLf:af l.prog w K mg base aE 1 x0 _ _ ny:=Dr i1;have o1:af l.prog w K mg base aE 18 x7 _ _ (fV 17):=Ff (P:=l.prog) (w:=w) (base:=base) F3 F3.b2 m5 b 17;have GBs:af l.prog w K mg base aE 36 x9 _ _ (ie 16):=Fh (P:=l.prog) (w:=w) (base:=base) a3 a3.b5 i5 #[GLf,i1.b1,V2,V3] #[o1,F3.b2,i4,m5] b i a y 16;have GLl:af l.prog w K mg base aE 37 y0 _ _ pi:=Ds i' #[GBs,a3.b5,V8,i5] #[o1,F3.b2,i4,m5] f;have GGa:af l.prog w K mg base aE 4 y2 _ _ pf:=Do j0 #[j,F.b2,k,m] #[n1,F6.b2,k8,d6] #[S,A.b3,J,L] N;have GTo:af l.prog w K mg base aE 3 y4 _ _ pw:=DC j1 tk q N x i a;exact Dq FZ #[W',d4.b2,L3,L5] #[GBu,e2.b1,N3,N'] #[j,F.b2,k,m] #[GGa,j0.b1,W0,W1] #[GMa,d3.b1,L0,L1] #[GCe,h'.b1,U9,U'] #[GLb,i2.b4,V4,V5] #[GLc,i3.b2,V6,V7] #[GLl,i'.b2,V9,V'] #[GLa,h7.b2,U7,U8] #[GTo,j1.b2,W2,W3]
theorem IU{l:PySem.W.OpenLaw}{Y:World->Heap->Prop}{d:DefRec}{K:Params->Frag}(e:l.most=some 63)(H:d.params.defaults=[])
  (g:∀(w:World) (h:Heap),Y w h->(K w.params).In h)
  (F:∀(w:World) (mg:Str->Option Value) (b:Addr) (h:Heap),(K w.params).In h->h.Ns mainGlobals mg->mg d.name=some (.ref b)->
   ∃c:FuncData,(∀(s:Shared) (u:Value),BindsTo s c #[[u],[]] [("_law_script",u)])/\∀base:Heap,(K w.params).In base->base.Ns mainGlobals mg->af l.prog w (K w.params) mg base aE 72 b c ["_law_script"] (nC$ K w.params)):
  PySem.W.WalkO q L m Y l.row.toRowW d [] (λf v=>PySem.call f v):=
 _L.A2 (n:=63) (k:=72) (x:="_law_script") (CX:=λ_=>aE) (sp:=λw=>nC (K w.params)) e UN H #[Z,UN,UN] g F (λ_ _ a N i _ j=>#[a,N,Z,j,i,λ_=>Z]) λ_ _ _ _ _ z=>z
end _K
structure PySem.W.Fast:Prop where(tw2793552452229197230 tw832428675901074872 tw13594284338143632557 tw13728180246994920789 tw5350488495665269371 tw10150493729880699714 tw731253225534338467 tw2387755038788442178 tw5147691779057989055 tw5889558672109791301 tw7810267483362915759 tw14527789345637831750 tw12083525167270165958 tw5761909208507809102 tw17328675711379684142 tw4676785400365206113 tw11592967540451503229 tw12729056617395691049 tw1628267151481599389 tw2885189441513103909 tw10423095392879187957 tw2283573211125096008 tw8274349512571158598 tw7547271999649301398 tw18409247138330552617 tw6401471346573392175 tw5029051713188249479 tw5069621667390348099 tw3831922385341880839 tw2938325016503295298 tw17850814145246147610 tw13788682616804096086 tw8649267645970276125 tw4361032105667680871 tw1389540604540530763 tw9789378174991736003 tw10263628277384315801 tw1392167689581670806 tw7968245390481527930 tw802870146864012016 tw16485541082005929194 tw15255953576822825397 tw1460368385193662744 tw16367762734096024665 tw6407371350513241257 tw7463662100227532383 tw1798934483690222216 tw4650366882903445623 tw11396981024666252927 tw1619597635134134036 tw10211045091875464493 tw1578030539066435686 tw17336684060794055078 tw3316190614279218268 tw18213124198908984379 tw5036492918180581221 tw7588017965663089181 tw901011847648160790 tw8183540977763422382 tw9388581251554715999 tw7003834599062237824 tw11062122165964085298 tw5981937156280660016 tw15190073617504508083 tw8056534458545894793 tw15974210217319643235 tw5834843213142078884 tw7047660354646362066 tw16932282137064215329 tw17488253886128748583 tw8322677152157650985 tw9654265055294396868 tw14161885616078868579 tw459085475989556822 tw6731725845189310552 tw1499944129643507628 tw17515561571648029137 tw12715612039295367996 tw17892405928785443031 tw9190395050927548639 tw1490957175581282668 tw16547475292088663983 tw9650230529236863769 tw12762963671609869951 tw8258745236952028567 tw15475112022742340911 tw4563587041606373450 tw1400735900019784025 tw13141393327711884228 tw11413125600300797737 tw7090379376873783363 tw9276333849757057720 tw10978201486182334221 tw2770465143062755228 tw10949989596058231648 tw10061722680599903639 tw13396664709046781123 tw1290304376372606096 tw16653348811946291723 tw17273595405782588437 tw17872623766784646396 tw18265096275738647897 tw16415854966691024869 tw8442624101892867342 tw4469954262707559166 tw1261792836931085671 tw7604163714569765876 tw6736544434382536911 tw13648884081833105667 tw11988537203680214565 tw10611197543370194063 tw8689141980525477006 tw8129911300146187342 tw2849497716123290983 tw16190593043977079429 tw501711247315280461 tw1227277683857715419 tw2931529355714727808 tw11931566156471012739 tw14131404382322303535 tw340494933701299374 tw5822370552403807263 tw1051214958222668614 tw12099472035750195547 tw6250205297746515487 tw4233473841152251307 tw11659102996457750420 tw1076747684350271168 tw1660120756212168154 tw17040361161502426947 tw402641218043285358 tw15267990949674102924 tw9848579947891318038 tw2503959965433057349 tw8021160504129313014 tw16448800193166831954 tw4965930195162699169 tw8247259478293722625 tw5070457190984824145 tw14570288552997723376 tw6539601882710661876 tw14357332482951418453 tw1703827323295254133 tw13572877341642508822 tw12363065038047241648 tw4998769007611330420 tw1997720914671415119 tw7720916730404026193 tw3835613879767969727 tw9366558147068555765 tw8284539272166359853 tw13323438754402704332 tw13005260733770839222 tw7702676791126657564 tw14329599633365323572 tw14036990827932752273 tw5531750927798519425 tw2268385142962046313 tw9385801743707181417 tw7364529706435777731 tw4128161996167903638 tw15973126849665060543 tw9654203132984297478 tw14786099681363489437 tw3399218094435333922 tw15816755740330380004 tw4925328345777566884 tw14690405173062211531 tw16630574709576245969 tw3003678334471909103 tw9779839080229044615 tw14539515225941117062 tw10665392608395937200 tw8260452894116178869 tw8137633185145011117 tw6024803176398468817 tw13196037376717730380 tw17786778979807587285 tw8335937871437261744 tw17570745669837619172 tw331528779982417337 tw13483806210326855254 tw10979215400119392717 tw16447165812919322877 tw10905726123935145851 tw11703387024276214833 tw6164809200051608918 tw18177334731250100199 tw12058352075684153129 tw9701566155577632406 tw2922567787977050367 tw3741329417696599268 tw10418292398698717823 tw14963141276520994750 tw16410687344006249164 tw8097866453645848043 tw6373589622431942990 tw9859495455739457127 tw9400066785362637847 tw4559035161042197909 tw17833592868069619472 tw16498579995508190859 tw8070023304822973533 tw9243821062396261633 tw9330511542086527047 tw17750875758901876163 tw12801584009914021733 tw14651802526477323443 tw5562775092483821240 tw4658160744946107695 tw11880367199337521851 tw11926434922113071325 tw12125544554387750953 tw17155687292065125180 tw9907016699321443291 tw5981288332294191251 tw13424308472017558689 tw773157641483196667 tw3429490007446329511 tw77435341470717851 tw3472599143621665787 tw7635455705118001204 tw1534342141733251276 tw913422321253763370 tw16894604418952268395 tw14152148083302654091 tw15273443408715052159 tw8069954814215666078 tw5356043288484085341 tw17508489069450788043 tw11452444685879884561 tw2106661307799126586 tw12193250647913050015 tw9865946355022482929 tw18058263268257982398 tw1723824456259563308 tw12749497339614251547 tw12496208491317938277 tw1227651196099164234 tw11436349133212160566 tw10113844195594087148 tw5576876748023190440 tw2939768119378445595 tw17068161542452244139 tw3710101243643871124 tw14260330925922557695 tw17063400723166413878 tw8110042561519320266 tw4901605553228967197 tw2798409580971402819 tw8060680565919525177 tw3759210309845371101 tw4174954360593260367 tw2497899245710424379 tw16100276098914501632 tw6816722720744746296 tw12578497405134324922 tw5426201740838508904 tw3628328146427643370 tw3022332781469062151 tw811719585779541866 tw10679163324191834703 tw13040873220080650985 tw10666138258863810408 tw7179431411621326740:True)
open PySem PySem.W PyProof.Rows PySem.W.X
theorem _K.Ho {q : Program} {loose : List PySem.Str} {XP : (PySem.Str → Option Value) → Heap → Prop} {K : Params → Frag} {as : List Addr} {n t : Nat} {r : RowW} {d : DefRec} {kwd : List (PySem.Str × PySem.Expr)} {run : Value → List Value → Sem Value}
    (e : ∀ P, as = (K P).map (·.1)) (h : WalkO q loose XP (InK K) r d kwd run) : WalkX q loose XP (obsZ as) (valZ K n t) r d kwd run :=
  fun w s₀ s₁ mg mb G Y a o pm cd doc dV kV h1 h2 h3 h4 h5 h6 args vals as' L => h w s₀ s₁ mg mb G (InK.keeps w _ _ (z_facts e Y).2.1 L.keeps) a o pm cd doc dV kV h1 h2 h3 h4 h5 h6 args vals as'
set_option maxRecDepth 100000 in
set_option maxHeartbeats 0 in
theorem PySem.Challenge.cw_againbook_k33_lent_chains_holds : PySem.Challenge.rw_againbook_k33_lent_chains.Holds := by
  w_on; o_law; z_head; (case hw => w_witness2)
  refine _K.Ho (fun _ => by rfl)$ _K.IU (l := PySem.Challenge.rw_againbook_k33_lent_chains) rfl rfl (fun w h Y => Y) ?F
  case F =>
    intro w mg fa h KX G hmg
    apply _K.Cj KX G hmg
    iterate 55 (apply _K.IR;iterate 4 k_is)
    iterate 24 k_is
    iterate 2 k_exc
    iterate 2 (constructor<;>k_is)
    refine ⟨⟨?_,?_,?_,?_⟩,?_,?_,?_,?_,?_⟩;iterate 4 k_is
    iterate 5 (unfold _L.a9;k_is)
    iterate 2 (constructor;iterate 4 k_is)
    iterate 4 (constructor;iterate 3 k_is)
    refine ⟨⟨?_,?_,?_,?_⟩,?_,?_,?_,?_⟩;iterate 4 k_is
    iterate 4 (unfold _L.a9;k_is)
    constructor;iterate 4 k_is
    iterate 3 (constructor;iterate 3 k_is)
    refine ⟨⟨?_,?_,?_,?_⟩,?_,?_⟩;iterate 4 k_is
    iterate 2 (unfold _L.a9;k_is)
    constructor;iterate 4 k_is
    iterate 4 (constructor;iterate 3 k_is)
    iterate 15 (apply _K.Li;iterate 3 k_is)
    iterate 12 k_is
    constructor;iterate 2 kit_is
