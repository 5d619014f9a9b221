import PyProof.Rows.All
import Wide.All
import OpenK.AllK
import Wide.FinOn
import Lean
import PyProof.EqAt
import PyProof.EqKinds
import PyProof.TupleCall
import PySem.Challenge.RW_againbook_k27_what_reads_see
set_option Elab.async false
set_option linter.all false
set_option maxRecDepth 100000
set_option genSizeOf false
theorem ig:0≤PySem.sizeLine:=by decide
theorem gH:1≤PySem.sizeLine:=by decide
theorem bo:2≤PySem.sizeLine:=by decide
theorem dZ:3≤PySem.sizeLine:=by decide
theorem oW:4≤PySem.sizeLine:=by decide
set_option Elab.async false
set_option linter.all false
set_option maxRecDepth 100000
set_option maxHeartbeats 4000000
open PySem.W (keepIn Frag nsIn kitOne fnOf mg_of codeIn findIn mroIn isFn mg_none_of kia_one typeIn emptyDict clsIn instObj hasDictIn kitAny specialIn callWith_K excIn lookIn plainGet notCls tailIn)
theorem RT{p:Prop}(h:p:=by decide):p:=h
theorem RU{p:Prop}(h:p:=by omega):p:=h
theorem RV{p:Prop}(h:p:=by simp):p:=h
theorem RW{p:Prop}(h:p:=by decide +kernel):p:=h
theorem RX{p:Prop}(h:p:=by rfl):p:=h
theorem Z{α:Sort u}{a:α}:a=a:=rfl
open PySem renaming wpAny_bind->GK,wpAny_pure->GL,wpAny_holding->Ht,wpAny_field->HC,wpAny_callSpecial?_slot->HL,wpAny_newObj_type->HN,wpAny_call_entry->HP,boot_len->HR,wpAny_setField->HV,builtinLookup_eq_fast->HW,wpAny_mono->Ib,wpAny_seqItems->Ih,wpAny_Call_Name_kw->Ii,typeLookup_type->Iz,codeAny_builtin->IA,mem_of_lookup->IC,isSubtype_type->IP,wpAny_setState_of->IQ,wpAny_specialOf->IU,wpAny_typeOf->IZ,wpAny_rule->J',wpAny_execs_nil->Lg,wpAny_attempt->Li,plainId_quiet->Lj,wpAny_isInstance->Ll,wpAny_setField_rec->Lp,wpAny_passesOwn->Lr,wpAny_standAt->Ls,wpAny_truthy_bool->Lw,wpAny_askSetting->LG,codeAny_mono->LH,wpAny_setEntries_of->LO,wpAny_pyIter_tuple->LV,tupleKind_room_in1->LW,wpAny_pyIter_list->LZ,codeAny_handlers_test->Mb,wpAny_handleBy_cons->Mm,wpAny_loadPart->Mt,wpAny_of_eq->MF,fits_of_scanBound->MH,wpAny_execs_cons->MU,entryFor_of_tree->MV,wpAny_call->M3,wpAny_updateSeq->M5,wpAny_fieldsOf->M9,sizeLine_eq->M',isSubtype_stop->Na,entryFor_alias->Nb,wpAny_onRaise->Nk,call_meets->Np,wpAny_sequenceKey->Ny,wpAny_pyIter_slot->Nz,call_meetsIn->NA,noFill_tuple_add->NM,wpAny_loadPart'->N6,codeAny_of_tree->N7,wpAny_runValue->Oh,wpAny_newTuple->Oi,wpAny_listPart->Oj,wpAny_bindName->Ol,wpAny_comprehension_free->Op,seq_tuple_add->Oq,wpAny_pyNext_list_item->OG,seqIndex_neg->OJ,concat_meets->OL,callType_new->OM,wpAny_pyNext_list_end->OV,wpAny_isTrue_Compare1->OW,wpAny_updateSeq_pair->O2,wpAny_loadName_local->O3,wpAny_letGo->O4,seqIndex_of->O5,codeAny_extend_loopS->O6,codeAny_call_builtin->O7,wpAny_loadName_cell->Pf,wpAny_Tuple_spliced->Pg,wpAny_load->Pq,wpAny_Name->Pr,wpAny_storeSet_of->Pw,wpAny_pyIter_enum->Px,wpAny_assign_Name->Py,wpAny_Call_method->Pz,wpAny_Assign_Name->PH,slot_list_setitem->PJ,wpAny_Try_except->PX,merged_length_le->PY,callType_codes->RL
open List renaming getElem?_eq_getElem->GN,length_map->GQ,length_append->GU,size_toArray->GX,mem_of_getElem?->Hf,mem_append_right->Hn,mem_cons_self->Hq,map_append->Hs,getElem?_map->Hu,length_cons->Hv,mem_cons_of_mem->HD,length_take->HF,not_mem_nil->HG,getElem?_eq_none->HU,take_length->HY,mem_of_mem_take->HZ,map_cons->Ik,lookup_cons->Il,mem_append_left->Iy,take_add_one->ID,mem_cons->II,getElem?_set_ne->IK,forIn_cons->IN,take_of_length_le->IR,getElem?_set_self->IS,length_drop->IW,getElem?_append_right->IX,getElem?_append_left->I9,take_sublist->Lb,append_assoc->Lc,take_succ->Lh,take_append_drop->Ln,length_singleton->Lo,getD_eq_getElem?_getD->Lu,forIn_nil->Lv,getElem_mem->Lx,mem_append->LK,length_nil->LM,find?_cons->LN,map_map->LU,getElem?_reverse->LY,map_take->Ma,append_nil->Md,reverse_cons->Mo,append_cancel_right->Mr,any_cons->Ms,all_eq_true->Mw,of_mem_zip->MN,length_set->MO,length_replicate->MS,length_filter_le->MT,nodup_nil->MY,mem_of_mem_drop->MZ,filterMap_cons->M6,mem_singleton->M8,length_range->Ng,eraseIdx_eq_take_drop_succ->Nj,length_zip->Nt,foldl_cons->Nu,length_eraseIdx_of_lt->NJ,getElem?_zip_eq_some->NO,getElem?_take_of_lt->N0,all_cons->N4,getElem?_replicate->N8,append_cancel_left->N9,map_nil->Oc,getElem_cons_drop->Od,length_reverse->Ov,zip_nil_right->OA,zip_cons_cons->OB,getElem?_drop->OC,forIn_toArray->OD,filter_append->OE,zip_nil_left->ON,foldl_append->OP,any_eq_false->OQ,zipIdx_cons->OX,ext_getElem->OY,append_inj'->OZ,any_eq_true->O0,zipIdx_nil->Pa,nodup_cons->Pb,mem_filter->Pd,take_take->Pk,drop_zero->Pl,map_drop->Pu,map_set->PQ
open PySem.Heap renaming get?_push_of_some->GP,lt_size->GY,get?_push_size->GZ,get?_update_other->Hk,get?_update_self->HK,size_push->Ia
open Nat renaming le_refl->GV,ne_of_lt->Hd,lt_of_lt_of_le->He,zero_le->Hg,le_trans->Hh,ne_of_gt->Ic,lt_irrefl->Io,lt_succ_self->IB,succ_le_succ->IG,lt_of_le_of_lt->IH,le_succ->IL,min_eq_left->La,le_of_lt->Ld,lt_succ_of_lt->Lq,le_add_right->LA,le_max_right->L9,not_lt_zero->Mf,le_max_left->Mg,lt_of_succ_lt->Mq,zero_add->MK,sub_self->ML,lt_or_ge->MM,sub_zero->Nh,le_of_eq->Ni,min_le_left->NB,add_sub_cancel'->Oy,add_le_add_left->Oz,le_of_not_lt->O8,le_add_left->Ph,max_assoc->PL,add_zero->Rg,mod_lt->RQ
open Bool renaming false_ne_true->Hc,false_eq_true->Hi,and_eq_true->Iv,not_true->LF,and_false->Mj,eq_iff_iff->MP,false_and->M0,or_false->N5,not_eq_true'->OT,eq_false_iff->OU,true_or->PV
open PySem.F renaming plainAttrs_list->Hj,type_list_append->Hw,slot_list_append->Hz,slot_tuple_iterator_next->Im,slot_zip_next->Iw,slot_dict_get->IV,type_list_extend->Ly,slot_list_extend->Lz,args_tuple_iterator_next_1->LB,plain_list_iadd->LC,args_zip_next_1->LD,entry_tuple_iterator_next->LJ,entry_zip_next->LP,entry_dict_get->LQ,args_object_init_2->Me,args_tuple_add_2->Ml,entry_tuple_add->Mn,slot_tuple_add->Mu,plainAttrs_str->Mv,type_str_join->My,slot_str_join->Mz,plain_proto_collect->Nn,entry_proto_collect->No,plain_extend_loop->Nr,plain_tuple_new->ND,plainAttrs_dict->NE,entry_list_iadd->NF,args_dict_get_3->NG,args_dict_get_2->NH,type_dict_get->NW,slot_set_iter->NY,plain_set_new->NZ,args_list_extend_2->OS,entry_list_extend->O1,slot_list_extend->Pe
open Array renaming length_toList->HE,getElem?_toList->IY,getElem?_eq_getElem->I8,getElem?_eq_none->ME,size_append->Nc,toList_push->OF
open PySem.Obj renaming data_mapFields->HJ,isFreed_of_fields->Ip,cls_mapFields->LX
open PySem.PassesOwn renaming never->HM,leaving->Ob
open Option.some renaming inj->HQ
open Int renaming emod_lt_of_pos->HS,toNat_natCast->Ie,emod_nonneg->Ij,toNat_of_nonneg->M7,eq_ofNat_of_zero_le->Oe,ediv_nonneg->Pn
open PyProof.Rows renaming callWith_type1->HX,boot_tuple->IE,slot_tuple_getitem->I0,boot_sorted->NQ,boot_reversed->Ot,subscriptTail_builtinR->OH,Subscript_->Pt,tupleItemsOf_->Ry,lt_int->Rz,iadd_int->RB,entry_tuple_getitem->RC,callWith_builtin1->RD,boot_zip->RE,boot_enumerate->RF,boot_dict->RG,args_tuple_getitem->RI,slicePart_none->RJ,boot_set->RM,boot_int->RN
open PySem.Around renaming under_plainId->Ig
open PySem.Calls renaming spliced_cons->Ir,spliced_nil->IM,callWith_builtin->LS,evalArgs_plain->MX,Name_function_global->NC
open PySem.AutoSeq1 renaming wpAny_loadPart'->IF,sub_tuple_tuple->Nw
open PySem.Heap.SameBut renaming update->IJ,refl->NP
open PySem.W renaming mg_none_of->K',methodCall_KW->Mx,looks_mroIn->MG,plainGet_of->MW,mg_of->Nl,callWith_K->Nq,cellsFrom_some->NN,callWith_K0->Oa,looks_typeIn->OK,any_some->RO
open PyProof.Rows.F renaming plain_set_update_loop->Lm,entry_set_update_loop->Mp
open PySem.Value renaming isStrOf_shape->Mc
open Option renaming map_some->MD,getD_none->Nf,isNone_some->On,isNone_none->Oo,isSome_map->Ou,bind_some->Ox
open PySem.W.KFB renaming if_not->MJ,if_so->RP
open PySem.SeqAt.EqAt renaming same->M4,str_int->NR,int_str->NT,int_int->NV,str_str->Og,tuple_int->Pp,of_refs->PR,int_int->PU
open PySem.Heap.IsSliceOf renaming new->Nv
open PySem.Heap.DictOf renaming new->Of
open PySem.IsL renaming isList->Om
open PyProof.Rows.IsTup renaming new->OR
open PySem.W.Looks renaming ld->O9,of_pure->Pj,here->P5
open PySem.ItemsOf renaming nil->Pm
open PySem.Meets renaming of_wp->PM
open PySem.Walks renaming list->PZ
open PySem.SeqAt.RcAt renaming tuples->P0
open PySem.EqMixed renaming ne_str_int->P6,ne_str_bool->P7,ne_int_str->P8,ne_bool_str->P9,eq_str_int->P',eq_str_bool->Ra,eq_int_str->Rb,eq_bool_str->Rc
open PySem.Within renaming cons->Rh
open PySem.EqNone renaming ne_str_none->Ri,ne_none_str->Rj,ne_none_none->Rk,ne_none_int->Rl,ne_none_bool->Rm,ne_int_none->Ro,ne_bool_none->Rp,eq_str_none->Rq,eq_none_str->Rr,eq_none_none->Rs,eq_none_int->Rt,eq_none_bool->Ru,eq_int_none->Rv,eq_bool_none->Rx
def G8:=@decide_eq_false
def Hl:=@decide_eq_true
def Hm:=@if_pos
def Ho:=@if_neg
def HI:=@Ne.symm
def Iq:=@congrArg
def Iu:=@of_decide_eq_true
def Ix:=@if_false
def Le:=@beq_self_eq_true
def Lk:=@bne_self_eq_false
def Mh:=@or_false
def Mi:=@if_true
def MQ:=@of_decide_eq_false
def NK:=@Iff.rfl
def Po:=@PySem.Heap.IsTupleIter.at
def RS:=@PySem.Heap.IsList.at
local macro_rules|`(#[$x,*])=>`(⟨$x,*⟩)
local macro_rules|`(tactic|omega)=>`(tactic|lia)
namespace _L
open PySem PySem.Spec PyProof.Rows
abbrev bJ:=Sum Int Str
noncomputable def iA:bJ->Value->Bool
 | .inl k,v=>Value.isInt k v
 | .inr x,v=>Value.isStrOf x v
noncomputable def Fh(w:World):bJ->Int
 | .inl k=>hashInt k
 | .inr x=>hashStr w x
theorem jY:∀{k:bJ} {v:Value},iA k v=true->(∃i t,k=Sum.inl i/\v=Value.int i t)∨(∃x t,k=Sum.inr x/\v=Value.str x t)
 | .inl i,v,h=>by obtain⟨t,e⟩:=Value.isInt_shape (k:=i) (v:=v) h;exact .inl #[i,t,Z,e]
 | .inr x,v,h=>by obtain⟨t,e⟩:=Mc (x:=x) (v:=v) h;exact .inr #[x,t,Z,e]
theorem Zs(i:Int)(t:Tok):iA (.inl i) (.int i t)=true:=by simp [iA,Value.isInt]
theorem Zt(x:Str)(t:Tok):iA (.inr x) (.str x t)=true:=by simp [iA,Value.isStrOf]
theorem Au(a b:Int):decide ((Sum.inl a:bJ)=Sum.inl b)=(a==b):=by
 by_cases e:a=b
 ·subst e;simp
 ·have h:¬(Sum.inl a:bJ)=Sum.inl b:=λq=>e (Sum.inl.inj q);rw[G8 h];exact(beq_eq_false_iff_ne.mpr e).symm
theorem Ax(a b:Str):decide ((Sum.inr a:bJ)=Sum.inr b)=decide (a=b):=by
 by_cases e:a=b
 ·subst e;simp
 ·have h:¬(Sum.inr a:bJ)=Sum.inr b:=λq=>e (Sum.inr.inj q);rw[G8 h,G8 e]
theorem Av(a:Int)(b:Str):decide ((Sum.inl a:bJ)=Sum.inr b)=false:=G8 (λq=>nomatch q)
theorem Aw(a:Str)(b:Int):decide ((Sum.inr a:bJ)=Sum.inl b)=false:=G8 (λq=>nomatch q)
noncomputable def aP(p:Program)(w:World):PySem.KeyKind p w bJ where
 is:=iA
 hash:=Fh w
 inj:=λv a b d c=>by
  rcases jY d with ⟨i,t,rfl,rfl⟩ | ⟨x,t,rfl,rfl⟩
  ·rcases jY c with ⟨j,u,rfl,e⟩ | ⟨y,u,rfl,e⟩
   ·injection e with E _;rw[E]
   ·exact nomatch e
  ·rcases jY c with ⟨j,u,rfl,e⟩ | ⟨y,u,rfl,e⟩
   ·exact nomatch e
   ·injection e with E _;rw[E]
 byValue:=λk v h=>by rcases jY h with ⟨i,t,rfl,rfl⟩ | ⟨x,t,rfl,rfl⟩<;>rfl
 pyHash:=λH h=>by
  rcases jY H with ⟨i,t,rfl,rfl⟩ | ⟨x,t,rfl,rfl⟩
  ·exact wpAny_pyHash_int h
  ·exact wpAny_pyHash_str h
 eqBool:=λf H h=>by
  rcases jY f with ⟨i,t,rfl,rfl⟩ | ⟨x,t,rfl,rfl⟩
  ·rcases jY H with ⟨j,u,rfl,rfl⟩ | ⟨y,u,rfl,rfl⟩
   ·rw[Au]at h;exact wpAny_eqBool_int h
   ·rw[Av]at h;exact NT i t y u _ _ _ _ h
  ·rcases jY H with ⟨j,u,rfl,rfl⟩ | ⟨y,u,rfl,rfl⟩
   ·rw[Aw]at h;exact NR x t j u _ _ _ _ h
   ·rw[Ax]at h;exact wpAny_eqBool_str h
 «strs»:=λk x t v h=>by
  rcases jY h with ⟨i,u,rfl,e⟩ | ⟨y,u,rfl,e⟩
  ·exact nomatch e
  ·injection e with E _;subst E;cases v<;>rfl
theorem XH(p:Program)(w:World)(i:Int)(t:Tok):(aP p w).is (.inl i) (.int i t)=true:=Zs i t
theorem XI(p:Program)(w:World)(x:Str)(t:Tok):(aP p w).is (.inr x) (.str x t)=true:=Zt x t
end _L
namespace _L
open PySem PySem.Spec PyProof.Rows
inductive V where
 |non |bl (b:Bool) |int (i:Int) |str (x:Str) |byt (b:Array UInt8) |flt (b:UInt64) |ref (a:Addr) |ty (n:String)
 deriving DecidableEq
set_option genInjectivity false
def au:V->Value->Prop
 | .non,u=>u=Value.none
 | .bl b,u=>u=Value.bool b
 | .int i,u=>∃t,u=Value.int i t
 | .str x,u=>∃t,u=Value.str x t
 | .byt b,u=>∃t,u=Value.bytes b t
 | .flt b,u=>∃t,u=Value.float b t
 | .ref a,u=>u=Value.ref a
 | .ty n,u=>u=Value.type n
abbrev aw:List V->List Value->Prop:=Paired au
theorem aw.length(r:aw x u):x.length=u.length:=Paired.length r
theorem aw.get:∀{X:List V} {U:List Value} {i:Nat} {x:V},aw X U->X[i]?=some x->∃u,U[i]?=some u/\au x u
 |_,_,_,_,.nil,e=>by simp at e
 |_,_,0,_,.cons r _,e=>by simp at e;subst e;exact#[_,Z,r]
 |_,_,i+1,x,.cons _ t,e=>by obtain⟨u,h,H⟩:=aw.get (i:=i) (x:=x) t (by simpa using e);exact#[u,by simpa using h,H]
theorem aw.set(r:au x u):∀{X:List V} {U:List Value} (i:Nat),aw X U->aw (X.set i x) (U.set i u)
 |_,_,_,.nil=>.nil
 |_,_,0,.cons _ t=>.cons r t
 |_,_,i+1,.cons q t=>.cons q (aw.set r i t)
theorem aw.append:∀{x y:List V} {u w:List Value},aw x u->aw y w->aw (x++y) (u++w)
 |_,_,_,_,.nil,s=>s
 |_,_,_,_,.cons r t,s=>.cons r (aw.append t s)
theorem aw.take:∀{x:List V} {u:List Value} (n:Nat),aw x u->aw (x.take n) (u.take n)
 |_,_,0,_=>.nil
 |_,_,_+1,.nil=>.nil
 |_,_,n+1,.cons r t=>.cons r (aw.take n t)
theorem aw.drop:∀{x:List V} {u:List Value} (n:Nat),aw x u->aw (x.drop n) (u.drop n)
 |_,_,0,r=>r
 |_,_,_+1,.nil=>.nil
 |_,_,n+1,.cons _ t=>aw.drop n t
def dy:Option V->Option Value->Prop
 |some v,some u=>au v u
 |none,none=>True
 |_,_=>False
def KV{a:Type}:List (a×V)->List (a×Value)->Prop:=Paired λ(p:a×V) (q:a×Value)=>p.1=q.1/\au p.2 q.2
noncomputable def kV:bJ->V
 | .inl i=>.int i
 | .inr x=>.str x
inductive HO where
 |lst (xs:List V)
 |tup (xs:List V)
 |dK (kvs:List (bJ×V)) |dT (kvs:List (List bJ×V))
 |set (S:Int->Bool) (n:Nat)
 |ins (C dx:Addr) (fs:List (Str×V))
 |own (x:Addr)
 |xd (fs:List (Str×V))
 |met (f x:Addr)
 |rng (lo hi:Int)
 |frz (o:Obj) (u:HO)
 |tbl (ps:Array Value)
 |ext (φ:Heap->Prop)
abbrev Hp:=Addr->Option HO
noncomputable def af(H:Hp)(a:Addr)(o:HO):Hp:=λb=>if b=a then some o else H b
theorem jc:af H a o a=some o:=by unfold af;rw[Hm Z]
theorem ji(h:b≠a):af H a o b=H b:=by unfold af;rw[Ho h]
theorem jN{H:Hp}(h:H a=some o)(c:H b=some u)(d:o≠u):a≠b:=by intro e;subst e;rw[h]at c;exact d (HQ c)
theorem jm{H:Hp}(h:H a=some o)(c:H b=none):a≠b:=by intro e;subst e;rw[h]at c;cases c
section
variable (P:Program)(w:World)
def aN(H:Hp)(h:Heap)(a:Addr):HO->Prop
 | .lst X=>X.length<=sizeLine/\∃(i:List Value) (n:Nat),aw X i/\h.get? a=some { cls:=.type "list",data:=.seq i.toArray n }
 | .tup X=>X.length<=sizeLine/\∃i:List Value,aw X i/\IsTup h a i.toArray
 | .dK k=>k.length<=sizeLine/\(a==sysModules)=false/\∃c,KV k c/\h.DictOf (aP P w) a c
 | .dT k=>k.length<=sizeLine/\(a==sysModules)=false/\∃X:List (List bJ×Addr×Value),
   Paired (λ(p:List bJ×V) (q:List bJ×Addr×Value)=>p.1=q.1/\H q.2.1=some (.tup$ p.1.map kV)/\au p.2 q.2.2) k X/\
   ∃o e E,h.get? a=some o/\o.ExactDict/\o.data= .dict e E/\e.toList=X.map (entryOfKey$ tupleKind$ aP P w)/\(X.map (·.1)).Nodup
 | .set S n=>h.SetOf (intKind P w) a S n
 | .ins C d F=>H d=some (.own a)/\F.length<=1000/\d≠a/\h.get? a=some (instObj C d)/\
   ∃m,h.Ns1 d m/\(∀f,dy (F.lookup f)$ m f)/\PySem.Within m (F.map (·.1))
 | .own _=>∃o,h.get? a=some o
 | .xd F=>∃m,h.Ns1 a m/\∀f,dy (F.lookup f) (m f)
 | .rng lo l=>∃t u v,h.get? a=some { cls:=.type "range",data:=.fields (List.toArray [.int lo t,.int l u,.int 1 v]) }
 | .frz o u=>h.get? a=some o/\aN H h a u
 | .tbl r=>h.get? a=some { cls:=.none,data:=.fields r }
 | .met f x=>h.get? a=some (PySem.W.methodObj (.ref f) (.ref x))
 | .ext b=>b h/\(∃o,h.get? a=some o)/\∀g j:Heap,b g->(∀o,g.get? a=some o->j.get? a=some o)->b j
def eE(H:Hp)(h:Heap):Prop:=∀a o,H a=some o->aN P w H h a o
end
section
variable {P:Program}{w:World}{H H':Hp}{h h':Heap}{a:Addr}{o:HO}
theorem aN.lt(x:aN P w H h a o):a < h.objs.size:=by
 cases o with
 |lst X=>obtain⟨_,_,_,_,e⟩:=x;exact GY e
 |tup X=>obtain⟨_,_,_,p⟩:=x;exact p.lt
 |dK k=>obtain⟨_,_,_,_,o,_,_,e,_⟩:=x;exact GY e
 |dT k=>obtain⟨_,_,_,_,o,_,_,e,_⟩:=x;exact GY e
 |set S n=>obtain⟨o,_,_,_,e,_⟩:=x;exact GY e
 |ins C d F=>obtain⟨_,_,_,e,_⟩:=x;exact GY e
 |own y=>obtain⟨_,e⟩:=x;exact GY e
 |xd F=>obtain⟨_,⟨_,_,_,e,_⟩,_⟩:=x;exact GY e
 |rng lo b=>obtain⟨_,_,_,e⟩:=x;exact GY e
 |frz O u=>obtain⟨e,_⟩:=x;exact GY e
 |tbl c=>exact GY (show h.get? a=some _ from x)
 |met f y=>exact GY (show h.get? a=some _ from x)
 |ext g=>obtain⟨_,⟨_,e⟩,_⟩:=x;exact GY e
theorem Paired.mapP{c d:Type}{F G:c->d->Prop}:∀{l:List c} {L:List d},Paired F l L->(∀a b,F a b->G a b)->Paired G l L
 |_,_,.nil,_=>.nil
 |_,_,.cons r t,f=>.cons (f _ _ r) (Paired.mapP t f)
theorem aN.stay(x:aN P w H h a o)(k:∀b u,(b=a∨H b=some (.own a))->h.get? b=some u->h'.get? b=some u)
  (s:∀b,H b=some (.own a)->H' b=some (.own a)) (A:∀b X,H b=some (.tup X)->H' b=some (.tup X)):aN P w H' h' a o:=by
 induction o with
 |lst X=>obtain⟨z,i,n,r,e⟩:=x;exact#[z,i,n,r,k _ _ (.inl Z) e]
 |tup X=>obtain⟨z,i,r,O,e,c⟩:=x;exact#[z,i,r,O,k _ _ (.inl Z) e,c]
 |dK K=>obtain⟨z,y,V,r,O,E,g,e,c⟩:=x;exact#[z,y,V,r,O,E,g,k _ _ (.inl Z) e,c]
 |dT K=>obtain⟨z,y,X,r,O,E,g,e,c⟩:=x;exact#[z,y,X,Paired.mapP r λp q z=>#[z.1,A _ _ z.2.1,z.2.2],O,E,g,k _ _ (.inl Z) e,c]
 |set S n=>obtain⟨O,E,g,t,e,c⟩:=x;exact#[O,E,g,t,k _ _ (.inl Z) e,c]
 |ins C D F=>obtain⟨d,z,N,e,m,⟨j,E,g,B,c⟩,r⟩:=x;exact#[s _ d,z,N,k _ _ (.inl Z) e,m,#[j,E,g,k _ _ (.inr d) B,c],r]
 |own y=>obtain⟨O,e⟩:=x;exact#[O,k _ _ (.inl Z) e]
 |xd F=>obtain⟨m,⟨j,E,g,e,c⟩,r⟩:=x;exact#[m,#[j,E,g,k _ _ (.inl Z) e,c],r]
 |rng lo G=>obtain⟨t,u,v,e⟩:=x;exact#[t,u,v,k _ _ (.inl Z) e]
 |frz O u I=>obtain⟨e,q⟩:=x;exact#[k _ _ (.inl Z) e,I q]
 |tbl l=>have e:h.get? a=some { cls:=.none,data:=.fields l }:=x;show h'.get? a=some { cls:=.none,data:=.fields l };exact k a _ (.inl Z) e
 |met f y=>have e:h.get? a=some (PySem.W.methodObj (.ref f)$ .ref y):=x;show h'.get? a=some (PySem.W.methodObj (.ref f)$ .ref y);exact k a _ (.inl Z) e
 |ext J=>obtain⟨p,⟨o,e⟩,st⟩:=x;exact#[st _ _ p λo q=>k _ _ (.inl Z) q,#[o,k _ _ (.inl Z) e],st]
theorem eE.lt(x:eE P w H h)(e:H a=some o):a < h.objs.size:=(x a o e).lt
theorem eE.fresh(x:eE P w H h)(e:h.objs.size<=a):H a=none:=by
 cases q:H a with
 |none=>rfl
 |some u=>exact absurd (He (x.lt q) e) (Io _)
theorem eE.kept(x:eE P w H h)(k:∀b u,h.get? b=some u->h'.get? b=some u):eE P w H h':=λa o e=>
 (x a o e).stay (λb u _ q=>k b u q) (λ_ q=>q) λ_ _ q=>q
theorem eE.laid(x:eE P w H h)(k:∀b u,h.get? b=some u->h'.get? b=some u)(g:h.objs.size<=a)(n:aN P w (af H a o) h' a o):eE P w (af H a o) h':=λb u e=>by
 have d:=x.fresh g;by_cases f:b=a
 ·subst f;rw[jc]at e;cases e;exact n
 ·rw[ji f]at e;exact(x b u e).stay (λc v _ q=>k c v q) (λc q=>by rw[ji$ jm q d];exact q) λc X q=>by rw[ji$ jm q d];exact q
end
def Rd(H:Hp)(a:Addr)(u:HO):Prop:=H a=some u∨∃o,H a=some (.frz o u)
theorem Rd.ok{P:Program}(r:Rd H a u)(x:eE P w H h):aN P w H h a u:=by
 rcases r with r | ⟨o,r⟩
 ·exact x a u r
 ·obtain⟨_,q⟩:=x a _ r;exact q
def CQ:Option HO->Prop
 |some (.lst _)=>True
 |some (.dK _)=>True
 |some (.dT _)=>True
 |some (.set _ _)=>True
 |some (.ins _ _ _)=>True
 |some (.ext _)=>True
 |_=>False
section
variable {P:Program}{w:World}{H:Hp}{h h':Heap}{x e:Addr}{o':HO}
theorem eE.write(o:eE P w H h)(m:CQ (H x))(i:e=x∨H e=some (.own x))(k:∀b u,b≠e->h.get? b=some u->h'.get? b=some u)(f:∃u,h'.get? e=some u)
  (g:aN P w (af H x o') h' x o'):eE P w (af H x o') h':=λb u q=>by
 have n:∀c y,H c=some (.own y)->c≠x:=λc y r z=>by subst z;rw[r]at m;exact m
 have N:∀c X,H c=some (.tup X)->c≠x:=λc X r z=>by subst z;rw[r]at m;exact m
 by_cases d:b=x
 ·subst d;rw[jc]at q;cases q;exact g
 ·rw[ji d]at q;by_cases a:b=e
  ·have Q:H b=some (.own x):=by
    rcases i with z |z
    ·exact absurd (a.trans z) d
    ·rw[a];exact z
   rw[q]at Q;cases Q;obtain⟨v,j⟩:=f;exact#[v,by rw[a];exact j]
  ·refine(o b u q).stay (λc v hc r=>k c v ?_ r) (λc r=>by rw[ji$ n c b r];exact r) λc X r=>by rw[ji$ N c X r];exact r
   rcases hc with rfl |hc
   ·exact a
   ·rintro rfl;rcases i with z |z
    ·exact n c b hc z
    ·rw[hc]at z;cases z;exact d Z
end
structure Un(fs ex:List Addr)(H H':Hp)(h h':Heap):Prop where
 keep:∀b o,h.get? b=some o->H b=none->b∉fs->b∉ex->h'.get? b=some o
 slot:∀b o,h.get? b=some o->H b=none->b∈fs->b∉ex->∃sl,h'.get? b=some { o with slots:=sl }
 free:∀b o,h.get? b=some o->H b=none->b∉ex->H' b=none
 there:∀b o,h.get? b=some o->b∉ex->∃o',h'.get? b=some o'
 tups:∀b xs,H b=some (.tup xs)->H' b=some (.tup xs)
 frzs:∀b o u,H b=some (.frz o u)->H' b=some (.frz o u)
 tbls:∀b ps,H b=some (.tbl ps)->∃more,H' b=some (.tbl$ ps++more)
section
variable {fs fs' ex ex':List Addr}{H H1 H2:Hp}{h h1 h2 h':Heap}{a x e:Addr}{o:HO}
theorem Un.any(u:Un fs ex H H1 h h1)(q:h.get? b=some O)(n:H b=none)(c:b∉ex):∃s,h1.get? b=some { O with slots:=s }:=by
 by_cases d:b∈fs
 ·exact u.slot b O q n d c
 ·exact#[O.slots,u.keep b O q n d c]
theorem Un.kept(k:∀b u,h.get? b=some u->h'.get? b=some u):Un fs ex H H h h':=
 #[λb O q _ _ _=>k b O q,λb O q _ _ _=>#[O.slots,k b O q],λ_ _ _ n _=>n,λb O q _=>#[O,k b O q],λ_ _ q=>q,λ_ _ _ q=>q,λ_ p q=>#[(List.toArray []),by rw[q];simp]]
theorem Un.refl:Un fs ex H H h h:=Un.kept λ_ _ q=>q
theorem Un.laid(k:∀b u,h.get? b=some u->h'.get? b=some u)(d:h.objs.size<=a)(c:H a=none):Un fs ex H (af H a o) h h' where
 keep:=λb u q _ _ _=>k b u q
 slot:=λb u q _ _ _=>#[u.slots,k b u q]
 free:=λb u q n _=>by rw[ji$ Hd$ He (GY q) d];exact n
 there:=λb u q _=>#[u,k b u q]
 tups:=λb X q=>by rw[ji$ jm q c];exact q
 frzs:=λb u X q=>by rw[ji$ jm q c];exact q
 tbls:=λb p q=>#[(List.toArray []),by rw[ji$ jm q c,q];simp]
theorem Un.write(m:CQ (H x))(j:e=x∨H e=some (.own x))(k:∀b u,b≠e->h.get? b=some u->h'.get? b=some u)(d:∃u,h'.get? e=some u):Un fs ex H (af H x o) h h':=by
 have g:∀b,H b=none->b≠x:=λb n z=>by subst z;rw[n]at m;exact m
 have i:∀b,H b=none->b≠e:=λb n z=>by
  subst z;rcases j with r |r
  ·exact g b n r
  ·rw[n]at r;cases r
 have f:∀b u,H b=some u->¬CQ (some u)->b≠x:=λb u q N z=>by subst z;rw[q]at m;exact N m
 refine#[λb u q n _ _=>k b u (i b n) q,λb u q n _ _=>#[u.slots,k b u (i b n) q],λb u q n _=>by rw[ji$ g b n];exact n,λb u q _=>?_,
  λb X q=>by rw[ji$ f b _ q λz=>z];exact q,λb u X q=>by rw[ji$ f b _ q λz=>z];exact q,λb p q=>#[(List.toArray []),by rw[ji$ f b _ q λz=>z,q];simp]]
 by_cases c:b=e
 ·subst c;exact d
 ·exact#[u,k b u c q]
end
noncomputable def EG(h:Heap)(H:Hp):List Addr:=(List.range h.objs.size).filter λa=>(H a).isSome
noncomputable def iI(h:Heap)(H:Hp):Heap:=PySem.W.hideAll h (EG h H)
theorem Zu(h:Heap)(H:Hp):(iI h H).objs.size=h.objs.size:=PySem.W.hideAll_size _ _
theorem pZ{h:Heap}{H:Hp}(e:h.get? b=some o)(n:H b=none):(iI h H).get? b=some o:=
 PySem.W.hideAll_get _ e λa=>by have q:(H b).isSome=true:=(List.mem_filter.mp a).2;rw[n]at q;simp at q
theorem vW(e:(iI h H).get? b=some o):h.get? b=some o/\H b=none:=by
 have E:h.get? b=some o:=PySem.W.of_hideAll (EG h H) e;refine#[E,?_];cases q:H b with
 |none=>rfl
 |some x=>have a:b∈EG h H:=List.mem_filter.mpr #[List.mem_range.mpr$ GY E,by simp [q]];have z:(iI h H).get? b=none:=PySem.W.hideAll_none (EG h H) a;rw[z]at e;cases e
end _L
namespace _L
open PySem PySem.Spec PyProof.Rows
structure Mod(K:Frag)(mg:Str->Option Value)(base:Heap):Prop where
 kin:K.In base
 glob:base.Ns mainGlobals mg
 blt:∃mb,base.Ns builtinsNs mb/\∀x:Str,x≠"__name__"->mb x=bootBuiltins x
 nolimit:base.NoLimit
structure Cx where
 prog:Program
 w:World
 K:Frag
 mg:Str->Option Value
 base:Heap
 A:Around
 N:List Str
 s₀:Shared
 H₀:Hp
 env:Env
 outer:List Env
 stack:List Env
 ex:List Addr
 fn:Str->Bool
 calm:Bool
 pn:List (Addr×Obj)
 xe:Value->Shared->Prop
noncomputable def ip(l:List Env):List Addr:=l.filterMap (·.frame)
noncomputable abbrev Cx.fs(X:Cx):List Addr:=ip X.outer
def EB(s:Scope)(x:Str):Prop:=s.names.lookup x=some .local∨s.names.lookup x=some .cell∨s.names.lookup x=some .free
def pe(s:Scope)(x:Str):Prop:=s.names.lookup x=some .local∨s.names.lookup x=some .cell
def EM(e:Env)(h:Heap)(m:Str->Option Value)(x:Str)(u:Value):Prop:=
 (e.kindOf x=some .local/\m x=some u)∨((e.kindOf x=some .cell∨e.kindOf x=some .free)/\∃c,e.cells.lookup x=some c/\h.IsCell c (some u))
structure Cx.Ok(X:Cx):Prop where
 mod:Mod X.K X.mg X.base
 kind:X.env.scope.kind= .function
 glob:X.env.globals=mainGlobals
 blt:X.env.builtins=builtinsNs
 above:X.s₀.heap.objs.size<=X.env.locals
 inj:∀x y c,X.env.cells.lookup x=some c->X.env.cells.lookup y=some c->x=y
 has:∀x,(X.env.kindOf x=some .cell∨X.env.kindOf x=some .free)->∃c,X.env.cells.lookup x=some c
 cab:∀x c,X.fn x=true->X.env.cells.lookup x=some c->X.s₀.heap.objs.size<=c
 hd:X.calm=true->X.A.handled=none
 frames:X.A.frames=some X.stack
 stk:X.stack=X.outer∨(X.stack=X.env::X.outer/\X.env.frame=some X.env.locals)
 exf:∀b∈X.ex,b≠X.env.locals/\∀x c,X.env.cells.lookup x=some c->c≠b
 bs:∀b o,X.base.get? b=some o->X.s₀.heap.get? b=some o/\X.H₀ b=none
 bsz:X.base.objs.size<=X.s₀.heap.objs.size
 noex:∀b o,X.base.get? b=some o->b∉X.ex
 exfs:∀b∈X.ex,b∉X.fs
 funs:X.s₀.heap.FunFrames X.base X.outer
 frf:∀b∈X.fs,X.H₀ b=none
structure ap(X:Cx)(pins:List (Addr×Obj))(σ:List (Option V))(H:Hp)(s:Shared):Prop where
 ok:X.Ok
 os:s.os=X.s₀.os
 bare:AllBare s.gens
 base:Un X.fs X.ex X.H₀ H X.s₀.heap s.heap
 loc:∃m,s.heap.Ns X.env.locals m/\∀(i:Nat) (x:Str) (v:V),X.N[i]?=some x->σ[i]?=some (some v)->EB X.env.scope x->∃u,au v u/\EM X.env s.heap m x u
 cell:∀x c,X.env.cells.lookup x=some c->∃v,s.heap.IsCell c v
 free:H X.env.locals=none
 freeC:∀x c,X.env.cells.lookup x=some c->H c=none
 pin:∀p∈X.pn++pins,s.heap.get? p.1=some p.2/\H p.1=none/\p.1≠X.env.locals/\p.1∉X.fs/\∀v,p.2.data≠ .cell v
 hok:eE X.prog X.w H s.heap
 len:σ.length=X.N.length
section
variable {X:Cx}{pins:List (Addr×Obj)}{σ:List (Option V)}{H H':Hp}{s:Shared}{h':Heap}
theorem Cx.Ok.nofr(O:X.Ok)(e:X.base.get? b=some o):b∉X.fs:=λh=>by have:=(O.funs.mem h).1;rw[e]at this;cases this
theorem ap.bs(I:ap X pins σ H s):∀b o,X.base.get? b=some o->s.heap.get? b=some o/\H b=none:=λb o e=>
 #[I.base.keep b o (I.ok.bs b o e).1 (I.ok.bs b o e).2 (I.ok.nofr e)$ I.ok.noex b o e,I.base.free b o (I.ok.bs b o e).1 (I.ok.bs b o e).2$ I.ok.noex b o e]
theorem ap.bk(I:ap X pins σ H s):∀b o,X.base.get? b=some o->s.heap.get? b=some o:=λb o e=>(I.bs b o e).1
theorem ap.mod(I:ap X pins σ H s):Mod X.K X.mg X.base:=I.ok.mod
theorem ap.kIn(I:ap X pins σ H s):X.K.In s.heap:=I.ok.mod.kin.keeps I.bk
theorem ap.lt(I:ap X pins σ H s):X.env.locals < s.heap.objs.size:=let #[_,h,_]:=I.loc;h.lt
theorem ap.sz(I:ap X pins σ H s):X.s₀.heap.objs.size<=s.heap.objs.size:=Hh I.ok.above (Ld I.lt)
theorem ap.nofs(I:ap X pins σ H s)(h:s.heap.objs.size<=a):a∉X.fs:=λb=>by obtain⟨_,o,c,_⟩:=I.ok.funs.mem b;exact absurd (He (GY c)$ Hh I.sz h)$ Io _
theorem ap.cne(I:ap X pins σ H s):∀x c,X.env.cells.lookup x=some c->c≠X.env.locals:=λx c e z=>by obtain⟨v,o,b,d⟩:=I.cell x c e;obtain⟨m,⟨O,E,f,h,a,_⟩,_⟩:=I.loc;rw[z,h]at b;cases b;rw[a]at d;cases d
theorem ap.funs(I:ap X pins σ H s):s.heap.FunFrames X.base X.outer:=by
 have all:∀(l:List Env),(∀b∈ip l,b∈X.fs)->X.s₀.heap.FunFrames X.base l->s.heap.FunFrames X.base l:=by
  intro l;induction l with
  |nil=>intro _ _;trivial
  |cons E r i=>intro d f;obtain⟨g,⟨L,o,h,j,k,m⟩,n⟩:=f;have a:L∈X.fs:=d L (by unfold ip;rw[List.filterMap_cons,h];exact List.mem_cons_self);obtain⟨S,e⟩:=I.base.slot L o k (I.ok.frf L a) a λz=>I.ok.exfs L z a;exact#[g,#[L,_,h,j,e,m],i (λb c=>d b (by unfold ip;rw[List.filterMap_cons,h];exact List.mem_cons_of_mem _ c)) n]
 exact all X.outer (λ_ c=>c) I.ok.funs
theorem ap.stack(I:ap X pins σ H s):s.heap.FunFrames X.base X.stack:=by
 rcases I.ok.stk with e | ⟨e,h⟩
 ·rw[e];exact I.funs
 ·rw[e];obtain⟨m,a,_⟩:=I.loc;refine .cons (by rw[I.ok.kind];decide) h a ?_ I.funs;exact Heap.get?_none_of_le$ Hh I.ok.bsz I.ok.above
theorem ap.stkSub(I:ap X pins σ H s):∀b∈ip X.stack,b∈X.env.locals::X.fs:=λb h=>by
 rcases I.ok.stk with e | ⟨e,a⟩
 ·rw[e]at h;exact HD _ h
 ·rw[e]at h;unfold ip at h;rw[M6,a]at h;exact h
theorem ap.stkFree(I:ap X pins σ H s):∀b∈ip X.stack,H b=none:=λb hb=>by
 rcases List.mem_cons.mp (I.stkSub b hb) with e |hb
 ·rw[e];exact I.free
 ·obtain⟨_,o,h,_⟩:=I.ok.funs.mem hb;exact I.base.free b o h (I.ok.frf b hb) λz=>I.ok.exfs b z hb
theorem ap.step{g':Array GenState}{d':Drawn}{ch:List Addr}(I:ap X pins σ H s)
  (a:∀b∈ch,(b∈X.ex∨X.s₀.heap.objs.size<=b)/\b≠X.env.locals/\(∀x c,X.env.cells.lookup x=some c->c≠b)/\∀p∈X.pn++pins,p.1≠b)
  (K:∀b o,b≠X.env.locals->b∉X.fs->b∉ch->s.heap.get? b=some o->H b=none->h'.get? b=some o)
  (S:∀b o,b≠X.env.locals->b∈X.fs->b∉ch->s.heap.get? b=some o->H b=none->∃J,h'.get? b=some { o with slots:=J }) (f:∀b o,b∉ch->s.heap.get? b=some o->H b=none->H' b=none)
  (t:∀b o,b∉ch->s.heap.get? b=some o->∃O,h'.get? b=some O)
  (T:∀b j,H b=some (.tup j)->H' b=some (.tup j)) (F:∀b o u,H b=some (.frz o u)->H' b=some (.frz o u)) (B:∀b P,H b=some (.tbl P)->∃M,H' b=some (.tbl$ P++M))
  (ns:∀m,s.heap.Ns X.env.locals m->h'.Ns X.env.locals m) (L:eE X.prog X.w H' h') (hg:AllBare g'):
  ap X pins σ H' { s with heap:=h',gens:=g',drawn:=d',toks:=t' }:=by
 have D:∀b o,X.s₀.heap.get? b=some o->b≠X.env.locals:=λb o e=>Hd (He (GY e) I.ok.above);have g:∀b o,X.s₀.heap.get? b=some o->b∉X.ex->b∉ch:=λb o e h y=>by
  rcases(a b y).1 with z |z
  ·exact h z
  ·exact absurd (He (GY e) z)$ Io _
 have C:∀x c,X.env.cells.lookup x=some c->∀v,s.heap.IsCell c v->h'.IsCell c v:=λx c e v #[o,A,Q]=>by
  have N:c∉ch:=λz=>(a c z).2.2.1 x c e Z;by_cases U:c∈X.fs
  ·obtain⟨J,q⟩:=S c o (I.cne x c e) U N A (I.freeC x c e);exact#[_,q,Q]
  ·exact#[o,K c o (I.cne x c e) U N A$ I.freeC x c e,Q]
 refine#[I.ok,I.os,hg,#[λb o e n y h=>?_,λb o e n y h=>?_,λb o e n h=>?_,λb o e h=>?_,λb j e=>T b j (I.base.tups b j e),λb o j e=>F b o j (I.base.frzs b o j e),λb P e=>?_],?_,λx c e=>?_,?_,λx c e=>?_,λp W=>?_,L,I.len]
 ·exact K b o (D b o e) y (g b o e h) (I.base.keep b o e n y h)$ I.base.free b o e n h
 ·obtain⟨J,E⟩:=I.base.slot b o e n y h;obtain⟨R,G⟩:=S b _ (D b o e) y (g b o e h) E (I.base.free b o e n h);exact#[R,G]
 ·obtain⟨O,E⟩:=I.base.there b o e h;exact f b O (g b o e h) E$ I.base.free b o e n h
 ·obtain⟨O,E⟩:=I.base.there b o e h;exact t b O (g b o e h) E
 ·obtain⟨m1,E⟩:=I.base.tbls b P e;obtain⟨m2,G⟩:=B b _ E;exact#[m1++m2,by rw[G,Array.append_assoc]]
 ·obtain⟨m,hn,hl⟩:=I.loc;refine#[m,ns m hn,λi x v E G e3=>?_];obtain⟨u,r,l⟩:=hl i x v E G e3;refine#[u,r,?_];rcases l with l | ⟨k,c,e,z⟩
  ·exact .inl l
  ·exact .inr #[k,c,e,C x c e _ z]
 ·obtain⟨v,z⟩:=I.cell x c e;exact#[v,C x c e v z]
 ·obtain⟨m,⟨o,_,_,A,_⟩,_⟩:=I.loc;exact f _ o (λz=>(a _ z).2.1 Z) A I.free
 ·obtain⟨v,o,A,Q⟩:=I.cell x c e;exact f c o (λz=>(a c z).2.2.1 x c e Z) A$ I.freeC x c e
 ·obtain⟨e,n,Y,nf,d⟩:=I.pin p W;have N:p.1∉ch:=λz=>(a p.1 z).2.2.2 p W Z;exact#[K p.1 p.2 Y nf N e n,f p.1 p.2 N e n,Y,nf,d]
theorem ap.un{t':Nat}(I:ap X pins σ H s)(u:Un X.fs [] H H' s.heap h')(a:eE X.prog X.w H' h'):ap X pins σ H' { s with heap:=h',toks:=t' }:=by
 obtain⟨m,⟨o,j,k,f,r⟩,_⟩:=id I.loc;obtain⟨S,g⟩:=u.any f I.free RV;exact I.step (g':=s.gens) (d':=s.drawn) (ch:=[]) (λ_ z=>nomatch z) (λb o _ c _ e n=>u.keep b o e n c RV) (λb o _ c _ e n=>u.slot b o e n c RV) (λb o _ e n=>u.free b o e n RV) (λb o _ e=>u.there b o e RV) u.tups u.frzs u.tbls (λM i=>by
  obtain⟨O,E,d,h,R⟩:=i;rw[f]at h;cases h;exact#[_,E,d,g,R]) a I.bare
theorem ap.call{g':Array GenState}{t':Nat}{d':Drawn}{ch:List Addr}(I:ap X pins σ H s)(u:Un (ip X.stack) ch H H' s.heap h')(f:eE X.prog X.w H' h')(k:AllBare g')
  (a:∀b∈ch,(b∈X.ex∨X.s₀.heap.objs.size<=b)/\b≠X.env.locals/\(∀x c,X.env.cells.lookup x=some c->c≠b)/\∀p∈X.pn++pins,p.1≠b):
  ap X pins σ H' { s with heap:=h',gens:=g',drawn:=d',toks:=t' }:=by
 obtain⟨m,⟨o,t,v,j,r⟩,_⟩:=id I.loc;obtain⟨S,g⟩:=u.any j I.free λz=>(a _ z).2.1 Z;exact I.step (ch:=ch) a (λb o g l h e n=>u.keep b o e n (λz=>(List.mem_cons.mp$ I.stkSub b z).elim g l) h) (λb o _ _ h e n=>u.any e n h) (λb o h e n=>u.free b o e n h) (λb o h e=>u.there b o e h) u.tups u.frzs u.tbls (λM q=>by
  obtain⟨O,E,i,d,R⟩:=q;rw[j]at d;cases d;exact#[_,E,i,g,R]) f k
theorem ap.turned{t':Nat}{it:Addr}(I:ap X pins σ H s)(k:∀b o,b≠it->s.heap.get? b=some o->h'.get? b=some o)(d:H it=none)(a:it≠X.env.locals)
  (f:it∈X.ex∨X.s₀.heap.objs.size<=it) (g:∀x c,X.env.cells.lookup x=some c->c≠it) (i:∀p∈X.pn++pins,p.1≠it):ap X pins σ H { s with heap:=h',toks:=t' }:=by
 have N:∀b u,H b=some u->b≠it:=λb u e z=>by rw[z,d]at e;cases e
 refine I.step (g':=s.gens) (d':=s.drawn) (ch:=[it]) (λb j=>?_) (λb o _ _ h e _=>k b o (λz=>h (by simp [z])) e) (λb o _ _ h e _=>#[o.slots,k b o (λz=>h (by simp [z])) e]) (λ_ _ _ _ n=>n)
  (λb o h e=>#[o,k b o (λz=>h (by simp [z])) e]) (λ_ _ e=>e) (λ_ _ _ e=>e) (λb P e=>#[(List.toArray []),by rw[e];simp]) (λm l=>?_) (λb u e=>?_) I.bare
 ·have e:b=it:=by simpa using j
  subst e;exact#[f,a,g,i]
 ·obtain⟨o,E,t,w,r⟩:=l;exact#[o,E,t,k _ o (HI a) w,r]
 ·refine(I.hok b u e).stay (λc v h q=>k c v ?_ q) (λ_ q=>q) λ_ _ q=>q;rcases h with z |z
  ·rw[z];exact N b u e
  ·exact N c _ z
theorem ap.tok(I:ap X pins σ H s)(t:Nat):ap X pins σ H { s with toks:=t }:=I.un (h':=s.heap) (t':=t) Un.refl I.hok
theorem ap.kept{t':Nat}(I:ap X pins σ H s)(k:∀b u,s.heap.get? b=some u->h'.get? b=some u):ap X pins σ H { s with heap:=h',toks:=t' }:=I.un (Un.kept k) (I.hok.kept k)
theorem ap.laid{a:Addr}{o:HO}{t':Nat}(I:ap X pins σ H s)(k:∀b u,s.heap.get? b=some u->h'.get? b=some u)(h:s.heap.objs.size<=a)(n:aN X.prog X.w (af H a o) h' a o):
  ap X pins σ (af H a o) { s with heap:=h',toks:=t' }:=I.un (Un.laid k h$ I.hok.fresh h) (I.hok.laid k h n)
theorem ap.write{x e:Addr}{o:HO}{t':Nat}(I:ap X pins σ H s)(m:CQ (H x))(a:e=x∨H e=some (.own x))(k:∀b u,b≠e->s.heap.get? b=some u->h'.get? b=some u)(h:∃u,h'.get? e=some u)
  (n:aN X.prog X.w (af H x o) h' x o):ap X pins σ (af H x o) { s with heap:=h',toks:=t' }:=I.un (Un.write m a k h) (I.hok.write m a k h n)
theorem ap.pins_of{pins':List (Addr×Obj)}(I:ap X pins σ H s)(h:∀p∈pins',s.heap.get? p.1=some p.2/\H p.1=none/\p.1≠X.env.locals/\p.1∉X.fs/\∀v,p.2.data≠ .cell v):ap X pins' σ H s:=
 #[I.ok,I.os,I.bare,I.base,I.loc,I.cell,I.free,I.freeC,λp a=>(List.mem_append.mp a).elim (λz=>I.pin p (Iy _ z)) (h p),I.hok,I.len]
theorem Kn{N:List Str}(h:N.Nodup){i j:Nat}{x:Str}(a:N[i]?=some x)(b:N[j]?=some x):i=j:=by obtain⟨c,e⟩:=List.getElem?_eq_some_iff.mp a;obtain⟨d,E⟩:=List.getElem?_eq_some_iff.mp b;exact(List.getElem_inj h).mp (e.trans E.symm)
theorem Qp{v:V}{Q:Unit->Shared->Prop}(I:ap X pins σ H s)(hN:X.N.Nodup)(L:X.N[i]?=some x)(l:pe X.env.scope x)(r:au v u)
  (h:∀s',ap X pins (σ.set i$ some v) H s'->(∃a,Heap.SameBut a s.heap s'.heap/\(a=X.env.locals∨X.env.cells.lookup x=some a))->Q () s') (hf:X.fn x=true∨X.env.scope.names.lookup x=some .local:=by first |exact .inl Z |exact .inr Z |assumption):wpAny M A (storeName X.env x u) Q E s:=by
 obtain⟨m,hn,hl⟩:=id I.loc;have O:(X.env.scope.kind== .class||(X.env.scope.kind== .module&&X.env.locals != X.env.globals))=false:=by rw[I.ok.kind];rfl
 have D:i < σ.length:=by rw[I.len];exact(List.getElem?_eq_some_iff.mp L).1
 have F:=I.cne;have t:∀{a:Addr} {h':Heap},(∃o,s.heap.get? a=some o/\H a=none)->Heap.SameBut a s.heap h'->eE X.prog X.w H h':=λ{a h'} ha f b ob e=>by
  obtain⟨_,_,B⟩:=ha;refine(I.hok b ob e).stay (λc W hc q=>(f.2 c ?_).trans q) (λ_ q=>q) λ_ _ q=>q;rintro rfl;rcases hc with rfl |hc
  ·rw[B]at e;cases e
  ·rw[B]at hc;cases hc
 rcases l with hk |hk
 ·refine wpAny_storeName_local hk hn (λh' h0 f=>?_) O;obtain⟨oL,_,_,h1,_⟩:=id hn;refine h _ #[I.ok,I.os,I.bare,#[λb o e n G l=>?_,λb o e n G l=>?_,I.base.free,λb o e l=>?_,I.base.tups,I.base.frzs,I.base.tbls],#[_,h0,λj y v' g C e3=>?_],λy c e=>?_,I.free,I.freeC,λp hp=>?_,t #[oL,h1,I.free] f,by simpa using I.len] #[_,f,.inl Z]
  ·exact(f.2 b$ Hd$ He (GY e) I.ok.above).trans (I.base.keep b o e n G l)
  ·obtain⟨sl,g⟩:=I.base.slot b o e n G l;exact#[sl,(f.2 b$ Hd$ He (GY e) I.ok.above).trans g]
  ·obtain⟨o',g⟩:=I.base.there b o e l;exact#[o',(f.2 b$ Hd$ He (GY e) I.ok.above).trans g]
  ·by_cases J:j=i
   ·subst J;rw[L]at g;cases g;rw[IS D]at C;cases C;exact#[u,r,.inl #[hk,RV]]
   ·rw[IK$ HI J]at C;obtain⟨u',r',q⟩:=hl j y v' g C e3;refine#[u',r',?_];rcases q with ⟨k,e⟩ | ⟨k,c,e,z⟩
    ·refine .inl #[k,?_];have:y≠x:=λe=>J (Kn hN g$ e▸L);simp [this,e]
    ·exact .inr #[k,c,e,z.sameBut f$ F y c e]
  ·obtain⟨W,z⟩:=I.cell y c e;exact#[W,z.sameBut f$ F y c e]
  ·obtain⟨e,n,U,nf,d⟩:=I.pin p hp;exact#[(f.2 p.1 U).trans e,n,U,nf,d]
 ·have K:X.fn x=true:=by
   rcases hf with z |z
   ·exact z
   ·rw[z]at hk;cases hk
  obtain⟨c,hc⟩:=I.ok.has x (.inl hk);obtain⟨W,z⟩:=I.cell x c hc;refine wpAny_storeName_cell I.ok.kind hk hc z (λh' P f=>?_);obtain⟨oc,R,S⟩:=id z;refine h { s with heap:=h' } #[I.ok,I.os,I.bare,#[λb o e n G l=>?_,λb o e n G l=>?_,I.base.free,λb o e l=>?_,I.base.tups,I.base.frzs,I.base.tbls],#[m,hn.sameBut f$ HI$ F x c hc,λj y v' g C e3=>?_],λy Y e=>?_,I.free,I.freeC,λp hp=>?_,t #[oc,R,I.freeC x c hc] f,by simpa using I.len] #[c,f,.inr hc]
  ·exact(f.2 b$ Hd$ He (GY e)$ I.ok.cab x c K hc).trans (I.base.keep b o e n G l)
  ·obtain⟨sl,g⟩:=I.base.slot b o e n G l;exact#[sl,(f.2 b$ Hd$ He (GY e)$ I.ok.cab x c K hc).trans g]
  ·obtain⟨o',g⟩:=I.base.there b o e l;exact#[o',(f.2 b$ Hd$ He (GY e)$ I.ok.cab x c K hc).trans g]
  ·by_cases J:j=i
   ·subst J;rw[L]at g;cases g;rw[IS D]at C;cases C;exact#[u,r,.inr #[.inl hk,c,hc,P]]
   ·rw[IK$ HI J]at C;obtain⟨u',r',q⟩:=hl j y v' g C e3;refine#[u',r',?_];rcases q with q | ⟨k,Y,e,z'⟩
    ·exact .inl q
    ·refine .inr #[k,Y,e,z'.sameBut f ?_];rintro rfl;exact J$ Kn hN g$ I.ok.inj _ _ _ e hc▸L
  ·by_cases T:Y=c
   ·subst T;exact#[_,P]
   ·obtain⟨w2,z2⟩:=I.cell y Y e;exact#[w2,z2.sameBut f T]
  ·obtain⟨e,n,U,nf,d⟩:=I.pin p hp;refine#[(f.2 p.1 ?_).trans e,n,U,nf,d];intro q;rw[q,R]at e;have q':oc=p.2:=HQ e;exact d W (by rw[<- q'];exact S)
theorem kQ{v:V}{Q:Unit->Shared->Prop}(I:ap X pins σ H s)(a:X.N.Nodup)(b:X.N[i]?=some x)(c:pe X.env.scope x)(r:au v u)
  (h:∀S,ap X pins (σ.set i$ some v) H S->Q () S) (d:X.fn x=true∨X.env.scope.names.lookup x=some .local:=by first |exact .inl Z |exact .inr Z |assumption):wpAny M A (storeName X.env x u) Q E s:=
 Qp I a b c r (λS e _=>h S e) d
theorem ap.call'{S:Shared}{ch:List Addr}(I:ap X pins σ H s)(d:S.os=s.os)(u:Un (ip X.stack) ch H H' s.heap S.heap)(h:eE X.prog X.w H' S.heap)(f:AllBare S.gens)
  (a:∀b∈ch,(b∈X.ex∨X.s₀.heap.objs.size<=b)/\b≠X.env.locals/\(∀x c,X.env.cells.lookup x=some c->c≠b)/\∀p∈X.pn++pins,p.1≠b):ap X pins σ H' S:=by
 obtain⟨h',g',d',t',o⟩:=S;have e:o=s.os:=d;subst e;exact I.call (g':=g') (t':=t') (d':=d') u h f a
end
abbrev XK:=Value->Option Addr->Hp->Prop
abbrev St:=List (Option V)
abbrev VK:=V->Hp->Prop
abbrev TE:=St->Hp->VK->Prop
abbrev TT:=St->Hp->(Bool->Hp->Prop)->Prop
abbrev TA:=St->Hp->(List V->Hp->Prop)->Prop
structure aW where
 nx:St->Hp->Prop
 rt:VK
 bk:St->Hp->Prop:=λ_ _=>False
 ct:St->Hp->Prop:=λ_ _=>False
abbrev TS:=aW->St->Hp->Prop
inductive EP(X:Cx)(a:List (Addr×Obj))(d:St)(Q:VK)(u:Value)(c:Shared):Prop
 |mk(v b:_)(_:ap X a d b c)(_:au v u)(_:Q v b)
inductive TP(X:Cx)(a:List (Addr×Obj))(e:St)(Q:Bool->Hp->Prop)(b:Bool)(d:Shared):Prop
 |mk(c:_)(_:ap X a e c d)(_:Q b c)
inductive AP(X:Cx)(a:List (Addr×Obj))(f:St)(Q:List V->Hp->Prop)(d:List Value)(c:Shared):Prop
 |mk(e b:_)(_:ap X a f b c)(_:aw e d)(_:Q e b)
def SP(X:Cx)(p:List (Addr×Obj))(D:aW)(f:Flow)(s:Shared):Prop:=
 match f with
 | .next=>∃a H,ap X p a H s/\D.nx a H
 | .brk=>∃a H,ap X p a H s/\D.bk a H
 | .cont=>∃a H,ap X p a H s/\D.ct a H
 | .ret u=>∃v a H,ap X p a H s/\au v u/\D.rt v H
def PE(X:Cx)(e:Expr)(t:TE):Prop:=
 ∀(p:List (Addr×Obj)) (s:Shared) (a:St) (H:Hp) (Q:VK),ap X p a H s->t a H Q->wpAny (model X.prog X.w) X.A (eval e X.env) (EP X p a Q) X.xe s
def PT(X:Cx)(e:Expr)(t:TT):Prop:=
 ∀(p:List (Addr×Obj)) (s:Shared) (a:St) (H:Hp) (Q:Bool->Hp->Prop),ap X p a H s->t a H Q->wpAny (model X.prog X.w) X.A (isTrue e X.env$ eval e X.env) (TP X p a Q) X.xe s
def PW(X:Cx)(e:Expr)(t:TT):Prop:=
 ∀(W:Sem Value) (p:List (Addr×Obj)) (s:Shared) (a:St) (H:Hp) (Q:Bool->Hp->Prop),ap X p a H s->t a H Q->wpAny (model X.prog X.w) X.A (isTrue e X.env W) (TP X p a Q) X.xe s
theorem PW.pt{X:Cx}{e:Expr}{t:TT}(h:PW X e t):PT X e t:=h _
def PA(X:Cx)(e:List Expr)(t:TA):Prop:=
 ∀(P:Pos) (p:List (Addr×Obj)) (s:Shared) (a:St) (H:Hp) (Q:List V->Hp->Prop),ap X p a H s->t a H Q->wpAny (model X.prog X.w) X.A (spliced$ backTo P$ starEach e X.env) (AP X p a Q) X.xe s
def PS(X:Cx)(st:Stmt)(t:TS):Prop:=
 ∀(p:List (Addr×Obj)) (s:Shared) (a:St) (H:Hp) (D:aW),ap X p a H s->t D a H->wpAny (model X.prog X.w) X.A (exec st X.env) (SP X p D) X.xe s
def iG(X:Cx)(st:List Stmt)(t:TS):Prop:=
 ∀(p:List (Addr×Obj)) (s:Shared) (a:St) (H:Hp) (D:aW),ap X p a H s->t D a H->wpAny (model X.prog X.w) X.A (execs st X.env) (SP X p D) X.xe s
theorem aK{b:Type}{t:Sem b}{Q q:b->Shared->Prop}{M:Model}{A:Around}{E:Value->Shared->Prop}{s:Shared}(h:wpAny M A t Q E s)(H:∀a s,Q a s->q a s):wpAny M A t q E s:=Ib h H λ_ _ x=>x
section
variable {X:Cx}
inductive aX(i:Nat)(a:St)(H:Hp)(Q:VK):Prop
 |mk(v:_)(_:a[i]?=some (some v))(_:Q v H)
def tC(v:V):TE:=λ_ H Q=>Q v H
theorem Br(j:X.N[i]?=some x)(k:EB X.env.scope x)(b:(x==("__debug__":Str))=false:=by decide)(d:(x==("__classdict__":Str))=false:=by decide):PE X (.Name x n) (aX i):=by
 intro p s o H Q I h;obtain⟨v,e,h⟩:=h;obtain⟨m,q,t⟩:=I.loc;obtain⟨u,r,l⟩:=t i x v j e k;have f:EP X p o Q u s:=#[v,H,I,r,h];rcases l with ⟨hk,w⟩ | ⟨hk,c,g,a⟩
 ·exact Pr (O3 I.ok.kind hk q w f) b
 ·rcases hk with hk |hk
  ·exact Pr (Pf I.ok.kind hk g a f) b
  ·exact Pr (wpAny_loadName_free I.ok.kind hk g a f d) b
theorem jf{i j p}:PE X (.Constant (.int i) j p) (tC$ .int i):=λ_ _ _ H _ I h=>wpAny_Constant_int #[.int i,H,I.tok _,#[_,Z],h]
theorem sg{b j p}:PE X (.Constant (.bool b) j p) (tC$ .bl b):=λ_ _ _ H _ I h=>Constant_bool #[.bl b,H,I,Z,h]
theorem QM{j p}:PE X (.Constant .none j p) (tC .non):=λ_ _ _ H _ I h=>Constant_none #[.non,H,I,Z,h]
theorem jk{x j p}:PE X (.Constant (.str x) j p) (tC$ .str x):=λ_ _ _ H _ I h=>Calls.Constant_str #[.str x,H,I.tok _,#[_,Z],h]
def Gl(X:Cx)(x:Str):Prop:=X.env.kindOf x=some .globalImplicit
theorem zb{Q:Value->Shared->Prop}(I:ap X p e H s)(a:Gl X x)(b:X.mg x=some u)(h:Q u s)
  (c:(x==("__debug__":Str))=false:=by decide):wpAny (model X.prog X.w) X.A (eval (.Name x d) X.env) Q E s:=
 NC I.ok.kind a (Calls.loadGlobal_global (by rw[I.ok.glob];exact I.mod.glob.keeps I.bk) b h) c
theorem zU{Q:Value->Shared->Prop}(I:ap X p j H s)(a:Gl X x)(b:X.mg x=none)(c:bootBuiltins x=some u)(h:Q u s)
  (d:x≠"__name__":=by decide) (e:(x==("__debug__":Str))=false:=by decide):wpAny (model X.prog X.w) X.A (eval (.Name x f) X.env) Q E s:=by
 obtain⟨m,g,i⟩:=I.mod.blt;exact NC I.ok.kind a (Calls.loadGlobal_builtin (by rw[I.ok.glob];exact I.mod.glob.keeps I.bk) b (by rw[I.ok.blt];exact g.keeps I.bk) ((i x d).trans c) h) e
theorem qt{v:V}(a:Gl X x)(b:X.mg x=some u)(r:au v u)(c:(x==("__debug__":Str))=false:=by decide):PE X (.Name x p) (tC v):=
 λ_ _ _ H _ I h=>zb I a b #[v,H,I,r,h] c
variable {a b:Expr}{ta tb:TE}{pos:Pos}
def PC(X:Cx)(o:CmpOp)(a b:Expr)(t:TE):Prop:=
 ∀(p:List (Addr×Obj)) (s:Shared) (d:St) (H:Hp) (Q:VK),ap X p d H s->t d H Q->
  wpAny (model X.prog X.w) X.A (eval a X.env) (λv S=>wpAny (model X.prog X.w) X.A (eval b X.env) (λu c=>wpAny (model X.prog X.w) X.A (compareOp o v u) (EP X p d Q) X.xe c) X.xe S) X.xe s
def FG(ta:TE):TE:=λc H Q=>ta c H λx h=>Q (.bl$ decide$ x= .non) h
theorem au.none_iff(r:au x v):(v==Value.none)=decide (x= .non):=by
 cases x with
 |non=>cases r;rfl
 |bl _=>cases r;rfl
 |int _=>obtain⟨t,rfl⟩:=r;rfl
 |str _=>obtain⟨t,rfl⟩:=r;rfl
 |byt _=>obtain⟨t,rfl⟩:=r;rfl
 |flt _=>obtain⟨t,rfl⟩:=r;rfl
 |ref _=>cases r;rfl
 |ty _=>cases r;rfl
theorem Bo{j p}(c:PE X a ta):PC X .Is a (.Constant .none j p) (FG ta):=by intro P s d H Q I h;refine aK (c P s d H _ I h) λv S z=>?_;obtain⟨x,e,i,r,q⟩:=z;exact Constant_none$ is_none_gen #[.bl _,e,i,by rw[r.none_iff];rfl,q]
inductive Gh(Q:Bool->Hp->Prop)(x:V)(a:Hp):Prop
 |mk(c:_)(_:x= .bl c)(_:Q c a)
def tB(t:TE):TT:=λc H Q=>t c H (Gh Q)
theorem sE(h:PC X o a b t)(e:behindInMarks o b=false:=by first |exact n _ RT RT |rfl):PT X (.Compare a [o] [b] pos) (tB t):=by intro p s f H Q I g;refine OW (aK (h p s f H _ I g) λv S e=>aK e λu m i=>aK i λc w z=>?_) e;obtain⟨x,j,k,r,l⟩:=z;obtain⟨d,rfl,q⟩:=l;cases r;exact Lw #[j,k,q]
variable {tA tB':TT}{rest:List Expr}
def Fy(t u:TT):TT:=λd H Q=>t d H λc h=>if c=true then u d h Q else Q false h
def Gv(t u:TT):TT:=λd H Q=>t d H λc h=>if c=true then Q true h else u d h Q
def FH(t:TT):TT:=λd H Q=>t d H λc h=>Q (!c) h
theorem qu(d:PT X a tA):PW X (.BoolOp .And [a] pos) tA:=by
 intro w p s f H Q I h;refine isTrue_and$ aK (d p s f H Q I h) λc S e=>?_;cases c with
 |true=>exact isTrue_and_nil e
 |false=>exact e
theorem Jj(d:PT X a tA):PW X (.BoolOp .Or [a] pos) tA:=by
 intro w p s f H Q I h;refine isTrue_or$ aK (d p s f H Q I h) λc S e=>?_;cases c with
 |false=>exact isTrue_or_nil e
 |true=>exact e
theorem Jk(f:PT X a tA)(g:PW X (.BoolOp .And (b::rest) pos) tB'):PW X (.BoolOp .And (a::b::rest) pos) (Fy tA tB'):=by
 intro w p s d H Q I h;refine isTrue_and$ aK (f p s d H _ I h) λc S z=>?_;obtain⟨e,i,q⟩:=z;cases c with
 |true=>exact g w p S d e Q i q
 |false=>exact#[e,i,q]
theorem Qm(f:PT X a tA)(g:PW X (.BoolOp .Or (b::rest) pos) tB'):PW X (.BoolOp .Or (a::b::rest) pos) (Gv tA tB'):=by
 intro w p s d H Q I h;refine isTrue_or$ aK (f p s d H _ I h) λc S z=>?_;obtain⟨e,i,q⟩:=z;cases c with
 |true=>exact#[e,i,q]
 |false=>exact g w p S d e Q i q
theorem Bt(e:PT X a tA):PT X (.UnaryOp .Not a pos) (FH tA):=by intro p s f H Q I h;exact isTrue_not$ aK (e p s f H (λc d=>Q (!c) d) I h) λc S #[d,i,q]=>#[d,i,q]
def Gu(t:TT)(ta tb:TE):TE:=λd H Q=>t d H λc h=>if c=true then ta d h Q else tb d h Q
theorem ze(g:PT X c tA)(j:PE X a ta)(k:PE X b tb):PE X (.IfExp c a b pos) (Gu tA ta tb):=by
 intro p s e H Q I h;refine wpAny_IfExp$ aK (g p s e H _ I h) λd S z=>?_;obtain⟨f,i,q⟩:=z;cases d with
 |true=>exact j p S e f Q i q
 |false=>exact k p S e f Q i q
end
def aB(K:Frag)(H:Hp)(a:Addr)(x:List V):Prop:=
 Rd H a (.lst x)∨
  ∃(o:Obj) (i:Array Value) (n:Nat),K.lookup a=some o/\o.cls= .type "list"/\o.dict=none/\o.data= .seq i n/\i.size<=sizeLine/\aw x i.toList
def ax(K:Frag)(H:Hp)(a:Addr)(x:List V):Prop:=
 Rd H a (.tup x)∨
  ∃(o:Obj) (i:Array Value) (n:Nat),K.lookup a=some o/\o.cls= .type "tuple"/\o.data= .seq i n/\i.size<=sizeLine/\aw x i.toList
noncomputable def EV:Value->Option V
 | .none=>some .non
 | .bool b=>some (.bl b)
 | .int i _=>some (.int i)
 | .str x _=>some (.str x)
 | .bytes b _=>some (.byt b)
 | .float b _=>some (.flt b)
 | .ref a=>some (.ref a)
 | .type n=>some (.ty n)
 |_=>none
theorem au.abs(r:au x u):EV u=some x:=by
 cases x with
 |non=>cases r;rfl
 |bl _=>cases r;rfl
 |int _=>obtain⟨t,rfl⟩:=r;rfl
 |str _=>obtain⟨t,rfl⟩:=r;rfl
 |byt _=>obtain⟨t,rfl⟩:=r;rfl
 |flt _=>obtain⟨t,rfl⟩:=r;rfl
 |ref _=>cases r;rfl
 |ty _=>cases r;rfl
theorem au.inj{x:V}(r:au x u)(q:au y u):x=y:=HQ (r.abs.symm.trans q.abs)
theorem aw.inj:∀{x y:List V} {u:List Value},aw x u->aw y u->x=y
 |_,_,_,.nil,.nil=>rfl
 |_,_,_,.cons r t,.cons R T=>by rw[r.inj R,aw.inj t T]
section
variable {X:Cx}{pins:List (Addr×Obj)}{σ:St}{H:Hp}{s:Shared}{a:Addr}{xs ys:List V}
theorem aB.of{K:Frag}(h:H a=some (.lst xs)):aB K H a xs:=.inl (.inl h)
theorem ax.of{K:Frag}(h:H a=some (.tup xs)):ax K H a xs:=.inl (.inl h)
theorem ap.list(I:ap X pins σ H s)(h:aB X.K H a xs):∃i:List Value,aw xs i/\PlainL s.heap a i.toArray/\xs.length<=sizeLine:=by
 rcases h with h | ⟨o,i,n,b,c,d,f,g,r⟩
 ·obtain⟨z,i,n,r,e⟩:=h.ok I.hok;exact#[i,r,#[_,n,e,Z,Z,Z],z]
 ·refine#[i.toList,r,#[o,n,I.kIn a o b,c,d,by simpa using f],?_];have e:=r.length;simp only[HE]at e;omega
theorem ap.tuple(I:ap X pins σ H s)(h:ax X.K H a xs):∃i:List Value,aw xs i/\IsTup s.heap a i.toArray/\xs.length<=sizeLine:=by
 rcases h with h | ⟨o,i,n,b,c,d,f,r⟩
 ·obtain⟨z,i,r,p⟩:=h.ok I.hok;exact#[i,r,p,z]
 ·refine#[i.toList,r,#[o,I.kIn a o b,c,n,by simpa using d],?_];have e:=r.length;simp only[HE]at e;omega
theorem ap.list_inj(I:ap X pins σ H s)(h:aB X.K H a xs)(c:aB X.K H a ys):xs=ys:=by
 obtain⟨b,r,⟨o,n,e,_,_,d⟩,_⟩:=I.list h;obtain⟨i,R,⟨O,N,E,_,_,D⟩,_⟩:=I.list c;rw[e]at E;cases E;rw[d]at D;injection D with f _;have:b=i:=by simpa using Iq Array.toList f
 subst this;exact r.inj R
theorem ap.tuple_inj(I:ap X pins σ H s)(h:ax X.K H a xs)(c:ax X.K H a ys):xs=ys:=by
 obtain⟨b,r,⟨o,e,_,n,d⟩,_⟩:=I.tuple h;obtain⟨i,R,⟨O,E,_,N,D⟩,_⟩:=I.tuple c;rw[e]at E;cases E;rw[d]at D;injection D with f _;have:b=i:=by simpa using Iq Array.toList f
 subst this;exact r.inj R
end
noncomputable abbrev Cx.wish(X:Cx)(E:Value->Shared->Prop):Cx:={ X with xe:=E }
noncomputable abbrev Cx.nox(X:Cx):Cx:=X.wish λ_ _=>False
theorem Cx.Ok.wish{X:Cx}(o:X.Ok)(E:Value->Shared->Prop):(X.wish E).Ok:=
 #[o.mod,o.kind,o.glob,o.blt,o.above,o.inj,o.has,o.cab,o.hd,o.frames,o.stk,o.exf,o.bs,o.bsz,o.noex,o.exfs,o.funs,o.frf]
theorem Cx.Ok.unwish{X:Cx}(o:(X.wish E).Ok):X.Ok:=
 #[o.mod,o.kind,o.glob,o.blt,o.above,o.inj,o.has,o.cab,o.hd,o.frames,o.stk,o.exf,o.bs,o.bsz,o.noex,o.exfs,o.funs,o.frf]
section
variable {X:Cx}{pins:List (Addr×Obj)}{σ:St}{H:Hp}{s:Shared}{E:Value->Shared->Prop}
theorem ap.wish(I:ap X pins σ H s)(E:Value->Shared->Prop):ap (X.wish E) pins σ H s:=#[I.ok.wish E,I.os,I.bare,I.base,I.loc,I.cell,I.free,I.freeC,I.pin,I.hok,I.len]
theorem ap.unwish(I:ap (X.wish E) pins σ H s):ap X pins σ H s:=#[I.ok.unwish,I.os,I.bare,I.base,I.loc,I.cell,I.free,I.freeC,I.pin,I.hok,I.len]
theorem SP.unwish(h:SP (X.wish E) pins D f c):SP X pins D f c:=by
 cases f with
 |next=>obtain⟨a,b,I,q⟩:=h;exact#[a,b,I.unwish,q]
 |brk=>obtain⟨a,b,I,q⟩:=h;exact#[a,b,I.unwish,q]
 |cont=>obtain⟨a,b,I,q⟩:=h;exact#[a,b,I.unwish,q]
 |ret u=>obtain⟨v,a,b,I,r,q⟩:=h;exact#[v,a,b,I.unwish,r,q]
theorem iG.nox{st:List Stmt}(h:iG X.nox st t):iG X st t:=λpins s σ H D I a=>
 Ib (h pins s σ H D (I.wish _) a) (λ_ _ q=>q.unwish) λ_ _ z=>False.elim z
end
section
variable {X:Cx}{st:Stmt}{rest:List Stmt}{t u:TS}{e:Expr}{te:TE}{pos:Pos}
def uq:TS:=λD a H=>D.nx a H
def gj(t u:TS):TS:=λD a H=>t { D with nx:=u D } a H
theorem jp:iG X [] uq:=λ_ _ a H _ I h=>Lg #[a,H,I,h]
theorem je(b:PS X st t)(c:iG X rest u):iG X (st::rest) (gj t u):=by
 intro p s d H D I h;refine MU$ aK (b p s d H { D with nx:=u D } I h) λf S q=>?_;cases f with
 |next=>obtain⟨a,g,i,q⟩:=q;exact c p S a g D i q
 |ret v=>exact q
 |brk=>exact q
 |cont=>exact q
theorem jg(a:PS X st t):iG X [st] t:=by
 intro p s b H D I h;refine MU$ aK (a p s b H D I h) λf S q=>?_;cases f with
 |next=>exact Lg q
 |ret v=>exact q
 |brk=>exact q
 |cont=>exact q
theorem ap.quiet(I:ap X p a H s):interactive X.env=false:=by simp [interactive,I.ok.kind]
def ot(te:TE):TS:=λD a H=>te a H λ_ h=>D.nx a h
theorem jP(b:PE X e te)(c:swapsWith e none pos.line X.env=pure false:=by rfl):PS X (.Expr e pos) (ot te):=by intro p s a H D I h;exact wpAny_Expr_any (aK (b p s a H _ I h) λv S #[x,d,i,r,q]=>#[a,d,i,q]) I.quiet c
def iz(te:TE):TS:=λD a H=>te a H D.rt
theorem jo(b:PE X e te):PS X (.Return (some e) pos) (iz te):=by intro p s a H D I h;exact wpAny_Return_some$ aK (b p s a H _ I h) λv S #[x,c,i,r,q]=>#[x,a,c,i,r,q]
def lv(c:TT)(t u:TS):TS:=λD a H=>c a H λb h=>if b=true then t D a h else u D a h
theorem jw{c:Expr}{a b:List Stmt}{T:TT}(j:PT X c T)(k:iG X a t)(l:iG X b u):PS X (.If c a b pos) (lv T t u):=by
 intro p s f H D I h;refine wpAny_If$ aK (j p s f H _ I h) λd S z=>?_;obtain⟨g,i,q⟩:=z;cases d with
 |true=>exact k p S f g D i q
 |false=>exact l p S f g D i q
end
abbrev TG:=V->St->Hp->(St->Hp->Prop)->Prop
abbrev vb:=List V->St->Hp->(St->Hp->Prop)->Prop
def PG(X:Cx)(T:Expr)(t:TG):Prop:=
 ∀(p:List (Addr×Obj)) (s:Shared) (b:St) (H:Hp) (v:V) (u:Value) (Q:St->Hp->Prop),ap X p b H s->au v u->t v b H Q->
  wpAny (model X.prog X.w) X.A (assign T X.env u) (λ_ S=>∃a h,ap X p a h S/\Q a h) X.xe s
def Cz(X:Cx)(T:List Expr)(t:vb):Prop:=
 ∀(p:List (Addr×Obj)) (s:Shared) (b:St) (H:Hp) (v:List V) (u:List Value) (Q:St->Hp->Prop),ap X p b H s->aw v u->t v b H Q->
  wpAny (model X.prog X.w) X.A (assignInOrder ((assignEach T X.env).map (·.2)) u) (λ_ S=>∃a h,ap X p a h S/\Q a h) X.xe s
abbrev yR:=V->V->V->Hp->(Hp->Prop)->Prop
def CV(X:Cx)(t:yR):Prop:=
 ∀(p:List (Addr×Obj)) (s:Shared) (a:St) (H:Hp) (o i v:V) (O I u:Value) (Q:Hp->Prop),ap X p a H s->au o O->au i I->au v u->t o i v H Q->
  wpAny (model X.prog X.w) X.A (setItem O I u) (λ_ S=>∃h,ap X p a h S/\Q h) X.xe s
abbrev ER:=V->V->Hp->VK->Prop
def FX(X:Cx)(o:Operator)(t:ER):Prop:=
 ∀(p:List (Addr×Obj)) (s:Shared) (a:St) (H:Hp) (x y:V) (v u:Value) (Q:VK),ap X p a H s->au x v->au y u->t x y H Q->
  wpAny (model X.prog X.w) X.A (inplaceOp o v u) (EP X p a Q) X.xe s
section
variable {X:Cx}{pos:Pos}
def bp(i:Nat):TG:=λv a H Q=>Q (a.set i$ some v) H
theorem ju{i:Nat}{x:Str}(a:X.N.Nodup)(b:X.N[i]?=some x)(c:pe X.env.scope x)(d:X.fn x=true∨X.env.scope.names.lookup x=some .local:=by first |exact .inl Z |exact .inr Z |assumption):PG X (.Name x pos) (bp i):=by intro p s f H v u Q I r h;exact Py$ kQ I a b c r (λS e=>#[_,H,e,h]) d
def vC:vb:=λv a H Q=>v=[]/\Q a H
inductive dE(t:TG)(u:vb)(a:List V)(b:St)(H:Hp)(Q:St->Hp->Prop):Prop
 |mk(v r:_)(_:a=v::r)(_:t v b H λσ' H'=>u r σ' H' Q)
theorem j5:Cz X [] vC:=by intro p s a H v u Q I r h;obtain⟨e,h⟩:=h;subst e;cases r;exact assignInOrder_nil #[a,H,I,h]
theorem jy(b:PG X e t)(c:Cz X E u)
  (d:(assignEach (e::E) X.env).map (·.2)=assign e X.env::(assignEach E X.env).map (·.2):=by rfl):Cz X (e::E) (dE t u):=by
 intro p s f H V U Q I r h;obtain⟨v,k,g,h⟩:=h;subst g;cases r with
 |cons r R=>rw[d];refine assignInOrder_cons$ aK (b p s f H _ _ _ I r h) λ_ S z=>?_;obtain⟨a,i,j,q⟩:=z;exact c p S a i _ _ Q j R q
inductive pX(K:Frag)(n:Nat)(t:vb)(v:V)(c:St)(H:Hp)(Q:St->Hp->Prop):Prop
 |mk(a b:_)(_:v= .ref a)(_:ax K H a b)(_:b.length=n)(_:t b c H Q)
theorem kU{n:Nat}(g:X.calm=true)(h:Cz X E t)
  (i:(assignEach E X.env).length=n:=by rfl) (c:(assignEach E X.env).findIdx? (·.1)=none:=by rfl):PG X (.Tuple E k pos) (pX X.K n t):=by
 intro p s f H v u Q I r d;obtain⟨a,x,j,l,m,d⟩:=d;subst j;cases r;obtain⟨q,R,w,B⟩:=I.tuple l;refine assign_Tuple_tuple (I.ok.hd g) w (by simp [i,<- m,R.length]) c λy z=>?_;have A:ap X p f H { s with heap:=y }:=I.kept (t':=s.toks) λb o e=>z b o (Hd$ GY e) e;exact h p _ f H x _ Q A (by simpa using R) d
def An(T b:TE)(t:yR):TG:=λv a H Q=>T a H λo h=>b a h λi c=>t o i v c λd=>Q a d
theorem qh{o i:Expr}{T c:TE}{t:yR}(d:PE X o T)(e:PE X i c)(f:CV X t)
  (g:∀v,assign (.Subscript o i pos) X.env v=(do
   let O <- holding [v] (eval o X.env)
   let a <- holding [v,O] (eval i X.env)
   standAt pos
   holding [v,O,a] (setItem O a v)
   release [v,O,a] []):=by intro _;rfl):PG X (.Subscript o i pos) (An T c t):=by
 intro p s b H v u Q I r h;rw[g];refine GK$ Ht$ aK (d p s b H _ I h) λO S z=>?_;obtain⟨x,j,k,R,q⟩:=z;refine GK$ Ht$ aK (e p S b j _ k q) λa l z=>?_;obtain⟨y,m,n,w,A⟩:=z;refine GK$ Ls$ GK$ Ht$ aK (f p l b m x y v O a u _ n R w r A) λ_ E z=>?_;obtain⟨B,C,D⟩:=z;exact wpAny_release #[b,B,C,D]
def dU(t:TE)(g:TG):TS:=λD a H=>t a H λx h=>g x a h D.nx
theorem kW{t e:Expr}{T:TE}{g:TG}(b:PE X e T)(c:PG X t g)(d:swapsWithSole [t] e pos.line X.env=pure false:=by rfl)(f:swappedStores [t] e X.env=pure none:=by rfl)
  (i:(assignEach [t] X.env).map (·.2)=[assign t X.env]:=by rfl):PS X (.Assign [t] e pos) (dU T g):=by
 intro p s a H D I h;refine wpAny_Assign_stores (aK (b p s a H _ I h) λv S z=>?_) d f;obtain⟨x,j,k,r,Q⟩:=z;rw[i];exact aK (c p S a j x v _ k r Q) λ_ l q=>q
theorem kL{i:Nat}{x:Str}{e:Expr}{t:TE}{p:Pos}(a:X.N.Nodup)(b:X.N[i]?=some x)(c:pe X.env.scope x)(d:PE X e t)(f:swapsWith e (some$ .Name x p) pos.line X.env=pure false:=by rfl)(g:X.fn x=true∨X.env.scope.names.lookup x=some .local:=by first |exact .inl Z |exact .inr Z |assumption):
  PS X (.Assign [.Name x p] e pos) (dU t$ bp i):=by
 intro P s j H D I h;refine PH (aK (d P s j H _ I h) λv S z=>?_) f;obtain⟨y,k,l,r,q⟩:=z;exact kQ l a b c r (λn m=>#[_,k,m,q]) g
inductive Eg(i:Nat)(a:TE)(b:ER)(D:aW)(c:St)(H:Hp):Prop
 |mk(x:_)(_:c[i]?=some (some x))(_:a c H λy H1=>b x y H1 λz H2=>D.nx (c.set i (some z)) H2)
theorem Bs{i:Nat}(q:X.N.Nodup)(g:X.N[i]?=some x)(f:pe X.env.scope x)(t:PE X e T)(B:FX X o C)(E:X.fn x=true∨X.env.scope.names.lookup x=some .local:=by first |exact .inl Z |exact .inr Z |assumption):
  PS X (.AugAssign (.Name x j) o e pos) (Eg i T C):=by
 intro p s n H D I h;obtain⟨v,F,h⟩:=h;obtain⟨m,J,K⟩:=I.loc;have V:EB X.env.scope x:=by rcases f with k |k;exact .inl k;exact .inr$ .inl k
 obtain⟨u,r,l⟩:=K i x v g F V;refine wpAny_AugAssign_Name ?_;have G:wpAny (model X.prog X.w) X.A (eval e X.env) (λw S=>wpAny (model X.prog X.w) X.A (inplaceOp o u w) (λr d=>wpAny (model X.prog X.w) X.A (storeName X.env x r) (λ_=>SP X p D .next) X.xe d) X.xe S) X.xe s:=by refine aK (t p s n H _ I h) λw L a=>?_;obtain⟨y,M,O,R,Q⟩:=a;refine aK (B p L n M v y u w _ O r R Q) λz s2 a=>?_;obtain⟨zv,P,U,W,Y⟩:=a;exact kQ U q g f W (λs3 I3=>#[_,P,I3,Y]) E
 rcases l with ⟨hk,hm⟩ | ⟨hk,c,hc,b⟩
 ·exact O3 I.ok.kind hk J hm G
 ·rcases hk with hk |hk
  ·exact Pf I.ok.kind hk hc b G
  ·rcases f with k |k
   ·have:X.env.scope.names.lookup x=some .free:=hk;rw[k]at this;cases this
   ·have:X.env.scope.names.lookup x=some .free:=hk;rw[k]at this;cases this
inductive Ge(f:Int->Int->Int)(x y:V)(H:Hp)(Q:VK):Prop
 |mk(i j:_)(_:x= .int i)(_:y= .int j)(_:Q (.int (f i j)) H)
theorem At:FX X .Add (Ge λi j=>i+j):=by intro p s a H x y v u Q I r R h;obtain⟨i,j,e,E,q⟩:=h;subst e;subst E;obtain⟨t,rfl⟩:=r;obtain⟨T,rfl⟩:=R;exact iadd_int #[.int _,H,I.tok _,#[_,Z],q]
end
section
variable {X:Cx}{pos:Pos}
def uu(c:TT)(t:TS):TS:=λD a H=>∃W:Nat->St->Hp->Prop,(∃m,W m a H)/\∀m a H,W m a H->
 c a H λb h=>if b=true then ∃N:St->Hp->Prop,(∀d e,N d e->∃M,M < m/\W M d e)/\t { D with nx:=N,ct:=N,bk:=D.nx } a h else D.nx a h
theorem Xp(o:PassesOwn (model X.prog X.w) X.A X.env X.xe)(E:PT X c T)(F:iG X B G):PS X (.While c B [] pos) (uu T G):=by
 intro p s J H D I h;obtain⟨W,⟨M,K⟩,t⟩:=h;refine wpAny_While$ codeAny_whileLoop (λn S=>∃e r,ap X p e r S/\W n e r) ?_ M #[J,H,I,K];rintro n L ⟨d,u,O,P⟩;refine Lr o$ aK (E p L d u _ O$ t n d u P) λb R z=>?_;obtain⟨x,y,q⟩:=z;cases b with
 |true=>
  obtain⟨N,C,q⟩:=q;rw[Hm Z];refine Lr o$ aK (F p R d x _ y q) λf U Q=>?_;cases f with
  |next=>obtain⟨a,g,i,j⟩:=Q;obtain⟨m,k,l⟩:=C a g j;exact#[m,k,a,g,i,l]
  |cont=>obtain⟨a,g,i,j⟩:=Q;obtain⟨m,k,l⟩:=C a g j;exact#[m,k,a,g,i,l]
  |brk=>exact Q
  |ret v=>exact Q
 |false=>rw[Ho Hc];exact Lg #[d,x,y,q]
end
structure It where
 go:Nat->Hp->Prop
 yld:Nat->Hp->V->Hp->Prop
 stop:Nat->Hp->Prop
def eS(X:Cx)(P:List (Addr×Obj))(H:Hp)(b:Addr):Prop:=
 H b=none/\b≠X.env.locals/\b∉X.fs/\(b∈X.ex∨X.s₀.heap.objs.size<=b)/\(∀x c,X.env.cells.lookup x=some c->c≠b)/\∀p∈X.pn++P,p.1≠b
theorem ap.fpOk{X:Cx}{d:Hp}(I:ap X a i H s)(h:s.heap.objs.size<=b)(f:d b=none):eS X a d b:=by
 refine#[f,Ic$ He I.lt h,I.nofs h,.inr$ Hh I.sz h,λx c e z=>?_,λp g z=>?_]
 ·obtain⟨v,q⟩:=I.cell x c e;exact absurd (He q.lt (by rw[z];exact h))$ Io _
 ·exact absurd (He (GY (I.pin p g).1) (by rw[z];exact h))$ Io _
structure mE(P:Program)(w:World)(K:Frag)(tg:Expr)(J:It)(fp:List Addr)(it:Addr)(tn:Nat->Heap->Prop):Prop where
 mem:it∈fp
 obj:∀i h,tn i h->∀b∈fp,∃o,h.get? b=some o/\∀v,o.data≠ .cell v
 keep:∀i h h',tn i h->(∀b∈fp,∀o,h.get? b=some o->h'.get? b=some o)->tn i h'
 item:∀(X:Cx),X.prog=P->X.w=w->X.K=K->X.calm=true->∀(i:Nat) (pins:List (Addr×Obj)) (s:Shared) (σ:St) (H:Hp) (E:Value->Shared->Prop),ap X pins σ H s->(∀b∈fp,eS X pins H b)->tn i s.heap->J.go i H->
  wpAny (model P w) X.A (pyNext$ .ref it) (λr s1=>∃u,r=some u/\
   wpAny (model P w) X.A (letOwnedTupleGo tg (.ref it) u) (λ_ s2=>∃x H',ap X pins σ H' s2/\au x u/\J.yld i H x H'/\tn (i+1) s2.heap/\∀b∈fp,H' b=none) E s1) E s
 done:∀(X:Cx),X.prog=P->X.w=w->X.K=K->X.calm=true->∀(i:Nat) (pins:List (Addr×Obj)) (s:Shared) (σ:St) (H:Hp) (E:Value->Shared->Prop),ap X pins σ H s->(∀b∈fp,eS X pins H b)->tn i s.heap->J.stop i H->
  wpAny (model P w) X.A (pyNext$ .ref it) (λr s1=>r=none/\ap X pins σ H s1) E s
 self:∀(A:Around) (i:Nat) (s:Shared) (Q:Value->Shared->Prop) (E:Value->Shared->Prop),tn i s.heap->Q (.ref it) s->wpAny (model P w) A (pyIter$ .ref it) Q E s
abbrev TI:=St->Hp->(It->Hp->Prop)->Prop
def FV(X:Cx)(p:List (Addr×Obj))(a:St)(T:Expr)(R:It->Hp->Prop)(i:Value)(s:Shared):Prop:=
 ∃(I:Addr) (f:List Addr) (t:Nat->Heap->Prop) (J:It) (H:Hp),i= .ref I/\ap X p a H s/\mE X.prog X.w X.K T J f I t/\t 0 s.heap/\(∀b∈f,eS X p H b)/\R J H
def PI(X:Cx)(t iter:Expr)(W:TI):Prop:=
 ∀(p:List (Addr×Obj)) (s:Shared) (a:St) (H:Hp) (R:It->Hp->Prop),ap X p a H s->W a H R->
  wpAny (model X.prog X.w) X.A (eval iter X.env) (λv S=>wpAny (model X.prog X.w) X.A (pyIter v) (FV X p a t R) X.xe S) X.xe s
theorem YJ{s : Shared}{n : String}{Q : Unit -> Shared -> Prop}(a : s.heap.get? i = some o)(b : o.cls = .type n)(c : o.data = .fields v)
    (d : ["enumerate", "zip", "dict_itemiterator", "dict_reverseitemiterator", "odict_iterator", "itertools.zip_longest", "itertools.pairwise"].contains n = false) (H : Q () s) : wpAny M A (letOwnedTupleGo t (.ref i) u) Q E s := by
  unfold letOwnedTupleGo;cases t <;> first
    | exact GL H
    | (cases u <;> first
        | exact GL H
        | (refine GK (Pq a ?_)
           rw [b, c];show wpAny M A (if (["enumerate", "zip", "dict_itemiterator", "dict_reverseitemiterator", "odict_iterator", "itertools.zip_longest", "itertools.pairwise"].contains n && v[0]? == some (rawInt _)) = true then _ else _) Q E s;rw [Ho (by intro h; rw [d, M0] at h; cases h)];exact GL H))
noncomputable def uY(K:Frag)(a:Addr):It:=
 #[λi H=>∃X x,aB K H a X/\X[i]?=some x,λi H x h=>h=H/\∀X,aB K H a X->X[i]?=some x,λi H=>∃X,aB K H a X/\X.length<=i]
noncomputable def u5(K:Frag)(a:Addr):It:=
 #[λi H=>∃X x,ax K H a X/\X[i]?=some x,λi H x h=>h=H/\∀X,ax K H a X->X[i]?=some x,λi H=>∃X,ax K H a X/\X.length<=i]
noncomputable def uZ(lo:Int)(n:Nat):It:=#[λi _=>i < n,λi H x h=>h=H/\x= .int (lo+i),λi _=>n<=i]
theorem Zv{P:Program}{K:Frag}(a g:Addr):mE P w K tg (uY K a) [g] g (λi h=>h.IsListIter g a i) where
 mem:=by simp
 obj:=λi h st b j=>by
  have e:b=g:=by simpa using j
  subst e;obtain⟨o,e,c,d⟩:=st;exact#[o,e,λv z=>by rw[d]at z;cases z]
 keep:=λi h l st k=>st.at λo e=>k g RV o e
 item:=by intro X q r t L i f s M H E I m st y;subst q r t;obtain⟨N,x,n,A⟩:=y;obtain⟨B,R,p,O⟩:=I.list n;obtain⟨u,Q,T⟩:=R.get A;obtain⟨F,C,U,D,G,J⟩:=m g RV;refine OG st p.isList (x:=u) (by simpa using Q) λl S V=>?_;have W:ap X f M H { s with heap:=l }:=I.turned (t':=s.toks) (λb o j e=>(V.2 b j).trans e) F C D G J;obtain⟨o,e,c,d⟩:=id S;exact#[u,Z,YJ (s:={ s with heap:=l }) e c d RT #[x,H,W,T,#[Z,λys Y=>by rw[I.list_inj Y n];exact A],S,λb j=>(m b j).1]]
 done:=by intro X q r t L i f s M H E I m st y;subst q r t;obtain⟨N,n,A⟩:=y;obtain⟨B,R,p,O⟩:=I.list n;obtain⟨F,C,U,D,G,J⟩:=m g RV;have hl:=R.length;exact OV (I.ok.hd L) st p.isList (by simp;omega) λl eb=>#[Z,I.turned (t':=s.toks) (λb o j e=>eb b o j e) F C D G J]
 self:=λ_ _ _ _ _ st h=>wpAny_pyIter_listiter st h
theorem X7{P:Program}{K:Frag}(a g:Addr):mE P w K tg (u5 K a) [g] g (λi h=>h.IsTupleIter g a i) where
 mem:=by simp
 obj:=λi h st b j=>by
  have e:b=g:=by simpa using j
  subst e;obtain⟨o,e,c,d⟩:=st;exact#[o,e,λv z=>by rw[d]at z;cases z]
 keep:=λi h m st k=>st.at λo e=>k g RV o e
 item:=by intro X r t y L i f s M H E I n st A;subst r t y;obtain⟨N,x,q,B⟩:=A;obtain⟨l,R,p,O⟩:=I.tuple q;obtain⟨u,Q,T⟩:=R.get B;obtain⟨F,C,U,D,G,J⟩:=n g RV;refine wpAny_pyNext_tuple_item st (show s.heap.IsTuple a l.toArray from p) (x:=u) (by simpa using Q) λm S V=>?_;have W:ap X f M H { s with heap:=m }:=I.turned (t':=s.toks) (λb o j e=>(V.2 b j).trans e) F C D G J;obtain⟨o,e,c,d⟩:=id S;exact#[u,Z,YJ (s:={ s with heap:=m }) e c d RT #[x,H,W,T,#[Z,λys Y=>by rw[I.tuple_inj Y q];exact B],S,λb j=>(n b j).1]]
 done:=by intro X r t y L i f s M H E I n st A;subst r t y;obtain⟨N,q,B⟩:=A;obtain⟨l,R,p,O⟩:=I.tuple q;obtain⟨F,C,U,D,G,J⟩:=n g RV;have hl:=R.length;exact wpAny_pyNext_tuple_end (I.ok.hd L) st (show s.heap.IsTuple a l.toArray from p) (by simp;omega) λm eb=>#[Z,I.turned (t':=s.toks) (λb o j e=>eb b o j e) F C D G J]
 self:=λ_ _ _ _ _ st h=>wpAny_pyIter_tupleiter st h
theorem X8{P:Program}{K:Frag}(a:Addr)(lo:Int)(n:Nat):mE P w K M (uZ lo n) [a] a (λi h=>IsRangeIter h a (lo+(i:Nat)*1) ((n:Int) - (i:Nat)) 1) where
 mem:=by simp
 obj:=λi h st b c=>by
  have e:b=a:=by simpa using c
  subst e;exact#[_,st,λv z=>by
   have B:Data.fields _=Data.cell v:=z;cases B]
 keep:=λi h d st k=>k a RV _ st
 item:=by intro X g j l m i p s A H E I f st q;subst g j l;obtain⟨F,r,C,u,x,y⟩:=f a RV;have W:=Walks.range (prog:=X.prog) (w:=X.w) (I.ok.hd m) a lo 1 n;refine W.item i s _ _ q st λv d T D S G=>?_;obtain⟨t,rfl⟩:=D;have J:ap X p A H { s with heap:=d,toks:=T }:=I.turned (λb o c e=>G b o (by simpa using c) e) F r u x y;refine#[_,Z,YJ (s:={ s with heap:=d,toks:=T }) (n:="range_iterator") S Z Z RT #[.int$ lo+i,H,J,#[t,?_],#[Z,Z],S,λb c=>(f b c).1]];rw[Int.mul_one]
 done:=by intro X g j l m i p s A H E I f st q;subst g j l;obtain⟨F,r,C,u,x,y⟩:=f a RV;exact wpAny_pyNext_range_end (I.ok.hd m) st (by have:n<=i:=q;omega) λd L=>#[Z,I.turned (t':=s.toks) (λb o c e=>L b o c e) F r u x y]
 self:=λ_ _ _ _ _ st h=>wpAny_pyIter_rangeiter st h
section
variable {X:Cx}{tg:Expr}
inductive p7(K:Frag)(R:It->Hp->Prop)(x:V)(b:Hp):Prop
 |mk(a:_)(_:x= .ref a)(_:∃xs,aB K b a xs)(_:R (uY K a) b)
def yl(K:Frag)(t:TE):TI:=λa H R=>t a H (p7 K R)
inductive yo(K:Frag)(R:It->Hp->Prop)(x:V)(b:Hp):Prop
 |mk(a:_)(_:x= .ref a)(_:∃xs,ax K b a xs)(_:R (u5 K a) b)
def Fg(K:Frag)(t:TE):TI:=λa H R=>t a H (yo K R)
theorem zc(c:PE X l t):PI X tg l (yl X.K t):=by
 intro P s d H R I h;refine aK (c P s d H _ I h) λv S z=>?_;obtain⟨x,f,i,r,Q⟩:=z;obtain⟨a,e,⟨m,g⟩,q⟩:=Q;subst e;cases r;obtain⟨j,n,p,u⟩:=i.list g;refine LZ p.isList ?_;refine#[S.heap.objs.size,[S.heap.objs.size],_,_,f,Z,i.kept (t':=S.toks) λb o e=>GP _ e,Zv a _,#[_,GZ _ Z,Z,Z],λb k=>?_,q];have e:b=S.heap.objs.size:=by simpa using k
 subst e;exact i.fpOk (GV _)$ i.hok.fresh$ GV _
theorem qi(d:PE X l t):PI X tg l (Fg X.K t):=by
 intro P s f H R I h;refine aK (d P s f H _ I h) λv S z=>?_;obtain⟨x,g,i,r,Q⟩:=z;obtain⟨a,e,⟨m,j⟩,q⟩:=Q;subst e;cases r;obtain⟨c,n,p,u⟩:=i.tuple j;refine LV (show S.heap.IsTuple a c.toArray from p) ?_;refine#[S.heap.objs.size,[S.heap.objs.size],_,_,g,Z,i.kept (t':=S.toks) λb o e=>GP _ e,X7 a _,#[_,GZ _ Z,Z,Z],λb k=>?_,q];have e:b=S.heap.objs.size:=by simpa using k
 subst e;exact i.fpOk (GV _)$ i.hok.fresh$ GV _
theorem sJ{R:It->Hp->Prop}{lo:Int}(I:ap X p a H s)(c: -(2 ^ 62)<=lo)(d:lo < 2 ^ 62)(f: -(2 ^ 62)<=h)(g:h < 2 ^ 62)
  (q:R (uZ lo (h - lo).toNat) H):wpAny (model X.prog X.w) X.A (pyIter$ .ref s.heap.objs.size) (FV X p a tg R) E { s with heap:=s.heap.push { cls:=.type "range",data:=.fields (List.toArray [.int lo t,.int h u,.int 1 v]) },toks:=T }:=by
 refine wpAny_pyIter_range (IsRange.new ..) (small_one c d f g) ?_;have i:ap X p a H { s with heap:=s.heap.push { cls:=.type "range",data:=.fields (List.toArray [.int lo t,.int h u,.int 1 v]) },toks:=T }:=I.kept λb o e=>GP _ e;refine#[(s.heap.push { cls:=.type "range",data:=.fields (List.toArray [.int lo t,.int h u,.int 1 v]) }).objs.size,[(s.heap.push { cls:=.type "range",data:=.fields (List.toArray [.int lo t,.int h u,.int 1 v]) }).objs.size],_,_,H,Z,
  i.kept (t':=T) λb o e=>GP _ e,X8 _ lo (h - lo).toNat,?_,λb j=>?_,q]
 ·have k:lo+((0:Nat):Int)*1=lo:=by simp
  have l:(((h - lo).toNat:Nat):Int) - ((0:Nat):Int)=Builtin.Range.rangeSize lo h 1:=by rw[rangeSize_one];split<;>omega
  show IsRangeIter _ _ (lo+((0:Nat):Int)*1) ((((h - lo).toNat:Nat):Int) - ((0:Nat):Int)) 1;rw[k,l];exact GZ _ Z
 ·have e:b=(s.heap.push { cls:=.type "range",data:=.fields (List.toArray [.int lo t,.int h u,.int 1 v]) }).objs.size:=by simpa using j
  subst e;exact i.fpOk (GV _)$ i.hok.fresh$ GV _
inductive re(R:It->Hp->Prop)(b:List V)(a:Hp):Prop
 |mk(j:Int)(_:b=[.int j])(_:-(2 ^ 62)<=j)(_:j < 2 ^ 62)(_:R (uZ 0 j.toNat) a)
def Ds(t:TA):TI:=λa H R=>t a H (re R)
theorem j7{a:Expr}{T:TA}{p P:Pos}(c:Gl X "range")(d:X.mg "range"=none)(f:PA X [a] T)(g:starEach [a] X.env=[(false,eval a X.env)]:=by rfl):PI X tg (.Call (.Name "range" p) [a] [] P) (Ds T):=by
 intro b s i H R I h;refine Call_$ zU I c d boot_range$ HX (aK (f P b s i H _ I h) λu S z=>?_) g Z;obtain⟨v,o,k,l,Q⟩:=z;obtain⟨j,e,Q,m,q⟩:=Q;subst e;cases l with
 |cons r n=>cases n;obtain⟨t,rfl⟩:=r;exact call_range_1$ sJ k RU RU Q m (by simpa using q)
def Cb(w:TI)(g:TG)(t:TS):TS:=λD a H=>w a H λJ d=>∃W:Nat->Nat->St->Hp->Prop,(∃m,W 0 m a d)/\∀i m a H,W i m a H->
 (J.stop i H/\D.nx a H)∨(J.go i H/\∃N:St->Hp->Prop,(∀b h,N b h->∃M,M < m/\W (i+1) M b h)/\∀x h,J.yld i H x h->g x a h λc e=>t { D with nx:=N,ct:=N,bk:=D.nx } c e)
noncomputable def iK(f:List Addr)(h:Heap):List (Addr×Obj):=f.filterMap λb=>(h.get? b).map λo=>(b,o)
theorem za{h:Heap}(H:b∈f)(e:h.get? b=some o):(b,o)∈iK f h:=List.mem_filterMap.mpr #[b,H,by rw[e];rfl]
theorem Zw(H:p∈iK f h):p.1∈f/\h.get? p.1=some p.2:=by
 obtain⟨b,a,e⟩:=List.mem_filterMap.mp H;cases q:h.get? b with
 |none=>rw[q]at e;cases e
 |some o=>rw[q]at e;have E:(b,o)=p:=HQ e;subst E;exact#[a,q]
theorem ap.pinned(I:ap X a c H s)(g:∀b∈f,eS X a H b)(i:∀b∈f,∃o,s.heap.get? b=some o/\∀v,o.data≠ .cell v):ap X (a++iK f s.heap) c H s:=
 I.pins_of λp j=>(List.mem_append.mp j).elim (λz=>I.pin p (Hn _ z)) λz=>by obtain⟨h,e⟩:=Zw z;obtain⟨F,k,l,_⟩:=g p.1 h;obtain⟨o,E,d⟩:=i p.1 h;rw[e]at E;cases E;exact#[e,F,k,l,d]
theorem ap.unpinned(I:ap X (a++c) b H s):ap X a b H s:=I.pins_of λp h=>I.pin p (Hn _$ Iy _ h)
theorem j9{iter:Expr}{B:List Stmt}{wi:TI}{g:TG}{tb:TS}{P:Pos}(C:PassesOwn (model X.prog X.w) X.A X.env X.xe)(hc:X.calm=true)(hi:PI X tg iter wi)(hg:PG X tg g)(c:iG X B tb)
  (hs:∀x,foldedSetIterable iter X.env x=pure x:=by intro _;rfl):PS X (.For tg iter B [] P) (Cb wi g tb):=by
 intro p s σ H D I h;refine wpAny_For (aK (hi p s σ H _ I h) λv s1 h1=>aK h1 λi0 s2 h2=>?_) hs;obtain⟨it,F,tn,J,H2,e,I2,T,O,f2,W,⟨m0,w0⟩,E⟩:=h2;subst e;have S:∀{t:Hp},(∀b∈F,t b=none)->∀b∈F,eS X p t b:=λhn b c=>#[hn b c,(f2 b c).2];refine codeAny_forLoop_any (λn s'=>∃i j t,ap X p j t s'/\tn i s'.heap/\(∀b∈F,t b=none)/\W i n j t) ?_ m0 #[0,σ,H2,I2,O,λb c=>(f2 b c).1,w0];rintro n s3 ⟨i,k,M,I3,G,K,w3⟩;rcases E i n k M w3 with ⟨stop,qn⟩ | ⟨go,N,hN,step⟩
 ·refine Lr C$ aK (T.done X Z Z Z hc i p s3 k M X.xe I3 (S K) G stop) λr s4 z=>?_;obtain⟨R,I4⟩:=z;subst R;exact Lg #[k,M,I4,qn]
 ·refine Lr C$ aK (T.item X Z Z Z hc i p s3 k M X.xe I3 (S K) G go) λr s4 z=>?_;obtain⟨u,R,h4⟩:=z;subst R;refine Lr C$ aK h4 λ_ s5 z=>?_;obtain⟨x,H5,I5,r5,y5,y,U⟩:=z;have V:=I5.pinned (S U) (T.obj _ _ y);refine Lr C$ aK (hg _ s5 k H5 x u _ V r5$ step x H5 y5) λ_ s6 z=>?_;obtain⟨Y,H6,I6,q6⟩:=z;refine Lr C$ aK (c _ s6 Y H6 _ I6 q6) λf s7 Q=>?_;have again:∀{a:St} {l:Hp},ap X (p++iK F s5.heap) a l s7->N a l->∃m,m < n/\∃i j t,ap X p j t s7/\tn i s7.heap/\(∀b∈F,t b=none)/\W i m j t:=λ{a l} q L=>by obtain⟨m',hm,w7⟩:=hN a l L;refine#[m',hm,i+1,a,l,q.unpinned,T.keep _ _ _ y λb c o e=>(q.pin (b,o)$ Hn _$ Hn _$ za c e).1,λb c=>?_,w7];obtain⟨o,e,d⟩:=T.obj _ _ y b c;exact(q.pin (b,o)$ Hn _$ Hn _$ za c e).2.1
  cases f with
  |next=>obtain⟨a,l,q,L⟩:=Q;exact again q L
  |cont=>obtain⟨a,l,q,L⟩:=Q;exact again q L
  |brk=>obtain⟨a,l,q,Q⟩:=Q;exact#[a,l,q.unpinned,Q]
  |ret v=>obtain⟨x7,a,l,q,r7,Q⟩:=Q;exact#[x7,a,l,q.unpinned,r7,Q]
end
theorem pU{K:Frag}{a:Addr}{X:List V}{g:TG}{t:TS}{D:aW}{b:St}{H:Hp}(Pv:Nat->St->Hp->Prop)(k:Pv 0 b H)(l:∀i b H,i<=X.length->Pv i b H->aB K H a X)
  (n:∀i x b H,X[i]?=some x->Pv i b H->g x b H λc j=>t { D with nx:=Pv (i+1),ct:=Pv (i+1),bk:=D.nx } c j) (o:∀b H,Pv X.length b H->D.nx b H):
  ∃W:Nat->Nat->St->Hp->Prop,(∃m,W 0 m b H)/\∀i m b H,W i m b H->
   ((uY K a).stop i H/\D.nx b H)∨((uY K a).go i H/\∃N:St->Hp->Prop,(∀d h,N d h->∃M,M < m/\W (i+1) M d h)/\∀x h,(uY K a).yld i H x h->g x b h λc j=>t { D with nx:=N,ct:=N,bk:=D.nx } c j):=by
 refine#[λi m b H=>m=X.length - i/\i<=X.length/\Pv i b H,#[X.length,RV,Hg _,k],?_];rintro i m b H ⟨rfl,r,p⟩;have q:=l i b H r p;by_cases f:i < X.length
 ·refine .inr #[#[X,X[i],q,by simp [f]],Pv$ i+1,λd h P=>#[X.length - (i+1),RU,Z,f,P],λx h y=>?_];obtain⟨e,y⟩:=y;subst e;exact n i x b _ (y X q) p
 ·have e:i=X.length:=by omega
  subst e;exact .inl #[#[X,q,GV _],o b H p]
theorem vB{K:Frag}{a:Addr}{X:List V}{g:TG}{t:TS}{D:aW}{b:St}{H:Hp}(Pv:Nat->St->Hp->Prop)(k:Pv 0 b H)(l:∀i b H,i<=X.length->Pv i b H->ax K H a X)
  (n:∀i x b H,X[i]?=some x->Pv i b H->g x b H λc j=>t { D with nx:=Pv (i+1),ct:=Pv (i+1),bk:=D.nx } c j) (o:∀b H,Pv X.length b H->D.nx b H):
  ∃W:Nat->Nat->St->Hp->Prop,(∃m,W 0 m b H)/\∀i m b H,W i m b H->
   ((u5 K a).stop i H/\D.nx b H)∨((u5 K a).go i H/\∃N:St->Hp->Prop,(∀d h,N d h->∃M,M < m/\W (i+1) M d h)/\∀x h,(u5 K a).yld i H x h->g x b h λc j=>t { D with nx:=N,ct:=N,bk:=D.nx } c j):=by
 refine#[λi m b H=>m=X.length - i/\i<=X.length/\Pv i b H,#[X.length,RV,Hg _,k],?_];rintro i m b H ⟨rfl,r,p⟩;have q:=l i b H r p;by_cases f:i < X.length
 ·refine .inr #[#[X,X[i],q,by simp [f]],Pv$ i+1,λd h P=>#[X.length - (i+1),RU,Z,f,P],λx h y=>?_];obtain⟨e,y⟩:=y;subst e;exact n i x b _ (y X q) p
 ·have e:i=X.length:=by omega
  subst e;exact .inl #[#[X,q,GV _],o b H p]
theorem Qq{lo:Int}{n:Nat}{g:TG}{t:TS}{D:aW}{a:St}{H:Hp}(Pv:Nat->St->Hp->Prop)(j:Pv 0 a H)
  (k:∀i a H,i < n->Pv i a H->g (.int$ lo+i) a H λb f=>t { D with nx:=Pv (i+1),ct:=Pv (i+1),bk:=D.nx } b f) (l:∀a H,Pv n a H->D.nx a H):
  ∃W:Nat->Nat->St->Hp->Prop,(∃m,W 0 m a H)/\∀i m a H,W i m a H->
   ((uZ lo n).stop i H/\D.nx a H)∨((uZ lo n).go i H/\∃N:St->Hp->Prop,(∀c h,N c h->∃M,M < m/\W (i+1) M c h)/\∀x h,(uZ lo n).yld i H x h->g x a h λb f=>t { D with nx:=N,ct:=N,bk:=D.nx } b f):=by
 refine#[λi m a H=>m=n - i/\i<=n/\Pv i a H,#[n,RV,Hg _,j],?_];rintro i m a H ⟨rfl,o,p⟩;by_cases d:i < n
 ·refine .inr #[d,Pv$ i+1,λc h P=>#[n - (i+1),RU,Z,d,P],λx h y=>?_];obtain⟨e,y⟩:=y;subst e y;exact k i a _ d p
 ·have e:i=n:=by omega
  subst e;exact .inl #[GV _,l a H p]
abbrev R2:=V->V->Hp->VK->Prop
def eh(X:Cx)(f:Value->Value->Sem Value)(r:R2):Prop:=
 ∀(p:List (Addr×Obj)) (s:Shared) (a:St) (H:Hp) (x y:V) (v u:Value) (Q:VK),ap X p a H s->au x v->au y u->r x y H Q->
  wpAny (model X.prog X.w) X.A (f v u) (EP X p a Q) X.xe s
def ET(X:Cx)(f:Value->Sem Value)(r:V->Hp->VK->Prop):Prop:=
 ∀(p:List (Addr×Obj)) (s:Shared) (a:St) (H:Hp) (x:V) (v:Value) (Q:VK),ap X p a H s->au x v->r x H Q->
  wpAny (model X.prog X.w) X.A (f v) (EP X p a Q) X.xe s
def dm(X:Cx)(f:Value)(r:List V->Hp->VK->Prop):Prop:=
 ∀(p:List (Addr×Obj)) (s:Shared) (a:St) (H:Hp) (x:List V) (u:List Value) (Q:VK),ap X p a H s->aw x u->r x H Q->
  wpAny (model X.prog X.w) X.A (call f u) (EP X p a Q) X.xe s
def ES(X:Cx)(r:V->Hp->(Bool->Hp->Prop)->Prop):Prop:=
 ∀(p:List (Addr×Obj)) (s:Shared) (a:St) (H:Hp) (x:V) (v:Value) (Q:Bool->Hp->Prop),ap X p a H s->au x v->r x H Q->
  wpAny (model X.prog X.w) X.A (truthy v) (TP X p a Q) X.xe s
def dG(r:R2)(t T:TE):TE:=λa H Q=>t a H λx h=>T a h λy b=>r x y b Q
def Gw(r:V->Hp->VK->Prop)(t:TE):TE:=λa H Q=>t a H λx h=>r x h Q
inductive rI(C:Int->Int->Prop)(g:Int->Int->V)(x y:V)(H:Hp)(Q:VK):Prop
 |mk(i j:_)(_:x= .int i)(_:y= .int j)(_:C i j)(_:Q (g i j) H)
inductive sI(g:Int->Int->V)(x y:V)(H:Hp)(Q:VK):Prop
 |mk(i j:_)(_:x= .int i)(_:y= .int j)(_:Q (g i j) H)
inductive rU(g:Int->V)(x:V)(H:Hp)(Q:VK):Prop
 |mk(i:_)(_:x= .int i)(_:Q (g i) H)
section
variable {X:Cx}{a b c:Expr}{ta tb tc:TE}{pos:Pos}
theorem yZ(k:PE X a ta)(l:PE X b tb){R:V->V->Hp->Prop}(I:ap X p e H s)
  (h:ta e H λx j=>tb e j λy d=>R x y d)  {f:Value->Value->Sem Value}
  (m:∀v u i x y d,ap X p e d i->au x v->au y u->R x y d->wpAny (model X.prog X.w) X.A (f v u) Q X.xe i):
  wpAny (model X.prog X.w) X.A (eval a X.env) (λv S=>wpAny (model X.prog X.w) X.A (eval b X.env) (λu g=>wpAny (model X.prog X.w) X.A (f v u) Q X.xe g) X.xe S) X.xe s:=by
 refine aK (k p s e H _ I h) λv n z=>?_;obtain⟨x,j,o,r,q⟩:=z;refine aK (l p n e j _ o q) λu i z=>?_;obtain⟨y,d,t,B,C⟩:=z;exact m v u i x y d t r B C
theorem jv{o:Operator}{r:R2}(d:eh X (binaryOp o) r)(e:PE X a ta)(f:PE X b tb):PE X (.BinOp a o b pos) (dG r ta tb):=by intro p s g H Q I h;exact wpAny_BinOp$ yZ e f I h λv u S x y i j R k q=>d p S g i x y v u Q j R k q
theorem Qn(e:ET X (unaryOp o) r)(f:PE X a ta):PE X (.UnaryOp o a pos) (Gw r ta):=by intro p s d H Q I h;exact UnaryOp_$ aK (f p s d H _ I h) λv S #[x,g,i,R,q]=>e p S d g x v Q i R q
theorem ED{f:Value->Value->Sem Value}{C:Int->Int->Prop}{g:Int->Int->Int}
  (rule:∀(i j:Int) (t u:Tok) (s:Shared) (Q:Value->Shared->Prop) (E:Value->Shared->Prop),C i j->Q (.int (g i j) s.toks) { s with toks:=s.toks+1 }->wpAny (model X.prog X.w) X.A (f (.int i t)$ .int j u) Q E s):
  eh X f (rI C λi j=>.int (g i j)):=by
 intro p s e H x y v u Q I r R h;obtain⟨i,j,rfl,rfl,d,q⟩:=h;obtain⟨t,rfl⟩:=r;obtain⟨T,rfl⟩:=R;exact rule i j t T s _ _ d #[.int$ g i j,H,I.tok _,#[_,Z],q]
theorem DH{f:Value->Value->Sem Value}{g:Int->Int->Int}
  (rule:∀(i j:Int) (t u:Tok) (s:Shared) (Q:Value->Shared->Prop) (E:Value->Shared->Prop),Q (.int (g i j) s.toks) { s with toks:=s.toks+1 }->wpAny (model X.prog X.w) X.A (f (.int i t)$ .int j u) Q E s):
  eh X f (sI λi j=>.int (g i j)):=by
 intro p s d H x y v u Q I r R h;obtain⟨i,j,rfl,rfl,q⟩:=h;obtain⟨t,rfl⟩:=r;obtain⟨T,rfl⟩:=R;exact rule i j t T s _ _ #[.int$ g i j,H,I.tok _,#[_,Z],q]
theorem wu{f:Value->Value->Sem Value}{g:Int->Int->Bool}
  (rule:∀(i j:Int) (t u:Tok) (s:Shared) (Q:Value->Shared->Prop) (E:Value->Shared->Prop),Q (.bool$ g i j) s->wpAny (model X.prog X.w) X.A (f (.int i t)$ .int j u) Q E s):
  eh X f (sI λi j=>.bl (g i j)):=by
 intro p s d H x y v u Q I r R h;obtain⟨i,j,rfl,rfl,q⟩:=h;obtain⟨t,rfl⟩:=r;obtain⟨T,rfl⟩:=R;exact rule i j t T s _ _ #[.bl$ g i j,H,I,Z,q]
def EH(i j:Int):Prop:=0<=j/\j<=1000000/\i.natAbs < 2 ^ 64
def uT(i j:Int):Prop:=(-(2 ^ 64) < i/\i < 2 ^ 64)∨(-(2 ^ 64) < j/\j < 2 ^ 64)
theorem uT.ok(h:uT i j):IntMulOk i j:=by
 rcases h with ⟨H,d⟩ | ⟨H,d⟩
 ·exact .of_left$ intBits_le_64 H d
 ·exact .of_right$ intBits_le_64 H d
theorem jZ:eh X (binaryOp .Add) (sI λi j=>.int (i+j)):=DH λ_ _ _ _ _ _ _ q=>add_int q
theorem kM:eh X (binaryOp .Sub) (sI λi j=>.int (i - j)):=DH λ_ _ _ _ _ _ _ q=>sub_int q
theorem zq:eh X (binaryOp .Mult) (rI uT λi j=>.int (i*j)):=ED λ_ _ _ _ _ _ _ h q=>mul_int q h.ok
theorem kX:eh X (binaryOp .Mod) (rI (λ_ j=>0 < j) λi j=>.int (i % j)):=ED λi j _ _ _ _ _ h q=>by have H:(0:Int) < j:=h;exact mod_int' RU (by rw[Int.fmod_eq_emod_of_nonneg i RU];exact q)
theorem Kf:eh X (binaryOp .Pow) (rI EH λi j=>.int (i ^ j.toNat)):=ED λ_ _ _ _ _ _ _ h q=>pow_int_small h.1 h.2.1 h.2.2 q
theorem Gy{f:Value->Sem Value}{g:Int->Int}
  (rule:∀(i:Int) (t:Tok) (s:Shared) (Q:Value->Shared->Prop) (E:Value->Shared->Prop),Q (.int (g i) s.toks) { s with toks:=s.toks+1 }->wpAny (model X.prog X.w) X.A (f$ .int i t) Q E s):
  ET X f (rU λi=>.int (g i)):=by
 intro p s d H x v Q I r h;obtain⟨i,rfl,q⟩:=h;obtain⟨t,rfl⟩:=r;exact rule i t s _ _ #[.int$ g i,H,I.tok _,#[_,Z],q]
theorem Jl:ET X (unaryOp .USub) (rU λi=>.int (-i)):=Gy λ_ _ _ _ _ q=>neg_int q
end
noncomputable def D5:V->V->Bool
 | .non,.non=>true | .non,.int _=>true | .int _,.non=>true | .non,.bl _=>true | .bl _,.non=>true | .non,.str _=>true | .str _,.non=>true
 | .int _,.int _=>true | .bl _,.bl _=>true | .str _,.str _=>true | .byt _,.byt _=>true
 | .int _,.str _=>true | .str _,.int _=>true | .bl _,.str _=>true | .str _,.bl _=>true
 |_,_=>false
def DP:R2:=λx y H Q=>D5 x y=true/\Q (.bl$ decide$ x=y) H
def Gp:R2:=λx y H Q=>D5 x y=true/\Q (.bl (!decide (x=y))) H
theorem YT:decide (V.int i=V.int j)=(i==j):=by rw[MP];simp
theorem pJ:decide (V.bl i=V.bl j)=(i==j):=by rw[MP];simp
theorem YU:decide (V.str i=V.str j)=(i==j):=by rw[MP];simp
theorem YV:decide (V.byt i=V.byt j)=(i.toList==j.toList):=by rw[MP];cases i;cases j;simp
section
variable {X:Cx}{a b c:Expr}{ta tb tc:TE}{pos:Pos}
theorem jL{Q:VK}(I:ap X p d H s)(q:Q (.bl k) H)(e:k=f):EP X p d Q (.bool f) s:=by subst e;exact#[.bl k,H,I,Z,q]
theorem JB:eh X (compareOp .Eq) DP:=by
 intro p s e H x y v u Q I R r h;obtain⟨d,q⟩:=h;cases x with
 |non=>
  cases R;cases y with
  |non=>cases r;exact Rs (jL I q RV)
  |bl j=>cases r;exact Ru (jL I q RV)
  |int j=>obtain⟨T,rfl⟩:=r;exact Rt (jL I q RV)
  |str j=>obtain⟨T,rfl⟩:=r;exact Rr (jL I q RV)
  |_=>exact absurd (show false=true from d) Hc
 |bl i=>
  cases R;cases y with
  |non=>cases r;exact Rx (jL I q RV)
  |bl j=>cases r;exact eq_bool (jL I q pJ)
  |str j=>obtain⟨T,rfl⟩:=r;exact Rc (jL I q RV)
  |_=>exact absurd (show false=true from d) Hc
 |int i=>
  obtain⟨t,rfl⟩:=R;cases y with
  |non=>cases r;exact Rv (jL I q RV)
  |int j=>obtain⟨T,rfl⟩:=r;exact eq_int (jL I q YT)
  |str j=>obtain⟨T,rfl⟩:=r;exact Rb (jL I q RV)
  |_=>exact absurd (show false=true from d) Hc
 |str i=>
  obtain⟨t,rfl⟩:=R;cases y with
  |non=>cases r;exact Rq (jL I q RV)
  |bl j=>cases r;exact Ra (jL I q RV)
  |int j=>obtain⟨T,rfl⟩:=r;exact P' (jL I q RV)
  |str j=>obtain⟨T,rfl⟩:=r;exact eq_str (jL I q YU)
  |_=>exact absurd (show false=true from d) Hc
 |byt i=>
  obtain⟨t,rfl⟩:=R;cases y with
  |byt j=>obtain⟨T,rfl⟩:=r;exact PySem.W.eq_bytes (jL I q YV)
  |_=>exact absurd (show false=true from d) Hc
 |_=>cases y<;>exact absurd (show false=true from d) Hc
theorem YK:eh X (compareOp .NotEq) Gp:=by
 intro p s e H x y v u Q I R r h;obtain⟨d,q⟩:=h;cases x with
 |non=>
  cases R;cases y with
  |non=>cases r;exact Rk (jL I q RV)
  |bl j=>cases r;exact Rm (jL I q RV)
  |int j=>obtain⟨T,rfl⟩:=r;exact Rl (jL I q RV)
  |str j=>obtain⟨T,rfl⟩:=r;exact Rj (jL I q RV)
  |_=>exact absurd (show false=true from d) Hc
 |bl i=>
  cases R;cases y with
  |non=>cases r;exact Rp (jL I q RV)
  |bl j=>cases r;exact ne_bool (jL I q (Iq not pJ))
  |str j=>obtain⟨T,rfl⟩:=r;exact P9 (jL I q RV)
  |_=>exact absurd (show false=true from d) Hc
 |int i=>
  obtain⟨t,rfl⟩:=R;cases y with
  |non=>cases r;exact Ro (jL I q RV)
  |int j=>obtain⟨T,rfl⟩:=r;exact ne_int (jL I q (Iq not YT))
  |str j=>obtain⟨T,rfl⟩:=r;exact P8 (jL I q RV)
  |_=>exact absurd (show false=true from d) Hc
 |str i=>
  obtain⟨t,rfl⟩:=R;cases y with
  |non=>cases r;exact Ri (jL I q RV)
  |bl j=>cases r;exact P7 (jL I q RV)
  |int j=>obtain⟨T,rfl⟩:=r;exact P6 (jL I q RV)
  |str j=>obtain⟨T,rfl⟩:=r;exact ne_str (jL I q (Iq not YU))
  |_=>exact absurd (show false=true from d) Hc
 |byt i=>
  obtain⟨t,rfl⟩:=R;cases y with
  |byt j=>obtain⟨T,rfl⟩:=r;exact PySem.W.ne_bytes (jL I q (Iq not YV))
  |_=>exact absurd (show false=true from d) Hc
 |_=>cases y<;>exact absurd (show false=true from d) Hc
theorem qL:eh X (compareOp .Lt) (sI λi j=>.bl (decide$ i < j)):=wu λ_ _ _ _ _ _ _ q=>lt_int q
theorem yu:eh X (compareOp .LtE) (sI λi j=>.bl (decide$ i<=j)):=wu λ_ _ _ _ _ _ _ q=>le_int q
theorem qM:eh X (compareOp .Gt) (sI λi j=>.bl (decide$ j < i)):=wu λ_ _ _ _ _ _ _ q=>gt_int q
theorem sf:eh X (compareOp .GtE) (sI λi j=>.bl (decide$ j<=i)):=wu λ_ _ _ _ _ _ _ q=>ge_int q
theorem aE(b:Expr)(h:o≠ .In:=by decide)(H:o≠ .NotIn:=by decide):behindInMarks o b=false:=by
 have e:(o==CmpOp.In)=false:=by cases o<;>first |rfl |exact absurd Z h
 have E:(o==CmpOp.NotIn)=false:=by cases o<;>first |rfl |exact absurd Z H
 cases b<;>simp [behindInMarks,e,E]
theorem JS(d:eh X (compareOp o) r)(e:PE X a ta)(f:PE X b tb)(g:behindInMarks o b=false):PE X (.Compare a [o] [b] pos) (dG r ta tb):=by intro p s i H Q I h;exact wpAny_Compare1 (yZ e f I h λv u S x y j k R l q=>d p S i j x y v u Q k R l q) g
inductive ut(Q:Bool->Hp->Prop)(x:V)(a:Hp):Prop
 |mk(k:_)(_:x= .bl k)(_:Q k a)
def ii(t:TE):TT:=λd H Q=>t d H (ut Q)
theorem jA{o:CmpOp}{r:R2}(f:eh X (compareOp o) r)(g:PE X a ta)(i:PE X b tb)(j:behindInMarks o b=false):PT X (.Compare a [o] [b] pos) (ii$ dG r ta tb):=by
 intro p s d H Q I h;refine OW (aK (g p s d H _ I h) λv S #[x,l,m,R,q]=>aK (i p S d l _ m q) λu n #[y,t,w,A,B]=>
  aK (f p n d t x y v u _ w R A B) λc G #[z,C,D,E,k,e,F]=>?_) j
 subst e;cases E;exact Lw #[C,D,F]
inductive om(b:R2)(c:TE)(d:St)(Q:VK)(y z:V)(a:Hp):Prop
 |mk(k:_)(_:z= .bl k)(_:if k=true then c d a λw' H4=>b y w' H4 Q else Q (.bl false) a)
def BY(r R:R2)(ta tb tc:TE):TE:=λd H Q=>ta d H λx h=>tb d h λy e=>r x y e (om R tc d Q y)
theorem sD{O o:CmpOp}{r R:R2}(n:eh X (compareOp O) r)(g:eh X (compareOp o) R)(t:PE X a ta)(w:PE X b tb)(A:PE X c tc)
  (B:lastMarks [O,o] [b,c]=false:=by with_unfolding_all rfl):PT X (.Compare a [O,o] [b,c] pos) (ii$ BY r R ta tb tc):=by
 intro p s f H Q I h;refine isTrue_chain (aK (t p s f H _ I h) λv S #[x,C,D,E,F]=>test_link (aK (w p S f C _ D F) λu G #[y,J,K,j,L]=>
  aK (n p G f J x y v u _ K E j L) λd M #[z,l,m,N,k,e,q]=>?_)) B
 subst e;cases N;refine Lw ?_;cases k with
 |false=>obtain⟨k',P,T⟩:=q;cases P;exact ite_ff #[l,m,T]
 |true=>refine ite_tt$ test_last$ aK (A p M f l _ m q) λW U #[V,Y,I4,r4,q4]=>aK (g p U f Y y V u W _ I4 j r4 q4) λd' s5 i=>?_;obtain⟨z2,H5,I5,r5,k2,e2,q5⟩:=i;subst e2;cases r5;exact Lw #[H5,I5,q5]
def CZ(K:Frag)(x:V)(H:Hp)(k:Bool):Prop:=
 match x with
 | .non=>k=false
 | .bl b=>k=b
 | .int i=>k=(i != 0)
 | .str y=>y.length<=sizeLine/\k=((y.length:Int) != 0)
 | .byt y=>y.size<=sizeLine/\k=((y.size:Int) != 0)
 | .ref p=>(∃d,aB K H p d/\k=!d.isEmpty)∨(∃d,ax K H p d/\k=!d.isEmpty)∨∃e,H p=some (.dK e)/\k=!e.isEmpty
 |_=>False
theorem X9{d:Type}{k:List (d×V)}{v:List (d×Value)}(r:KV k v):(!v.isEmpty)=!k.isEmpty:=by cases r<;>rfl
theorem Ky(r:aw x i):(!i.toArray.isEmpty)=!x.isEmpty:=by cases r<;>simp
theorem dO:(sizeLine:Nat) < 2 ^ 63:=by rw[M'];decide
theorem Ci:ES X (λx H Q=>∃k,CZ X.K x H k/\Q k H):=by
 intro o s B H x v Q I R h;obtain⟨k,e,q⟩:=h;have C:=dO;have D:sizeLine=16777216:=M';cases x with
 |non=>cases R;have E:k=false:=e;subst E;exact truthy_none #[H,I,q]
 |bl b=>cases R;have E:k=b:=e;subst E;exact Lw #[H,I,q]
 |int i=>obtain⟨t,rfl⟩:=R;have E:k=(i != 0):=e;subst E;exact PySem.P.truthy_int #[H,I,q]
 |str y=>obtain⟨t,rfl⟩:=R;obtain⟨z,E⟩:y.length<=sizeLine/\k=((y.length:Int) != 0):=e;subst E;exact PySem.P.truthy_str RU #[H,I.tok _,q]
 |byt y=>obtain⟨t,rfl⟩:=R;obtain⟨z,E⟩:y.size<=sizeLine/\k=((y.size:Int) != 0):=e;subst E;exact PySem.W.truthy_bytes RU #[H,I.tok _,q]
 |ref p=>
  cases R;have E:(∃g,aB X.K H p g/\k=!g.isEmpty)∨(∃g,ax X.K H p g/\k=!g.isEmpty)∨∃d,H p=some (.dK d)/\k=!d.isEmpty:=e;rcases E with ⟨g,j,E⟩ | ⟨g,j,E⟩ | ⟨d,j,E⟩
  ·subst E;obtain⟨l,r,n,u⟩:=I.list j;have f:=r.length;exact wpAny_truthy_list n.isList (by simp only[GX];omega) #[H,I.tok _,by rw[Ky r];exact q]
  ·subst E;obtain⟨l,r,n,u⟩:=I.tuple j;have f:=r.length;exact truthy_tuple n (by simp only[GX];omega) #[H,I.tok _,by rw[Ky r];exact q]
  ·subst E;obtain⟨u,A,V,r,m⟩:d.length<=sizeLine/\(p==sysModules)=false/\∃V,KV d V/\s.heap.DictOf (aP X.prog X.w) p V:=I.hok p _ j;have f:d.length=V.length:=Paired.length r;exact wpAny_truthy_dict A m RU #[H,I.tok _,by rw[X9 r];exact q]
 |_=>exact(show False from e).elim
theorem sF(f:PE X a ta)(g:∀w,isTrue a X.env w=(do let v <- w;standAt a.pos;holding [v] (truthy v))):
  PT X a (λd H Q=>ta d H λx e=>∃k,CZ X.K x e k/\Q k e):=by
 intro p s d H Q I h;exact isTrue_plain (aK (f p s d H _ I h) λv S #[x,i,j,r,q]=>Ci p S d i x v Q j r q)$ g _
theorem zD:eh X (binaryOp .Add) (λx y H Q=>∃i j,x= .str i/\y= .str j/\i.length+j.length<=sizeLine/\Q (.str$ i++j) H):=by intro p s e H x y v u Q I r R h;obtain⟨i,j,rfl,rfl,d,q⟩:=h;obtain⟨t,rfl⟩:=r;obtain⟨T,rfl⟩:=R;exact add_str (λT f=>#[.str$ i++j,H,I.tok _,#[_,Z],q]) d
theorem eI(r:aw [x] U):∃u,U=[u]/\au x u:=by
 cases r with
 |cons R d=>cases d;exact#[_,Z,R]
theorem En(r:aw [x,y] U):∃u w,U=[u,w]/\au x u/\au y w:=by
 cases r with
 |cons R d=>
  cases d with
  |cons e f=>cases f;exact#[_,_,Z,R,e]
theorem Ju:dm X (.type "int") (λx H Q=>(∃i,x=[.int i]/\Q (.int i) H)∨∃k,x=[.bl k]/\Q (.int (if k then 1 else 0)) H):=by
 intro p s d H x U Q I r h;rcases h with ⟨i,rfl,q⟩ | ⟨k,rfl,q⟩
 ·obtain⟨u,rfl,t,rfl⟩:=eI r;exact call_int_int #[.int i,H,I,#[_,Z],q]
 ·obtain⟨u,rfl,R⟩:=eI r;cases R;exact call_int_bool #[.int (if k then 1 else 0),H,I.tok _,#[_,Z],q]
end
structure mz(h:Heap)(x dx C:Addr)(mA:Str->Option Value):Prop where
 obj:h.get? x=some (instObj C dx)
 ns:h.Ns1 dx mA
 ne:dx≠x
theorem Qr{h:Heap}(n:h.Ns1 d m):∃O,h.get? d=some O/\∀name,lookIn name O=some (m name):=by
 obtain⟨o,E,j,b,c,f,_,g⟩:=n;refine#[o,b,λname=>?_];have e:=g name;unfold nsFind findBy at e;rw[<- Array.find?_toList]at e;unfold lookIn;rw[c];dsimp only;split
 ·rename_i y q
  rw[q]at e;exact Iq some e
 ·rename_i q
  rw[q]at e;have a:E.toList.any (·.refKey)=false:=by rw[OQ];intro y i;obtain⟨z,t,H⟩:=f y (Array.mem_toList_iff.mp i);simp [DictEntry.refKey,H]
  have A:¬E.toList.any (·.refKey)=true:=by rw[a];exact Hc
  rw[Ho A];exact Iq some e
theorem mz.look(I:mz h x d C m):∃o,PySem.W.InstAt h x (instObj C d) C (some o)/\∀name,lookIn name o=some (m name):=
 let #[o,H,a]:=Qr I.ns
 #[o,#[I.obj,Z,Z,H],a]
section
variable {prog:Program}{w:World}{A:Around}{E:Value->Shared->Prop}{s:Shared}{K:Frag}{x dx C f:Addr}{mA:Str->Option Value}{name:Str}{v:Value}
theorem vE{Q:Value->Shared->Prop}(X:K.In s.heap)(I:mz s.heap x dx C mA)(a:plainGet K C name=true)(b:hasDictIn K C=true)
  (c:findIn K (.ref C) name=some none) (d:mA name=some v) (H:PySem.W.handedIn v=true) (h:Q v { s with toks:=s.toks+1 }):
  wpAny (model prog w) A (getAttr (.ref x) name e) Q E s:=by
 obtain⟨o,J,g⟩:=I.look;exact PySem.W.get_value X J (MW a).1 (PySem.W.findObj_own b c Z (by rw[g,d])) H h
theorem pY{Q:Value×List Value->Shared->Prop}(X:K.In s.heap)(I:mz s.heap x dx C mA)(H:plainGet K C name=true)
  (a:findIn K (.ref C) name=some (some$ .ref f)) (b:isFn K (.ref f)=true) (c:mA name=none) (h:Q (.ref f,[.ref x]) s):
  wpAny (model prog w) A (getMethod (.ref x) name p) Q E s:=by
 obtain⟨o,J,d⟩:=I.look;exact PySem.W.method_fn X J (MW H).1 (MW H).2 a (beq_iff_eq.mp b) (by show(lookIn name o).map (·.isSome)=some false;rw[d,c];rfl) h
theorem xz{Q:Unit->Shared->Prop}(X:K.In s.heap)(I:mz s.heap x dx C mA)
  (k:findIn K (.ref C) "__setattr__"=some (some$ .builtin "object.__setattr__")) (l:PySem.W.plainOver K C=true) (m:PySem.W.takerIn K C name=some none) (n:hasDictIn K C=true)
  (o:PySem.Within mA N) (p:N.length<=sizeLine)
  (h:∀d,mz d x dx C (λy=>if y=name then some v else mA y)->Heap.SameBut dx s.heap d->Q () { s with heap:=d,toks:=s.toks+2 }):
  wpAny (model prog w) A (setAttr (.ref x) name v) Q E s:=by
 obtain⟨O,J,B⟩:=I.look;refine PySem.W.set_plain X J k$ PySem.W.osa_open (s:={ s with toks:=s.toks+1 }) (r:=none) X J l m λb=>?_;obtain⟨D,q,e⟩:=PySem.W.any_some n;have t:s.heap.get? x=some #[.ref C,some dx,.plain,(List.toArray [])]:=I.obj;refine GK$ GL$ GK$ GK$ Mt t$ GK$ P5 (s:={ s with toks:=s.toks+1 }) (PySem.W.looks_clsIn X q) ?_;rw[e];refine GL (a:=some dx)$ GK$ GL$ GK ?_;refine wpAny_nsSet1 (s:={ s with toks:=s.toks+1 }) I.ns λd H c=>?_;obtain⟨F,u,z,g,i,j⟩:=H.count (Rh name v o);refine GK$ wpAny_lookBehind g (by rw[i];exact pastItsLine_dict$ Hh j (by rw[Hv];omega)) ?_;exact GL$ h _ #[(c.2 _$ HI I.ne).trans I.obj,H,I.ne] c
theorem rF{R:Result->Shared->Prop}(X:K.In s.heap)(H:PySem.W.makesIn K C=true)
  (b:findIn K (.ref C) "__init__"=some (some$ .ref f)) (c:typeIn K (.ref f)=some (.type "function"))
  (h:codeAny (model prog w) (A.under$ .builtin "type.__call__" #[.ref C::a,k]) (.call (.ref f) #[.ref (s.heap.objs.size+1)::a,k]) (PySem.W.InitBack (s.heap.objs.size+1) R)
   { s with heap:=(s.heap.push emptyDict).push (instObj C s.heap.objs.size) }):
  codeAny (model prog w) A (.call (.ref C) #[a,k]) R s:=by
 obtain⟨e,g,d,t,os⟩:=s;exact PySem.W.make_core (PySem.W.makes_of X H) (PySem.W.looks_findIn X b) (λS=>PySem.W.bind_fn X S c) (.inl Z) h
end
noncomputable def dP(f:Str)(v:V):List (Str×V)->List (Str×V)
 | []=>[(f,v)]
 | (g,x)::r=>if g=f then (g,v)::r else (g,x)::dP f v r
theorem JF(f g:Str)(v:V):∀F:List (Str×V),(dP f v F).lookup g=if g=f then some v else F.lookup g
 | []=>by
  show List.lookup g [(f,v)]=_;by_cases h:g=f
  ·have H:(g==f)=true:=beq_iff_eq.mpr h;simp only[List.lookup,H,Hm h]
  ·have H:(g==f)=false:=beq_eq_false_iff_ne.mpr h;simp only[List.lookup,H,Ho h]
 | (k,x)::r=>by
  have i:=JF f g v r;rw[show dP f v ((k,x)::r)=(if k=f then (k,v)::r else (k,x)::dP f v r) from Z];by_cases a:k=f
  ·rw[Hm a];by_cases h:g=k
   ·have H:(g==k)=true:=beq_iff_eq.mpr h;simp only[List.lookup,H,Hm$ h.trans a]
   ·have H:(g==k)=false:=beq_eq_false_iff_ne.mpr h;simp only[List.lookup,H,Ho (λe:g=f=>h (e.trans a.symm))]
  ·rw[Ho a];by_cases h:g=k
   ·have H:(g==k)=true:=beq_iff_eq.mpr h;simp only[List.lookup,H,Ho (λe:g=f=>a (h.symm.trans e))]
   ·have H:(g==k)=false:=beq_eq_false_iff_ne.mpr h;simp only[List.lookup,H];exact i
theorem Jv(f:Str)(v:V):∀F:List (Str×V),f∈(dP f v F).map (·.1)/\∀g,g∈F.map (·.1)->g∈(dP f v F).map (·.1)
 | []=>#[by simp [dP],λg h=>by simp at h]
 | (k,x)::r=>by
  obtain⟨i,I⟩:=Jv f v r;rw[show dP f v ((k,x)::r)=(if k=f then (k,v)::r else (k,x)::dP f v r) from Z];by_cases H:k=f
  ·rw[Hm H];subst H;exact#[RV,λg h=>by simpa using h]
  ·rw[Ho H];refine#[?_,λg h=>?_]
   ·rw[Ik];exact HD _ i
   ·rw[Ik]at h ⊢;rcases List.mem_cons.mp h with e |e
    ·exact List.mem_cons.mpr$ .inl e
    ·exact HD _$ I g e
theorem JG(f:Str)(v:V):∀F:List (Str×V),(dP f v F).length<=F.length+1
 | []=>by simp [dP]
 | (k,x)::r=>by
  have i:=JG f v r;rw[show dP f v ((k,x)::r)=(if k=f then (k,v)::r else (k,x)::dP f v r) from Z];by_cases h:k=f
  ·rw[Hm h,Hv,Hv];omega
  ·rw[Ho h,Hv,Hv];omega
theorem dy.some_of{v:V}{o:Option Value}(r:dy (some v) o):∃u,o=some u/\au v u:=by
 cases o with
 |none=>exact(show False from r).elim
 |some u=>exact#[u,Z,r]
theorem dy.none_of(r:dy none o):o=none:=by
 cases o with
 |none=>rfl
 |some u=>exact(show False from r).elim
theorem Zx(r:au v u):PySem.W.handedIn u=true:=by
 cases v with
 |non=>cases (show u=Value.none from r);rfl
 |bl b=>cases (show u=Value.bool b from r);rfl
 |int i=>obtain⟨t,e⟩:=(show ∃t,u=Value.int i t from r);cases e;rfl
 |str x=>obtain⟨t,e⟩:=(show ∃t,u=Value.str x t from r);cases e;rfl
 |byt b=>obtain⟨t,e⟩:=(show ∃t,u=Value.bytes b t from r);cases e;rfl
 |flt b=>obtain⟨t,e⟩:=(show ∃t,u=Value.float b t from r);cases e;rfl
 |ref a=>cases (show u=Value.ref a from r);rfl
 |ty n=>cases (show u=Value.type n from r);rfl
section
variable {P:Program}{w:World}{H H':Hp}{h h':Heap}{a C dx:Addr}{fs fs':List (Str×V)}
theorem Q1(b:eE P w H h)(e:H a=some (.ins C dx fs)):∃m,mz h a dx C m/\(∀f,dy (fs.lookup f)$ m f)/\PySem.Within m (fs.map (·.1))/\fs.length<=1000/\H dx=some (.own a):=by obtain⟨d,z,N,o,m,n,r,q⟩:=(show aN P w H h a (.ins C dx fs) from b a _ e);exact#[m,#[o,n,N],r,q,z,d]
end
structure oY(K:Frag)(C:Addr):Prop where
 pg:plainGet K C Str.empty=true
 hd:hasDictIn K C=true
 po:PySem.W.plainOver K C=true
 sa:findIn K (.ref C) "__setattr__"=some (some$ .builtin "object.__setattr__")
theorem oY.get{K:Frag}(c:oY K C)(f:Str):plainGet K C f=true:=c.pg
def bK(K:Frag)(C:Addr)(f:Str):Prop:=findIn K (.ref C) f=some none
theorem bK.taker{K:Frag}(n:bK K C f):PySem.W.takerIn K C f=some none:=by unfold PySem.W.takerIn;rw[show findIn K (.ref C) f=some none from n];rfl
structure bY(K:Frag)(C:Addr)(m:Str)(f:Addr):Prop where
 at_:findIn K (.ref C) m=some (some$ .ref f)
 fn:isFn K (.ref f)=true
 kp:keepIn K (.ref f)=true
section
variable {X:Cx}{pins:List (Addr×Obj)}{σ:St}{H:Hp}{s:Shared}{a C dx:Addr}{fs:List (Str×V)}{f:Str}{v:V}{A:Around}{E:Value->Shared->Prop}
theorem Kz{Q:Value->Shared->Prop}(I:ap X pins σ H s)(e:H a=some (.ins C dx fs))(c:oY X.K C)(n:bK X.K C f)(l:fs.lookup f=some v)
  (h:∀u S,ap X pins σ H S->au v u->Q u S):wpAny (model X.prog X.w) A (getAttr (.ref a) f b) Q E s:=by
 obtain⟨m,O,r,_,_,_⟩:=Q1 I.hok e;obtain⟨u,d,R⟩:=dy.some_of (v:=v) (o:=m f) (by rw[<- l];exact r f);exact vE I.kIn O (c.get f) c.hd n d (Zx R)$ h u _ (I.tok _) R
theorem KB{Q:Value×List Value->Shared->Prop}(I:ap X pins σ H s)(e:H a=some (.ins C dx fs))(c:oY X.K C)(k:bY X.K C m g)(l:fs.lookup m=none)
  (h:Q (.ref g,[.ref a]) s):wpAny (model X.prog X.w) A (getMethod (.ref a) m p) Q E s:=by
 obtain⟨M,O,r,_,_,_⟩:=Q1 I.hok e;have b:M m=none:=dy.none_of (by rw[<- l];exact r m);exact pY I.kIn O (c.get m) k.at_ k.fn b h
theorem KC{Q:Unit->Shared->Prop}(I:ap X pins σ H s)(e:H a=some (.ins C dx fs))(c:oY X.K C)(n:bK X.K C f)(F:fs.length < 1000)(R:au y u)
  (h:∀S,ap X pins σ (af H a$ .ins C dx$ dP f y fs) S->Q () S):wpAny (model X.prog X.w) A (setAttr (.ref a) f u) Q E s:=by
 obtain⟨m,O,r,W,_,i⟩:=Q1 I.hok e;have j:(fs.map (·.1)).length<=sizeLine:=by rw[GQ,M'];omega
 refine xz I.kIn O c.sa c.po n.taker c.hd W j λk d l=>h _ ?_;have p:∃o,k.get? dx=some o:=let #[o,_,_,t,_]:=d.ns;#[o,t]
 refine I.write (x:=a) (e:=dx) (by rw[e];exact True.intro) (.inr i) (λb q B z=>(l.2 b B).trans z) p ?_;refine#[by rw[ji O.ne];exact i,?_,O.ne,d.obj,_,d.ns,λg=>?_,λg D=>?_]
 ·have:=JG f y fs;omega
 ·show dy ((dP f y fs).lookup g) (if g=f then some u else m g);rw[JF];by_cases q:g=f
  ·rw[Hm q,Hm q];exact R
  ·rw[Ho q,Ho q];exact r g
 ·by_cases q:g=f
  ·rw[q];exact(Jv f y fs).1
  ·refine(Jv f y fs).2 g (W g λz=>D ?_);show(if g=f then some u else m g)=none;rw[Ho q];exact z
theorem ap.made(I:ap X pins σ H s):ap X pins σ (af (af H s.heap.objs.size$ .own$ s.heap.objs.size+1) (s.heap.objs.size+1)$ .ins C s.heap.objs.size [])
  { s with heap:=(s.heap.push emptyDict).push (instObj C s.heap.objs.size) }:=by
 have c:(s.heap.push emptyDict).get? s.heap.objs.size=some emptyDict:=GZ s.heap Z;have d:((s.heap.push emptyDict).push$ instObj C s.heap.objs.size).get? (s.heap.objs.size+1)=some (instObj C s.heap.objs.size):=by have:=GZ (s.heap.push emptyDict) (o:=instObj C s.heap.objs.size) Z;rwa [Ia]at this
 have g:(s.heap.push emptyDict).Ns s.heap.objs.size (λ_=>none):=#[emptyDict,(List.toArray []),_,c,Z,(λe h=>absurd h RV),λ_=>Z];have i:=I.laid (a:=s.heap.objs.size) (o:=.own (s.heap.objs.size+1)) (h':=s.heap.push emptyDict) (t':=s.toks) (λb u q=>GP _ q) (GV _) #[_,c];refine i.laid (a:=s.heap.objs.size+1) (o:=.ins C s.heap.objs.size []) (t':=s.toks) (λb u q=>GP _ q) (Ni$ Ia _ _) ?_;have n:s.heap.objs.size≠s.heap.objs.size+1:=Hd (IB _);refine#[by rw[ji n,jc],Hg _,n,d,λ_=>none,(Heap.Ns1.of_empty g).at λo q=>GP _ q,λ_=>True.intro,λy j=>absurd Z j]
theorem vh{f:Str}{s:Shared}(c:attributeBase e f b (eval e b)=eval e b)
  (h:wpAny (model p w) A (eval e b) (λo S=>wpAny (model p w) A (getAttr o f true) Q E S) E s):wpAny (model p w) A (eval (.Attribute e f d) b) Q E s:=
 Attribute_any_ h (by rw[arm_eval_Attribute,c])
end
inductive yI(K:Frag)(f:Str)(Q:VK)(x:V)(b:Hp):Prop
 |mk(a C c d v:_)(_:x= .ref a)(_:b a=some (.ins C c d))(_:oY K C)(_:bK K C f)(_:d.lookup f=some v)(_:Q v b)
def FF(K:Frag)(t:TE)(f:Str):TE:=λa H Q=>t a H (yI K f Q)
inductive yy(K:Frag)(f:Str)(D:aW)(e:St)(y x:V)(b:Hp):Prop
 |mk(a C c d:_)(_:x= .ref a)(_:b a=some (.ins C c d))(_:oY K C)(_:bK K C f)(_:d.length < 1000)(_:D.nx e (af b a (.ins C c (dP f y d))))
def Fp(K:Frag)(t T:TE)(f:Str):TS:=λD a H=>T a H λy h=>t a h (yy K f D a y)
def CP(X:Cx)(o:Operator)(r:V->V->Hp->VK->Prop):Prop:=
 ∀(p:List (Addr×Obj)) (s:Shared) (a:St) (H:Hp) (x y:V) (u v:Value) (Q:VK),ap X p a H s->au x u->au y v->r x y H Q->wpAny (model X.prog X.w) X.A (inplaceOp o u v) (EP X p a Q) X.xe s
inductive lJ(K:Frag)(g:TE)(e:V->V->Hp->VK->Prop)(f:Str)(D:aW)(h:St)(x:V)(b:Hp):Prop
 |mk(a C c d v:_)(_:x= .ref a)(_:b a=some (.ins C c d))(_:oY K C)(_:bK K C f)(_:d.lookup f=some v)(_:g h b λy H2=>e v y H2 λz H3=>∃dx' fs',H3 a=some (.ins C dx' fs')/\fs'.length < 1000/\D.nx h (af H3 a (.ins C dx' (dP f z fs'))))
def wW(K:Frag)(t T:TE)(r:V->V->Hp->VK->Prop)(f:Str):TS:=λD a H=>t a H (lJ K T r f D a)
section
variable {X:Cx}{o e value:Expr}{f:Str}{pos pos' tpos:Pos}{ta tv:TE}
theorem zr(b:PE X e ta)(d:attributeBase e f X.env (eval e X.env)=eval e X.env):PE X (.Attribute e f pos) (FF X.K ta f):=by intro p s g H Q I h;refine vh d$ aK (b p s g H _ I h) λu S z=>?_;obtain⟨x,i,j,r,a,C,D,F,v,E,k,c,n,l,q⟩:=z;subst E;obtain rfl:u=Value.ref a:=r;exact Kz j k c n l λU t m R=>#[v,i,m,R,q]
theorem qG(d:PE X o ta)(g:PE X value tv)(i:swapsWith value (some$ .Attribute o f pos') pos.line X.env=pure false):PS X (.Assign [.Attribute o f pos'] value pos) (Fp X.K ta tv f):=by intro p s b H D I h;refine plainObj_wpAny_Assign_Attribute (aK (g p s b H _ I h) λu S #[y,j,k,r,q]=>aK (d p S b j _ k q) λO w z=>?_) i;obtain⟨x,A,m,R,a,C,B,F,E,t,c,n,l,Q⟩:=z;subst E;obtain rfl:O=Value.ref a:=R;exact KC m t c n l r λG v=>#[b,_,v,Q]
theorem Zy{O:Operator}{r:V->V->Hp->VK->Prop}(i:PE X o ta)(j:PE X value tv)(g:CP X O r):PS X (.AugAssign (.Attribute o f tpos) O value pos) (wW X.K ta tv r f):=by intro p s d H D I h;refine wpAny_AugAssign_AttributeAny$ aK (i p s d H _ I h) λk s1 b=>?_;obtain⟨x,m,t,R,a,C,dx,fs,v,w,A,c,n,l,q⟩:=b;subst w;obtain rfl:k=Value.ref a:=R;refine Kz t A c n l λu S B F=>aK (j p S d m _ B q) λW G #[y,J,L,M,Q]=>aK (g p G d J v y u W _ L F M Q) λw4 s4 b=>?_;obtain⟨z,H3,N,P,T,U,E,Y,q4⟩:=b;exact KC N E c n Y P λs5 I5=>#[d,_,I5,q4]
inductive DO(x y:V)(H:Hp)(Q:VK):Prop
 |mk(i j:_)(_:x= .int i)(_:y= .int j)(_:Q (.int (i+j)) H)
theorem As:CP X .Add DO:=by rintro p s a H x y u v Q I r R ⟨i,j,rfl,rfl,q⟩;obtain⟨t,rfl⟩:=(show ∃t,u=Value.int i t from r);obtain⟨T,rfl⟩:=(show ∃T,v=Value.int j T from R);exact RB #[.int$ i+j,H,I.tok _,#[_,Z],q]
end
structure bu(k:Nat)(A:Around):Prop where
 hd:A.handled=none
 dp:A.depth+3*k+5 < recursionLimit
 un:A.units+16*k+200 < cLine
theorem bu.mono(r:bu k A)(h:j<=k):bu j A:=#[r.hd,by have:=r.dp;omega,by have:=r.un;omega]
theorem bu.deeper(r:bu (k+1) A)(e:Env):bu k (A.deeper e):=
 #[r.hd,by have:=r.dp;show A.depth+1+3*k+5 < _;omega,by have:=r.un;show A.units+3+16*k+200 < _;omega]
theorem Ya{A:Around}:(A.under$ .builtin "type.__call__" #[.ref C::u,k]).depth=A.depth+1:=by
 first |rfl |simp [Around.under,Code.weight,Code.isCreation,Code.isGuard,Code.isCaller,Code.frames,Code.isFrame,guardIds]
theorem Yb{A:Around}:(A.under$ .builtin "type.__call__" #[.ref C::u,k]).units=A.units+1:=by
 first |rfl |simp [Around.under,Code.cUnits,Code.frames,Code.isFrame]
theorem bu.make(r:bu (k+1) A)(C:Addr)(u:List Value)(K:List (Str×Value)):bu k (A.under$ .builtin "type.__call__" #[.ref C::u,K]):=
 #[r.hd,by have:=r.dp;rw[Ya];omega,by have:=r.un;rw[Yb];omega]
theorem bu.depth(r:bu k A):A.depth < recursionLimit:=by have:=r.dp;omega
theorem bu.units(r:bu k A):A.units+64 < cLine:=by have:=r.un;omega
def aM:TA:=λ_ H Q=>Q [] H
def al(t:TE)(T:TA):TA:=λa H Q=>t a H λx h=>T a h λX b=>Q (x::X) b
section
variable {X:Cx}{e:Expr}{es:List Expr}{te:TE}{t:TA}{pos:Pos}
theorem jb:PA X [] aM:=λ_ _ _ _ H Q I h=>IM #[[],H,I,.nil,h]
theorem ja(b:PE X e te)(c:PA X es t)(d:starEach (e::es) X.env=(false,eval e X.env)::starEach es X.env:=by rfl):PA X (e::es) (al te t):=by intro pos p s a H Q I h;rw[d];show wpAny _ _ (spliced ((false,eval e X.env)::backTo pos (starEach es X.env))) _ _ s;refine Ir$ aK (b p s a H _ I h) λu S z=>?_;obtain⟨x,f,i,r,q⟩:=z;exact aK (c pos p S a f _ i q) λU m #[g,j,k,R,l]=>#[x::g,j,k,.cons r R,l]
def bV(t:TA):TE:=λa H Q=>t a H λx h=>x.length<=sizeLine/\∀p,h p=none->Q (.ref p) (af h p$ .tup x)
def lW(t:TA):TE:=λa H Q=>t a H λx h=>x.length<=sizeLine/\∀p,h p=none->Q (.ref p) (af h p$ .lst x)
theorem jh{x}(h:PA X es t):PE X (.Tuple es x pos) (bV t):=by intro p s c H Q I d;refine Pg$ aK (h pos p s c H _ I d) λU S #[f,a,i,r,z,q]=>#[by rw[<- r.length];exact z,?_];have g:a S.heap.objs.size=none:=i.hok.fresh (GV _);refine#[.ref S.heap.objs.size,af a S.heap.objs.size$ .tup f,i.laid (t':=S.toks) (λb u e=>GP _ e) (GV _) ?_,Z,q _ g];exact#[z,U,r,#[_,GZ _ Z,Z,_,Z]]
theorem jE(h:PA X es t):PE X (.List es pos) (lW t):=by intro p s c H Q I d;refine wpAny_List_spliced$ aK (h pos p s c H _ I d) λU S #[x,a,i,r,z,q]=>#[by rw[<- r.length];exact z,?_];have f:a S.heap.objs.size=none:=i.hok.fresh (GV _);refine#[.ref S.heap.objs.size,af a S.heap.objs.size$ .lst x,i.laid (t':=S.toks) (λb u e=>GP _ e) (GV _) ?_,Z,q _ f];exact#[z,U,0,r,GZ _ Z]
end
abbrev Sp:=List V->Hp->VK->XK->Prop
abbrev ny:=List Env->Hp->Shared->XK->Value->Shared->Prop
structure mw(P:Program)(w:World)(K:Frag)(mg:Str->Option Value)(base:Heap)(A:Around)(outer:List Env)(s:Shared)(H:Hp):Prop where
 frames:A.frames=some outer
 mod:Mod K mg base
 bs:∀b o,base.get? b=some o->s.heap.get? b=some o/\H b=none
 bsz:base.objs.size<=s.heap.objs.size
 funs:s.heap.FunFrames base outer
 frf:∀b∈ip outer,H b=none
 hok:eE P w H s.heap
 bare:AllBare s.gens
def CE(o:List Env)(P:Program)(w:World)(H:Hp)(s:Shared)(Q:VK)(u:Value)(S:Shared):Prop:=
 ∃v h,S.os=s.os/\AllBare S.gens/\Un (ip o) [] H h s.heap S.heap/\eE P w h S.heap/\au v u/\Q v h
def CR(C:ny)(o:List Env)(P:Program)(w:World)(H:Hp)(s:Shared)(Q:VK)(E:XK)(r:Result)(S:Shared):Prop:=
 match r with
 | .ok (.ret u)=>CE o P w H s Q u S
 | .ok _=>False
 | .error e=>C o H s E e S
structure aj(P:Program)(w:World)(K:Frag)(mg:Str->Option Value)(base:Heap)(CX:ny)(k:Nat)(f:Addr)(fd:FuncData)(ps:List Str)(sp:Sp):Prop where
 len:∀vs H Q E,sp vs H Q E->vs.length=ps.length
 run:∀(A:Around) (outer:List Env) (s:Shared) (H:Hp) (args:Args) (us:List Value) (vs:List V) (Q:VK) (E:XK),bu k A->mw P w K mg base A outer s H->BindsTo s fd args (ps.zip us)->aw vs us->sp vs H Q E->
  codeAny (model P w) A (.call (.ref f) args) (CR CX outer P w H s Q E) s
theorem aj.mono{P:Program}{K:Frag}(F:aj P w K m b C j f c p d)(h:j<=k):
  aj P w K m b C k f c p d:=#[F.len,λA o s H a u v Q E e=>F.run A o s H a u v Q E (e.mono h)]
theorem mw.make{P:Program}{K:Frag}(e:mw P w K m b A o s H)(C:Addr)(u:List Value)(k:List (Str×Value)):
  mw P w K m b (A.under$ .builtin "type.__call__" #[.ref C::u,k]) o s H:=#[by first |exact e.frames | (simpa [Around.under,Code.envs,Code.isFrame,pushEnvs] using e.frames),e.mod,e.bs,e.bsz,e.funs,e.frf,e.hok,e.bare]
section
variable {X:Cx}{pins:List (Addr×Obj)}{σ:St}{H:Hp}{s s':Shared}
theorem ap.env0(I:ap X pins σ H s):mw X.prog X.w X.K X.mg X.base X.A X.stack s H:=
 #[I.ok.frames,I.ok.mod,I.bs,Hh I.ok.bsz I.sz,I.stack,I.stkFree,I.hok,I.bare]
theorem ap.after(I:ap X pins σ H s)(h:CE X.stack X.prog X.w H s Q u s'):EP X pins σ Q u s':=by obtain⟨v,c,os,B,U,a,r,q⟩:=h;obtain⟨e,g,d,t,o⟩:=s';obtain rfl:o=s.os:=os;exact#[v,c,I.call (h':=e) (g':=g) (d':=d) (t':=t) (ch:=[]) U a B (λb z=>absurd z RV),r,q]
end
def dF(s:Sp)(d:List V)(E:XK)(t:TA):TE:=λa H Q=>t a H λv h=>s (v++d) h Q E
inductive uo(C:Addr)(m:Str)(f:Sp)(b:List V)(E:XK)(t:TA)(g:St)(Q:VK)(x:V)(c:Hp):Prop
 |mk(a d e:_)(_:x= .ref a)(_:c a=some (.ins C d e))(_:e.lookup m=none)(_:t g c λvs H2=>f (x::(vs++b)) H2 Q E)
def um(C:Addr)(m:Str)(s:Sp)(d:List V)(E:XK)(T:TE)(t:TA):TE:=λa H Q=>T a H (uo C m s d E t a Q)
def Ej(C:Addr)(s:Sp)(D:List V)(E:XK)(t:TA):TE:=λa H Q=>t a H λb h=>∀x d,h x=none->h d=none->d≠x->
 s (.ref x::(b++D)) (af (af h d$ .own x) x$ .ins C d []) (λv c=>v= .non/\Q (.ref x) c) E
def ay(K:Frag)(f:FuncData)(p:List Str)(d:List Value):Prop:=
 ∀(s:Shared) (u:List Value),K.In s.heap->(u++d).length=p.length->BindsTo s f #[u,[]] (p.zip$ u++d)
theorem ay.all{K:Frag}{p:List Str}(h:∀u:List Value,u.length=p.length->bindArgs f #[u,[]]=pure (p.zip u)):ay K f p []:=λs u _ H=>by rw[Md]at H ⊢;exact .of_eq$ h u H
def di(C:ny)(X:Cx)(E:XK):Prop:=∀(p:List (Addr×Obj)) (a:St) (H:Hp) (s:Shared) (e:Value) (S:Shared),ap X p a H s->C X.stack H s E e S->X.xe e S
section
variable {X:Cx}{CX:ny}{k:Nat}{f C:Addr}{fd:FuncData}{ps:List Str}{sp:Sp}{dvs:List V}{ds:List Value}{E:XK}{x m:Str}{p pos apos:Pos}{e o:Expr}{es:List Expr}{ta:TE}{t:TA}
theorem QN{us:List Value}{vs:List V}(F:aj X.prog X.w X.K X.mg X.base CX k f fd ps sp)(d:bu k X.A)(g:ay X.K fd ps ds)(i:aw dvs ds)(j:di CX X E)
  (I:ap X a c H s) (r:aw vs us) (h:sp (vs++dvs) H Q E):wpAny (model X.prog X.w) X.A (call (.ref f) us) (EP X a c Q) X.xe s:=by
 have R:aw (vs++dvs) (us++ds):=r.append i;have l:(us++ds).length=ps.length:=by rw[<- R.length];exact F.len _ _ _ _ h
 refine M3$ LH (F.run X.A X.stack s H #[us,[]] (us++ds) (vs++dvs) Q E d I.env0 (g s us I.kIn l) R h) λr S b=>?_;cases r with
 |error e=>exact j a c H s e S I b
 |ok n=>
  cases n with
  |ret u=>exact I.after b
  |next=>exact False.elim b
  |brk=>exact False.elim b
  |cont=>exact False.elim b
theorem ke(F:aj X.prog X.w X.K X.mg X.base CX k f fd ps sp)(c:bu k X.A)(d:Gl X x)(g:X.mg x=some (.ref f))(j:keepIn X.K (.ref f)=true)(l:ay X.K fd ps ds)(n:aw dvs ds)(u:di CX X E)
  (v:PA X (e::es) t) (a:(x==("__debug__":Str))=false:=by decide) (y:starEach (e::es) X.env=(false,eval e X.env)::starEach es X.env:=by rfl) (b:(backTo pos$ starEach es X.env).any (·.1)=false:=by rfl):
  PE X (.Call (.Name x p) (e::es) [] pos) (dF sp dvs E t):=by
 intro P s z H Q I h;refine Ii$ zb I d g ?_ a;refine Nq (h₀:=X.base) I.ok.mod.kin j (aK (v pos P s z H _ I h) λU S #[B,D,i,r,q]=>#[i.kIn,?_]) y b;exact QN F c l n u i r q
theorem kO(v:PE X o ta)(c:oY X.K C)(g:bY X.K C m f)(F:aj X.prog X.w X.K X.mg X.base CX k f fd ps sp)(y:bu k X.A)(B:ay X.K fd ps ds)(D:aw dvs ds)(G:di CX X E)(J:PA X (e::es) t)
  (b:starEach (e::es) X.env=(false,eval e X.env)::starEach es X.env:=by rfl) (d:(backTo pos$ starEach es X.env).any (·.1)=false:=by rfl)
  (L:eval (.Call (.Attribute o m apos) (e::es) [] pos) X.env=(do
   let O <- eval o X.env
   standAt apos.atName
   let (f,first) <- holding [O] (getMethod O m pl)
   callWith pos f first (backTo pos$ starEach (e::es) X.env) (backToKw pos$ keywordEach [] X.env)):=by rfl):
  PE X (.Call (.Attribute o m apos) (e::es) [] pos) (um C m sp dvs E ta t):=by
 intro P s i H Q I h;refine Mx (pl:=pl) (aK (v P s i H _ I h) λu S z=>?_) L;obtain⟨x,M,j,R,a,W,Y,N,T,l,q⟩:=z;subst N;obtain rfl:u=Value.ref a:=R;refine KB j T c g l ?_;refine Nq (first:=[.ref a]) (h₀:=X.base) I.ok.mod.kin g.kp (aK (J pos P S i M _ j q) λus s2 #[vs,H2,n,r,U]=>#[n.kIn,?_]) b d;exact QN (us:=.ref a::us) (vs:=.ref a::vs) F y B D G n (.cons Z r) U
theorem si(d:PE X o ta)(c:oY X.K C)(b:bY X.K C m f)(F:aj X.prog X.w X.K X.mg X.base CX k f fd ps sp)(g:bu k X.A)(j:ay X.K fd ps ds)(n:aw dvs ds)(r:di CX X E)
  (v:eval (.Call (.Attribute o m apos) [] [] pos) X.env=(do
   let O <- eval o X.env
   standAt apos.atName
   let (f,first) <- holding [O] (getMethod O m pl)
   callWith pos f first (backTo pos$ starEach [] X.env) (backToKw pos$ keywordEach [] X.env)):=by rfl):
  PE X (.Call (.Attribute o m apos) [] [] pos) (um C m sp dvs E ta aM):=by
 intro P s y H Q I h;refine Mx (pl:=pl) (aK (d P s y H _ I h) λu S z=>?_) v;obtain⟨x,G,i,R,a,J,L,B,D,l,q⟩:=z;subst B;obtain rfl:u=Value.ref a:=R;refine KB i D c b l ?_;exact Oa (first:=[.ref a]) i.kIn b.kp$ QN (us:=[.ref a]) (vs:=[.ref a]) F g j n r i (.cons Z .nil) q
structure Mk(K:Frag)(C f:Addr):Prop where
 makes:PySem.W.makesIn K C=true
 init:findIn K (.ref C) "__init__"=some (some$ .ref f)
 fn:isFn K (.ref f)=true
 kp:keepIn K (.ref C)=true
theorem sL(M:Mk X.K C f)(F:aj X.prog X.w X.K X.mg X.base CX k f fd ps sp)(l:bu (k+1) X.A)(n:ay X.K fd ps ds)(q:aw dvs ds)
  (y:di CX X E) (I:ap X b c H s) (r:aw g U)
  (h:∀x d,H x=none->H d=none->d≠x->sp (.ref x::(g++dvs)) (af (af H d$ .own x) x$ .ins C d []) (λv z=>v= .non/\Q (.ref x) z) E):
  wpAny (model X.prog X.w) X.A (call (.ref C) U) (EP X b c Q) X.xe s:=by
 have j:=h (s.heap.objs.size+1) s.heap.objs.size (I.hok.fresh$ IL _) (I.hok.fresh$ GV _) (Hd$ IB _);have i:=ap.made (C:=C) I;have R:aw (V.ref (s.heap.objs.size+1)::(g++dvs)) (Value.ref (s.heap.objs.size+1)::(U++ds)):=.cons Z (r.append q);have B:(Value.ref (s.heap.objs.size+1)::U++ds).length=ps.length:=by have e:=R.length;rw[F.len _ _ _ _ j]at e;exact e.symm
 refine M3 (rF (f:=f) I.kIn M.makes M.init (beq_iff_eq.mp M.fn) (LH (F.run _ X.stack _ _ #[Value.ref (s.heap.objs.size+1)::U,[]] (Value.ref (s.heap.objs.size+1)::(U++ds)) _ _ E (l.make C U [])
  (i.env0.make C U []) (n _ (Value.ref (s.heap.objs.size+1)::U) i.kIn B) R j) λr S a=>?_))
 cases r with
 |error e=>exact y b c _ _ e S i a
 |ok D=>
  cases D with
  |ret u=>obtain⟨v,G,J,L,N,O⟩:=i.after a;subst N;exact#[L,#[V.ref$ s.heap.objs.size+1,G,J,Z,O]]
  |next=>exact False.elim a
  |brk=>exact False.elim a
  |cont=>exact False.elim a
theorem YW(M:Mk X.K C f)(F:aj X.prog X.w X.K X.mg X.base CX k f fd ps sp)(c:bu (k+1) X.A)(d:Gl X x)(g:X.mg x=some (.ref C))(j:ay X.K fd ps ds)(l:aw dvs ds)(n:di CX X E)
  (u:PA X (e::es) t) (a:(x==("__debug__":Str))=false:=by decide) (v:starEach (e::es) X.env=(false,eval e X.env)::starEach es X.env:=by rfl) (b:(backTo pos$ starEach es X.env).any (·.1)=false:=by rfl):
  PE X (.Call (.Name x p) (e::es) [] pos) (Ej C sp dvs E t):=by
 intro P s y H Q I h;refine Ii$ zb I d g ?_ a;refine Nq (h₀:=X.base) I.ok.mod.kin M.kp (aK (u pos P s y H _ I h) λU S #[z,B,i,r,q]=>#[i.kIn,?_]) v b;exact sL M F c j l n i r q
end
structure ak(N P:List Str)(sc:Scope):Prop where
 kind:sc.kind= .function
 co:sc.isCoroutine=false
 gen:sc.isGenerator=false
 nd:N.Nodup
 pre:N.take P.length=P
 par:∀x∈P,sc.names.lookup x=some .local∨sc.names.lookup x=some .cell
 nofree:∀y∈sc.names,y.2≠ .free
theorem Qs{kindOf:Str->Option NameKind}:∀{b:List (Str×Value)} {m:Str->Option Value},(∀v,(x,v)∉b)->bindL kindOf b m x=m x
 | [],_,_=>rfl
 | (n,v)::r,m,h=>by
  unfold bindL;rw[Qs λw H=>h w (HD _ H)];split
  ·have:x≠n:=by rintro rfl;exact h v Hq
   simp [this]
  ·rfl
theorem Qt{kindOf:Str->Option NameKind}:∀{b:List (Str×Value)} {m:Str->Option Value},(∀v,(x,v)∉b)->bindC kindOf b m x=m x
 | [],_,_=>rfl
 | (n,v)::r,m,h=>by
  unfold bindC;rw[Qt λw H=>h w (HD _ H)];split
  ·rfl
  ·have:x≠n:=by rintro rfl;exact h v Hq
   simp [this]
theorem Qu{kindOf:Str->Option NameKind}:∀{P:List Str} {V:List Value} {i:Nat} {m:Str->Option Value},P.Nodup->P[i]?=some x->V[i]?=some v->kindOf x=some .local->
  bindL kindOf (P.zip V) m x=some v
 | [],_,_,_,_,h,_,_=>by simp at h
 |_::_,[],_,_,_,_,h,_=>by simp at h
 |p::P,w::V,0,m,n,H,a,b=>by simp at H a;subst H;subst a;show bindL kindOf ((p,w)::P.zip V) m p=_;unfold bindL;rw[Qs λv c=>(List.nodup_cons.mp n).1 (MN c).1,Hm b];simp
 |p::P,w::V,i+1,m,n,H,a,b=>by show bindL kindOf ((p,w)::P.zip V) m x=_;unfold bindL;exact Qu (i:=i) (List.nodup_cons.mp n).2 (by simpa using H) (by simpa using a) b
theorem Qv{kindOf:Str->Option NameKind}:∀{P:List Str} {V:List Value} {i:Nat} {m:Str->Option Value},P.Nodup->P[i]?=some x->V[i]?=some v->kindOf x≠some .local->
  bindC kindOf (P.zip V) m x=some v
 | [],_,_,_,_,h,_,_=>by simp at h
 |_::_,[],_,_,_,_,h,_=>by simp at h
 |p::P,w::V,0,m,n,H,a,b=>by simp at H a;subst H;subst a;show bindC kindOf ((p,w)::P.zip V) m p=_;unfold bindC;rw[Qt λv c=>(List.nodup_cons.mp n).1 (MN c).1,Ho b];simp
 |p::P,w::V,i+1,m,n,H,a,b=>by show bindC kindOf ((p,w)::P.zip V) m x=_;unfold bindC;exact Qv (i:=i) (List.nodup_cons.mp n).2 (by simpa using H) (by simpa using a) b
noncomputable def fX(N:List Str)(v:List V):St:=v.map some++List.replicate (N.length - v.length) none
noncomputable def eU(C:ny)(P:Program)(w:World)(K:Frag)(mg:Str->Option Value)(base:Heap)(N:List Str)(q:Str)(S:Scope)(f:Addr)(c:Value)(A:Around)(outer:List Env)(s:Shared)(H:Hp)(E:XK):Cx where
 prog:=P
 w:=w
 K:=K
 mg:=mg
 base:=base
 A:=A.deeper (envOfC q S s.heap.objs.size f c)
 N:=N
 s₀:=s
 H₀:=H
 env:=envOfC q S s.heap.objs.size f c
 outer:=outer
 stack:=envOfC q S s.heap.objs.size f c::outer
 ex:=[]
 calm:=true
 fn:=λ_=>true
 pn:=[]
 xe:=λe b=>wpAny (model P w) (A.deeper$ envOfC q S s.heap.objs.size f c) (leaving (envOfC q S s.heap.objs.size f c) e) (λ_ a=>C outer H s E e a) (λd a=>C outer H s E d a) b
theorem Xq{s:Scope}{n:Nat}(h:s.names.lookup x=some .cell):∃c,(cellsFrom n s.names []).lookup x=some c:=by have q:=NN s.names n [] (.inl h);exact Option.isSome_iff_exists.mp q
theorem Zz{P:Program}{K:Frag}{A:Around}{l:List V}
  (S:ak N t d) (O:A.handled=none) (j:mw P w K M B A o s H) (hl:l.length=t.length) (r:aw l U)
  (x:InCallC s s.heap.objs.size (bindL (envOfC Q d s.heap.objs.size f I).kindOf (t.zip U) λ_=>none) (cellsFrom (s.heap.objs.size+1) d.names []) (bindC (envOfC Q d s.heap.objs.size f I).kindOf (t.zip U) λ_=>none) T):
  ap (eU Y P w K M B N Q d f I A o s H E) [] (fX N l) H T:=by
 have R:t.length<=N.length:=by have:=Iq List.length S.pre;rw[HF]at this;omega
 obtain⟨F,tk,rfl,J⟩:=x.done;have m:∀b:Addr,b∉(eU Y P w K M B N Q d f I A o s H E).ex:=λb z=>absurd (show b∈([]:List Addr) from z) RV;refine#[#[j.mod,S.kind,Z,Z,GV _,λy z c F g=>?_,λy hy=>?_,λy c _ h=>?_,λ_=>O,Around.frames_deeper j.frames,.inr #[Z,Z],λb z=>absurd z (m b),j.bs,j.bsz,λb _ _=>m b,λb z=>absurd z (m b),j.funs,j.frf],
  rfl,j.bare,Un.kept J,#[_,x.toInCall.ns,λi y v F g h3=>?_],λy c h=>#[_,x.cell y c h],j.hok.fresh$ GV _,λy c h=>?_,λp C=>absurd (show p∈([]:List (Addr×Obj)) from C) RV,j.hok.kept J,?_]
 ·exact name_of_addr x.apart (IC F)$ IC g
 ·have hy:d.names.lookup y=some .cell∨d.names.lookup y=some .free:=hy;rcases hy with hy |hy
  ·exact Xq hy
  ·exact absurd Z$ S.nofree _$ IC hy
 ·exact Ld$ x.above y c$ IC h
 ·have G:i < l.length:=by
   unfold fX at g;by_cases G:i < l.length
   ·exact G
   ·rw[IX (by simpa using G)]at g;rw[N8]at g;split at g<;>cases g
  have W:l[i]?=some v:=by
   unfold fX at g;rw[I9 (by simpa using G),Hu]at g;cases e:l[i]? with
   |none=>rw[e]at g;cases g
   |some a=>rw[e]at g;cases g;rfl
  obtain⟨u,L,X⟩:=r.get W;have C:t[i]?=some y:=by rw[<- S.pre,N0 RU];exact F
  have D:t.Nodup:=by rw[<- S.pre];exact S.nd.sublist$ Lb _ _
  refine#[u,X,?_];rcases S.par y (Hf C) with k |k
  ·exact .inl #[k,Qu D C L k]
  ·obtain⟨c,e⟩:=Xq (n:=s.heap.objs.size+1) k;refine .inr #[.inl k,c,e,?_];have q:=x.cell y c e;rw[Qv D C L (by show d.names.lookup y≠_;rw[k];decide)]at q;exact q
 ·exact j.hok.fresh$ Ld$ x.above y c$ IC h
 ·unfold fX;show _=N.length;rw[GU,GQ,MS];omega
theorem yj{P:Program}{K:Frag}{kV:Value}
    {G:Sp} (lk:K.lookup f=some #[oc,od,.func$ fnOf name c p h a dV kV L pm an C ct,o1]) (M:codeIn K C c=true) (S:ak N T a)
  (len:∀d H Q E,G d H Q E->d.length=T.length)
  (j:∀(A:Around) (O:List Env) (s:Shared) (H:Hp) (d:List V) (Q:VK) (E:XK),bu k (A.deeper$ envOfC c a s.heap.objs.size f C)->G d H Q E->
   ∃t,iG (eU U P w K Y B N c a f C A O s H E) h t/\t { nx:=λ_ i=>Q .non i,rt:=Q } (fX N d) H):
  aj P w K Y B U (k+1) f (fnOf name c p h a dV kV L pm an C ct) T G:=by
 refine#[len,λA O s H a0 us d Q E R z hb r D=>?_];have hl:=len _ _ _ _ D;have KX:K.In s.heap:=z.mod.kin.keeps λb o e=>(z.bs b o e).1;have X:s.heap.NoLimit:=z.mod.nolimit.keeps λb o e=>(z.bs b o e).1;have l:∀y∈T.zip us,a.names.lookup y.1=some .local∨(a.names.lookup y.1=some .cell/\((cellsFrom (s.heap.objs.size+1) a.names []).lookup y.1).isSome=true):=λ#[n,v] hy=>by
  rcases S.par n (MN hy).1 with q |q
  ·exact .inl q
  ·exact .inr #[q,NN _ _ _$ .inl q]
 refine codeAny_call_function R.depth (KX _ _ lk) Z S.co S.gen Z (PySem.W.codeRec_of KX M)$ hb _ _ _ _ ?_;refine wpAny_newFunctionEnv_cells S.kind l λe1 he s1 x=>?_;subst he;refine#[X.keeps x.toInCall.keep,codeAny_func ?_];obtain⟨t,ht,hq⟩:=j A O s H d Q E (R.deeper _) D;have I:ap (eU U P w K Y B N c a f C A O s H E) [] (fX N d) H s1:=Zz S R.hd z hl r x;refine Ib (ht [] s1 (fX N d) H _ I hq) (λfl s' m=>?_) λe s' m=>m;have F:∀{g:St} {i:Hp} {v:V} {u:Value},ap (eU U P w K Y B N c a f C A O s H E) [] g i s'->au v u->Q v i->CE O P w H s Q u s':=
  λ{g i v u} J rv q=>#[v,i,J.os,J.bare,J.base,J.hok,rv,q]
 cases fl with
 |ret u=>obtain⟨v,g,i,J,rv,q⟩:=m;exact F J rv q
 |next=>obtain⟨g,i,J,q⟩:=m;exact F (v:=V.non) (u:=Value.none) J Z q
 |brk=>obtain⟨_,_,_,q⟩:=m;exact False.elim q
 |cont=>obtain⟨_,_,_,q⟩:=m;exact False.elim q
section
variable {X:Cx}{x:Str}{p pos:Pos}{e:Expr}{es:List Expr}{t:TA}{id T:String}{r:List V->Hp->VK->Prop}
def EE(r:List V->Hp->VK->Prop)(t:TA):TE:=λa H Q=>t a H λv h=>r v h Q
theorem jI(d:dm X (.builtin id) r)(f:Gl X x)(g:X.mg x=none)(i:bootBuiltins x=some (.builtin id))(j:PA X (e::es) t)(k:x≠"__name__":=by decide)(a:(x==("__debug__":Str))=false:=by decide)
  (l:starEach (e::es) X.env=(false,eval e X.env)::starEach es X.env:=by rfl) (b:(backTo pos$ starEach es X.env).any (·.1)=false:=by rfl):PE X (.Call (.Name x p) (e::es) [] pos) (EE r t):=by
 intro P s c H Q I h;refine Ii$ zU I f g i ?_ k a;exact RD (aK (j pos P s c H _ I h) λu S #[v,m,n,R,q]=>d P S c m v u Q n R q) l b
theorem jG(d:dm X (.type T) r)(f:Gl X x)(g:X.mg x=none)(i:bootBuiltins x=some (.type T))(j:PA X (e::es) t)(k:x≠"__name__":=by decide)(a:(x==("__debug__":Str))=false:=by decide)
  (l:starEach (e::es) X.env=(false,eval e X.env)::starEach es X.env:=by rfl) (b:(backTo pos$ starEach es X.env).any (·.1)=false:=by rfl):PE X (.Call (.Name x p) (e::es) [] pos) (EE r t):=by
 intro P s c H Q I h;refine Ii$ zU I f g i ?_ k a;exact HX (aK (j pos P s c H _ I h) λu S #[v,m,n,R,q]=>d P S c m v u Q n R q) l b
end
end _L
namespace HT
open PySem PyProof.Rows
noncomputable def lexLt:List Int->List Int->Bool
 | [],[]=>false
 | [],_::_=>true
 |_::_,[]=>false
 |x::X,y::Y=>if x=y then lexLt X Y else decide (x < y)
theorem lexLt_cons(x y:Int)(X Y:List Int):lexLt (x::X) (y::Y)=if x=y then lexLt X Y else decide (x < y):=rfl
theorem K0:lexLt [] []=false:=rfl
theorem KM(y:Int)(Y:List Int):lexLt [] (y::Y)=true:=rfl
theorem KN(x:Int)(X:List Int):lexLt (x::X) []=false:=rfl
theorem pO(A:Around)(s:Shared)(a:Int)(t:Tok)(c:Int)(u:Tok):∃e,SeqAt.EqAt A s (.int a t) (.int c u) e/\(e=true↔a=c):=
 #[(a==c),NV a t c u,RV]
theorem sK(A:Around)(s:Shared)(a:Int)(t:Tok)(c:Int)(u:Tok)(p:Program)(w:World)(E:Value->Shared->Prop)(Q:Value->Shared->Prop)(h:Q (.bool$ decide$ a < c) s):
  wpAny (model p w) A (richCompare .Lt (.int a t)$ .int c u) Q E s:=
 (Rz h:wpAny (model p w) A (compareOp .Lt (.int a t)$ .int c u) Q E s)
section
open PySem.SeqAt
open PySem.AutoSeq1 (wpAny_loadPart')
open PySem.MeetsSeq PySem.MeetsSeq2 PySem.MeetsSeq3
theorem K6(l b:Addr)(I i:Array Value)(n U:Nat)(X G:Option Addr)(Y S:Array (Option Value))(E M:List Int)(O:IntsAre I.toList E)(P:IntsAre i.toList M):
  Meets (Builtin.«tuple.__lt__» #[[.ref l,.ref b],[]])
   (λ_ R s=>s.heap.get? l=some { cls:=.type "tuple",dict:=X,data:=.seq I n,slots:=Y }/\s.heap.get? b=some { cls:=.type "tuple",dict:=G,data:=.seq i U,slots:=S }/\
    R (.ok$ .ret$ .bool$ lexLt E M) s):=
 .of_wp λp w A R s h=>by
  obtain⟨F,g,d,T,os⟩:=s;obtain⟨hl,hb,h⟩:=h;have f2:=Nw;have z1:I.size=E.length:=by rw[<- O.length];simp
  have z2:i.size=M.length:=by rw[<- P.length];simp
  wp_walk using N6 hl,N6 hb,wpAny_forIn_list _ (λr b J=>b.1=none/\J=#[F,g,d,T,os]/\∃(V W:List Value) (N m:List Int),r=V.zip W/\
   IntsAre V N/\IntsAre W m/\N.length+i.size=m.length+I.size/\R (.ok$ .ret$ .bool$ lexLt N m) #[F,g,d,T,os]) _
  case turn=>
   rintro ⟨y,x⟩ r b J ⟨v,rfl,V,W,N,m,f,z,j,H,k⟩;cases z with
   |nil=>rw[ON]at f;cases f
   |cons a t C=>
    cases j with
    |nil=>rw[OA]at f;cases f
    |cons c u D=>
     rw[OB]at f;injection f with K B;injection K with hy hx;subst hy hx;rw[lexLt_cons]at k;simp only[Hv]at H;obtain⟨e,he,o⟩:=pO A.in1 #[F,g,d,T,os] a t c u;refine GK$ he p w _ _ ?_;cases e with
     |true=>rw[Hm$ o.mp Z]at k;wp_walk;exact#[Z,Z,_,_,_,_,B,C,D,RU,k]
     |false=>rw[Ho (λq=>absurd (o.mpr q) Hc)]at k;have L:=sK A.in1 #[F,g,d,T,os] a t c u p w;wp_walk using L;exact#[_,Z,by simpa using k]
  case fin=>
   rintro ⟨b1,b2⟩ J ⟨v,rfl,V,W,N,m,f,z,j,H,k⟩;simp only at v;subst v;have Q:lexLt N m=decide (I.size < i.size):=by
    cases z with
    |nil=>
     cases j with
     |nil=>simp only[LM]at H;rw[K0];exact(G8 RU).symm
     |cons c u hw=>simp only[LM,Hv]at H;rw[KM];exact(Hl RU).symm
    |cons a t Q=>
     cases j with
     |nil=>simp only[LM,Hv]at H;rw[KN];exact(G8 RU).symm
     |cons c u hw=>rw[OB]at f;cases f
   rw[Q]at k;wp_walk;exact#[_,Z,by simpa [Builtin.Tuple.tupleCompareSizes] using k]
  case h=>
   exact#[Z,Z,I.toList,i.toList,E,M,Z,O,P,RU,h]
end
section
variable {prog:Program}{w:World}{A:Around}{E:Value->Shared->Prop}{s:Shared}
theorem lt_tupInts{Q:Value->Shared->Prop}(j:IsTup s.heap l I)(k:IsTup s.heap b i)(o:IntsAre I.toList N)(p:IntsAre i.toList m)
  (q:A.units < cLine) (h:Q (.bool$ lexLt N m) s):wpAny (model prog w) A (compareOp .Lt (.ref l)$ .ref b) Q E s:=by
 obtain⟨⟨r,t,D,u⟩,e,f,n,g⟩:=id j;obtain⟨⟨C,d,data2,S⟩,H,a,v,c⟩:=id k;simp only at f g a c;subst f g a c;exact richCompare_meets_room (op:=.Lt) #[_,e,Z] #[_,H,Z] PySem.F.slot_tuple_lt PySem.F.entry_tuple_lt (PySem.F.args_tuple_lt_2 _ _) (K6 l b I i n v t d u S N m o p)
  #[e,H,show Value.bool (lexLt N m)≠Value.notImplemented/\Q (.bool$ lexLt N m) s from #[(λx=>nomatch x),h]] q
theorem cat_tup{v W:List Value}{Q:Value->Shared->Prop}(m:IsTup s.heap t v.toArray)(o:IsTup s.heap b W.toArray)(i:v≠[])
  (p:W=[]->Q (.ref t) s) (q:W≠[]->Q (.ref s.heap.objs.size) { s with heap:=s.heap.push { cls:=.type "tuple",data:=.seq (v++W).toArray } })
  (g:v.length+W.length<=sizeLine):wpAny (model prog w) A (binaryOp .Add (.ref t)$ .ref b) Q E s:=by
 obtain⟨⟨cls,D,data,j⟩,c,k,n,l⟩:=id m;obtain⟨⟨C,d,data2,S⟩,h,H,N,a⟩:=id o;simp only at k l H a;subst k l H a;have e:v.toArray++W.toArray=(v++W).toArray:=by simp
 by_cases f:W=[]
 ·exact OL #[_,c,Z] #[_,h,Z] NM Oq Mu Mn (Ml _ _)
   (tuple_addW1 t b v.toArray W.toArray n N D d j S (by simpa using i) (by simp [f])) #[c,h,p f]
 ·refine OL #[_,c,Z] #[_,h,Z] NM Oq Mu Mn (Ml _ _)
   (tuple_addW2 t b v.toArray W.toArray n N D d j S (by simpa using i) (by simpa using f) (by rw[GX,GX];exact g)) #[c,h,?_]
  rw[e];exact q f
noncomputable def sIx(n d:Nat):Option Int->Nat
 |none=>d
 |some v=>if v < 0 then (v+(n:Int)).toNat else min v.toNat n
theorem sIx_none(n d:Nat):sIx n d none=d:=rfl
theorem sIx_nat(n d k:Nat):sIx n d (some (k:Int))=min k n:=by show(if (k:Int) < 0 then ((k:Int)+(n:Int)).toNat else min (k:Int).toNat n)=min k n;rw[Ho RU,Ie]
theorem BC(n d:Nat)(H:d<=n)(o:Option Int):sIx n d o<=n:=by
 cases o with
 |none=>exact H
 |some v=>
  show(if v < 0 then (v+(n:Int)).toNat else min v.toNat n)<=n;by_cases h:v < 0
  ·rw[Hm h];omega
  ·rw[Ho h];exact Nat.min_le_right _ _
theorem YX(v:Int)(n d:Nat):(if v < 0 then max (v+(n:Int)) 0 else min v (n:Int))=((sIx n d (some v):Nat):Int):=by
 show(if v < 0 then max (v+(n:Int)) 0 else min v (n:Int))=(((if v < 0 then (v+(n:Int)).toNat else min v.toNat n):Nat):Int);by_cases h:v < 0
 ·simp only[Hm h];omega
 ·simp only[Ho h];omega
theorem Yc(lo h:Option Int)(n:Nat):Builtin.Slice.sliceAdjust lo h 1 (n:Int)=(((sIx n 0 lo:Nat):Int),((sIx n n h:Nat):Int)):=by
 have H:¬((1:Int) < 0):=by omega
 unfold Builtin.Slice.sliceAdjust;simp only[H,Ix];refine Prod.ext ?_ ?_
 ·cases lo with
  |none=>rfl
  |some v=>exact YX v n 0
 ·cases h with
  |none=>rfl
  |some v=>exact YX v n n
theorem Yd(i j:Nat):Builtin.Slice.slicePlaces (i:Int) (j:Int) 1=j - i:=by
 unfold Builtin.Slice.slicePlaces;have h:(1:Int) > 0:=by omega
 simp only[h,Mi,Int.ediv_one];split<;>omega
theorem KD{Q:Option Int->Shared->Prop}(p:IsPart v o)(h:Q o s):wpAny (model prog w) A (Builtin.Slice.slicePartIndex v) Q E s:=by
 cases p with
 |none=>exact RJ h
 |int i t=>exact slicePart_int h
theorem sliceApplied_gen{lo:Option Int}{Q:Int×Int×Nat->Shared->Prop}(d:s.heap.IsSliceOf e v c .none)(p:IsPart v lo)(P:IsPart c b)
  (h:Q (((sIx n 0 lo:Nat):Int),1,sIx n n b - sIx n 0 lo) s):wpAny (model prog w) A (Builtin.Slice.sliceApplied (.ref e)$ pure (n:Int)) Q E s:=by
 obtain⟨os,H,f,a⟩:=id d;unfold Builtin.Slice.sliceApplied Builtin.Slice.sliceFields;refine GK$ GK$ HC H a (x:=v) Z$ GK$ HC H a (x:=c) Z$ GK$ HC H a (x:=.none) Z$ GL ?_;refine GK$ RJ ?_;show wpAny _ _ (if ((1:Int)==0)=true then _ else _) _ _ s;rw[Ho RT];refine GK$ KD p$ GK$ KD P$ GK$ GL ?_;show wpAny _ _ (match Builtin.Slice.sliceAdjust lo b 1 (n:Int) with | (lo,b)=>pure (lo,(1:Int),Builtin.Slice.slicePlaces lo b 1)) _ _ s;rw[Yc lo b n];show wpAny _ _ (pure (((sIx n 0 lo:Nat):Int),(1:Int),Builtin.Slice.slicePlaces ((sIx n 0 lo:Nat):Int) ((sIx n n b:Nat):Int) 1)) _ _ s;rw[Yd];exact GL h
theorem sy(X:Array Value)(i k:Nat):((List.range k).filterMap λ(m:Nat)=>X[((i:Int)+(m:Int)*1).toNat]?).toArray=((X.toList.drop i).take k).toArray:=by
 have e:(λ(m:Nat)=>X[((i:Int)+(m:Int)*1).toNat]?)=λm=>X[i+m]?:=by
  funext m;have:((i:Int)+(m:Int)*1).toNat=i+m:=by omega
  rw[this]
 rw[e];have:=pick_run X i k;rw[List.filterMap_map]at this;have a:((λx=>X[x]?) ∘ λx=>i+x)=λm=>X[i+m]?:=rfl;rw[a]at this;rw[this]
theorem getItem_tuple_cut{lo:Option Int}{Q:Value->Shared->Prop}(ht:IsTup s.heap t items)(hs:s.heap.IsSliceOf sl vl vu .none)(pl:IsPart vl lo)(pu:IsPart vu hi)
  (hw:¬(sIx items.size 0 lo=0/\sIx items.size items.size hi=items.size))
  (h:Q (.ref s.heap.objs.size) { s with heap:=s.heap.push { cls:=.type "tuple",data:=.seq ((items.toList.drop$ sIx items.size 0 lo).take$ sIx items.size items.size hi - sIx items.size 0 lo).toArray } })
  (hsz:items.size<=sizeLine):wpAny (model prog w) A (getItem (.ref t)$ .ref sl) Q E s:=by
 have htake:sizeOk (.seq ((items.toList.drop$ sIx items.size 0 lo).take$ sIx items.size items.size hi - sIx items.size 0 lo).toArray):=by show((items.toList.drop$ sIx items.size 0 lo).take$ sIx items.size items.size hi - sIx items.size 0 lo).toArray.size<=sizeLine;rw[GX,HF,IW,HE];omega
 have hj:sIx items.size items.size hi<=items.size:=BC _ _ (GV _) hi;obtain⟨os,hos,hcs,hds⟩:=id hs;have hTs:s.TypeIs (.ref sl) "slice":=#[os,hos,hcs];unfold getItem;try with_reducible refine Ht ?_
 first |refine GK (GL ?_) |skip
 refine GK$ Ny ht.typeIs RT ?_;refine GK (HL (name:=Str.ofString "__getitem__") ht.typeIs I0
  (HP I0 ht.typeIs entry_tuple_getitem ?_$ args_tuple_getitem _ _))
 show wpAny _ _ (Builtin.Tuple.tupleItemsOf (.ref t) >>= _) _ _ s;refine GK$ tupleItemsOf_ ht ?_;refine GK$ IZ hTs ?_;rw[Hm RT];refine GK$ sliceApplied_gen hs pl pu ?_;have hno:¬((((sIx items.size 0 lo:Nat):Int)==0&&(1:Int)==1&&(sIx items.size items.size hi - sIx items.size 0 lo)==items.size)=true):=by intro q;rw[Iv,Iv]at q;have q1:((sIx items.size 0 lo:Nat):Int)=0:=eq_of_beq q.1.1;have q2:sIx items.size items.size hi - sIx items.size 0 lo=items.size:=eq_of_beq q.2;exact hw #[RU,RU]
 show wpAny _ _ (if (((sIx items.size 0 lo:Nat):Int)==0&&(1:Int)==1&&(sIx items.size items.size hi - sIx items.size 0 lo)==items.size)=true then _ else _) _ _ s;rw[Ho hno,sy];first
  |exact GK (m:=Builtin.Tuple.tupleExact _) (HN (GL #[_,Z,GL h]) htake)
  |exact GK (m:=Builtin.Tuple.tupleExact _) (HN (GK (GL (GL #[_,Z,GL h]))) htake)
  |exact GK (GK (m:=Builtin.Tuple.tupleExact _) (HN (GL (GL #[_,Z,GL h])) htake))
  |exact GK (GK (m:=Builtin.Tuple.tupleExact _) (HN (GL #[_,Z,GL h]) htake))
end
end HT
namespace _L
open PySem PySem.Spec PyProof.Rows
abbrev TO:=St->Hp->(Option Int->Hp->Prop)->Prop
def PO(X:Cx)(e:Option Expr)(t:TO):Prop:=
 ∀(p:List (Addr×Obj)) (s:Shared) (a:St) (H:Hp) (Q:Option Int->Hp->Prop),ap X p a H s->t a H Q->
  wpAny (model X.prog X.w) X.A (evalPart e X.env) (λu S=>∃o h,ap X p a h S/\IsPart u o/\Q o h) X.xe s
def lB:TO:=λ_ H Q=>Q none H
inductive ur(Q:Option Int->Hp->Prop)(x:V)(a:Hp):Prop
 |mk(i:_)(_:x= .int i)(_:Q (some i) a)
def lX(t:TE):TO:=λa H Q=>t a H (ur Q)
theorem KE{N:List Int}:∀{u:List Value},aw (N.map V.int) u->IntsAre u N:=by
 induction N with
 |nil=>intro u r;rw[Oc]at r;cases r;exact .nil
 |cons n N i=>
  intro u r;rw[Ik]at r;cases r with
  |cons R a=>obtain⟨t,e⟩:=R;subst e;exact .cons n t$ i a
section
variable {X:Cx}{e:Expr}{te:TE}{lo hi:Option Expr}{tl th:TO}{pos p2:Pos}
theorem j3:PO X none lB:=by intro p s a H Q I h;rw[evalPart_none];exact GL #[none,H,I,.none,h]
theorem jH(h:PE X e te):PO X (some e) (lX te):=by intro p s a H Q I b;rw[evalPart_some];refine aK (h p s a H _ I b) λu S z=>?_;obtain⟨x,c,d,r,f⟩:=z;obtain⟨i,rfl,q⟩:=f;obtain⟨t,rfl⟩:=r;exact#[some i,c,d,.int i t,q]
def Ez(X:Cx)(r:V->Option Int->Option Int->Hp->VK->Prop):Prop:=
 ∀(p:List (Addr×Obj)) (s:Shared) (a:St) (H:Hp) (x:V) (v b c:Value) (lo hi:Option Int) (S:Addr) (Q:VK),ap X p a H s->au x v->s.heap.IsSliceOf S b c .none->IsPart b lo->IsPart c hi->r x lo hi H Q->
  ∃T id,typeLookup (.type T) "__getitem__"=pure (some$ .builtin id)/\s.TypeIs v T/\wpAny (model X.prog X.w) X.A (getItem v$ .ref S) (EP X p a Q) X.xe s
def EF(r:V->Option Int->Option Int->Hp->VK->Prop)(te:TE)(tl th:TO):TE:=λa H Q=>te a H λx h=>tl a h λl b=>th a b λu c=>r x l u c Q
theorem jJ{r:V->Option Int->Option Int->Hp->VK->Prop}(g:Ez X r)(i:PE X e te)(j:PO X lo tl)(k:PO X hi th):PE X (.Subscript e (.Slice lo hi none p2) pos) (EF r te tl th):=by intro p s a H Q I h;refine Pt$ aK (i p s a H _ I h) λv m z=>?_;obtain⟨x,n,o,R,t⟩:=z;refine wpAny_Slice$ aK (j p m a n _ o t) λc y #[l,B,C,P,D]=>aK (k p y a B _ C D) λd S z=>?_;obtain⟨u,f,E,F,G⟩:=z;rw[evalPart_none];refine GL ?_;have J:ap X p a f { S with heap:=S.heap.push { cls:=.type "slice",data:=.fields (List.toArray [c,d,.none]) } }:=E.kept (t':=S.toks) λb O q=>GP _ q;obtain⟨T,id,K,L,M⟩:=g p { S with heap:=S.heap.push { cls:=.type "slice",data:=.fields (List.toArray [c,d,.none]) } } a f x v c d l u S.heap.objs.size Q J R (Nv ..) P F G;show wpAny (model X.prog X.w) X.A (subscriptTail e (.Slice lo hi none p2) v$ .ref S.heap.objs.size) (EP X p a Q) X.xe { S with heap:=S.heap.push { cls:=.type "slice",data:=.fields (List.toArray [c,d,.none]) } };exact tail_any (ops:=[.ref S.heap.objs.size,v]) L K M (by with_unfolding_all rfl)
noncomputable def aD(x:List V)(lo hi:Option Int):List V:=(x.drop$ HT.sIx x.length 0 lo).take (HT.sIx x.length x.length hi - HT.sIx x.length 0 lo)
theorem zh(x:List V)(lo hi:Option Int):(aD x lo hi).length<=x.length:=by unfold aD;rw[HF,IW];omega
inductive DW(K:Frag)(x:V)(c b:Option Int)(H:Hp)(Q:VK):Prop
 |mk(a d:_)(_:x= .ref a)(_:ax K H a d)(_:¬(HT.sIx d.length 0 c=0/\HT.sIx d.length d.length b=d.length))(_:∀p,H p=none->Q (.ref p) (af H p (.tup (aD d c b))))
theorem BR:Ez X (DW X.K):=by
 intro p s n H x v V t lo hi S Q I R j P k h;obtain⟨a,d,rfl,l,m,q⟩:=h;cases R;obtain⟨i,r,f,g⟩:=I.tuple l;have c:i.toArray.size=d.length:=by rw[GX];exact r.length.symm
 refine#["tuple",_,PyProof.Rows.slot_tuple_getitem.lookup,f.typeIs,?_];refine HT.getItem_tuple_cut f j P k (by rw[c];exact m) ?_ (by rw[c];exact g);rw[c];refine#[.ref s.heap.objs.size,_,I.laid (t':=s.toks) (o:=.tup (aD d lo hi)) (λb O q=>GP _ q) (GV _) ?_,Z,q _$ I.hok.fresh$ GV _];exact#[Hh (zh d lo hi) g,_,(r.drop$ HT.sIx d.length 0 lo).take$ HT.sIx d.length d.length hi - HT.sIx d.length 0 lo,OR _ _]
inductive DU(K:Frag)(x y:V)(H:Hp)(Q:VK):Prop
 |mk(a b d c:_)(_:x= .ref a)(_:y= .ref b)(_:ax K H a (d.map V.int))(_:ax K H b (c.map V.int))(_:Q (.bl (HT.lexLt d c)) H)
theorem Bj(d:X.A.units < cLine):eh X (compareOp .Lt) (DU X.K):=by intro p s t H x y v u Q I r R h;obtain⟨a,b,n,m,rfl,rfl,f,g,q⟩:=h;cases r;cases R;obtain⟨c,j,P,_⟩:=I.tuple f;obtain⟨i,k,p2,_⟩:=I.tuple g;have l:IntsAre c.toArray.toList n:=KE j;have o:IntsAre i.toArray.toList m:=KE k;exact HT.lt_tupInts P p2 l o d #[.bl$ HT.lexLt n m,H,I,Z,q]
inductive yv(K:Frag)(x y:V)(H:Hp)(Q:VK):Prop
 |mk(a b c d:_)(_:x= .ref a)(_:y= .ref b)(_:ax K H a c)(_:ax K H b d)(_:c≠[])(_:c.length+d.length<=sizeLine)(_:d=[]->Q (.ref a) H)(_:d≠[]->∀p,H p=none->Q (.ref p) (af H p (.tup (c++d))))
theorem aw.nil_iff(r:aw x u):u=[]↔x=[]:=by
 cases r with
 |nil=>simp
 |cons _ _=>simp
theorem ww:eh X (binaryOp .Add) (yv X.K):=by intro p s A H x y v u Q I d f h;obtain⟨a,b,g,Y,rfl,rfl,j,k,l,c,m,n⟩:=h;cases d;cases f;obtain⟨t,R,P,_⟩:=I.tuple j;obtain⟨i,r,p2,_⟩:=I.tuple k;refine HT.cat_tup P p2 (λz=>l (R.nil_iff.mp z)) (λz=>#[.ref a,H,I,Z,m$ r.nil_iff.mp z]) (λz=>?_) (by rw[<- R.length,<- r.length];exact c);refine#[.ref s.heap.objs.size,_,I.laid (t':=s.toks) (o:=.tup (g++Y)) (λb O q=>GP _ q) (GV _) ?_,Z,n (λw=>z (r.nil_iff.mpr w)) _$ I.hok.fresh$ GV _];exact#[by rw[GU];exact c,_,R.append r,OR _ _]
end
noncomputable def mN(n:Nat)(i:Int):Option Nat:=if 0<=i then (if i < n then some i.toNat else none) else if -(n:Int)<=i then some (i+n).toNat else none
noncomputable def du{a:Type}(x:List a)(i:Int):Option a:=(mN x.length i).bind λj=>x[j]?
theorem YY(h:mN n i=some j):seqIndex? i n=some j/\j < n/\ -(n:Int)<=i/\i < n:=by
 unfold mN at h;by_cases a:0<=i
 ·rw[Hm a]at h;by_cases H:i < n
  ·rw[Hm H]at h;have e:i.toNat=j:=HQ h;exact#[by rw[O5 a H,e],RU,RU,H]
  ·rw[Ho H]at h;cases h
 ·rw[Ho a]at h;by_cases H: -(n:Int)<=i
  ·rw[Hm H]at h;have e:(i+n).toNat=j:=HQ h;exact#[by rw[OJ RU H,e],RU,H,RU]
  ·rw[Ho H]at h;cases h
theorem Q2{a:Type}{x:List a}{v:a}(h:du x i=some v):∃j,seqIndex? i x.length=some j/\x[j]?=some v/\j < x.length/\ -(x.length:Int)<=i/\i < x.length:=by
 unfold du at h;cases e:mN x.length i with
 |none=>rw[e]at h;cases h
 |some j=>rw[e]at h;obtain⟨H,b,c,d⟩:=YY e;exact#[j,H,h,b,c,d]
theorem jQ{a:Type}{x:List a}{j:Nat}{v:a}(h:x[j]?=some v):du x (j:Int)=some v:=by
 have H:j < x.length:=(List.getElem?_eq_some_iff.mp h).1;have e:mN x.length (j:Int)=some j:=by unfold mN;rw[Hm RU,Hm RU];simp
 unfold du;rw[e];exact h
def va(b:Expr):Prop:=∀o i,subscripted b false o i=operate [o,i] (getItem o i)
def Eu(X:Cx)(r:R2):Prop:=
 ∀(a S:Expr) (p:List (Addr×Obj)) (s:Shared) (b:St) (H:Hp) (x y:V) (v u:Value) (Q:VK),ap X p b H s->au x v->au y u->r x y H Q->
  subscripted S false v u=operate [v,u] (getItem v u)->wpAny (model X.prog X.w) X.A (subscriptTail a S v u) (EP X p b Q) X.xe s
def EN(X:Cx)(id:String)(r:V->List V->Hp->VK->Prop):Prop:=
 ∀(p:List (Addr×Obj)) (s:Shared) (a:St) (H:Hp) (x:V) (b:List V) (v:Value) (u:List Value) (Q:VK),ap X p a H s->au x v->aw b u->r x b H Q->
  wpAny (model X.prog X.w) X.A (call (.builtin id) (v::u)) (EP X p a Q) X.xe s
section
variable {X:Cx}{a b:Expr}{ta tb:TE}{pos:Pos}
theorem jr{r:R2}(c:Eu X r)(d:PE X a ta)(e:PE X b tb)(f:va b):PE X (.Subscript a b pos) (dG r ta tb):=by intro p s g H Q I h;exact Pt$ yZ d e I h λv u S x y i j R k q=>c a b p S g i x y v u Q j R k q (f _ _)
inductive iw(K:Frag)(x y:V)(H:Hp)(Q:VK):Prop
 |mk(p a i v:_)(_:x= .ref p)(_:y= .int i)(_:aB K H p a)(_:du a i=some v)(_:Q v H)
inductive eZ(K:Frag)(x y:V)(H:Hp)(Q:VK):Prop
 |mk(p a i v:_)(_:x= .ref p)(_:y= .int i)(_:ax K H p a)(_:du a i=some v)(_:Q v H)
inductive wO(x y:V)(H:Hp)(Q:VK):Prop
 |mk(z i c:_)(_:x= .str z)(_:y= .int i)(_:z.length<=sizeLine)(_:du z.cps.toList i=some c)(_:Q (.str #[(List.toArray [c])]) H)
theorem jq:Eu X (iw X.K):=by
 intro V S P s k H x y v u Q I n o h l;obtain⟨p,L,i,z,rfl,rfl,A,B,q⟩:=h;cases n;obtain⟨t,rfl⟩:=o;obtain⟨d,r,e,M⟩:=I.list A;obtain⟨j,c,C,N,D,F⟩:=Q2 B;obtain⟨w,E,R⟩:=r.get C;have G:=r.length;have O:=dO;have f:EP X P k Q w s:=#[z,H,I,R,q];by_cases m:0<=i
 ·have g:i.toNat=j:=by rw[O5 m F]at c;exact HQ c
  exact item_listR e.isList m RU (by rw[g];simpa using E) f l
 ·have g:(i+(d.toArray.size:Int)).toNat=j:=by rw[OJ RU D]at c;rw[GX,<- G];exact HQ c
  exact OH (x:=w) e.isList.typeIs slot_list_getitem.lookup
   (wpAny_getItem_list_neg (Q:=λr J=>r=w/\EP X P k Q r J) e.isList RU (by rw[GX]<;>omega) RU (by rw[g];simpa using E) #[Z,f]) l
theorem jR:Eu X (eZ X.K):=by
 intro V S P s c H x y v u Q I e g h k;obtain⟨p,D,i,z,rfl,rfl,l,m,q⟩:=h;cases e;obtain⟨t,rfl⟩:=g;obtain⟨n,r,d,F⟩:=I.tuple l;obtain⟨j,o,A,G,J,L⟩:=Q2 m;obtain⟨w,E,R⟩:=r.get A;have B:=r.length;have M:=dO;have f:EP X P c Q w s:=#[z,H,I,R,q];exact OH (x:=w) d.typeIs slot_tuple_getitem.lookup
  (getItem_tuple (j:=j) (Q:=λr C=>r=w/\EP X P c Q r C) d RU RU (by rw[GX,<- B];exact o) (by simpa using E) #[Z,f]) k
theorem Kg:Eu X wO:=by
 intro V S p s o H x y v u Q I r R h e;obtain⟨z,i,c,rfl,rfl,w,f,q⟩:=h;obtain⟨t,rfl⟩:=r;obtain⟨T,rfl⟩:=R;obtain⟨j,d,g,A,k,l⟩:=Q2 f;have m:z.cps.toList.length=z.length:=by simp [Str.length]
 rw[m]at d k l;have B:=dO;exact tail_any (typeIs_str s z t) slot_str_getitem.lookup (getItem_str (c:=c) (by
  have E:decide (i < -(2 ^ 63:Int))=false:=G8 RU;have n:decide (i≥2 ^ 63)=false:=G8 RU;rw[E,n,N5]) (by rw[d];simpa using g) #[.str #[(List.toArray [c])],H,I.tok _,#[_,Z],q]) e
theorem Ye(i:List Value)(n j:Nat)(u:Value):Obj.mapSeq (·.setIfInBounds j u) { cls:=.type "list",data:=.seq i.toArray n }={ cls:=.type "list",data:=.seq (i.set j u).toArray n }:=by simp [Obj.mapSeq]
theorem ap.lst(I:ap X c d H s)(h:H p=some (.lst x)):
  ∃(i:List Value) (n:Nat),aw x i/\s.heap.get? p=some { cls:=.type "list",data:=.seq i.toArray n }/\x.length<=sizeLine:=by
 obtain⟨z,i,n,r,e⟩:=I.hok p _ h;exact#[i,n,r,e,z]
theorem ap.lstUpd{c i:List Value}{f:Obj->Obj}(I:ap X d j H s)(h:H p=some (.lst o))
  (k:s.heap.get? p=some { cls:=.type "list",data:=.seq c.toArray n }) (g:f { cls:=.type "list",data:=.seq c.toArray n }={ cls:=.type "list",data:=.seq i.toArray N }) (r:aw y i) (l:y.length<=sizeLine) (t:Nat):
  ap X d j (af H p$ .lst y) { s with heap:=s.heap.update p f,toks:=t }:=by
 have e:(s.heap.update p f).get? p=some { cls:=.type "list",data:=.seq i.toArray N }:=by rw[Heap.get?_update_self f k (by rw[g]<;>rfl),g]
 refine I.write (x:=p) (e:=p) (by rw[h];trivial) (.inl Z) (λb u m q=>(Heap.get?_update_other _ _$ Ne.symm m).trans q) #[_,e] ?_;exact#[l,i,N,r,e]
inductive nL(o i v:V)(H:Hp)(Q:Hp->Prop):Prop
 |mk(p a k j:_)(_:o= .ref p)(_:i= .int k)(_:H p=some (.lst a))(_:mN a.length k=some j)(_:Q (af H p (.lst (a.set j v))))
theorem zf:CV X nL:=by
 intro P s z H o i v O F u Q I R A B h;obtain⟨p,C,k,j,rfl,rfl,l,D,q⟩:=h;cases R;obtain⟨t,rfl⟩:=A;obtain⟨c,n,r,e,E⟩:=I.lst l;obtain⟨d,G,m,w⟩:=YY D;have f:=r.length;have J:=dO;have x:ap X P z (af H p$ .lst$ C.set j v) { s with heap:=s.heap.update p (Obj.mapSeq (·.setIfInBounds j u)) }:=
  I.lstUpd l e (Ye c n j u) (r.set B j) (by rw[MO];exact E) s.toks
 by_cases y:0<=k
 ·have g:k.toNat=j:=by rw[O5 y w]at d;exact HQ d
  exact PySem.W.ki_setAt e y RU (by rw[GX,<- f];exact w) (by rw[g];exact#[_,x,q])
 ·have g:(k+(c.toArray.size:Int)).toNat=j:=by rw[OJ RU m]at d;rw[GX,<- f];exact HQ d
  exact PySem.W.ki_setBack e RU (by rw[GX,<- f];exact m) RU (by rw[g];exact#[_,x,q])
theorem Xc(lo H:Option Int)(n:Nat):(sliceBounds lo H none n).1=((HT.sIx n 0 lo:Nat):Int)/\(sliceBounds lo H none n).2.1=((HT.sIx n n H:Nat):Int)/\(sliceBounds lo H none n).2.2=1:=by
 refine#[?_,?_,Z]
 ·cases lo with
  |none=>simp [sliceBounds,HT.sIx]
  |some i=>
   simp only[sliceBounds,HT.sIx,Nf,show(1:Int) > 0 by decide,Mi];by_cases h:i < 0
   ·simp only[h,Mi]<;>omega
   ·simp only[h,Ix]<;>omega
 ·cases H with
  |none=>simp [sliceBounds,HT.sIx]
  |some i=>
   simp only[sliceBounds,HT.sIx,Nf,show(1:Int) > 0 by decide,Mi];by_cases h:i < 0
   ·simp only[h,Mi]<;>omega
   ·simp only[h,Ix]<;>omega
theorem K7(i:List Value)(lo h:Option Int):slicePick i.toArray lo h none=((i.drop$ HT.sIx i.length 0 lo).take$ HT.sIx i.length i.length h - HT.sIx i.length 0 lo).toArray:=by obtain⟨H,c,d⟩:=Xc lo h i.toArray.size;unfold slicePick;rw[H,c,d];simp only[sliceRange_one,pick_run,GX]<;>rfl
inductive wP(K:Frag)(x:V)(c b:Option Int)(H:Hp)(Q:VK):Prop
 |mk(a d:_)(_:x= .ref a)(_:aB K H a d)(_:∀p,H p=none->Q (.ref p) (af H p (.lst (aD d c b))))
theorem kf:Ez X (wP X.K):=by intro p s m H x v V n lo e S Q I R g P i h;obtain⟨a,c,rfl,j,q⟩:=h;cases R;obtain⟨k,r,f,l⟩:=I.list j;have d:=r.length;refine#["list",_,slot_list_getitem.lookup,f.isList.typeIs,?_];refine wpAny_getItem_list_slice f.isList g P i .none RV ?_ (by rw[GX]<;>omega);rw[K7,<- d];refine#[.ref s.heap.objs.size,_,I.laid (t':=s.toks) (o:=.lst (aD c lo e)) (λb O q=>GP _ q) (GV _) ?_,Z,q _$ I.hok.fresh$ GV _];exact#[Hh (zh c lo e) l,_,0,(r.drop$ HT.sIx c.length 0 lo).take$ HT.sIx c.length c.length e - HT.sIx c.length 0 lo,GZ _ Z]
noncomputable def cp:V->Bool
 | .non=>true
 | .bl _=>true
 | .int _=>true
 | .str _=>true
 |_=>false
noncomputable def mf:V->V->Bool
 | .non,.non=>true
 | .bl a,.bl b=>a==b
 | .bl a,.int b=>(if a then 1 else 0)==b
 | .int a,.bl b=>a==(if b then 1 else 0)
 | .int a,.int b=>a==b
 | .str a,.str b=>a==b
 |_,_=>false
theorem pN(R:au y u)(r:au x v)(F:cp y=true)(f:cp x=true):SeqAt.EqAt A s u v (mf y x):=by
 cases y with
 |non=>
  cases R;cases x with
  |non=>cases r;exact SeqAt.EqAt.same _
  |bl b=>cases r;exact SeqAt.EqAt.none_bool b
  |int b=>obtain⟨t,rfl⟩:=r;exact SeqAt.EqAt.none_int b t
  |str b=>obtain⟨t,rfl⟩:=r;exact SeqAt.EqAt.none_str b t
  |_=>exact absurd (show false=true from f) Hc
 |bl a=>
  cases R;cases x with
  |non=>cases r;exact SeqAt.EqAt.bool_none a
  |bl b=>cases r;exact SeqAt.EqAt.bool_bool a b
  |int b=>obtain⟨t,rfl⟩:=r;exact SeqAt.EqAt.bool_int a b t
  |str b=>obtain⟨t,rfl⟩:=r;exact SeqAt.EqAt.bool_str a b t
  |_=>exact absurd (show false=true from f) Hc
 |int a=>
  obtain⟨T,rfl⟩:=R;cases x with
  |non=>cases r;exact SeqAt.EqAt.int_none a T
  |bl b=>cases r;exact SeqAt.EqAt.int_bool a T b
  |int b=>obtain⟨t,rfl⟩:=r;exact NV a T b t
  |str b=>obtain⟨t,rfl⟩:=r;exact NT a T b t
  |_=>exact absurd (show false=true from f) Hc
 |str a=>
  obtain⟨T,rfl⟩:=R;cases x with
  |non=>cases r;exact SeqAt.EqAt.str_none a T
  |bl b=>cases r;exact SeqAt.EqAt.str_bool a T b
  |int b=>obtain⟨t,rfl⟩:=r;exact NR a T b t
  |str b=>obtain⟨t,rfl⟩:=r;exact SeqAt.EqAt.str_str a T b t
  |_=>exact absurd (show false=true from f) Hc
 |_=>exact absurd (show false=true from F) Hc
noncomputable def mM(x:V)(u:Value):Bool:=match u with
 | .none=>mf .non x
 | .bool b=>mf (.bl b) x
 | .int i _=>mf (.int i) x
 | .str z _=>mf (.str z) x
 |_=>false
theorem pQ(r:au y u)(f:cp y=true):mM x u=mf y x:=by
 cases y with
 |non=>cases r;rfl
 |bl b=>cases r;rfl
 |int i=>obtain⟨t,rfl⟩:=r;rfl
 |str z=>obtain⟨t,rfl⟩:=r;rfl
 |_=>exact absurd (show false=true from f) Hc
theorem qP:∀{c:List V} {U:List Value},aw c U->c.all cp=true->U.any (mM x)=c.any λy=>mf y x
 |_,_,.nil,_=>rfl
 |y::c,u::U,.cons r t,f=>by rw[N4,Iv]at f;rw[Ms,Ms,pQ r f.1,qP t f.2]
theorem qk(R:au x v)(F:cp x=true):∀{c:List V} {U:List Value},aw c U->c.all cp=true->∀u∈U,SeqAt.EqAt A s u v (mM x u)
 |_,_,.nil,_=>λu hu=>by cases hu
 |y::c,u::U,.cons r t,f=>λd hu=>by
  rw[N4,Iv]at f;rcases List.mem_cons.mp hu with rfl |hu
  ·rw[pQ r f.1];exact pN r R f.1 F
  ·exact qk R F t f.2 d hu
noncomputable def nF(x:V)(c:List V):Bool:=c.any λy=>mf y x
inductive DS(K:Frag)(a:Bool)(x y:V)(H:Hp)(Q:VK):Prop
 |mk(p b:_)(_:y= .ref p)(_:aB K H p b∨ax K H p b)(_:cp x=true)(_:b.all cp=true)(_:Q (.bl (if a then !nF x b else nF x b)) H)
theorem zp:eh X (compareOp .In) (DS X.K false):=by
 intro d s j H x y v u Q I R e h;obtain⟨p,k,rfl,hq,F,f,q⟩:=h;cases e;rcases hq with hq |hq
 ·obtain⟨i,r,P,g⟩:=I.list hq;refine SeqAt.in_listAt (mM x) P.isList (λw c=>qk R F r f w (by simpa using c)) #[.bl _,H,I,Z,?_];rw[show i.toArray.any (mM x)=i.any (mM x) by simp,qP r f];exact q
 ·obtain⟨i,r,P,g⟩:=I.tuple hq;refine SeqAt.in_tupleAt (mM x) P (λw c=>qk R F r f w (by simpa using c)) #[.bl _,H,I,Z,?_];rw[show i.toArray.any (mM x)=i.any (mM x) by simp,qP r f];exact q
theorem Jb:eh X (compareOp .NotIn) (DS X.K true):=by
 intro d s j H x y v u Q I R e h;obtain⟨p,k,rfl,hq,F,f,q⟩:=h;cases e;rcases hq with hq |hq
 ·obtain⟨i,r,P,g⟩:=I.list hq;refine SeqAt.notIn_listAt (mM x) P.isList (λw c=>qk R F r f w (by simpa using c)) #[.bl _,H,I,Z,?_];rw[show i.toArray.any (mM x)=i.any (mM x) by simp,qP r f];exact q
 ·obtain⟨i,r,P,g⟩:=I.tuple hq;refine SeqAt.notIn_tupleAt (mM x) P (λw c=>qk R F r f w (by simpa using c)) #[.bl _,H,I,Z,?_];rw[show i.toArray.any (mM x)=i.any (mM x) by simp,qP r f];exact q
theorem jD:dm X (.builtin "len") (λx H Q=>∃p y,x=[.ref p]/\(aB X.K H p y∨ax X.K H p y)/\Q (.int y.length) H):=by
 intro d s g H x U Q I r h;obtain⟨p,y,rfl,hq,q⟩:=h;obtain⟨u,rfl,e⟩:=eI r;cases e;have j:=dO;rcases hq with hq |hq
 ·obtain⟨i,R,P,f⟩:=I.list hq;have c:=R.length;exact Calls.call_len_list P.isList (by simp only[GX]<;>omega) #[.int y.length,H,I.tok _,#[s.toks+1,by rw[GX,c]],q]
 ·obtain⟨i,R,P,f⟩:=I.tuple hq;have c:=R.length;exact len_tuple P (by simp only[GX]<;>omega) #[.int y.length,H,I.tok _,#[s.toks+1,by rw[GX,c]],q]
theorem Jc:dm X (.type "list") (λx H Q=>∃p y,x=[.ref p]/\(aB X.K H p y∨ax X.K H p y)/\∀l,H l=none->Q (.ref l) (af H l$ .lst y)):=by
 intro P s z H x U Q I r h;obtain⟨p,y,rfl,hq,q⟩:=h;obtain⟨u,rfl,A⟩:=eI r;cases A;have f:∀(i:List Value),aw y i->y.length<=sizeLine->∀(c:Heap) (C:Nat),(∀b O,s.heap.get? b=some O->c.get? b=some O)->
   c.get? s.heap.objs.size=some { cls:=.type "list",dict:=none,data:=.seq i.toArray C,slots:=(List.toArray []) }->EP X P z Q (.ref s.heap.objs.size) { s with heap:=c }:=λi R d c C k e=>
  #[.ref s.heap.objs.size,_,I.laid (t':=s.toks) k (GV _) (show aN X.prog X.w _ c _ (.lst y) from #[d,i,C,R,e]),Z,q _$ I.hok.fresh$ GV _]
 rcases hq with hq |hq
 ·obtain⟨i,R,j,d⟩:=I.list hq;have g:=R.length;obtain⟨o,m,t,n,v⟩:=j.isList;exact call_list_seq p (.inl Z) m t v (λc C k e=>f i R d c C k e) (by simp only[GX]<;>omega)
 ·obtain⟨i,R,j,d⟩:=I.tuple hq;have g:=R.length;obtain⟨o,m,t,n,v⟩:=j;exact call_list_seq p (.inr Z) m t v (λc C k e=>f i R d c C k e) (by simp only[GX]<;>omega)
theorem jF:dm X (.type "tuple") (λx H Q=>∃p y,x=[.ref p]/\((aB X.K H p y/\∀l,H l=none->Q (.ref l) (af H l$ .tup y))∨(ax X.K H p y/\Q (.ref p) H))):=by
 intro P s g H x U Q I r h;obtain⟨p,y,rfl,h⟩:=h;obtain⟨u,rfl,n⟩:=eI r;cases n;rcases h with ⟨d,q⟩ | ⟨d,q⟩
 ·obtain⟨i,R,f,j⟩:=I.list d;have k:=R.length;refine call_tuple_list f.isList (λc t=>?_) (by simp only[GX]<;>omega);have m:ap X P g H { s with heap:=c }:=I.kept (t':=s.toks) t;have v:ap X P g (af H c.objs.size$ .tup y) { s with heap:=c.push { cls:=.type "tuple",data:=.seq i.toArray } }:=
   m.laid (t':=s.toks) (λb o e=>GP _ e) (GV _) (show aN X.prog X.w _ _ _ (.tup y) from #[j,i,R,OR _ _])
  exact#[.ref c.objs.size,_,v,Z,q _$ m.hok.fresh$ GV _]
 ·obtain⟨i,R,f,j⟩:=I.tuple d;exact call_tuple_same f #[.ref p,H,I,Z,q]
def FL(K:Frag)(T:String)(x:V)(H:Hp):Prop:=match x with
 | .str _=>T="str"
 | .int _=>T="int"
 | .ref p=>(T="list"/\∃c,aB K H p c)∨(T="tuple"/\∃o,K.lookup p=some o/\o.cls= .type "tuple"/\o.dict=none)∨
   (T="dict"/\((∃k,H p=some (.dK k))∨∃k,H p=some (.dT k)))∨(T="set"/\∃S n,H p=some (.set S n))
 |_=>False
theorem uE(I:ap X j u H s)(r:au x v)(d:FL X.K T x H):
  s.TypeIs v T/\∀a,v= .ref a->∃O,s.heap.get? a=some O/\O.dict=none:=by
 cases x with
 |str z=>obtain⟨t,rfl⟩:=r;cases (show T="str" from d);exact#[typeIs_str s z t,λ_ e=>nomatch e]
 |int i=>obtain⟨t,rfl⟩:=r;cases (show T="int" from d);exact#[typeIs_int s i t,λ_ e=>nomatch e]
 |ref p=>
  cases r;rcases d with ⟨rfl,w,l⟩ | ⟨rfl,o,h,m,f⟩ | ⟨rfl,h⟩ | ⟨rfl,S,n,h⟩
  ·obtain⟨q,_,P,_⟩:=I.list l;refine#[P.isList.typeIs,λa e=>?_];cases e;obtain⟨o,n,e,c,f,_⟩:=P;exact#[o,e,f]
  ·refine#[#[o,I.kIn p o h,m],λa e=>?_];cases e;exact#[o,I.kIn _ o h,f]
  ·have z:∃o,s.heap.get? p=some o/\o.ExactDict:=by
    rcases h with ⟨k,h⟩ | ⟨k,h⟩
    ·obtain⟨_,_,_,_,o,_,_,e,E,_⟩:=I.hok p _ h;exact#[o,e,E]
    ·obtain⟨_,_,_,_,o,_,_,e,E,_⟩:=I.hok p _ h;exact#[o,e,E]
   obtain⟨o,e,E⟩:=z;refine#[#[o,e,E.1],λa g=>?_];cases g;exact#[o,e,E.2.1]
  ·obtain⟨o,_,_,_,e,E,_⟩:=I.hok p _ h;refine#[#[o,e,E.1],λa g=>?_];cases g;exact#[o,e,E.2.1]
 |_=>exact False.elim d
def FD(K:Frag)(T:String)(r:V->List V->Hp->VK->Prop)(t:TE):TE:=λc H Q=>t c H λx h=>FL K T x h/\r x [] h Q
def Fz(K:Frag)(T:String)(r:V->List V->Hp->VK->Prop)(d:TE)(t:TA):TE:=λc H Q=>d c H λx h=>FL K T x h/\t c h λe f=>r x e f Q
variable {o e:Expr}{es:List Expr}{to:TE}{t:TA}{name:Str}{apos cpos:Pos}{T id:String}{r:V->List V->Hp->VK->Prop}
theorem Bp(P:PlainAttrs T)(S:Slot T name id)(f:typeOf (.builtin id)=pure (.type "method_descriptor"))(j:EN X id r)(k:PE X o to)
  (c:attributeBase o name X.env (eval o X.env)=eval o X.env:=by rfl) (d:(apos.endLine==cpos.line)=true:=by rfl):PE X (.Call (.Attribute o name apos) [] [] cpos) (FD X.K T r to):=by
 intro p s g H Q I h;refine wpAny_Call_method0_late c d$ aK (k p s g H _ I h) λv l z=>?_;obtain⟨x,m,i,R,n,q⟩:=z;obtain⟨u,w⟩:=uE i R n;exact#[T,id,P,S,f,u,w,LS Z$ PySem.evalArgs_none$ j p l g m x [] v [] Q i R .nil q]
theorem ki(P:PlainAttrs T)(S:Slot T name id)(i:typeOf (.builtin id)=pure (.type "method_descriptor"))(m:EN X id r)(n:PE X o to)(q:PA X (e::es) t)
  (d:attributeBase o name X.env (eval o X.env)=eval o X.env:=by rfl)
  (g:((backTo cpos$ starEach (e::es) X.env).all (λx=>!x.1)&&(backToKw cpos$ keywordEach [] X.env).all (λx=>x.1.isSome)
   &&decide ((e::es).length+([]:List Keyword).length+(if ([]:List Keyword).isEmpty then 0 else 1) < 30))=true:=by rfl)
  (f:(apos.endLine==cpos.line)=true:=by rfl) (u:starEach (e::es) X.env=(false,eval e X.env)::starEach es X.env:=by rfl) (c:(backTo cpos$ starEach es X.env).any (·.1)=false:=by rfl):
  PE X (.Call (.Attribute o name apos) (e::es) [] cpos) (Fz X.K T r to t):=by
 intro p s j H Q I h;refine wpAny_Call_method_late d g f Z$ aK (n p s j H _ I h) λv w z=>?_;obtain⟨x,y,k,R,A,B⟩:=z;obtain⟨C,D⟩:=uE k R A;refine#[T,id,P,S,i,C,D,?_];have l:=q cpos p w j y _ k B;rw[u]at l ⊢;refine LS (by show(false||(backTo cpos$ starEach es X.env).any (·.1))=false;rw[c]<;>rfl)$ MX ?_;exact aK l λU E #[F,G,J,L,M]=>m p E j G x F v U Q J R L M
end
def Ew(X:Cx)(id:String)(r:V->List V->Hp->VK->Prop):Prop:=
 ∀(p:List (Addr×Obj)) (s:Shared) (a:St) (H:Hp) (x:V) (b:List V) (v:Value) (u:List Value) (Q:VK),ap X p a H s->au x v->aw b u->r x b H Q->
  wpAny (model X.prog X.w) X.A (call (.builtin id) (v::u)) (EP X p a Q) X.xe s
theorem aw.one:∀{x:V} {U:List Value},aw [x] U->∃u,U=[u]/\au x u
 |_,_,.cons r .nil=>#[_,Z,r]
theorem aw.zero:∀{u:List Value},aw [] u->u=[]
 |_,.nil=>rfl
theorem aw.dropLast(h:aw x u):aw x.dropLast u.dropLast:=by
 induction h with
 |nil=>exact .nil
 |cons r t i=>
  cases t with
  |nil=>exact .nil
  |cons q T=>exact .cons r i
theorem aw.reverse(h:aw x u):aw x.reverse u.reverse:=by
 induction h with
 |nil=>exact .nil
 |cons r t i=>rw[Mo,Mo];exact aw.append i (.cons r .nil)
theorem Yf{c:Type}(l:List c):l.eraseIdx (l.length - 1)=l.dropLast:=by
 induction l with
 |nil=>rfl
 |cons a r i=>
  cases r with
  |nil=>rfl
  |cons b r=>
   have e:(a::b::r).length - 1=((b::r).length - 1)+1:=by have h:(a::b::r).length=r.length+2:=rfl;have H:(b::r).length=r.length+1:=rfl;omega
   rw[e,List.eraseIdx_cons_succ,i];all_goals rfl
section
variable {X:Cx}{pins:List (Addr×Obj)}{σ:St}{H:Hp}{s:Shared}{l b:Addr}{xs ys zs:List V}
theorem ap.lset{i its':List Value}{f:Array Value->Array Value}{t':Nat}(I:ap X pins σ H s)(h:H l=some (.lst xs))
  (e:s.heap.get? l=some { cls:=.type "list",data:=.seq i.toArray n }) (a:f i.toArray=its'.toArray) (c:aw ys its') (d:ys.length<=sizeLine):
  ap X pins σ (af H l$ .lst ys) { s with heap:=s.heap.update l (Obj.mapSeq f),toks:=t' }:=by
 have q:=PySem.IsL.update e f;rw[a]at q;refine I.write (x:=l) (e:=l) (by rw[h];exact trivial) (.inl Z) (λB u g j=>(Hk s.heap (Obj.mapSeq f)$ HI g).trans j) #[_,q] ?_;exact#[d,its',_,c,q]
theorem ap.lnew{t':Nat}(I:ap X pins σ H s)(h:aw ys i)(a:ys.length<=sizeLine):
  ap X pins σ (af H s.heap.objs.size$ .lst ys) { s with heap:=s.heap.push { cls:=.type "list",data:=.seq i.toArray },toks:=t' }:=
 I.laid (λ_ _ q=>GP _ q) (GV _) #[a,i,0,h,GZ _ Z]
theorem ap.fresh(I:ap X pins σ H s):H s.heap.objs.size=none:=I.hok.fresh (GV _)
theorem ap.lstM(I:ap X pins σ H s)(h:H l=some (.lst xs)):xs.length<=sizeLine/\∃(i:List Value) (n:Nat),aw xs i/\xs.length=i.length/\s.heap.get? l=some { cls:=.type "list",data:=.seq i.toArray n }:=by obtain⟨z,i,n,r,e⟩:=I.hok l _ h;exact#[z,i,n,r,r.length,e]
theorem eX(h:n<=sizeLine):Builtin.List.listTooLong n=false:=by unfold Builtin.List.listTooLong;exact G8 RU
end
section
variable {X:Cx}
inductive iM(x:V)(a:List V)(H:Hp)(Q:VK):Prop
 |mk(l b y:_)(_:x= .ref l)(_:a=[y])(_:H l=some (.lst b))(_:b.length < sizeLine)(_:Q .non (af H l (.lst (b++[y]))))
theorem jM:Ew X "list.append" iM:=by intro p s d H x V v U Q I R b h;obtain⟨l,f,y,rfl,rfl,a,g,q⟩:=h;cases R;obtain⟨u,rfl,c⟩:=b.one;obtain⟨z,i,n,r,j,e⟩:=I.lstM a;refine Np F.slot_list_append #[_,e,Z] F.entry_list_append (F.args_list_append_2 _ _) (PySem.list_append l i.toArray n u (by rw[GX];omega)) #[e,?_];refine#[.non,_,I.lset (its':=i++[u]) a e RV (r.append$ .cons c .nil) ?_,Z,q];rw[GU,Lo];omega
inductive nK(x:V)(a:List V)(H:Hp)(Q:VK):Prop
 |mk(l b c d:_)(_:x= .ref l)(_:a=[.ref b])(_:H l=some (.lst c))(_:H b=some (.lst d))(_:c.length+d.length<=sizeLine)(_:Q .non (af H l (.lst (c++d))))
theorem Jw:Ew X "list.extend" nK:=by
 intro p s t H x V v U Q I R g h;obtain⟨l,b,w,y,rfl,rfl,f,j,A,q⟩:=h;cases R;obtain⟨u,rfl,k⟩:=g.one;cases k;obtain⟨z,a,n,r,B,e⟩:=I.lstM f;obtain⟨C,i,N,m,o,E⟩:=I.lstM j;have d:a.toArray.size+i.toArray.size<=sizeLine:=by rw[GX,GX];omega
 have c:¬(!a.toArray.isEmpty&&Builtin.List.listTooLong (a.toArray.size+i.toArray.size))=true:=by rw[eX d,Mj];exact Hc
 refine Np Pe #[_,e,Z] O1 (OS _ _)
  (AutoSeq1.list_extend_list_list_0 l a.toArray n b i.toArray N c (by rw[GX];omega) RU) #[e,E,?_]
 refine#[.non,_,I.lset (its':=a++i) f e RV (r.append m) ?_,Z,q];rw[GU];omega
inductive DV(x:V)(a:List V)(H:Hp)(Q:VK):Prop
 |mk(l b y:_)(_:x= .ref l)(_:a=[])(_:H l=some (.lst b))(_:b[b.length - 1]?=some y)(_:Q y (af H l (.lst b.dropLast)))
theorem AB:Ew X "list.pop" DV:=by
 intro p s m H x V v U Q I R d h;obtain⟨l,o,y,rfl,rfl,c,f,q⟩:=h;cases R;have a:=d.zero;subst a;obtain⟨z,i,n,r,g,e⟩:=I.lstM c;obtain⟨u,j,k⟩:=r.get f;have b:i.toArray[i.toArray.size - 1]?=some u:=by show i.toArray[i.length - 1]?=some u;rw[<- IY,<- g];exact j
 refine Np F.slot_list_pop #[_,e,Z] F.entry_list_pop (F.args_list_pop_1 _) (MeetsSeq.list_pop_last l i.toArray n u b (by rw[GX];omega)) #[e,?_];refine#[y,_,I.lset (its':=i.dropLast) c e ?_ r.dropLast ?_,k,q]
 ·show i.toArray.eraseIdxIfInBounds (i.toArray.size - 1)=i.dropLast.toArray;rw[GX,List.eraseIdxIfInBounds_toArray,Yf]
 ·rw[List.length_dropLast];omega
inductive wN(x y:V)(H:Hp)(Q:VK):Prop
 |mk(l b a c:_)(_:x= .ref l)(_:y= .ref b)(_:H l=some (.lst a))(_:H b=some (.lst c))(_:a.length+c.length<=sizeLine)(_:∀p,H p=none->Q (.ref p) (af H p (.lst (a++c))))
theorem zI:eh X (binaryOp .Add) wN:=by
 intro p s m H x y v u Q I R c h;obtain⟨l,b,o,t,rfl,rfl,d,f,w,q⟩:=h;cases R;cases c;obtain⟨z,a,n,r,A,e⟩:=I.lstM d;obtain⟨B,i,N,g,j,E⟩:=I.lstM f;refine PySem.P.add_list e E ?_ (by rw[GX,GX];omega);have k:a.toArray++i.toArray=(a++i).toArray:=by simp
 rw[k];exact#[.ref _,_,I.lnew (t':=s.toks) (r.append g) (by rw[GU];omega),Z,q _ I.fresh]
end
section
variable {prog:Program}{w:World}{A:Around}{E:Value->Shared->Prop}{s:Shared}
theorem ZA(i I : List Value)(a c : Nat) : i.toArray.extract 0 a ++ I.toArray ++ i.toArray.extract c i.toArray.size = (i.take a ++ I ++ i.drop c).toArray := by
  apply Array.toList_inj.mp;first
    | (simp
       exact IR RV)
    | simp [IR]
    | simp
theorem Yg{a c n:Nat}(hac:a<=c)(hc:c<=n):sliceBounds (some (a:Int)) (some (c:Int)) none n=((a:Int),(c:Int),1):=by
 simp only[sliceBounds,Nf];have h1:¬((a:Int) < 0):=by omega
 have h2:¬((c:Int) < 0):=by omega
 simp only[h1,h2,Ix,show(1:Int) > 0 by decide,Mi];congr 1
 ·omega
 ·congr 1;omega
set_option maxRecDepth 100000 in
theorem K8{a c : Nat}{Q : Unit -> Shared -> Prop}
    (e : s.heap.get? l = some { cls := .type "list", data := .seq i n }) (y : s.heap.get? b = some { cls := .type "list", data := .seq N I }) (q : l ≠ b)
    (C : s.heap.IsSliceOf p z B .none) (P : IsPart z (some (a : Int))) (D : IsPart B (some (c : Int))) (r : a <= c) (F : c <= i.size)
    (f : i.size + N.size <= sizeLine) (h : Q () { s with heap := s.heap.update l (Obj.mapSeq λX => X.extract 0 a ++ N ++ X.extract c X.size) }) :
    wpAny (model prog w) A (setItem (.ref l) (.ref p)$ .ref b) Q E s := by
  have t : s.heap.IsList l i := Om e;have G : s.heap.IsList b N := Om y;obtain ⟨os, d, u, g⟩ := id C;have k : s.TypeIs (.ref p) "slice" := #[os, d, u];have j : ¬ ((rawPart none == rawInt 0) = true) := Hc;have H : Builtin.List.listSameRef (.ref l) (.ref b) = false := by unfold Builtin.List.listSameRef;exact beq_eq_false_iff_ne.mpr q
  have o : (max (a : Int) (c : Int)).toNat = c := by omega
  have v : ((λX : Array Value => X.extract 0 a ++ N ++ X.extract c X.size) i).size <= sizeLine + 1 := by simp only [Nc, Array.size_extract];omega
  unfold setItem;try with_reducible refine Ht ?_
  first | refine GK (GL ?_) | skip
  refine GK$ Ny t.typeIs RT ?_;refine GK (HL (name := Str.ofString "__setitem__") t.typeIs PJ
    (HP PJ t.typeIs entry_list_setitem ?_$ args_list_setitem _ _ _))
  show wpAny _ _ (Builtin.List.listSubscript? (.ref p) >>= _) _ _ s;refine GK ?_;unfold Builtin.List.listSubscript?;refine GK$ IU k slice_no_index ?_;simp only [Oo, Mi];refine GL ?_;show wpAny _ _ (typeOf (.ref p) >>= _) _ _ s;refine GK$ IZ k ?_;first
    | rw [Ho RT]
    | refine MJ RT ?_
  rw [listSliceParts_eq];refine GK$ GK$ HC d g (x := .none) Z$ GK$ Oj .none ?_;rw [Ho j];refine GK$ HC d g (x := z) Z$ GK$ Oj P ?_;refine GK$ HC d g (x := B) Z$ GK$ Oj D$ GL ?_;first
    | simp only [H, Hi, Ix]
    | refine MJ H ?_
    | (dsimp only
       rw [Ho (by rw [H]; exact Hc)])
  refine GK (m := Builtin.List.listAllItems (.ref b) "must assign iterable to extended slice") ?_;unfold Builtin.List.listAllItems;refine GK$ IZ G.typeIs ?_;first
    | refine RP RT ?_
    | rw [Hm RT]
    | simp only [Le, PV, Mi]
  unfold Builtin.List.listItems;refine GK$ Ih y Z$ GL ?_;refine GK$ GK$ Ih e Z$ GL ?_;refine GK$ MF ((sliceIndices_raw (some (a : Int)) (some (c : Int)) none i.size RV).trans$ Iq (pure : Int × Int × Int -> Sem (Int × Int × Int))$ Yg r F) ?_;show wpAny _ _ (if ((1 : Int) == 1) = true then _ else _) _ _ s;rw [Hm RT];refine GK$ J' ?_;first
    | simp only [eX f, Hi, Ix]
    | refine MJ (eX f) ?_
  first | refine GK (GL ?_) | skip
  show wpAny _ _ (updateSeq l (λX => X.extract 0 ((a : Int)).toNat ++ N ++ X.extract (max (a : Int) (c : Int)).toNat X.size) >>= _) _ _ s;rw [o, Ie];refine GK$ M5 (hz := Hh (LA _ _) f) (_hz' := v) e Z ?_;refine GK$ O4 ?_;first
    | exact GK (GL (GL #[.none, Z, GL h]))
    | exact GL #[.none, Z, GL h]
end
section
variable {X:Cx}
theorem ZB{Q:Unit->Shared->Prop}(I:ap X p o H s)
  (k:H l=some (.lst x)) (q:H b=some (.lst y)) (f:l≠b) (t:s.heap.IsSliceOf u v B .none) (R:au (.int a) v) (D:au (.int c) B) (m:0<=a) (g:a<=c) (J:c<=x.length)
  (K:x.length+y.length<=sizeLine) (h:∀S,ap X p o (af H l$ .lst$ x.take a.toNat++y++x.drop c.toNat) S->Q () S):
  wpAny (model X.prog X.w) X.A (setItem (.ref l) (.ref u)$ .ref b) Q X.xe s:=by
 obtain⟨T,rfl⟩:=R;obtain⟨L,rfl⟩:=D;obtain⟨z,d,n,r,M,e⟩:=I.lstM k;obtain⟨N,i,O,E,F,G⟩:=I.lstM q;obtain⟨j,rfl⟩:=Oe m;obtain⟨C,rfl⟩:=Oe (Int.le_trans m g);simp only[Ie]at h;refine K8 (a:=j) (c:=C) e G f t (.int _ _) (.int _ _) RU (by rw[GX];omega) (by rw[GX,GX];omega)$ h _ ?_;refine I.lset (its':=d.take j++i++d.drop C) (t':=s.toks) k e ?_ (aw.append (aw.append (r.take _) E)$ r.drop _) ?_
 ·exact ZA d i j C
 ·rw[GU,GU,HF,IW];omega
end
end _L
namespace Att
open PySem PySem.W PySem.Calls PyProof.Rows
theorem JN{P:Params}:∀(N:List Int) (v:List Value),WellAll P h v (N.map WData.int)->IntsAre v N:=by
 intro N;induction N with
 |nil=>intro v w;rw[Oc]at w;cases w;exact .nil
 |cons n N i=>
  intro v w;rw[Ik]at w;cases w with
  |cons a b=>cases a;exact .cons _ _$ i _ b
theorem ZC{l:OpenLaw}(k:l.most=some n){P:Params}
  (H:l.row.toRowW.claim.pre args=true) (g:WellAll P h v args):
  ∃a V N,v=[Value.ref a]/\args=[WData.list$ N.map WData.int]/\h.get? a=some { cls:=.type "list",data:=.seq V.toArray }/\IntsAre V N/\N.length<=n:=by
 have i:WShape.hasAll [] args [.list .int]=true:=(pre_splitW H).1;have j:l.pre.holds [] { args:=args }=true:=(pre_splitW H).2;obtain⟨d,r,rfl,m,o⟩:=hasAllW_cons i;obtain rfl:=hasAllW_nil o;obtain⟨x,rfl,p⟩:=hasW_list m;obtain⟨N,rfl⟩:=items_int p;have b:N.length<=n:=by
  unfold OpenLaw.pre at j;have e:(WTm.not$ .lt (.lit$ .int (n:Int))$ .len$ .arg 0).holds [] { args:=[.list$ N.map .int] }=true:=by have e:=(holds_andW j).1;rw[k]at e;exact e
  have f:=condW_of e (w_not$ w_lt w_lit$ w_len_list$ w_arg Z);rw[GQ]at f;refine O8 λq=>?_;have Q:(n:Int) < ((N.length:Nat):Int):=by omega
  first
   | (rw[Hl Q]at f;exact absurd f RT)
   | (simp at f;omega)
 cases g with
 |cons w W=>
  cases W;cases w with
  |list s c=>exact#[_,_,N,Z,Z,s,JN N _ c,b]
theorem ZD(l:OpenLaw)(args:List WData):l.row.toRowW.claim.post args (.bool true) args=true:=
 postW_of (r:=l.row.toRowW) (X:=(true==true))
  (show WShape.has [] (.bool true) .bool=true by first |rfl |decide |simp [WShape.has,WShape.arms,WShape.armsAll])
  (show(WTm.eq .res$ .lit$ .bool true).value [] { args:=args,res:=some (.bool true),after:=args }=some (.bool$ true==true) from w_eq_bool (w_res Z) w_lit) Z
theorem attach_call{l:OpenLaw}{y:World->Heap->Prop}{d:DefRec}
  (x:l.most=some n) (g:d.params.defaults=[])
  (call:∀(w:World) (S s:Shared) (m M:Str->Option Value) (F:Addr) (o:Obj) (p C D:Value) (a:Addr) (v:List Value) (N:List Int),
   Ground q L [] z w S m M s.heap->y w s.heap->
   s.heap.get? F=some o->o.data= .func (docDef d.name d.params d.body d.scope p C D)->s.heap.CodeRec C d.name->m d.name=some (.ref F)->
   s.heap.get? a=some { cls:=.type "list",data:=.seq v.toArray }->IntsAre v N->N.length<=n->s.gens=(List.toArray [])->
   codeAny (model l.prog w) callerA (.call (.ref F) #[[.ref a],[]]) (λr e=>r= .ok (.ret$ .bool true)/\OldK s.heap e.heap/\e.os=s.os/\AllBare e.gens) s):
  WalkO q L z y l.row.toRowW d [] (λf v=>PySem.call f v):=by
 intro w S s m M G Y F o p C D B kV E I i t j J A V W H u K k O;obtain rfl:B= .none:=Dflts.none t g;obtain rfl:kV= .none:=Dflts.noKw t;obtain⟨a,v,N,rfl,rfl,b,h,c⟩:=ZC x H k;refine enter_call$ LH (call w S s m M F o p C D a v N G Y E (fd_plain I) i j b h c J) λr e P=>?_;obtain⟨rfl,Q,R,T⟩:=P;exact#[.inl #[.bool true,.bool true,[],Z,λ_=>Z,.bool true,ZD l _,λ_=>#[List.Pairwise.nil,λ_ U=>(nomatch U)]],Q,R,T]
end Att
namespace _L
open PySem PySem.Spec PyProof.Rows
theorem Qw:∀{v:List Value} {N:List Int},IntsAre v N->aw (N.map V.int) v
 |_,_,.nil=>.nil
 |_,_,.cons n t h=>.cons #[t,Z] (Qw h)
def yQ(H:Hp):Prop:=∀b,H b=none∨∃o x,H b=some (.frz o$ .lst x)
theorem rA{P:Program}{K:Frag}{S:Shared}{i:List Value}
  (Y:K.In S.heap) (l:S.heap.Ns mainGlobals M) (c:S.heap.Ns builtinsNs mb) (Q:∀x:Str,x≠"__name__"->mb x=bootBuiltins x) (p:S.heap.NoLimit) (hg:S.gens=(List.toArray []))
  (J:S.heap.get? a=some { cls:=.type "list",data:=.seq i.toArray }) (hi:IntsAre i O) (hl:O.length<=sizeLine) (hr:bu k callerA)
  (F:∀f:Heap,K.In f->f.Ns mainGlobals M->aj P w K M f CX k fa fd [x] sp) (j:∀(s:Shared) (u:Value),BindsTo s fd #[[u],[]] [(x,u)])
  (R:∀H:Hp,yQ H->aB K H a (O.map V.int)->sp [.ref a] H (λv _=>v= .bl true) λ_ _ _=>False)
  (T:∀H e g,CX [] H S (λ_ _ _=>False) e g->False):
  codeAny (model P w) callerA (.call (.ref fa) #[[.ref a],[]]) (λr g=>r= .ok (.ret$ .bool true)/\OldK S.heap g.heap/\g.os=S.os/\AllBare g.gens) S:=by
 have rv:=Qw hi;have L:=hi.length;have C:∀H:Hp,yQ H->aB K H a (O.map V.int)->eE P w H S.heap->(∀b,H b≠none->b=a)->(H a≠none->K.lookup a=none)->
   codeAny (model P w) callerA (.call (.ref fa) #[[.ref a],[]]) (λr g=>r= .ok (.ret$ .bool true)/\OldK S.heap g.heap/\g.os=S.os/\AllBare g.gens) S:=by
  intro H hO hS t hA hK;have B:∀{b:Addr} {o:Obj},S.heap.get? b=some o->H b=none->(iI S.heap H).get? b=some o:=λe n=>pZ e n;have U:∀{b:Addr} {o:Obj} {E:Array DictEntry} {y:Nat},S.heap.get? b=some o->o.data= .dict E y->H b=none:=λ{b o E y} e d=>by
   cases q:H b with
   |none=>rfl
   |some u=>have W:b=a:=hA b (by rw[q];simp);subst W;rw[J]at e;cases e;have d':Data.seq i.toArray _=Data.dict E y:=d;cases d'
  have N:∀{b:Addr} {m:Str->Option Value},S.heap.Ns b m->(iI S.heap H).Ns b m:=λ{b m} #[o,E,y,e,d,r]=>#[o,E,y,B e$ U e d,d,r];have A:K.In (iI S.heap H):=λb o e=>B (Y b o e) (by
   cases q:H b with
   |none=>rfl
   |some u=>
    have W:b=a:=hA b (by rw[q];simp);subst W;rw[hK (by rw[q];simp)]at e;cases e)
  have hM:Mod K M (iI S.heap H):=#[A,N l,#[mb,N c,Q],let #[mc,h1,h2]:=p;#[mc,N h1,h2]];have e0:mw P w K M (iI S.heap H) callerA [] S H:=#[Z,hM,λb o e=>vW e,Ni$ Zu _ _,trivial,λb c=>absurd (show b∈([]:List Addr) from c) RV,t,.of_eq hg];refine LH ((F _ A$ N l).run callerA [] S H #[[.ref a],[]] [.ref a] [.ref a] _ _ hr e0 (j S$ .ref a) (.cons Z .nil) (R H hO hS)) λr g h=>?_;cases r with
  |error e=>exact(T H e g h).elim
  |ok fl=>
   cases fl with
   |next=>exact False.elim h
   |brk=>exact False.elim h
   |cont=>exact False.elim h
   |ret u=>
    obtain⟨v,H',os,D,un,G,r',q⟩:=h;have q':v= .bl true:=q;subst q';obtain rfl:u=Value.bool true:=r';refine#[Z,OldK.of_keep λb o e=>?_,os,D];cases q:H b with
    |none=>exact un.keep b o e q (by intro z;exact absurd (show b∈([]:List Addr) from z) RV) RV
    |some u=>
     rcases hO b with z | ⟨ob,xs,z⟩
     ·rw[q]at z;cases z
     ·have z2:=un.frzs b ob _ z;obtain⟨e1,_⟩:=t b _ z;obtain⟨e2,_⟩:=G b _ z2;rw[e]at e1;cases e1;exact e2
 cases X:K.lookup a with
 |some o=>have e:=Y a o X;rw[J]at e;cases e;refine C (λ_=>none) (λ_=>.inl Z) (.inr #[_,i.toArray,_,X,Z,Z,Z,by rw[GX,L];exact hl,by simpa using rv]) (λb u z=>by have I:(none:Option HO)=some u:=z;cases I) (λb z=>absurd Z z) λz=>absurd Z z
 |none=>
  refine C (λb=>if b=a then some (.frz { cls:=.type "list",data:=.seq i.toArray }$ .lst$ O.map V.int) else none) (λb=>?_) (.inl$ .inr #[{ cls:=.type "list",data:=.seq i.toArray },Hm Z]) (λb u z=>?_) (λb z=>?_) λ_=>X
  ·by_cases c:b=a
   ·exact .inr #[_,_,Hm c]
   ·exact .inl$ Ho c
  ·by_cases c:b=a
   ·have I:=(Hm c).symm.trans z;cases I;subst c;exact#[J,by rw[GQ];exact hl,i,_,rv,J]
   ·have I:=(Ho c).symm.trans z;cases I
  ·by_cases c:b=a
   ·exact c
   ·exact absurd (Ho c) z
theorem xM{l:PySem.W.OpenLaw}{n k:Nat}{E:World->Heap->Prop}{d:DefRec}{K:Params->Frag}{CX:World->ny}{sp:World->Sp}{x:Str}
  (O:l.most=some n) (r:n<=sizeLine) (t:d.params.defaults=[]) (P:bu k callerA)
  (Q:∀(w:World) (h:Heap),E w h->(K w.params).In h)
  (F:∀(w:World) (m:Str->Option Value) (p:Addr) (h:Heap),(K w.params).In h->h.Ns mainGlobals m->m d.name=some (.ref p)->
   ∃y:FuncData,(∀(s:Shared) (u:Value),BindsTo s y #[[u],[]] [(x,u)])/\
    ∀B:Heap,(K w.params).In B->B.Ns mainGlobals m->aj l.prog w (K w.params) m B (CX w) k p y [x] (sp w))
  (z:∀(w:World) (H:Hp) (a:Addr) (N:List Int),N.length<=n->yQ H->aB (K w.params) H a (N.map V.int)->sp w [.ref a] H (λv _=>v= .bl true) λ_ _ _=>False)
  (A:∀(w:World) (H:Hp) (s:Shared) (e:Value) (C:Shared),CX w [] H s (λ_ _ _=>False) e C->False):
  PySem.W.WalkO q L XP E l.row.toRowW d [] (λf I=>PySem.call f I):=by
 refine Att.attach_call O t λw J S m mb p o pm cd R a I N G Y ho hd U D j i c X=>?_;have M:=Q w _ Y;obtain⟨y,hb,hF⟩:=F w m p _ M G.T.g D;exact rA M G.T.g G.T.b G.T.builtins G.T.nolimit X j i (Hh c r) P hF hb (λH hO hS=>z w H a N c hO hS) λH e C=>A w H S e C
noncomputable def b6(s:Stmt)(j:Nat):Stmt:=match s with
 | .ClassDef _ _ _ b _ _ _ _ _ _ _=>b.getD j (.Pass #[0,0,0,0])
 |_=>.Pass #[0,0,0,0]
noncomputable def bE(s:Stmt):Arguments:=match s with
 | .FunctionDef _ a _ _ _ _ _ _ _ _=>a
 |_=>{ posonlyargs:=[],args:=[],vararg:=none,kwonlyargs:=[],kw_defaults:=[],kwarg:=none,defaults:=[] }
noncomputable def bg(s:Stmt):List Stmt:=match s with
 | .FunctionDef _ _ b _ _ _ _ _ _ _=>b
 |_=>[]
noncomputable def aa(s:Stmt):Scope:=match s with
 | .FunctionDef _ _ _ _ _ _ S _ _ _=>S
 |_=>{ kind:=.function,names:=[],isGenerator:=false,isCoroutine:=false }
abbrev aA:ny:=λ_ _ _ _ _ _=>False
abbrev E0:XK:=λ_ _ _=>False
theorem bH{X:Cx}:di aA X E0:=λ_ _ _ _ _ _ _ h=>h.elim
structure aJ(K:Frag)(x qual:Str)(st:Stmt)(f:Addr)(fd:FuncData):Prop where
 ex:∃(oc:Value) (od:Option Addr) (kV doc pm:Value) (an:Option Addr) (cdv ct:Value) (osl:Array (Option Value)),
  fd=fnOf x qual (bE st) (bg st) (aa st) .none kV doc pm an cdv ct/\K.lookup f=some #[oc,od,.func fd,osl]/\codeIn K cdv qual=true
 kp:keepIn K (.ref f)=true
section
variable {P:Program}{w:World}{K:Frag}{mg:Str->Option Value}{base:Heap}
theorem aJ.ok{st:Stmt}{d:Sp}(F:aJ K x a st f i)(S:ak N p (aa st))(len:∀v H Q E,d v H Q E->v.length=p.length)
  (b:∀(c:Value) (A:Around) (o:List Env) (s:Shared) (H:Hp) (v:List V) (Q:VK) (E:XK),bu k (A.deeper$ envOfC a (aa st) s.heap.objs.size f c)->d v H Q E->
   ∃t,iG (eU aA P w K mg base N a (aa st) f c A o s H E).nox (bg st) t/\t { nx:=λ_ j=>Q .non j,rt:=Q } (fX N v) H):aj P w K mg base aA (k+1) f i p d:=by
 obtain⟨m,n,kV,D,r,u,c,C,O,rfl,lk,e⟩:=F.ex;refine yj lk e S len λA o s H v Q E l g=>?_;obtain⟨t,h,q⟩:=b c A o s H v Q E l g;exact#[t,h.nox,q]
theorem aJ.binds{st:Stmt}{p:List Str}(F:aJ K x q st f b)
  (h:∀(kV d a:Value) (A:Option Addr) (c C:Value) (u:List Value),u.length=p.length->bindArgs (fnOf x q (bE st) (bg st) (aa st) .none kV d a A c C) #[u,[]]=pure (p.zip u)):ay K b p []:=by
 obtain⟨O,e,kV,d,a,A,c,C,o,rfl,lk,H⟩:=F.ex;exact .all$ h kV d a A c C
theorem pW{st:Stmt}{kV:Value}(l:K.lookup f=some #[O,e,.func$ fnOf x q (bE st) (bg st) (aa st) .none kV d p a C b,o])
  (c:codeIn K C q=true) (k:keepIn K (.ref f)=true):aJ K x q st f (fnOf x q (bE st) (bg st) (aa st) .none kV d p a C b):=#[#[O,e,kV,d,p,a,C,b,o,Z,l,c],k]
end
theorem zF(h:bu k A):A.units+1 < cLine:=IH (Oz (by decide:1<=64) _) h.units
section
variable {X:Cx}
theorem pv(i:Nat){x:Str}{p:Pos}(H:X.N[i]?=some x:=by rfl)(a:EB X.env.scope x:=by first |exact Or.inl Z |exact Or.inr (Or.inl Z) |exact Or.inr$ Or.inr Z)(b:(x==("__debug__":Str))=false:=by decide)
  (h:(x==("__classdict__":Str))=false:=by decide):PE X (.Name x p) (aX i):=Br H a b h
end
theorem oA{A B:Prop}(h:B):if false=true then A else B:=by rw[Ho Hc];exact h
theorem oB{A B:Prop}(h:A):if true=true then A else B:=by rw[Hm Z];exact h
theorem bN{c A B:Prop}[Decidable c](H:c->A)(a:¬c->B):if c then A else B:=by
 by_cases h:c
 ·rw[Hm h];exact H h
 ·rw[Ho h];exact a h
def ae(H h:Hp):Prop:=∀b o,H b=some o->h b=some o
theorem ae.refl(H:Hp):ae H H:=λ_ _ h=>h
theorem ae.trans(a:ae H d)(b:ae d e):ae H e:=λc o h=>b c o (a c o h)
theorem ae.free(e:ae H a)(h:a l=Option.none):H l=Option.none:=by
 cases q:H l with
 |none=>rfl
 |some o=>rw[e l o q]at h;cases h
theorem ae.seq{K:Frag}(e:ae H b)(h:aB K H a x):aB K b a x:=by
 rcases h with (h | ⟨o,h⟩) |h
 ·exact .inl$ .inl$ e _ _ h
 ·exact .inl$ .inr #[o,e _ _ h]
 ·exact .inr h
section
variable {prog:Program}{w:World}{A:Around}{R:Result->Shared->Prop}{s:Shared}
abbrev xY:Value->Shared->Prop:=λ_ _=>False
theorem ZE{iter:Expr}(I:Nat->Shared->Prop)
  (T:∀n s,I n s->wpAny (model prog w) A (pyNext B) (λr S=>match r with
   |none=>R (.ok .next) S
   |some v=>wpAny (model prog w) A (letOwnedTupleGo t B v) (λ_ b=>wpAny (model prog w) A (assign t e v) (λ_ d=>
     wpAny (model prog w) A (forIn l true λc r=>if r=true then do let o <- isTrue c e (eval c e);pure (ForInStep.yield o) else pure (ForInStep.yield r)) (λo a=>
      if o=true then wpAny (model prog w) A (eval E e) (λx g=>
       wpAny (model prog w) A (call (.builtin "list.append") [p,x]) (λ_ i=>∃m,m < n/\I m i) xY g) xY a
      else ∃m,m < n/\I m a) xY d) xY b) xY S) xY s)
  (n:Nat) (h:I n s):
  codeAny (model prog w) A (.compLoop (.ListComp E [#[t,iter,l,0]] k C) 0 B p e) R s:=by
 refine codeAny_loop Z I (λn s D=>?_) n h;show wpAny _ A ((compTurn (.ListComp E [#[t,iter,l,0]] k C) 0 B p e).onRaise (λx=>do noteFrame x e;theTreesLotGoes x)) _ _ s;refine wpAny_noted ?_;rw[compTurn_list];refine GK$ Ls$ GK$ Ib (T n s D) (λr S H=>?_) λ_ _ f=>f.elim;cases r with
 |none=>exact GL H
 |some v=>
  refine GK$ Ib H (λ_ b q=>?_) λ_ _ f=>f.elim;refine GK$ Ib q (λ_ d u=>GK (Ib u (λo a j=>?_) λ_ _ f=>f.elim)) λ_ _ f=>f.elim;cases o with
  |false=>exact GL #[Z,j]
  |true=>exact GK$ GK$ Ib j (λx g y=>GK (Ib y (λ_ i z=>GL (GL #[Z,z])) λ_ _ f=>f.elim)) λ_ _ f=>f.elim
end
noncomputable def a7(X:Cx)(s:Scope)(M:List Str)(c:List (Str×Addr))(C:Addr)(f:List Addr)(S:Shared)(H:Hp):Cx where
 prog:=X.prog
 w:=X.w
 K:=X.K
 mg:=X.mg
 base:=X.base
 A:=X.A
 N:=M
 s₀:=S
 H₀:=H
 env:=compEnvC s c C X.env
 outer:=X.stack
 stack:=X.stack
 ex:=f
 fn:=λ_=>false
 calm:=X.calm
 pn:=[]
 xe:=λ_ _=>False
noncomputable def CG(n:Nat)(I:List Nat)(a:St):St:=List.replicate n none++I.map λi=>(a[i]?).getD none
structure aZ(N:List Str)(sc scope:Scope)(M:List Str)(nT:Nat)(ix:List Nat):Prop where
 cell:∀y∈scope.names,y.2≠ .cell
 kind:scope.kind= .function
 loc:∀y∈scope.names,y.2= .local->scope.names.lookup y.1=some .local
 fre:∀y∈scope.names,y.2= .free->sc.names.lookup y.1=some .cell
 nms:M.drop nT=ix.map λi=>N.getD i Str.empty
 len:M.length=nT+ix.length
 vis:∀i∈ix,scope.names.lookup (N.getD i Str.empty)=some .free
theorem Jd{E:Env}(c:E.scope.kind= .function):∀{N:List (Str×NameKind)} {y:Str},N.lookup y=some .free->E.kindOf y=some .cell->
  (N.map λ(n,k)=>if (k==NameKind.free&&E.scope.kind== .function&&E.kindOf n==some .cell) then (n,NameKind.cell) else (n,k)).lookup y=some .cell
 | [],_,h,_=>by simp at h
 | (n,k)::r,y,h,b=>by
  have i:=@Jd E c r y;show List.lookup y ((if (k==NameKind.free&&E.scope.kind== .function&&E.kindOf n==some .cell)=true then (n,NameKind.cell) else (n,k))::_)=_;cases H:y==n with
  |true=>
   simp only[Il,H]at h;cases h;have e:y=n:=by simpa using H
   subst e;rw[Hm (by rw[c,b];rfl)];simp [Il]
  |false=>
   simp only[Il,H]at h;by_cases a:(k==NameKind.free&&E.scope.kind== .function&&E.kindOf n==some .cell)=true
   ·rw[Hm a];simp only[Il,H];exact i h b
   ·rw[Ho a];simp only[Il,H];exact i h b
theorem KF{E:Env}:∀{N:List (Str×NameKind)} {y:Str} {K:NameKind},
  (N.map λ(n,k)=>if (k==NameKind.free&&E.scope.kind== .function&&E.kindOf n==some .cell) then (n,NameKind.cell) else (n,k)).lookup y=some K->
  ∃k,N.lookup y=some k/\(K=k∨k= .free)
 | [],_,_,h=>by simp at h
 | (n,k)::r,y,K,h=>by
  have i:=@KF E r y K;have h:List.lookup y ((if (k==NameKind.free&&E.scope.kind== .function&&E.kindOf n==some .cell)=true then (n,NameKind.cell) else (n,k))::_)=some K:=h;cases a:y==n with
  |true=>
   refine#[k,by simp only[Il,a],?_];by_cases H:(k==NameKind.free&&E.scope.kind== .function&&E.kindOf n==some .cell)=true
   ·right;simp only[Iv]at H;simpa using H.1.1
   ·rw[Ho H]at h;simp only[Il,a]at h;left;exact(HQ h).symm
  |false=>
   have b:List.lookup y (r.map λ(n,k)=>if (k==NameKind.free&&E.scope.kind== .function&&E.kindOf n==some .cell) then (n,NameKind.cell) else (n,k))=some K:=by
    by_cases H:(k==NameKind.free&&E.scope.kind== .function&&E.kindOf n==some .cell)=true
    ·rw[Hm H]at h;simp only[Il,a]at h;exact h
    ·rw[Ho H]at h;simp only[Il,a]at h;exact h
   obtain⟨c,e,q⟩:=i b;exact#[c,by simp only[Il,a];exact e,q]
noncomputable def aU(e:Env):List (Str×NameKind)->List (Str×Addr)->List (Str×Addr)
 | [],a=>a
 | (n,k)::r,a=>if k== .free then aU e r ((n,(e.cells.lookup n).getD 0)::a) else aU e r a
theorem zX{E:Env}:∀{N:List (Str×NameKind)} {acc:List (Str×Addr)},(∀y∈N,y.2= .free->∃c,E.cells.lookup y.1=some c)->(∀x c,acc.lookup x=some c->E.cells.lookup x=some c)->
  ∀x c,(aU E N acc).lookup x=some c->E.cells.lookup x=some c
 | [],_,_,b,x,c,h=>b x c h
 | (n,k)::r,acc,f,b,x,c,h=>by
  unfold aU at h;by_cases g:(k==NameKind.free)=true
  ·rw[Hm g]at h;refine zX (λy H=>f y (HD _ H)) (λX j a=>?_) x c h;obtain⟨C,d⟩:=f (n,k) Hq (by simpa using g);have d:E.cells.lookup n=some C:=d;simp only[Il]at a;cases i:X==n with
   |true=>
    rw[i]at a;have e:X=n:=by simpa using i
    subst e;rw[d]at a;rw[d];exact a
   |false=>rw[i]at a;exact b _ _ a
  ·rw[Ho g]at h;exact zX (λy H=>f y (HD _ H)) b x c h
theorem qr:∀{a:List (Str×Addr)},(∃c,(x,c)∈a)->∃c,a.lookup x=some c
 | [],h=>by obtain⟨_,h⟩:=h;cases h
 | (n,c)::r,h=>by
  simp only[Il];cases H:x==n with
  |true=>exact#[c,Z]
  |false=>
   obtain⟨C,h⟩:=h;rcases List.mem_cons.mp h with e |h
   ·injection e with E _;subst E;simp at H
   ·exact qr #[C,h]
theorem qI:∀{N:List (Str×NameKind)} {a:List (Str×Addr)},((∃c,(x,c)∈a)∨(x,NameKind.free)∈N)->∃c,(x,c)∈aU E N a
 | [],_,h=>by
  rcases h with h |h
  ·exact h
  ·cases h
 | (n,k)::r,a,h=>by
  unfold aU;by_cases H:(k==NameKind.free)=true
  ·rw[Hm H];refine qI ?_;rcases h with ⟨c,h⟩ |h
   ·exact .inl #[c,HD _ h]
   ·rcases List.mem_cons.mp h with e |h
    ·injection e with b _;subst b;exact .inl #[_,Hq]
    ·exact .inr h
  ·rw[Ho H];refine qI ?_;rcases h with h |h
   ·exact .inl h
   ·rcases List.mem_cons.mp h with e |h
    ·injection e with _ d;subst d;exact absurd Z H
    ·exact .inr h
theorem qA{e:Env}:∀(N:List (Str×NameKind)) (A:List (Str×Addr)),(∀y∈N,y.2= .free->∃c,e.cells.lookup y.1=some c)->
  (forIn N A (λx r=>match x with | (name,K)=>if (K==NameKind.free)=true then (do let a <- cellOf e name;pure (ForInStep.yield ((name,a)::r))) else pure (ForInStep.yield r)):Sem (List$ Str×Addr))=pure (aU e N A)
 | [],A,_=>rfl
 | (n,k)::r,A,b=>by
  have i:=λA=>qA r A λy H=>b y (HD _ H);rw[IN];unfold aU;by_cases h:(k==NameKind.free)=true
  ·obtain⟨C,E⟩:=b (n,k) Hq (by simpa using h);have E:e.cells.lookup n=some C:=E;have d:cellOf e n=pure C:=by unfold cellOf;rw[E]
   rw[Hm h];simp only[h,Mi,d,E];exact i _
  ·rw[Ho h];simp only[h];exact i _
theorem qB{e:Env}{S:Scope}(H:∀y∈S.names,y.2= .free->∃c,e.cells.lookup y.1=some c):closureFor S e=pure (aU e S.names []):=by have h:=qA S.names [] H;exact Iq (λt:Sem (List$ Str×Addr)=>t >>= λs=>pure s) h
section
variable {X:Cx}{pins:List (Addr×Obj)}{σ:St}{H:Hp}{s:Shared}
theorem qY(I:ap X pins σ H s)(S:aZ X.N X.env.scope a M n i):∀y∈a.names,y.2= .free->∃c,X.env.cells.lookup y.1=some c:=
 λy h e=>I.ok.has y.1 (.inl$ S.fre y h e)
theorem pC{g:Heap}(I:ap X pins σ H s)(F:∀b∈Y,eS X pins H b)(P:∀b∈Y,b < s.heap.objs.size)
  (S:aZ X.N X.env.scope a M n G) (Q:s.heap.objs.size<=C) (O:∀b o,s.heap.get? b=some o->g.get? b=some o) (R:g.Ns C m):
  ap (a7 X a M (aU X.env a.names []) C Y s H) [] (CG n G σ) H { s with heap:=g,toks:=tk }:=by
 have sub:∀x c,(aU X.env a.names []).lookup x=some c->X.env.cells.lookup x=some c:=zX (qY I S) (λx c h=>by simp at h);have j:∀x,a.names.lookup x=some .free->∃c,(aU X.env a.names []).lookup x=some c:=λx e=>qr (qI$ .inr$ IC e);have hex:∀x K,(relabel a X.env).names.lookup x=some K->(K= .cell∨K= .free)->a.names.lookup x=some .free:=λx K e A=>by
  obtain⟨k,t,q⟩:=KF e;rcases q with q |q
  ·rcases A with z |z
   ·exact absurd (q.symm.trans z)$ S.cell (x,k)$ IC t
   ·rw[t,<- q,z]
  ·rw[t,q]
 refine#[#[I.ok.mod,S.kind,I.ok.glob,I.ok.blt,Q,λx y c h1 h2=>I.ok.inj x y c (sub x c h1) (sub y c h2),λx hx=>?_,λx c hx=>?_,I.ok.hd,I.ok.frames,.inl Z,λb w=>#[λz=>?_,λx c e=>?_],I.bs,Hh I.ok.bsz I.sz,λb o e w=>?_,λb w hz=>?_,I.stack,I.stkFree],
  rfl,I.bare,Un.kept O,#[m,R,λk y v t E _=>?_],λx c e=>?_,I.hok.fresh Q,λx c e=>I.freeC x c (sub x c e),λp hp=>absurd (show p∈([]:List (Addr×Obj)) from hp) RV,I.hok.kept O,?_]
 ·rcases hx with hx |hx
  ·exact j x$ hex x _ hx$ .inl Z
  ·exact j x$ hex x _ hx$ .inr Z
 ·exact absurd (show false=true from hx) RT
 ·have z':b=C:=z;have:=P b w;rw[z']at this;exact absurd this$ Nat.not_lt.mpr Q
 ·exact(F b w).2.2.2.2.1 x c (sub x c e)
 ·rcases(F b w).2.2.2.1 with z |z
  ·exact I.ok.noex b o e z
  ·exact absurd (He (GY e)$ Hh I.ok.bsz z)$ Io _
 ·rcases List.mem_cons.mp (I.stkSub b hz) with z |z
  ·exact(F b w).2.1 z
  ·exact(F b w).2.2.1 z
 ·have E:(CG n G σ)[k]?=some (some v):=E;have t:M[k]?=some y:=t;unfold CG at E;by_cases A:k < n
  ·rw[I9 (by simpa using A),N8]at E;simp [A]at E
  ·have B:n<=k:=O8 A;rw[IX (by simpa using B),MS,Hu]at E;cases J:G[k - n]? with
   |none=>rw[J]at E;cases E
   |some i=>
    rw[J]at E;have L:(σ[i]?).getD none=some v:=HQ E;have V:σ[i]?=some (some v):=by
     cases W:σ[i]? with
     |none=>rw[W]at L;cases L
     |some o=>rw[W]at L;exact Iq some L
    have hi:i < X.N.length:=by rw[<- I.len];exact(List.getElem?_eq_some_iff.mp V).1
    have e7:y=X.N.getD i Str.empty:=by
     have q:(M.drop n)[k - n]?=some y:=by rw[OC];rw[Oy B];exact t
     rw[S.nms,Hu,J]at q;exact(HQ q).symm
    have e8:X.N[i]?=some y:=by rw[e7,GN hi,Lu,GN hi];rfl
    have d:a.names.lookup y=some .free:=by rw[e7];exact S.vis i$ Hf J
    have f:X.env.scope.names.lookup y=some .cell:=S.fre (y,.free) (IC d) Z;obtain⟨m',_,hl⟩:=I.loc;obtain⟨u,r,l⟩:=hl i y v e8 V (.inr$ .inl f);refine#[u,r,?_];rcases l with ⟨l,_⟩ | ⟨_,c,ec,o,T,U⟩
    ·have l:X.env.scope.names.lookup y=some .local:=l;rw[f]at l;cases l
    ·obtain⟨c',D⟩:=j y d;have q:=sub y c' D;rw[ec]at q;cases q;exact .inr #[.inl$ Jd I.ok.kind d f,c,D,o,O _ _ T,U]
 ·obtain⟨v,o,T,U⟩:=I.cell x c (sub x c e);exact#[v,o,O _ _ T,U]
 ·show(CG n G σ).length=M.length;rw[S.len];simp [CG]
theorem ap.track(I:ap X pins σ H s)(f:eS X pins H D)(G:X.s₀.heap.objs.size<=D)(a:aN X.prog X.w (af H D o) s.heap D o):ap X pins σ (af H D o) s:=by
 have n:=f.1;have N:∀b u,H b=some u->b≠D:=λb u e=>jm e n;refine#[I.ok,I.os,I.bare,#[I.base.keep,I.base.slot,λb O e q i=>?_,I.base.there,λb d e=>?_,λb O u e=>?_,λb P e=>?_],I.loc,I.cell,?_,λx c e=>?_,λp h=>?_,λb u e=>?_,I.len]
 ·rw[ji$ Hd$ He (GY e) G];exact I.base.free b O e q i
 ·have q:=I.base.tups b d e;rw[ji$ N _ _ q];exact q
 ·have q:=I.base.frzs b O u e;rw[ji$ N _ _ q];exact q
 ·obtain⟨m,q⟩:=I.base.tbls b P e;exact#[m,by rw[ji$ N _ _ q];exact q]
 ·rw[ji$ HI f.2.1];exact I.free
 ·rw[ji$ f.2.2.2.2.1 x c e];exact I.freeC x c e
 ·obtain⟨e,q,r⟩:=I.pin p h;exact#[e,by rw[ji$ f.2.2.2.2.2 p h];exact q,r]
 ·by_cases g:b=D
  ·subst g;rw[jc]at e;cases e;exact a
  ·rw[ji g]at e;exact(I.hok b u e).stay (λ_ _ _ q=>q) (λc q=>by rw[ji$ N _ _ q];exact q) λc d q=>by rw[ji$ N _ _ q];exact q
noncomputable abbrev iq(u:List Value):Obj:={ cls:=.type "list",data:=.seq u.toArray u.length }
theorem ZF(u:List Value)(y:Value):({ cls:=.type "list",data:=.seq (u.toArray.push y) (u.length+1) }:Obj)=iq (u++[y]):=by show({ cls:=.type "list",data:=.seq (u.toArray.push y) (u.length+1) }:Obj)={ cls:=.type "list",data:=.seq (u++[y]).toArray (u++[y]).length };rw[GU,Lo,List.push_toArray]
def PF(X:Cx)(i:List Expr)(t:TT):Prop:=
 ∀(pins:List (Addr×Obj)) (s:Shared) (σ:St) (H:Hp) (Q:Bool->Hp->Prop),ap X pins σ H s->t σ H Q->
  wpAny (model X.prog X.w) X.A (forIn i true λc r=>if r=true then do let o <- isTrue c X.env (eval c X.env);pure (ForInStep.yield o) else pure (ForInStep.yield r)) (TP X pins σ Q) X.xe s
def lV:TT:=λ_ H Q=>Q true H
theorem zi:PF X [] lV:=λ_ _ _ H _ I h=>wpAny_tests_nil #[H,I,h]
theorem sq{c:Expr}{t:TT}(h:PT X c t):PF X [c] t:=λpins s σ H Q I q=>wpAny_tests_one (h pins s σ H Q I q)
noncomputable def nR(I:List Nat)(σ:St):St:=I.map λi=>(σ[i]?).getD none
def eB(J:It)(n:Nat)(t:St)(g:TG)(j:TT)(k:TE)(Q:List V->Hp->Prop)(H:Hp):Prop:=
 ∃W:Nat->Nat->List V->Hp->Prop,(∃m,W 0 m [] H)/\∀i m Y H,W i m Y H->
  (J.stop i H/\Q Y H)∨(J.go i H/\Y.length < sizeLine/\∃N:List V->Hp->Prop,(∀c h,N c h->∃M,M < m/\W (i+1) M c h)/\
   ∀x d (e:St),e.length=n->J.yld i H x d->g x (e++t) d λa h=>(∃T:St,T.length=n/\a=T++t)/\j a h λb f=>if b=true then k a f λy l=>N (Y++[y]) l else N Y f)
theorem KG{iter:Expr}
  {RR:Value->Addr->Result->Shared->Prop} 
  (I:ap X pins σ H s) (hc:X.calm=true) (T:mE X.prog X.w X.K tg J k it tn) (st:tn 0 s.heap) (hf:∀b∈k,eS X pins H b) (S:aZ X.N X.env.scope scope M nT ix)
  (hg:∀cl C k s H,PG (a7 X scope M cl C k s H) tg g) (hi:∀cl C k s H,PF (a7 X scope M cl C k s H) i0 tt) (he:∀cl C k s H,PE (a7 X scope M cl C k s H) e0 te)
  (h:eB J nT (nR ix σ) g tt te Qf H)
  (h':∀D C Y m t G,(∀b o u,H b=some (.frz o u)->t b=some (.frz o u))->t D=none->ap X pins σ (af t D$ .lst Y) G->eS X pins (af t D$ .lst Y) C->G.heap.Ns C m->Qf Y t->RR (.ref D) C (.ok .next) G):
  wpAny (model X.prog X.w) X.A (newList []) (λacc B=>wpAny (model X.prog X.w) X.A (newFunctionEnv scope X.env.globals (aU X.env scope.names []) [] X.env.qual none .none$ some X.env) (λc0 s0=>
   codeAny (model X.prog X.w) X.A (.compStart (.ListComp e0 [#[tg,iter,i0,0]] scope p1) 0 (.ref it) acc { c0 with scope:=relabel scope X.env }) (RR acc c0.locals) s0) E B) E s:=by
 obtain⟨W,⟨m0,w0⟩,t1⟩:=h;have h3:∀b∈k,b < s.heap.objs.size:=λb a=>by obtain⟨o,e,_⟩:=T.obj 0 _ st b a;exact GY e
 refine HN$ wpAny_newFunctionEnv S.cell (by intro y hy;simp at hy) (λF l f=>?_) S.kind;dsimp only at l f ⊢;generalize h4:s.heap.push { cls:=.type "list",dict:=none,data:=.seq ([]:List Value).toArray }=H2 at l f ⊢;have hC:H2.objs.size=s.heap.objs.size+1:=by rw[<- h4,Ia]
 have P:s.heap.objs.size≠H2.objs.size:=by rw[hC];exact Hd$ IB _
 have h0:s.heap.objs.size<=H2.objs.size:=by rw[hC];exact IL _
 have b0:∀b,b < s.heap.objs.size->b≠H2.objs.size/\b≠s.heap.objs.size:=λb a=>#[by rw[hC];exact Hd$ Lq a,Hd a];have o1:∀b o,s.heap.get? b=some o->F.get? b=some o:=λb o e=>f.extBut b o (b0 b$ GY e).1 (GP _$ h4▸GP _ e);have h5:F.get? s.heap.objs.size=some (iq []):=f.extBut _ _ P (GP _$ h4▸GZ _ Z);have a0:H s.heap.objs.size=none:=I.hok.fresh (GV _);have h6:s.heap.objs.size∉ip X.stack:=λa=>(List.mem_cons.mp$ I.stkSub _ a).elim (λe=>absurd I.lt (by rw[<- e];exact Io _)) (I.nofs$ GV _);generalize hD:s.heap.objs.size=D at*;generalize a8:H2.objs.size=C at*;have J0:∀tk,ap (a7 X scope M (aU X.env scope.names []) C k s H) [] (CG nT ix σ) H { s with heap:=F,toks:=tk }:=λtk=>pC I hf (by rw[hD];exact h3) S (by rw[hD];exact h0) o1 l;have c1:∀x c,(aU X.env scope.names []).lookup x=some c->c≠D:=λx c e z=>by have sub:=zX (qY I S) (acc:=[]) (λx c h=>by simp at h) x c e;obtain⟨v,o,ho,_⟩:=I.cell x c sub;have:=GY ho;rw[z,hD]at this;exact Io _ this
 have p0:∀{σ0:St} {t:Hp} {G:Shared} {U:List Value},ap (a7 X scope M (aU X.env scope.names []) C k s H) [] σ0 t G->G.heap.get? D=some (iq U)->t D=none->
   ap (a7 X scope M (aU X.env scope.names []) C k s H) [(D,iq U)] σ0 t G:=λ{σ0 t G U} I' e n=>I'.pins_of λp hp=>by
  have ep:p=(D,iq U):=by simpa using hp
  subst ep;exact#[e,n,P,h6,λv z=>by cases z]
 have L:∀{t:Hp} {U:List Value},(∀b∈k,t b=none)->∀b∈k,eS (a7 X scope M (aU X.env scope.names []) C k s H) [(D,iq U)] t b:=λ{t U} hn b a=>
  #[hn b a,((J0 0).ok.exf b a).1,(J0 0).ok.exfs b a,.inl a,((J0 0).ok.exf b a).2,λp hp z=>by
   have ep:p=(D,iq U):=by simpa [a7] using hp
   rw[ep]at z;have:=h3 b a;rw[<- z]at this;exact Io _ this]
 have l0:∀B:Shared,(∃tk,B={ s with heap:=F,toks:=tk })->
   codeAny (model X.prog X.w) X.A (.compLoop (.ListComp e0 [#[tg,iter,i0,0]] scope p1) 0 (.ref it) (.ref D)$ compEnvC scope (aU X.env scope.names []) C X.env) (RR (.ref D) C) B:=by
  rintro B ⟨tk,rfl⟩;refine ZE (λn G=>∃i Y U ts t,ts.length=nT/\ap (a7 X scope M (aU X.env scope.names []) C k s H) [(D,iq U)] (ts++nR ix σ) t G/\aw Y U/\Y.length<=sizeLine/\tn i G.heap/\(∀b∈k,t b=none)/\W i n Y t) ?_ m0
   #[0,[],[],List.replicate nT none,H,MS,p0 (J0 tk) h5 a0,.nil,Hg _,T.keep _ _ _ st λb a o e=>o1 b o e,λb a=>(hf b a).1,w0]
  rintro n s1 ⟨i,Y,U,ts,Q,a1,I1,rv,hz,s7,f0,w1⟩;rcases t1 i n Y Q w1 with ⟨stop,q⟩ | ⟨go,a2,N,hN,step⟩
  ·refine aK (T.done (a7 X scope M (aU X.env scope.names []) C k s H) Z Z Z hc i _ s1 _ Q xY I1 (L f0) s7 stop) λr s2 j=>?_;obtain⟨hr,I2⟩:=j;subst hr;have IO:ap X pins σ Q s2:=I.call' (ch:=k) I2.os I2.base I2.hok I2.bare λb a=>#[(hf b a).2.2.2.1,(hf b a).2.1,(hf b a).2.2.2.2.1,(hf b a).2.2.2.2.2];have pD:=I2.pin (D,iq U) (by simp [a7]);have h8:Q D=none:=pD.2.1;have fD:eS X pins Q D:=by rw[<- hD];exact I.fpOk (GV _) (by rw[hD];exact h8)
   have IT:ap X pins σ (af Q D$ .lst Y) s2:=IO.track fD (by rw[<- hD];exact I.sz) #[hz,U,U.length,rv,pD.1];obtain⟨mC,a3,_⟩:=I2.loc;have a4:Q C=none:=I2.free;exact h' D C Y mC Q s2 I2.base.frzs h8 IT (I.fpOk (by rw[hD];exact h0) (by rw[ji$ HI P];exact a4)) a3 q
  ·refine aK (T.item (a7 X scope M (aU X.env scope.names []) C k s H) Z Z Z hc i _ s1 _ Q xY I1 (L f0) s7 go) λr s2 j=>?_;obtain⟨u,hr,h2⟩:=j;subst hr;refine aK h2 λ_ s3 j=>?_;obtain⟨x,H3,I3,r3,y3,O,f1⟩:=j;have a5:=I3.pinned (L f1) (T.obj _ _ O);refine aK (hg _ _ _ _ _ _ s3 _ H3 x u _ a5 r3$ step x H3 ts a1 y3) λ_ s4 j=>?_;obtain⟨σ1,H4,I4,⟨t0,h1,e4⟩,q4⟩:=j;subst e4;refine aK (hi _ _ _ _ _ _ s4 _ H4 _ I4 q4) λb s5 j=>?_;obtain⟨H5,I5,q5⟩:=j;cases b with
   |false=>obtain⟨m',hm,w'⟩:∃m',m' < n/\W (i+1) m' Y H5:=hN _ _ q5;refine#[m',hm,i+1,Y,U,t0,H5,h1,I5.unpinned,rv,hz,T.keep _ _ _ O λb a o e=>(I5.pin (b,o)$ Hn _$ Hn _$ za a e).1,λb a=>?_,w'];obtain⟨o,e,d⟩:=T.obj _ _ O b a;exact(I5.pin (b,o)$ Hn _$ Hn _$ za a e).2.1
   |true=>
    refine aK (he _ _ _ _ _ _ s5 _ H5 _ I5 q5) λv s6 j=>?_;obtain⟨y,H6,I6,r6,q6⟩:=j;obtain⟨m',hm,w'⟩:=hN _ _ q6;have pD:=I6.pin (D,iq U) (Hn _$ Iy _ Hq);have hl:=rv.length;have R:∀b∈k,∀o,s3.heap.get? b=some o->s6.heap.get? b=some o:=λb a o e=>(I6.pin (b,o)$ Hn _$ Hn _$ za a e).1;have V:∀b∈k,H6 b=none:=λb a=>by obtain⟨o,e,d⟩:=T.obj _ _ O b a;exact(I6.pin (b,o)$ Hn _$ Hn _$ za a e).2.1
    refine append_at (hsz:=by rw[GX,<- hl];exact hz) pD.1 λh7 sb a6=>?_;have I7:ap (a7 X scope M (aU X.env scope.names []) C k s H) [] (t0++nR ix σ) H6 { s6 with heap:=h7 }:=
     (I6.pins_of (pins':=[]) λp hp=>absurd hp RV).turned (t':=s6.toks) (it:=D) (λb o a e=>(sb.2 b a).trans e) pD.2.1 P (.inr (by show s.heap.objs.size<=D;rw[hD];exact GV _)) c1 λp hp=>absurd (show p∈([]:List (Addr×Obj)) from hp) RV
    refine#[m',hm,i+1,Y++[y],U++[v],t0,H6,h1,p0 I7 (a6.trans$ Iq some$ ZF U v) pD.2.1,rv.append$ .cons r6 .nil,by rw[GU,Lo];exact a2,
     T.keep _ _ _ (T.keep _ _ _ O R) λb a o e=>(sb.2 b λz=>?_).trans e,V,w']
    have:=h3 b a;rw[z]at this;exact Io _ this
 exact codeAny_compStart_list (l0 _ #[_,Z])$ T.self _ 0 _ _ _ (T.keep _ _ _ st λb a o e=>o1 b o e)$ l0 _ #[_,Z]
def uj(w:TI)(n:Nat)(i:List Nat)(g:TG)(t:TT)(T:TE):TE:=λσ H Q=>w σ H λJ a=>eB J n (nR i σ) g t T (λy h=>∀p,h p=none->Q (.ref p) (af h p$ .lst y)) a
theorem kE{t E iter:Expr}{i:List Expr}{a:Scope}{p:Pos}{M:List Str}{k:Nat}{l:List Nat}{W:TI}{g:TG}{r:TT}{u:TE}(v:X.calm=true)(y:PI X t iter W)(S:aZ X.N X.env.scope a M k l)
  (z:∀c C f s H,PG (a7 X a M c C f s H) t g) (B:∀c C f s H,PF (a7 X a M c C f s H) i r) (G:∀c C f s H,PE (a7 X a M c C f s H) E u)
  (K:∀x,foldedSetIterable iter X.env x=pure x:=by intro _;rfl):
  PE X (.ListComp E [#[t,iter,i,0]] a p) (uj W k l g r u):=by
 intro pins s σ H Q I h;rw[eval_ListComp];refine Op (use:=none) Z K (qB$ qY I S) S.kind S.loc$ aK (y pins s σ H _ I h) λxv s1 L=>aK L λO s2 P=>?_;obtain⟨it,f,tn,J,H2,e,U,T,d,V,R⟩:=P;subst e;refine KG (RR:=λj C=>compPost (model X.prog X.w) X.A X.xe none (EP X pins σ Q) j C) U v T d V S z B G R ?_;intro D C ys m H' Y _ n I' F ns q;exact#[m,ns,λh' sb=>#[.ref D,_,I'.turned (t':=Y.toks) (λb o hb e=>(sb.2 b hb).trans e) F.1 F.2.1 F.2.2.2.1 F.2.2.2.2.1 F.2.2.2.2.2,Z,q D n]]
theorem YZ{t E iter:Expr}{d:List Expr}{c:Scope}{p P f:Pos}{y:Str}{i:Nat}{M:List Str}{U:Nat}{V:List Nat}{W:TI}{g:TG}{Y:TT}{te:TE}(hN:X.N.Nodup)(hy:X.N[i]?=some y)(hx:pe X.env.scope y)
  (hc:X.calm=true) (hI:PI X t iter W) (S:aZ X.N X.env.scope c M U V)
  (hg:∀l C j s H,PG (a7 X c M l C j s H) t g) (hi:∀l C j s H,PF (a7 X c M l C j s H) d Y) (he:∀l C j s H,PE (a7 X c M l C j s H) E te)
  (r:swapsWith (.ListComp E [#[t,iter,d,0]] c p) (some$ .Name y P) f.line X.env=pure true:=by rfl)
  (hf:X.fn y=true∨X.env.scope.names.lookup y=some .local:=by first |exact .inl Z |exact .inr Z |assumption)
  (hs:∀x,foldedSetIterable iter X.env x=pure x:=by intro _;rfl):
  PS X (.Assign [.Name y P] (.ListComp E [#[t,iter,d,0]] c p) f) (λD σ H=>uj W U V g Y te σ H λv H1=>D.nx (σ.set i$ some v) H1):=by
 intro pins s σ H D I h;rw[exec_Assign_Name_used _ _ _ _ r];refine GK$ Ls$ GK ?_;show wpAny _ X.A (do let _ <- comprehension (.ListComp E [#[t,iter,d,0]] c p) c X.env _ (newList []) false (eval iter X.env) (some$ assign (.Name y P) X.env)) _ _ s;refine GK (aK (Op (use:=some (assign (.Name y P) X.env)) (Q:=λ_ k=>SP X pins D .next k) Z hs (qB$ qY I S) S.kind S.loc
  (aK (hI pins s σ H _ I h) λxv s1 h1=>aK h1 λi0 s2 h2=>?_)) λ_ k hq=>GL (GL hq))
 obtain⟨it,j,tn,J,H2,e,I2,T,u,f2,R⟩:=h2;subst e;refine KG (RR:=λB C=>compPost (model X.prog X.w) X.A X.xe (some$ assign (.Name y P) X.env) (λ_ k=>SP X pins D .next k) B C) I2 hc T u f2 S hg hi he R ?_;intro Dd C ys m H' k _ n I' F ns q;show wpAny _ X.A (assign (.Name y P) X.env$ .ref Dd) _ _ k;refine Py$ Qp I' hN hy hx (v:=.ref Dd) Z (λG K hh=>?_) hf;obtain⟨a,sb,ha⟩:=hh;have L:C≠a:=by
  rcases ha with z |z
  ·rw[z];exact F.2.1
  ·exact HI$ F.2.2.2.2.1 _ _ z
 exact#[m,ns.sameBut sb L,λh' O=>#[_,_,K.turned (t':=G.toks) (λb o hb e=>(O.2 b hb).trans e) F.1 F.2.1 F.2.2.2.1 F.2.2.2.2.1 F.2.2.2.2.2,q Dd n]]
end
section
variable {X:Cx}
def CH(i j:Int):Prop:=0 < j/\j<=1000000000000000000
theorem Ko:eh X (binaryOp .FloorDiv) (rI CH λi j=>.int (i / j)):=ED λi j _ _ _ _ _ h q=>by
 have b:(0:Int) < j:=h.1;have c:j<=1000000000000000000:=h.2;refine floordiv_int RU (by rw[Int.fdiv_eq_ediv_of_nonneg i RU];exact q)$ .inl$ PyProof.noPylong_of_log2 ?_;have H:j.natAbs≠0:=by omega
 have a:j.natAbs < 2 ^ 60:=by omega
 have d:j.natAbs.log2 < 60:=(Nat.log2_lt H).mpr a;omega
noncomputable def C5:V->Option Value
 | .ty n=>some (.type n)
 | .ref a=>some (.ref a)
 |_=>none
theorem JH:∀{B:List Bool} {U:List Value},aw (B.map V.bl) U->LSm.BoolsAre U B
 | [],_,.nil=>.nil
 |b::r,_,.cons (b:=u) h t=>by have e:u=Value.bool b:=h;subst e;exact .cons b$ JH t
theorem pq(j:X.calm=true):dm X (.builtin "all") (λx H Q=>∃(p:Addr) (B:List Bool),x=[.ref p]/\aB X.K H p (B.map V.bl)/\Q (.bl$ B.all id) H):=by
 intro P s w H x U Q I r h;obtain⟨p,B,rfl,k,q⟩:=h;obtain⟨u,rfl,R⟩:=eI r;cases R;obtain⟨a,l,m,y⟩:=I.list k;have f:=JH l;have c:=m.isList;have d:p < s.heap.objs.size:=by obtain⟨_,e,_⟩:=c;exact GY e
 refine call_all_walk$ LZ c ?_;refine#[s.heap.objs.size,[s.heap.objs.size,p],[s.heap.objs.size],a.toArray.size,_,_,λi=>(B[i]?).getD true,Z,PZ (A:=X.A.in1) (I.ok.hd j) _ p (Hd d) a.toArray,
  #[#[_,GZ _ Z,Z,Z],c.push _],λi v S z E n g=>?_,λC t o=>?_]
 ·obtain⟨b,e,rfl⟩:=f.get i v (by simpa using n);simp only[e,Option.getD_some]at g;exact Lw g
 ·have e:((List.range a.toArray.size).all λi=>(B[i]?).getD true)=B.all id:=by rw[GX,f.length];exact LSm.range_all B
  rw[e];exact#[.bl _,H,I.kept (t':=t)$ LSm.kept_iter o,Z,q]
theorem zY:∀{Y:List Str} {U:List Value},aw (Y.map V.str) U->StrsAre U Y
 | [],_,.nil=>.nil
 |y::r,_,.cons (b:=u) h t=>by obtain⟨T,e⟩:∃T,u=Value.str y T:=h;subst e;exact .cons y T$ zY t
theorem Q3:EN X "str.join" (λx a H Q=>∃(z:Str) (p:Addr) (y:List Str),x= .str z/\a=[.ref p]/\aB X.K H p (y.map V.str)/\z.length<=16/\(y.map (·.length)).sum+y.length<=1048576/\Q (.str$ Txt.join z y) H):=by intro P s l H x a v U Q I r R h;obtain⟨z,p,y,rfl,rfl,b,c,d,q⟩:=h;obtain⟨u,rfl,e⟩:=eI R;cases e;obtain⟨t,rfl⟩:=r;obtain⟨i,f,g,j⟩:=I.list b;exact join_listW g.isList (by simpa using zY f) c d λT k=>#[.str _,H,I.tok k,#[_,Z],q]
noncomputable def pG:Expr->Option V
 | .Constant (.str x) _ _=>some (.str x)
 | .Constant (.int i) _ _=>some (.int i)
 |_=>none
theorem Bq(h:pG e=some v):PE X e (tC v):=by
 cases e with
 |Constant c j p=>
  cases c with
  |str x=>cases h;exact jk
  |int i=>cases h;exact jf
  |_=>cases h
 |_=>cases h
theorem uf(h:pG e=some v):starEach (e::a) E=(false,eval e E)::starEach a E:=by
 cases e with
 |Constant c j p=>rfl
 |_=>cases h
noncomputable def rh(e:Expr):Bool:=(pG e).isSome
noncomputable def pF(e:Expr):V:=(pG e).getD .non
theorem Q4:∀{E:List Expr},E.all rh=true->PA X E (λ_ H Q=>Q (E.map pF) H)
 | [],_=>jb
 |e::E,h=>by
  rw[N4,Iv]at h;obtain⟨v,a⟩:=Option.isSome_iff_exists.mp (show(pG e).isSome=true from h.1);have b:pF e=v:=by unfold pF;rw[a];rfl
  rw[Ik,b];exact ja (Bq a) (Q4 h.2)$ uf a
theorem ZG{E:List Expr}(h:E.all rh=true):(E.map pF).all cp=true:=by
 rw[Mw]at h ⊢;intro v H;obtain⟨e,a,rfl⟩:=List.mem_map.mp H;have q:=h e a;unfold rh at q;unfold pF;cases e with
 |Constant c j p=>
  cases c with
  |str x=>rfl
  |int i=>rfl
  |_=>exact absurd q Hc
 |_=>exact absurd q Hc
def Ek(t:TS):TS:=λD b H=>∃R:St->Hp->Prop,t { D with nx:=R } b H/\∀a h,R a h->D.nx a h
theorem j4{st:Stmt}{t:TS}(h:PS X st t):PS X st (Ek t):=by
 intro p s b H D I c;obtain⟨R,d,e⟩:=c;refine aK (h p s b H _ I d) λf S q=>?_;cases f with
 |next=>obtain⟨a,g,i,q⟩:=q;exact#[a,g,i,e _ _ q]
 |brk=>exact q
 |cont=>exact q
 |ret v=>exact q
theorem rE{t:St}(h:t.length=1):∃v,t=[v]:=by
 cases t with
 |nil=>cases h
 |cons v r=>
  cases r with
  |nil=>exact#[v,Z]
  |cons _ _=>cases h
theorem qp{lo:Int}{n:Nat}{t:TE}{Q:List V->Hp->Prop}(Pv:Nat->List V->Hp->Prop)(g:Pv 0 [] H)(j:n<=sizeLine)(b:∀i Y h,Pv i Y h->Y.length<=i)
  (k:∀i Y h,i < n->Pv i Y h->t (some (.int$ lo+i)::c) h λy d=>Pv (i+1) (Y++[y]) d) (l:∀Y h,Pv n Y h->Q Y h):
  eB (uZ lo n) 1 c (bp 0) lV t Q H:=by
 refine#[λi m Y h=>m=n - i/\i<=n/\Pv i Y h,#[n,RV,Hg _,g],?_];rintro i m Y h ⟨rfl,q,p⟩;by_cases a:i < n
 ·refine .inr #[a,IH (b i Y h p)$ He a j,Pv$ i+1,λo d P=>#[n - (i+1),RU,Z,a,P],λx d T f y=>?_];obtain⟨e,y⟩:=y;subst e y;obtain⟨v,rfl⟩:=rE f;exact#[#[[some _],Z,Z],k i Y _ a p]
 ·have e:i=n:=by omega
  subst e;exact .inl #[GV _,l Y h p]
end
section
variable {κ:Type}[DecidableEq κ]
noncomputable def bG(K:List (κ×V))(k:κ):Option V:=(K.find? λa=>decide (a.1=k)).map (·.2)
noncomputable def bq(K:List (κ×V))(k:κ)(v:V):List (κ×V):=
 if (K.any λa=>decide (a.1=k))=true then K.map (λa=>if a.1=k then (a.1,v) else a) else K++[(k,v)]
theorem kl{p:κ×V}(e:p.1=k):bG (p::r) k=some p.2:=by simp [bG,LN,e]
theorem km{p:κ×V}(e:¬p.1=k):bG (p::r) k=bG r k:=by simp [bG,LN,e]
theorem qZ(k:κ):∀K:List (κ×V),(K.any λa=>decide (a.1=k))=(bG K k).isSome
 | []=>rfl
 |p::r=>by
  rw[Ms];by_cases e:p.1=k
  ·simp only[kl e,Hl e,PV,Option.isSome_some]
  ·rw[km e,G8 e,Bool.false_or];exact qZ k r
theorem Xr(k j:κ)(y:V):∀K:List (κ×V),bG (K.map λa=>if a.1=k then (a.1,y) else a) j=(bG K j).map λx=>if j=k then y else x
 | []=>rfl
 |p::r=>by
  have i:=Xr k j y r;rw[Ik];by_cases h:p.1=k
  ·rw[Hm h];by_cases e:p.1=j
   ·rw[kl (p:=(p.1,y)) e,kl e,MD,Hm$ e.symm.trans h]
   ·rw[km (p:=(p.1,y)) e,km e,i]
  ·rw[Ho h];by_cases e:p.1=j
   ·rw[kl (p:=p) e,kl e,MD,Ho (λz=>h (e.trans z))]
   ·rw[km (p:=p) e,km e,i]
theorem Qx(k j:κ)(y:V):∀K:List (κ×V),bG K k=none->bG (K++[(k,y)]) j=if j=k then some y else bG K j
 | [],_=>by
  by_cases e:k=j
  ·rw[Hm e.symm];exact kl (p:=(k,y)) e
  ·rw[Ho (λz=>e z.symm)];exact km (p:=(k,y)) e
 |p::r,h=>by
  rw[List.cons_append];have H:¬p.1=k:=λz=>by rw[kl z]at h;cases h
  rw[km H]at h;have i:=Qx k j y r h;by_cases e:p.1=j
  ·rw[kl e,kl e,Ho (λz=>H (e.trans z))]
  ·rw[km e,km e,i]
theorem uG(K:List (κ×V))(k j:κ)(y:V):bG (bq K k y) j=if j=k then some y else bG K j:=by
 unfold bq;by_cases a:(K.any λb=>decide (b.1=k))=true
 ·rw[Hm a,Xr];rw[qZ]at a;by_cases e:j=k
  ·obtain⟨x,h⟩:=Option.isSome_iff_exists.mp a;rw[Hm e,e,h,MD,Hm Z]
  ·rw[Ho e];cases bG K j with
   |none=>rfl
   |some x=>rw[MD,Ho e]
 ·rw[Ho a];refine Qx k j y K ?_;rw[qZ]at a;cases q:bG K k with
  |none=>rfl
  |some x=>rw[q]at a;exact(a Z).elim
theorem qq(K:List (κ×V))(k:κ)(v:V):(bq K k v).length<=K.length+1:=by
 unfold bq;split
 ·rw[GQ];omega
 ·rw[GU,Hv,LM];omega
theorem dy.isSome_eq(r:dy o u):o.isSome=u.isSome:=by
 cases o with
 |none=>cases u with
  |none=>rfl
  |some _=>exact(show False from r).elim
 |some _=>cases u with
  |none=>exact(show False from r).elim
  |some _=>rfl
theorem dy.getD(r:dy o u)(R:au d D):au (o.getD d) (u.getD D):=by
 cases o with
 |none=>cases u with
  |none=>exact R
  |some _=>exact(show False from r).elim
 |some _=>cases u with
  |none=>exact(show False from r).elim
  |some _=>exact r
theorem KV.val(r:KV a v)(k:κ):dy (bG a k) (valueAt v k):=by
 unfold KV at r;induction r with
 |nil=>exact True.intro
 | @cons p q P Q h t i=>
  obtain⟨H,c⟩:=h;by_cases e:p.1=k
  ·have E:q.1=k:=H.symm.trans e;have b:valueAt (q::Q) k=some q.2:=by simp [valueAt,LN,E]
   rw[kl e,b];exact c
  ·have E:¬q.1=k:=λz=>e (H.trans z);have b:valueAt (q::Q) k=valueAt Q k:=by simp [valueAt,LN,E]
   rw[km e,b];exact i
theorem KV.any(r:KV a v)(k:κ):(a.any λK=>decide (K.1=k))=v.any λK=>decide (K.1=k):=by
 unfold KV at r;induction r with
 |nil=>rfl
 |cons h t i=>rw[Ms,Ms,i,h.1]
theorem KV.repl(r:KV a v)(k:κ)(R:au y u):
  KV (a.map λK=>if K.1=k then (K.1,y) else K) (v.map λK=>if K.1=k then (K.1,u) else K):=by
 unfold KV at r ⊢;induction r with
 |nil=>exact .nil
 | @cons p q P Q h t i=>
  rw[Ik,Ik];refine .cons ?_ i;obtain⟨H,b⟩:=h;by_cases e:p.1=k
  ·rw[Hm e,Hm$ H.symm.trans e];exact#[H,R]
  ·rw[Ho e,Ho (λz=>e (H.trans z))];exact#[H,b]
theorem KV.put(r:KV a v)(k:κ)(R:au y u):KV (bq a k y) (stored v k u):=by
 unfold bq stored;rw[r.any k];by_cases e:(v.any λK=>decide (K.1=k))=true
 ·rw[Hm e,Hm e];exact r.repl k R
 ·rw[Ho e,Ho e];exact Paired.snoc r #[Z,R]
theorem KV.length(r:KV k v):k.length=v.length:=Paired.length r
end
theorem J6{P:Program}(r:au (kV k) u):(aP P w).is k u=true:=by
 cases k with
 |inl i=>obtain⟨t,e⟩:=(show ∃t,u=Value.int i t from r);subst e;exact XH P w i t
 |inr x=>obtain⟨t,e⟩:=(show ∃t,u=Value.str x t from r);subst e;exact XI P w x t
theorem Qy{P:Program}:∀{K:List bJ} {u:List Value},aw (K.map kV) u->ItemsAre (aP P w) K u
 | [],_,r=>by rw[Oc]at r;cases r;exact .nil
 |k::K,_,r=>by
  rw[Ik]at r;cases r with
  |cons h t=>exact .cons (J6 h) (Qy t)
abbrev KT(H:Hp):List (List bJ×V)->List (List bJ×Addr×Value)->Prop:=Paired λp q=>p.1=q.1/\H q.2.1=some (.tup$ p.1.map kV)/\au p.2 q.2.2
theorem KT.val(r:KT H a x)(k:List bJ):dy (bG a k) ((atKey x k).map (·.2)):=by
 induction r with
 |nil=>exact True.intro
 | @cons p q P Q h t i=>
  obtain⟨c,_,d⟩:=h;by_cases e:p.1=k
  ·have E:q.1=k:=c.symm.trans e;have b:atKey (q::Q) k=some q.2:=by simp [atKey,LN,E]
   rw[kl e,b];exact d
  ·have E:¬q.1=k:=λz=>e (c.trans z);have b:atKey (q::Q) k=atKey Q k:=by simp [atKey,LN,E]
   rw[km e,b];exact i
theorem KT.repl(r:KT H b x)(k:List bJ)(R:au y u):
  KT H (b.map λK=>if K.1=k then (K.1,y) else K) (x.map$ putAt k u):=by
 induction r with
 |nil=>exact .nil
 | @cons p q P Q h t i=>
  rw[Ik,Ik];refine .cons ?_ i;obtain⟨a,c,d⟩:=h;unfold putAt;by_cases e:p.1=k
  ·rw[Hm e,Hm$ a.symm.trans e];exact#[a,c,R]
  ·rw[Ho e,Ho (λz=>e (a.trans z))];exact#[a,c,d]
theorem KT.put(r:KT H a x)(k:List bJ)(h:H b=some (.tup$ k.map kV))(R:au y u):
  KT H (bq a k y) (storedH x k b u):=by
 have e:(a.any λK=>decide (K.1=k))=(atKey x k).isSome:=by rw[qZ,(r.val k).isSome_eq,Ou]
 unfold bq storedH;rw[e];by_cases q:(atKey x k).isSome=true
 ·rw[Hm q,Hm q];exact r.repl k R
 ·rw[Ho q,Ho q];exact Paired.snoc r #[Z,h,R]
theorem KT.keeps{h:Hp}(r:KT H k x)(a:∀b y,H b=some (.tup y)->h b=some (.tup y)):KT h k x:=
 Paired.mapP r λ_ _ z=>#[z.1,a _ _ z.2.1,z.2.2]
section
variable {P:Program}{w:World}{H:Hp}{h:Heap}{a:Addr}
theorem yw(o:eE P w H h)(e:Rd H a u):aN P w H h a u:=e.ok o
theorem J7(o:eE P w H h)(e:Rd H a (.dK k)):k.length<=sizeLine/\(a==sysModules)=false/\∃v,KV k v/\h.DictOf (aP P w) a v:=
 show aN P w H h a (.dK k) from yw o e
theorem Dg(o:eE P w H h)(e:H a=some (.dK k)):k.length<=sizeLine/\(a==sysModules)=false/\∃v,KV k v/\h.DictOf (aP P w) a v:=J7 o (.inl e)
theorem Jm{k:List bJ}(O:eE P w H h)(e:H a=some (.tup$ k.map kV)):(tupleKind$ aP P w).is h k a:=by obtain⟨_,i,r,o,b,c,n,d⟩:=(show aN P w H h a (.tup$ k.map kV) from O a _ e);exact#[o,i.toArray,n,b,c,d,by simpa using Qy r]
theorem J8(O:eE P w H h)(e:Rd H a (.dT k)):k.length<=sizeLine/\(a==sysModules)=false/\
  ∃X,KT H k X/\h.DictOfH (tupleKind$ aP P w) a X:=by
 obtain⟨z,y,X,r,o,E,c,d,f,g,i,j⟩:=(show aN P w H h a (.dT k) from yw O e);refine#[z,y,X,r,o,E,c,d,f,g,i,λx hx=>?_,j];have all:∀{l:List (List bJ×V)} {m:List (List bJ×Addr×Value)},KT H l m->∀x∈m,(tupleKind$ aP P w).is h x.1 x.2.1:=by
  intro l m q;induction q with
  |nil=>intro x hx;exact nomatch hx
  | @cons p q n Q b t I=>
   intro x hx;rcases List.mem_cons.mp hx with e |hx
   ·subst e;exact Jm O (by rw[<- b.1];exact b.2.1)
   ·exact I x hx
 exact all r x hx
theorem Dh(o:eE P w H h)(e:H a=some (.dT k)):k.length<=sizeLine/\(a==sysModules)=false/\
  ∃x,KT H k x/\h.DictOfH (tupleKind$ aP P w) a x:=J8 o (.inl e)
end
def dM(H:Hp)(a:Addr)(y:V)(r:Option V):Prop:=
 (∃K k,Rd H a (.dK K)/\y=kV k/\r=bG K k)∨∃K k b,Rd H a (.dT K)/\y= .ref b/\H b=some (.tup$ k.map kV)/\r=bG K k
def mq(H:Hp)(a:Addr)(y v:V)(h:Hp):Prop:=
 (∃K k,H a=some (.dK K)/\y=kV k/\K.length < sizeLine/\h=af H a (.dK$ bq K k v))∨
 ∃K k b,H a=some (.dT K)/\y= .ref b/\H b=some (.tup$ k.map kV)/\K.length < sizeLine/\h=af H a (.dT$ bq K k v)
theorem dM.k{H:Hp}{k:bJ}(e:H a=some (.dK b)):dM H a (kV k) (bG b k):=.inl #[b,k,.inl e,Z,Z]
theorem mq.k{H:Hp}{k:bJ}(e:H a=some (.dK b))(h:b.length < sizeLine):mq H a (kV k) v (af H a$ .dK$ bq b k v):=.inl #[b,k,e,Z,h,Z]
section
variable {X:Cx}{pins:List (Addr×Obj)}{σ:St}{H:Hp}{s:Shared}{a:Addr}{y v:V}{u r:Value}{o:Option V}{A:Around}{E:Value->Shared->Prop}
theorem ap.big(I:ap X pins σ H s):sysModules < s.heap.objs.size:=by have h:mainGlobals < s.heap.objs.size:=(I.mod.glob.keeps I.bk).lt;exact Nat.lt_trans RT h
theorem ZH{Q:Value->Shared->Prop}(m:A.units+1 < cLine)(I:ap X pins σ H s)(g:dM H a y (some v))(j:au y u)(h:∀W S,ap X pins σ H S->au v W->Q W S):
  wpAny (model X.prog X.w) A (getItem (.ref a) u) Q E s:=by
 rcases g with ⟨K,k,e,d,l⟩ | ⟨K,k,b,e,d,n,l⟩
 ·subst d;obtain⟨z,q,t,R,D⟩:=J7 I.hok e;obtain⟨W,f,c⟩:=dy.some_of (v:=v) (o:=valueAt t k) (by rw[l];exact R.val k);exact wpAny_getItem_of (J6 j) D.mapOf f$ h W _ (I.tok _) c
 ·subst d;cases (show u=Value.ref b from j);obtain⟨z,q,x,R,D⟩:=J8 I.hok e;obtain⟨W,f,c⟩:=dy.some_of (v:=v) (o:=(atKey x k).map (·.2)) (by rw[l];exact R.val k);obtain⟨p,B,i⟩:=Option.map_eq_some_iff.mp f;refine wpAny_getItem_heap (LW m) (Jm I.hok n) D B ?_;rw[i];exact h W _ (I.tok _) c
theorem Fb{Q:Value->Shared->Prop}(i:A.units+1 < cLine)(I:ap X pins σ H s)(g:dM H a y o)(f:au y u)(h:∀S,ap X pins σ H S->Q (.bool o.isSome) S):
  wpAny (model X.prog X.w) A (compareOp .In u$ .ref a) Q E s:=by
 rcases g with ⟨K,k,e,c,l⟩ | ⟨K,k,b,e,c,j,l⟩
 ·subst c;obtain⟨z,d,m,R,D⟩:=J7 I.hok e;refine wpAny_in_of (J6 f) d D.mapOf ?_;rw[<- (R.val k).isSome_eq,<- l];exact h _$ I.tok _
 ·subst c;cases (show u=Value.ref b from f);obtain⟨z,d,x,R,D⟩:=J8 I.hok e;refine wpAny_in_heap (LW i) (Jm I.hok j) d D ?_;have q:=(R.val k).isSome_eq;rw[Ou]at q;rw[<- q,<- l];exact h _$ I.tok _
theorem Y0(I:ap X pins σ H s)(m:CQ (H a))(c:Heap.SameBut a s.heap h)(d:∃q,h.get? a=some q)(n:aN X.prog X.w (af H a O) h a O):
  ap X pins σ (af H a O) { s with heap:=h,toks:=t }:=
 I.write (x:=a) (e:=a) m (.inl Z) (λb q f z=>(c.2 b f).trans z) d n
theorem pM{P:Program}{h:Heap}{k:List (bJ×V)}(z:k.length<=sizeLine)(c:(a==sysModules)=false)(R:KV k b)(d:h.DictOf (aP P w) a b):
  aN P w e h a (.dK k):=#[z,c,b,R,d]
theorem ZI{Q:Unit->Shared->Prop}(J:A.units+1 < cLine)(I:ap X pins σ H s)(g:mq H a y v L)(x:au y u)(B:au v r)(h:∀S,ap X pins σ L S->Q () S):
  wpAny (model X.prog X.w) A (setItem (.ref a) u r) Q E s:=by
 rcases g with ⟨K,k,e,i,l,j⟩ | ⟨K,k,b,e,i,C,l,j⟩
 ·subst i j;obtain⟨z,m,M,R,D⟩:=Dg I.hok e;have n:M.length<=sizeLine:=by rw[<- R.length];exact z
  have p:(bq K k v).length<=sizeLine:=by have:=qq K k v;omega
  refine wpAny_setItem_pairs (hsz:=n) (J6 x) D λF d t=>h _ ?_;have N:∃q,F.get? a=some q:=let #[q,_,_,f,_]:=d;#[q,f]
  exact Y0 I (by rw[e];exact True.intro) t N$ pM p m (R.put k B) d
 ·subst i j;cases (show u=Value.ref b from x);obtain⟨z,m,O,R,D⟩:=Dh I.hok e;have n:O.length<=sizeLine:=by rw[<- Paired.length R];exact z
  have p:(bq K k v).length<=sizeLine:=by have:=qq K k v;omega
  refine wpAny_setItem_heap (hsz:=n) (LW J) (Jm I.hok C) D λF d t=>h _ ?_;obtain⟨q,P,T,f,U,W,Y,_,h5⟩:=d;refine Y0 I (by rw[e];exact True.intro) t #[q,f] #[p,m,_,(R.put k C B).keeps λc ys G=>?_,q,P,T,f,U,W,Y,h5];rw[ji$ jN G e (λz=>nomatch z)];exact G
end
def CT(i:Expr):Prop:=∀o I,subscripted i false o I=operate [o,I] (getItem o I)
theorem xF{id:String}
  (k:typeLookup (.type T) "__getitem__"=pure (some$ .builtin id)) (l:CT a)
  (h:wpAny (model p w) A (eval v e) (λo b=>wpAny (model p w) A (eval a e) (λi S=>S.TypeIs o T/\wpAny (model p w) A (getItem o i) Q E S) E b) E s):
  wpAny (model p w) A (eval (.Subscript v a m) e) Q E s:=by
 refine Pt$ Ib h (λo b d=>Ib d (λi S H=>?_) λ_ _ x=>x) λ_ _ x=>x;obtain⟨j,H⟩:=H;unfold subscriptTail;refine GK ?_;rw[getitemInPython_of_ne j.not_modules];refine GK$ IU j k ?_;have f:wpAny (model p w) A (subscripted a false o i) (λr c=>wpAny (model p w) A (letTemporaryGo v o r >>= λ_=>pure r) Q E c) E S:=by rw[l o i];exact wpAny_operating$ Ib H (λr c g=>GK (wpAny_letTemporaryGo$ GL g)) λ_ _ x=>x
 first
  |exact GL (GK f)
  |exact GK (GL (GK f))
  |exact GK f
theorem XJ{X:Cx}(I:ap X p c H s)(g:dM H a y o):s.TypeIs (.ref a) "dict":=by
 rcases g with ⟨K,k,e,_,_⟩ | ⟨K,k,b,e,_,_,_⟩
 ·obtain⟨_,_,v,_,d⟩:=J7 I.hok e;exact d.typeIs
 ·obtain⟨_,_,x,_,d⟩:=J8 I.hok e;exact d.typeIs
inductive uk(Q:VK)(x y:V)(b:Hp):Prop
 |mk(a v:_)(_:x= .ref a)(_:dM b a y (some v))(_:Q v b)
def Eh(t T:TE):TE:=λa H Q=>t a H λx h=>T a h (uk Q x)
inductive yH(Q:VK)(y x:V)(b:Hp):Prop
 |mk(a o:_)(_:x= .ref a)(_:dM b a y o)(_:Q (.bl o.isSome) b)
def FE(t T:TE):TE:=λa H Q=>t a H λy h=>T a h (yH Q y)
inductive sP(D:aW)(d:St)(v x y:V)(b:Hp):Prop
 |mk(a c:_)(_:x= .ref a)(_:mq b a y v c)(_:D.nx d c)
def sO(t T b:TE):TS:=λD a H=>b a H λv h=>t a h λx c=>T a c (sP D a v x)
section
variable {X:Cx}{o i e value:Expr}{pos pos' tpos:Pos}{td ty tv:TE}
theorem wF(d:X.A.units+1 < cLine)(f:PE X o td)(j:PE X i ty)(k:CT i):PE X (.Subscript o i pos) (Eh td ty):=by intro p s b H Q I h;refine xF PySem.F.slot_dict_getitem.lookup k$ aK (f p s b H _ I h) λu S #[x,l,m,R,q]=>aK (j p S b l _ m q) λC D z=>?_;obtain⟨y,n,c,t,a,v,E,g,w⟩:=z;subst E;obtain rfl:u=Value.ref a:=R;exact#[XJ c g,ZH d c g t λW G B r=>#[v,n,B,r,w]]
theorem Bn(c:X.A.units+1 < cLine)(d:PE X i ty)(f:PE X o td):PC X .In i o (FE ty td):=by intro p s b H Q I h;refine aK (d p s b H _ I h) λv S #[y,j,k,r,q]=>aK (f p S b j _ k q) λu w z=>?_;obtain⟨x,l,m,R,a,O,E,g,n⟩:=z;subst E;obtain rfl:u=Value.ref a:=R;exact Fb c m g r λB t=>#[.bl O.isSome,l,t,Z,n]
theorem qQ(c:X.A.units+1 < cLine)(d:PE X o td)(f:PE X i ty)(j:PE X value tv)(k:swapsWith value (some$ .Subscript o i pos') pos.line X.env=pure false):
  PS X (.Assign [.Subscript o i pos'] value pos) (sO td ty tv):=by
 intro p s b H D I h;refine wpAny_Assign_Subscript (aK (j p s b H _ I h) λr S #[v,l,m,R,q]=>aK (d p S b l _ m q) λu n #[x,t,w,B,Q]=>aK (f p n b t _ w Q) λL M z=>?_) k;obtain⟨y,N,C,E,a,F,G,g,J⟩:=z;subst G;obtain rfl:u=Value.ref a:=B;exact ZI c C g E R λO K=>#[b,F,K,J]
end
theorem pK{P:Program}(h:Heap)(a:sysModules < h.objs.size):aN P w H (h.push { cls:=.type "dict",data:=.dict (List.toArray []) }) h.objs.size (.dK []):=
 #[Hg _,beq_eq_false_iff_ne.mpr$ HI$ Hd a,[],.nil,Of h]
def Ca:TE:=λ_ H Q=>∀p,H p=none->Q (.ref p) (af H p$ .dK [])
section
variable {X:Cx}{pos:Pos}
theorem Kq:PE X (.Dict [] [] pos) Ca:=λp s b H Q I h=>
 wpAny_Dict_empty #[.ref s.heap.objs.size,_,I.laid (a:=s.heap.objs.size) (o:=.dK []) (t':=s.toks) (λ_ _ q=>GP _ q) (GV _)$ pK s.heap I.big,Z,h _$ I.hok.fresh$ GV _]
end
noncomputable def c7(k m:List (bJ×V)):List (bJ×V):=m.foldl (λa K=>bq a K.1 K.2) k
theorem KV.merge:∀{m:List (bJ×V)} {R:List (bJ×Value)} {k:List (bJ×V)} {v:List (bJ×Value)},KV m R->KV k v->KV (c7 k m) (merged v R):=by
 intro m R k v r;unfold KV at r;induction r generalizing k v with
 |nil=>intro q;exact q
 | @cons p q P Q h t i=>
  intro a;have e:KV (bq k p.1 p.2) (stored v q.1 q.2):=by have:=a.put p.1 h.2;rw[<- h.1];exact this
  exact i e
theorem qC:∀(m k:List (bJ×V)),(c7 k m).length<=k.length+m.length
 | [],k=>by show k.length<=k.length+0;omega
 |p::r,k=>by have h:=qC r (bq k p.1 p.2);have H:=qq k p.1 p.2;show(c7 (bq k p.1 p.2) r).length<=_;rw[Hv];omega
structure M1(X:Cx)(o:Expr)(m:Str)(apos:Pos)(e:Expr)(cpos:Pos):Prop where
 base:attributeBase o m X.env (eval o X.env)=eval o X.env
 few:((backTo cpos$ starEach [e] X.env).all (λx=>!x.1)&&(backToKw cpos$ keywordEach [] X.env).all (λx=>x.1.isSome)
  &&decide (([e]:List Expr).length+([]:List Keyword).length+(if ([]:List Keyword).isEmpty then 0 else 1) < 30))=true
 line:(apos.endLine==cpos.line)=true
 trees:backTo cpos (starEach [e] X.env)=[(false,eval e X.env)]
structure M2(X:Cx)(o:Expr)(m:Str)(apos:Pos)(e f:Expr)(cpos:Pos):Prop where
 base:attributeBase o m X.env (eval o X.env)=eval o X.env
 few:((backTo cpos$ starEach [e,f] X.env).all (λx=>!x.1)&&(backToKw cpos$ keywordEach [] X.env).all (λx=>x.1.isSome)
  &&decide (([e,f]:List Expr).length+([]:List Keyword).length+(if ([]:List Keyword).isEmpty then 0 else 1) < 30))=true
 line:(apos.endLine==cpos.line)=true
 trees:backTo cpos (starEach [e,f] X.env)=[(false,eval e X.env),(false,eval f X.env)]
def EK(H:Hp)(a:Addr):Prop:=(∃k,Rd H a$ .dK k)∨∃k,Rd H a (.dT k)
theorem rj{X:Cx}(I:ap X p g H s)(d:EK H a):
  s.TypeIs (.ref a) "dict"/\(∀b,Value.ref a= .ref b->∃o,s.heap.get? b=some o/\o.dict=none)/\(a==sysModules)=false:=by
 rcases d with ⟨k,e⟩ | ⟨k,e⟩
 ·obtain⟨_,h,v,_,D⟩:=J7 I.hok e;refine#[D.typeIs,λb q=>?_,h];cases q;obtain⟨o,_,_,c,f,_⟩:=D;exact#[o,c,f.2.1]
 ·obtain⟨_,h,x,_,D⟩:=J8 I.hok e;refine#[D.typeIs,λb q=>?_,h];cases q;obtain⟨o,_,_,c,f,_⟩:=D;exact#[o,c,f.2.1]
section
variable {X:Cx}{pins:List (Addr×Obj)}{σ:St}{H:Hp}{s:Shared}{a:Addr}{y d:V}{u r:Value}{o:Option V}{A:Around}{E:Value->Shared->Prop}
theorem Af{Q:Value->Shared->Prop}(j:A.units+1 < cLine)(I:ap X pins σ H s)(g:dM H a y o)(i:au y u)(h:∀W S,ap X pins σ H S->au (o.getD .non) W->Q W S):
  wpAny (model X.prog X.w) A (call (.builtin "dict.get") [.ref a,u]) Q E s:=by
 rcases g with ⟨K,k,e,c,l⟩ | ⟨K,k,b,e,c,m,l⟩
 ·subst c;obtain⟨z,f,v,R,D⟩:=J7 I.hok e;refine NA IV D.typeIs LQ (NH _ _) (meets_dict_get (aP X.prog X.w) a (J6 i) f) #[_,D.mapOf,h _ _ (I.tok _) ?_];rw[l];exact(R.val k).getD Z
 ·subst c;cases (show u=Value.ref b from i);obtain⟨z,f,x,R,D⟩:=J8 I.hok e;refine NA IV D.typeIs LQ (NH _ _) (meetsH_dict_get (tupleKind$ aP X.prog X.w) a b f) #[LW j,k,x,Jm I.hok m,D,h _ _ (I.tok _) ?_];rw[l];exact(R.val k).getD Z
theorem Ag{Q:Value->Shared->Prop}(m:A.units+1 < cLine)(I:ap X pins σ H s)(g:dM H a y o)(i:au y u)(j:au d r)(h:∀W S,ap X pins σ H S->au (o.getD d) W->Q W S):
  wpAny (model X.prog X.w) A (call (.builtin "dict.get") [.ref a,u,r]) Q E s:=by
 rcases g with ⟨K,k,e,c,l⟩ | ⟨K,k,b,e,c,n,l⟩
 ·subst c;obtain⟨z,f,v,R,D⟩:=J7 I.hok e;refine NA IV D.typeIs LQ (NG _ _ _) (meets_dict_get_default (aP X.prog X.w) a (J6 i) f r) #[_,D.mapOf,h _ _ (I.tok _) ?_];rw[l];exact(R.val k).getD j
 ·subst c;cases (show u=Value.ref b from i);obtain⟨z,f,x,R,D⟩:=J8 I.hok e;refine NA IV D.typeIs LQ (NG _ _ _) (meetsH_dict_get_default (tupleKind$ aP X.prog X.w) a b f r) #[LW m,k,x,Jm I.hok n,D,h _ _ (I.tok _) ?_];rw[l];exact(R.val k).getD j
end
inductive on(c:TE)(d:St)(Q:VK)(x:V)(b:Hp):Prop
 |mk(a:_)(_:x= .ref a)(_:EK b a)(_:c d b λy H2=>∃o,dM H2 a y o/\Q (o.getD .non) H2)
def BZ(t T:TE):TE:=λa H Q=>t a H (on T a Q)
inductive oq(d c:TE)(e:St)(Q:VK)(x:V)(b:Hp):Prop
 |mk(a:_)(_:x= .ref a)(_:EK b a)(_:d e b λy H2=>c e H2 λz H3=>∃o,dM H3 a y o/\Q (o.getD z) H3)
def B0(t T b:TE):TE:=λa H Q=>t a H (oq T b a Q)
section
variable {X:Cx}{o e f:Expr}{apos cpos:Pos}{td ty tx:TE}
theorem sh(c:X.A.units+1 < cLine)(j:PE X o td)(k:PE X e ty)(m:M1 X o "get" apos e cpos):PE X (.Call (.Attribute o "get" apos) [e] [] cpos) (BZ td ty):=by intro p s b H Q I h;refine Pz m.base m.few m.line NE IV NW$ aK (j p s b H _ I h) λu S z=>?_;obtain⟨x,l,i,R,a,E,d,q⟩:=z;subst E;obtain rfl:u=Value.ref a:=R;obtain⟨t,T,_⟩:=rj i d;refine#[t,T,?_];rw[m.trees];refine LS Z$ MX$ Ir$ aK (k p S b l _ i q) λD F #[y,n,v,w,O,g,B]=>IM ?_;exact Af c v g w λW G C r=>#[_,n,C,r,B]
theorem Kr(j:X.A.units+1 < cLine)(k:PE X o td)(l:PE X e ty)(n:PE X f tx)(m:M2 X o "get" apos e f cpos):PE X (.Call (.Attribute o "get" apos) [e,f] [] cpos) (B0 td ty tx):=by
 intro p s b H Q I h;refine Pz m.base m.few m.line NE IV NW$ aK (k p s b H _ I h) λu S c=>?_;obtain⟨x,q,i,R,a,E,d,t⟩:=c;subst E;obtain rfl:u=Value.ref a:=R;obtain⟨T,v,_⟩:=rj i d;refine#[T,v,?_];rw[m.trees];refine LS Z (MX (Ir (aK (l p S b q _ i t) λN w #[y,B,C,D,F]=>
  Ir (aK (n p w b B _ C F) λO P #[z,G,J,K,U,g,L]=>IM ?_))))
 exact Ag j J g D K λW V M r=>#[_,G,M,r,L]
end
section
open PySem.W PySem.Calls Builtin Builtin.ObjectAttr
variable {prog:Program}{w:World}{A:Around}{E:Value->Shared->Prop}{s:Shared}{K:Frag}{x C:Addr}{ox:Obj}{od:Option Obj}{name:Str}
theorem pk:builtinKind "BaseException.__getattribute__"=some .slot:=by decide+kernel
theorem ZJ:splitId "BaseException.__getattribute__"=some ("BaseException","__getattribute__"):=by decide+kernel
theorem Ao{R:Result->Shared->Prop}(X:K.In s.heap)(I:InstAt s.heap x ox C od)(H:mroIn K C (.type "BaseException")=some true)
  (h:wpAny (model prog w) A.in1 (Builtin.«object.__getattribute__» #[[.ref x,.str name t],[]]) (λa S=>match a with | .done f=>R (.ok f) S | .again c=>c.quiet=true/\codeAny (model prog w) A c R S) (λe S=>R (.error e) S) s):
  codeAny (model prog w) A (.call (.builtin "BaseException.__getattribute__") #[[.ref x,.str name t],[]]) R s:=
 O7 PySem.F.excAttr_ValueError.ga.plain PySem.F.entry_bexc_ga
  (@check_slot (model prog w) _ _ s "BaseException.__getattribute__" "BaseException" "__getattribute__" (.ref x) [.str name t] [] _ pk ZJ (I.type.andThen$ MG X H) (PySem.F.args_bexc_ga (.ref x)$ .str name t) h)
theorem y6{fill:Bool}(X:K.In s.heap)(I:InstAt s.heap x ox C od)(H:findIn K (.ref C) "__getattribute__"=some (some$ .builtin "BaseException.__getattribute__"))(a:findIn K (.ref C) "__getattr__"=some none)
  (b:mroIn K C (.type "BaseException")=some true)
  (h:wpAny (model prog w) A.in1 (Builtin.«object.__getattribute__» #[[.ref x,.str name T],[]]) (λf S=>match f with | .done (.ret v)=>wpAny (model prog w) A (handedOut v) Q E S |_=>False) (λ_ _=>False) s):
  wpAny (model prog w) A (getAttrBy (.ref x) (.str name T) fill e) Q E s:=by
 obtain⟨i,g,d,t,os⟩:=s;have L:=I.type (M:=model prog w);have l:=looks_findIn (M:=model prog w) X H;have _L:=looks_findIn (M:=model prog w) X a;unfold getAttrBy;refine Ht$ GK$ L.at$ GK$ l.at ?_;show wpAny _ _ (getAttrByItsOwn _ _ _ _ _ _) _ _ _;unfold getAttrByItsOwn;refine GK (show wpAny _ _ (typeLookup (.ref C) "__getattr__") _ _ _ from _L.at ?_);refine GK$ Li$ Ht ?_;have c:callGetattribute (.ref x) (.str name T) (.builtin "BaseException.__getattribute__") e=boundAndCalled (.builtin "BaseException.__getattribute__") (.ref x) (.str name T):=by cases e<;>rfl
 rw[c];unfold boundAndCalled;rw[PySem.F.excAttr_ValueError.ga.bind];refine GK$ GL$ M3$ Ao X I b$ Ib h (λf S z=>?_) λ_ _ z=>z.elim;rcases f with (_ |_ |_ |_) |_<;>first |exact z |exact z.elim
theorem ZK{Q:Option Value->Shared->Prop}(X:K.In s.heap)(I:InstAt s.heap x ox C od)(H:findIn K (.ref C) "__getattribute__"=some (some$ .builtin "BaseException.__getattribute__"))(a:findIn K (.ref C) "__getattr__"=some none)
  (b:mroIn K C (.type "BaseException")=some true) (c:findObj K C od "__class__"=some (.bind (.builtin "getset_descriptor.__get__")$ .builtin "object.__class__")) (e:mroIn K C (.type "object")=some true) (h:Q (some$ .ref C) { s with toks:=s.toks+1 }):
  wpAny (model prog w) A (getAttr? (.ref x) "__class__") Q E s:=by
 unfold getAttr? getAttrBy?;refine GK$ wpAny_mkText$ GK$ Li$ y6 (s:={ s with toks:=s.toks+1 }) X I H a b ?_;obtain⟨f,g,d,t,os⟩:=s;have L:=I.type (M:=model prog w);have l:=looks_find (M:=model prog w) X I c;refine GK$ GL$ GK$ GL$ GK$ L.at$ GK$ l.at ?_;show wpAny _ _ (bindTo _ _ _ _) _ _ _;unfold bindTo;refine GK$ Ht$ M3$ class_get (ox:=ox) (od:=od) X I e ?_;refine GL ?_;exact handed_on Z$ GL h
theorem XL(h:(clsIn K C).isSome=true)(H:findIn K (.ref C) name=some (some a))(b:specialIn K a "__get__"=some (some g))(c:takesIn K a=some true):findObj K C od name=some (.bind g a):=by obtain⟨d,h⟩:=Option.isSome_iff_exists.mp h;unfold findObj;rw[h,Ox,H,Ox];simp [b,c]
structure io(K:Frag)(C:Addr):Prop where
 ga:findIn K (.ref C) "__getattribute__"=some (some$ .builtin "BaseException.__getattribute__")
 gh:findIn K (.ref C) "__getattr__"=some none
 sa:findIn K (.ref C) "__setattr__"=some (some$ .builtin "object.__setattr__")
 cl:findIn K (.ref C) "__class__"=some (some$ .builtin "object.__class__")
 gt:specialIn K (.builtin "object.__class__") "__get__"=some (some$ .builtin "getset_descriptor.__get__")
 tk:takesIn K (.builtin "object.__class__")=some true
 mb:mroIn K C (.type "BaseException")=some true
 mo:mroIn K C (.type "object")=some true
 hd:hasDictIn K C=true
theorem rn(c:io K C):KitX K (.ref x) (.ref C) (λh=>∃ox od,InstAt h x ox C od) where
 ty:=λ_ _ _ #[_,_,I]=>I.type
 it:=λ_ _ X _=>by
  obtain⟨a,H,_⟩:=RO c.hd;unfold clsIn at H;split at H
  ·rename_i g D b S d
   intro l Q m o k q;unfold isType loadHead;exact GK$ Mt (k _ _$ X _ _ d)$ GL q
  ·cases H
 ne:=λh t p i n r X f=>by
  obtain⟨a,H,_⟩:=RO c.hd;refine Bool.eq_false_iff.mpr λq=>?_;have e:C=t:=Value.ref.inj (beq_iff_eq.mp q);subst e;unfold clsIn at H;split at H
  ·rename_i g D b S d
   have z:=(X _ _ d).symm.trans f;cases z
  ·cases H
 ca:=λX #[_,_,I] k=>ZK X I c.ga c.gh c.mb (XL (by obtain⟨u,j,_⟩:=RO c.hd;rw[j];rfl) c.cl c.gt c.tk) c.mo k
abbrev mH:List Value:=[.type "ValueError",.type "Exception",.type "BaseException",.type "object"]
end
section
open PySem.W PySem.Calls
variable {prog:Program}{w:World}{A:Around}{E:Value->Shared->Prop}{R:Result->Shared->Prop}{K:Frag}{h:Heap}{g:Array GenState}{d:Drawn}{t:Nat}{os:OsState}{C B:Addr}
theorem ZL(q:excIn K C mH "ValueError.__new__"=true):(∃p q N r f a s sub u c D k i j m o,K.lookup C=some (excClassObj p q C N r f a s sub u c D k i j m o "ValueError.__new__")/\tailIn K mH f=true/\nsOkIn K N=true/\nsIn K N "__init__"=some none):=by
 unfold excIn at q;split at q
 ·rename_i D z S F
  split at q
  ·rename_i O f k i j m n o x y
   simp only[Iv,beq_iff_eq,OT]at q;obtain⟨⟨⟨⟨⟨rfl,rfl⟩,H⟩,G⟩,b⟩,e⟩:=q;obtain⟨p,r,M,I,Q,J,s,sub,u,c,L⟩:=z;dsimp only at x H b e;subst x H;have v:S=(List.toArray [k,i,j,m,some$ .builtin "ValueError.__new__",o]):=by obtain⟨l⟩:=S;simp only at y;rw[y]
   subst v;exact#[p,Q,I,r,f,J,s,sub,u,c,D,k,i,j,m,o,F,G,b,e]
  ·cases q
 ·cases q
end
theorem aN.obj{P:Program}{a:Addr}(x:aN P w H h a o):∃u,h.get? a=some u:=by
 cases o with
 |lst X=>obtain⟨_,_,_,_,e⟩:=x;exact#[_,e]
 |tup X=>obtain⟨_,_,_,o,e,_⟩:=x;exact#[_,e]
 |dK k=>obtain⟨_,_,_,_,o,_,_,e,_⟩:=x;exact#[_,e]
 |dT k=>obtain⟨_,_,_,_,o,_,_,e,_⟩:=x;exact#[_,e]
 |set S n=>obtain⟨o,_,_,_,e,_⟩:=x;exact#[_,e]
 |ins C d F=>obtain⟨_,_,_,e,_⟩:=x;exact#[_,e]
 |own y=>obtain⟨_,e⟩:=x;exact#[_,e]
 |xd F=>obtain⟨_,⟨_,_,_,e,_⟩,_⟩:=x;exact#[_,e]
 |rng lo b=>obtain⟨_,_,_,e⟩:=x;exact#[_,e]
 |frz O u=>obtain⟨e,_⟩:=x;exact#[_,e]
 |tbl p=>exact#[_,(show h.get? a=some _ from x)]
 |met f y=>exact#[_,(show h.get? a=some _ from x)]
 |ext c=>obtain⟨_,⟨_,e⟩,_⟩:=x;exact#[_,e]
theorem ap.laidN{X:Cx}{h':Heap}{a:Addr}{o:HO}{t':Nat}(I:ap X p g H s)(k:∀b u,s.heap.get? b=some u->h'.get? b=some u)(d:s.heap.get? a=none)(N:aN X.prog X.w (af H a o) h' a o):
  H a=none/\ap X p g (af H a o) { s with heap:=h',toks:=t' }:=by
 have i:∀b u,s.heap.get? b=some u->b≠a:=λb u q z=>by rw[z,d]at q;cases q
 have h:H a=none:=by
  cases q:H a with
  |none=>rfl
  |some u=>obtain⟨U,e⟩:=(I.hok a u q).obj;rw[d]at e;cases e
 refine#[h,I.un ?_ ?_]
 ·exact { keep:=λb u q _ _ _=>k b u q,slot:=λb u q _ _ _=>#[u.slots,k b u q],free:=λb u q n _=>by rw[ji$ i b u q];exact n,there:=λb u q _=>#[u,k b u q],tups:=λb x q=>by rw[ji$ jm q h];exact q,frzs:=λb u x q=>by rw[ji$ jm q h];exact q,tbls:=λb P q=>#[(List.toArray []),by rw[ji$ jm q h,q];simp] }
 ·intro b u e;by_cases f:b=a
  ·subst f;rw[jc]at e;cases e;exact N
  ·rw[ji f]at e;exact(I.hok b u e).stay (λc v _ q=>k c v q) (λc q=>by rw[ji$ jm q h];exact q) λc x q=>by rw[ji$ jm q h];exact q
noncomputable def xW(C:Addr)(d:Option Addr)(x:Addr):HO:=.ext λh=>∃o,h.get? x=some o/\o.cls= .ref C/\notCls o=true/\o.dict=d/\∃v,o.data= .fields v/\v[1]?=some .none
theorem Al{P:Program}{h:Heap}(e:h.get? x=some o)(a:o.cls= .ref C)(b:notCls o=true)(c:o.dict=d)(f:∃v,o.data= .fields v/\v[1]?=some .none):aN P w H h x (xW C d x):=
 #[#[o,e,a,b,c,f],#[o,e],λg i #[O,E,q] k=>#[O,k O E,q]]
def xI(C:Addr):TE:=λa H Q=>∀x,H x=none->Q (.ref x) (af H x$ xW C none x)
section
variable {X:Cx}{CX:ny}{k:Nat}{f C:Addr}{fd:FuncData}{ps:List Str}{sp:Sp}{E:XK}{x m g:Str}{p pos pos':Pos}{e o value:Expr}{es:List Expr}{ta tv:TE}{t:TA}
theorem zQ(M:excIn X.K C mH "ValueError.__new__"=true)(l:keepIn X.K (.ref C)=true)(n:Gl X x)(r:X.mg x=some (.ref C))(c:(x==("__debug__":Str))=false:=by decide):
  PE X (.Call (.Name x p) [] [] pos) (xI C):=by
 intro P s D H Q I h;refine Ii$ zb I n r ?_ c;refine Oa I.kIn l ?_;obtain⟨G,q,N,J,L,j,S,sub,O,u,R,U,V,Y,k3,k5,v,w,b,i⟩:=ZL M;have y:=I.kIn _ _ v;obtain⟨hp,g,d,T,os⟩:=s;refine wpAny_call_exc_subT PySem.F.excBase_ValueError (PySem.W.tail_of_in I.kIn w) y (.of_isNs$ PySem.W.isNs_of_in I.kIn b) (PySem.W.nsMap_none_of_in I.kIn b i) (λh' e m=>?_)$ Hg _;obtain⟨t,z,_,_⟩:=m.there;obtain⟨A,B⟩:=I.laidN (a:=e) (h':=h') (o:=xW C none e) (t':=T) m.keeps m.new (Al z Z Z Z #[_,Z,Z]);exact#[.ref e,_,B,Z,h e A]
end
theorem ap.turnedN{X:Cx}{p:List (Addr×Obj)}{d:St}{H:Hp}{s:Shared}{g:Heap}{t':Nat}{f:List Addr}(I:ap X p d H s)(a:∀b∈f,eS X p H b)(k:∀b o,b∉f->s.heap.get? b=some o->g.get? b=some o):
  ap X p d H { s with heap:=g,toks:=t' }:=by
 have N:∀b u,H b=some u->b∉f:=λb u e z=>by rw[(a b z).1]at e;cases e
 refine I.step (g':=s.gens) (d':=s.drawn) (ch:=f) (λb i=>?_) (λb o _ _ h e _=>k b o h e) (λb o _ _ h e _=>#[o.slots,k b o h e]) (λ_ _ _ _ n=>n)
  (λb o h e=>#[o,k b o h e]) (λ_ _ e=>e) (λ_ _ _ e=>e) (λb P e=>#[(List.toArray []),by rw[e];simp]) (λm j=>?_) (λb u e=>?_) I.bare
 ·obtain⟨A,F,B,l,t,w⟩:=a b i;exact#[l,F,t,w]
 ·obtain⟨o,E,x,y,r⟩:=j;exact#[o,E,x,k _ o (λz=>(a _ z).2.1 Z) y,r]
 ·refine(I.hok b u e).stay (λc v h q=>k c v ?_ q) (λ_ q=>q) λ_ _ q=>q;rcases h with z |z
  ·rw[z];exact N b u e
  ·exact N c _ z
section
variable {M:Model}{A:Around}{E:Value->Shared->Prop}{s:Shared}
structure cX(fl:Value)(ip:List Addr)(x:Addr)(ox:Obj)(h h':Heap):Prop where
 ex:∃T oT ts,h.objs.size<=T/\h'.get? x=some (Obj.mapFields (·.setIfInBounds 1 (.ref T)) ox)/\h'.get? T=some oT/\oT.data= .fields ts/\ts[3]?=some fl
 keep:∀b o,b∉ip->b≠x->h.get? b=some o->h'.get? b=some o
 slot:∀b o,b≠x->h.get? b=some o->∃sl,h'.get? b=some { o with slots:=sl }
theorem Qz{Q:Unit->Shared->Prop}
  (t:A.frames=some (d::O)) (F:s.heap.FunFrames G (d::O)) (N:d.frame=some L)
  (I:s.heap.get? x=some u) (v:u.data= .fields J) (w:1 < J.size)
  (h:∀K,cX (rawInt L) ((d::O).filterMap (·.frame)) x u s.heap K->Q () { s with heap:=K }):
  wpAny M A (do let a <- frameOf d;let p <- entryPlaceOf L q;let b <- EntryCells.newEntry f a .none (rawInt L) .none p;setField (.ref x) 1 b) Q E s:=by
 have y:x∉(d::O).filterMap (·.frame):=λP=>by obtain⟨_,o,r,z⟩:=F.mem P;rw[I]at r;injection r with r;subst r;exact z J v
 refine GK$ wpAny_frameOf_fun t F N λH c=>?_;refine GK$ wpAny_entryPlaceOf λp B=>?_;unfold EntryCells.newEntry newFields;refine GK$ HN ?_$ B.sizeOk5 _ _ _ _ _;have g:H.get? x=some u:=(c.2.1 x y).trans I;have i:=GP (h:=H) { cls:=.type "traceback",dict:=none,data:=.fields ([f,.ref L,.none,rawInt L,.none]++(if p.isEmpty then List.replicate 6 Value.none else p)).toArray } g;refine HV i v w$ h _ ?_;have C:H.objs.size≠x:=Ic (GY g);have j:=HJ v (·.setIfInBounds 1 (Value.ref H.objs.size));have l:=HK (Obj.mapFields (·.setIfInBounds 1 (Value.ref H.objs.size))) i (Ip j);have k:∀b o,b≠x->H.get? b=some o->((H.push { cls:=.type "traceback",dict:=none,data:=.fields ([f,.ref L,.none,rawInt L,.none]++(if p.isEmpty then List.replicate 6 Value.none else p)).toArray }).update x$ Obj.mapFields (·.setIfInBounds 1 (Value.ref H.objs.size))).get? b=some o:=λb o D e=>by rw[Hk _ _$ HI D];exact GP _ e
 have m:=(Hk (H.push { cls:=.type "traceback",dict:=none,data:=.fields ([f,.ref L,.none,rawInt L,.none]++(if p.isEmpty then List.replicate 6 Value.none else p)).toArray })
  (Obj.mapFields (·.setIfInBounds 1 (Value.ref H.objs.size))) (HI C)).trans (GZ H Z)
 refine#[#[H.objs.size,_,_,Ni c.1.symm,l,m,Z,RV],λb o D n e=>k b o n ((c.2.1 b D).trans e),λb o n e=>?_];obtain⟨S,R⟩:=c.2.2 b o e;exact#[S,k b _ n R]
theorem Yh{Q:Unit->Shared->Prop}
  (H:A.frames=some (e::o)) (i:s.heap.FunFrames b (e::o)) (a:e.frame=some L)
  (c:s.heap.get? x=some O) (d:O.data= .fields v) (f:v[1]?=some .none)
  (h:∀g,cX (rawInt L) ((e::o).filterMap (·.frame)) x O s.heap g->Q () { s with heap:=g }):
  wpAny M A (noteFrame (.ref x) e) Q E s:=by
 unfold noteFrame;simp only[a];refine GK$ HC c d f ?_;rw[Ho RT];exact Qz H i a c d (Array.getElem?_eq_some_iff.mp f).1 h
theorem vH{ip:List Addr}{Q:Unit->Shared->Prop}(N:cX C ip x O H s.heap)(j:H.get? x=some O)(v:O.data= .fields w)(k:1 < w.size)
  (h:∀p,cX .none ip x O H p->Q () { s with heap:=p }):wpAny M A (setFlight (.ref x) none) Q E s:=by
 obtain⟨T,oT,D,c,r,t,g,y⟩:=N.ex;have l:=HJ v (·.setIfInBounds 1 (Value.ref T));have m:T≠x:=λz=>absurd (He (GY j) (by rw[<- z];exact c)) (Io _);unfold setFlight;refine GK$ HC r l (x:=.ref T) (by simp [k]) ?_;rw[Hm (show(Value.ref T != Value.none)=true from by simp)];have i:=(Array.getElem?_eq_some_iff.mp y).1;refine HV t g i$ h _ ?_;have a:=HJ g (·.setIfInBounds 3 ((none:Option Addr).elim Value.none λf=>rawInt f));have n:=HK (Obj.mapFields (·.setIfInBounds 3 ((none:Option Addr).elim Value.none λf=>rawInt f))) t (Ip a);have u:∀b o,H.get? b=some o->T≠b:=λb o e z=>absurd (He (GY e) (by rw[<- z];exact c)) (Io _);refine#[#[T,_,_,c,by rw[Hk _ _ m];exact r,n,a,by simp [i]],λb o B d e=>?_,λb o d e=>?_]
 ·rw[Hk _ _$ u b o e];exact N.keep b o B d e
 ·obtain⟨S,q⟩:=N.slot b o d e;exact#[S,by rw[Hk _ _$ u b o e];exact q]
theorem XN{base:Heap}{Q:Unit->Shared->Prop}
  (a:A.frames=some (e::o)) (f:s.heap.FunFrames base (e::o)) (g:e.frame=some L)
  (b:s.heap.get? x=some O) (c:O.data= .fields v) (d:v[1]?=some .none)
  (h:∀H,cX .none ((e::o).filterMap (·.frame)) x O s.heap H->Q () { s with heap:=H }):
  wpAny M A (leaving e$ .ref x) Q E s:=by
 unfold leaving;exact GK$ Yh a f g b c d λH N=>vH (s:={ s with heap:=H }) N b c (Array.getElem?_eq_some_iff.mp d).1 h
end
section
variable {M:Model}{A:Around}{E:Value->Shared->Prop}{s:Shared}
noncomputable abbrev dA(T:Addr)(h:Heap):Heap:=h.update T (Obj.mapFields (·.setIfInBounds 3 Value.none))
theorem Jx{base:Heap}{oT:Obj}{Q:Unit->Shared->Prop}
  (f:A.frames=some (e::O)) (w:s.heap.FunFrames base (e::O)) (j:e.frame=some L)
  (k:s.heap.get? x=some l) (m:l.data= .fields v) (p:v[1]?=some (.ref T)) (g:T≠x) (i:s.heap.get? T=some oT) (c:oT.data= .fields t) (r:t[3]?=some .none)
  (h:∀u,cX (rawInt L) ((e::O).filterMap (·.frame)) x l (dA T s.heap) u->Q () { s with heap:=u }):
  wpAny M A (noteFrame (.ref x) e) Q E s:=by
 unfold noteFrame;simp only[j];refine GK$ HC k m p ?_;rw[Hm (show(Value.ref T != Value.none)=true from by simp)];refine GK$ HC i c r ?_;rw[Ho (show ¬((Value.none==rawInt L)=true) from by simp [rawInt])];refine GK$ HV i c (Array.getElem?_eq_some_iff.mp r).1 ?_;have a:∀b,b≠T->(dA T s.heap).get? b=s.heap.get? b:=λb H=>Hk _ _ (HI H);have n:∀b o,s.heap.get? b=some o->(∀v,o.data≠ .fields v)->b≠T:=λb o H d q=>by rw[q,i]at H;injection H with H;subst H;exact d t c
 exact Qz (s:={ s with heap:=dA T s.heap }) f (w.of_keeps λb o H d=>#[o,(a b$ n b o H d).trans H,Z]) j ((a x$ HI g).trans k) m (Array.getElem?_eq_some_iff.mp p).1 h
theorem Yi{base:Heap}{oT:Obj}{Q:Unit->Shared->Prop}
  (b:A.frames=some (e::o)) (i:s.heap.FunFrames base (e::o)) (j:e.frame=some L)
  (d:s.heap.get? x=some O) (f:O.data= .fields v) (g:v[1]?=some (.ref T)) (H:T≠x) (k:s.heap.get? T=some oT) (c:oT.data= .fields t) (l:t[3]?=some .none)
  (h:∀a,cX .none ((e::o).filterMap (·.frame)) x O (dA T s.heap) a->Q () { s with heap:=a }):
  wpAny M A (leaving e$ .ref x) Q E s:=by
 unfold leaving;exact GK$ Jx b i j d f g H k c l λa N=>vH (s:={ s with heap:=a }) N ((Hk _ _ H).trans d) f (Array.getElem?_eq_some_iff.mp g).1 h
end
noncomputable def dW(C:Addr)(d:Option Addr)(T x:Addr):HO:=.ext λh=>∃o v,h.get? x=some o/\o.cls= .ref C/\notCls o=true/\o.dict=d/\o.data= .fields v/\v[1]?=some (.ref T)
noncomputable def dJ(T:Addr):HO:=.ext λh=>∃o t,h.get? T=some o/\o.data= .fields t/\t[3]?=some .none
theorem Cj{P:Program}{h:Heap}(e:h.get? x=some o)(c:o.cls= .ref C)(f:notCls o=true)(g:o.dict=d)(i:o.data= .fields a)(b:a[1]?=some (.ref T)):aN P w H h x (dW C d T x):=
 #[#[o,a,e,c,f,g,i,b],#[o,e],λb j #[O,v,E,q] k=>#[O,v,k O E,q]]
theorem uy{P:Program}{h:Heap}(e:h.get? T=some o)(b:o.data= .fields a)(c:a[3]?=some .none):aN P w H h T (dJ T):=
 #[#[o,a,e,b,c],#[o,e],λd f #[O,t,E,q] k=>#[O,t,k O E,q]]
def dD(P:Program)(w:World):ny:=λo H s E e S=>∃x C d T h,e= .ref x/\S.os=s.os/\AllBare S.gens/\Un (ip o) [] H h s.heap S.heap/\eE P w h S.heap/\
 h x=some (dW C d T x)/\h T=some (dJ T)/\T≠x/\E (.ref C) d h
section
variable {X:Cx}{pins:List (Addr×Obj)}{σ:St}{H:Hp}{s:Shared}{x C:Addr}{d:Option Addr}
theorem cX.hok{fl:Value}(I:ap X pins σ H s)(g:H x=some (.ext M))(P:s.heap.get? x=some o)(B:o.cls= .ref C)(D:o.dict=d)(j:o.data= .fields E)(k:1 < E.size)(l:∀b∈G,H b=none)
  (N:cX .none G x o s.heap J):∃T,H T=none/\T≠x/\s.heap.objs.size<=T/\eE X.prog X.w (af (af H T$ dJ T) x$ dW C d T x) J:=by
 obtain⟨T,oT,Q,h,m,F,n,p⟩:=N.ex;have i:H T=none:=I.hok.fresh h;have r:T≠x:=HI (jm g i);have a:=HJ j (·.setIfInBounds 1 (Value.ref T));refine#[T,i,r,h,λb u e=>?_];by_cases t:b=x
 ·subst t;rw[jc]at e;cases e;refine Cj m ((LX _ _).trans B) ?_ ?_ a (by simp [k])
  ·unfold notCls;rw[a]
  ·obtain⟨R,S,O,K⟩:=o;simp only at j;subst j;exact D
 ·rw[ji t]at e;by_cases f:b=T
  ·subst f;rw[jc]at e;cases e;exact uy F n p
  ·rw[ji f]at e;refine(I.hok b u e).stay (λc v A q=>?_) (λc q=>?_) λc U q=>?_
   ·have y:c≠x:=by
     rcases A with z |z
     ·rw[z];exact t
     ·exact jN z g (by intro q;cases q)
    refine N.keep c v (λL=>?_) y q;have:=l c L;rcases A with z |z
    ·rw[z,e]at this;cases this
    ·rw[z]at this;cases this
   ·rw[ji$ jN q g (by intro z;cases z),ji$ jm q i];exact q
   ·rw[ji$ jN q g (by intro z;cases z),ji$ jm q i];exact q
theorem cX.un{h':Heap}(I:ap X pins σ H s)(hex:X.ex=[])(j:H x=some (.ext k))(l:H T=none)(c:s.heap.objs.size<=T)(f:∀b∈p,b∈X.fs∨X.s₀.heap.objs.size<=b)
  (N:cX .none p x y s.heap h'):Un X.fs [] X.H₀ (af (af H T$ dJ T) x$ dW C d T x) X.s₀.heap h':=by
 have g:∀b,H b=none->b≠x:=λb e z=>by rw[z,j]at e;cases e
 have r:∀b o,X.s₀.heap.get? b=some o->b≠T:=λb o e=>Hd (He (GY e)$ Hh I.sz c);have a:∀b:Addr,b∉X.ex:=λb z=>by rw[hex]at z;cases z
 have t:∀b,H b=none->b≠T->af (af H T$ dJ T) x (dW C d T x) b=none:=λb e z=>by rw[ji$ g b e,ji z];exact e
 have U:∀b u,H b=some u->(∀k,u≠ .ext k)->af (af H T$ dJ T) x (dW C d T x) b=some u:=λb u e z=>by rw[ji (λq=>by rw[q,j]at e;cases e;exact z _ Z),ji$ jm e l];exact e
 refine#[λb o e n h _=>?_,λb o e n h _=>?_,λb o e n _=>?_,λb o e _=>?_,λb v e=>U b _ (I.base.tups b v e) (by intro _ q;cases q),λb o u e=>U b _ (I.base.frzs b o u e) (by intro _ q;cases q),λb P e=>?_]
 ·refine N.keep b o (λz=>?_) (g b$ I.base.free b o e n$ a b)$ I.base.keep b o e n h$ a b;rcases f b z with q |q
  ·exact h q
  ·exact absurd (He (GY e) q)$ Io _
 ·obtain⟨w,q⟩:=I.base.slot b o e n h (a b);obtain⟨S,Q⟩:=N.slot b _ (g b$ I.base.free b o e n$ a b) q;exact#[S,Q]
 ·exact t b (I.base.free b o e n$ a b)$ r b o e
 ·obtain⟨O,q⟩:=I.base.there b o e (a b);by_cases h:b=x
  ·obtain⟨A,_,_,_,i,_⟩:=N.ex;exact#[_,by rw[h];exact i]
  ·obtain⟨w,Q⟩:=N.slot b O h q;exact#[_,Q]
 ·obtain⟨m,q⟩:=I.base.tbls b P e;exact#[m,U b _ q (by intro _ q;cases q)]
end
section
variable {P:Program}{w:World}{K:Frag}{mg:Str->Option Value}{base:Heap}{N:List Str}{qual:Str}{scope:Scope}{f:Addr}{cd:Value}{A:Around}{outer:List Env}{s₀:Shared}{H₀:Hp}{E:XK}
variable {pins:List (Addr×Obj)}{σ:St}{H:Hp}{s:Shared}{x C:Addr}{d:Option Addr}
theorem uP(I:ap (eU (dD P w) P w K mg base N qual scope f cd A outer s₀ H₀ E) pins σ H s)(c:H x=some (xW C d x))
  (h:∀T,H T=none->E (.ref C) d (af (af H T$ dJ T) x$ dW C d T x)):(eU (dD P w) P w K mg base N qual scope f cd A outer s₀ H₀ E).xe (.ref x) s:=by
 obtain⟨⟨O,l,q,t,r,v,m,n⟩,_⟩:=I.hok x _ c;have g:=(Array.getElem?_eq_some_iff.mp n).1;refine XN (base:=base) I.ok.frames I.stack Z l m n λy o=>?_;obtain⟨T,p,a,i,j⟩:=o.hok (C:=C) (d:=d) (fl:=.none) I c l q r m g λb k=>I.stkFree b k;have u:=o.un (C:=C) (d:=d) I Z c p i λb k=>by
  rcases List.mem_cons.mp (I.stkSub b k) with e |e
  ·exact .inr (by rw[e];exact I.ok.above)
  ·exact .inl e
 exact#[x,C,d,T,_,Z,I.os,I.bare,u,j,jc,by rw[ji a,jc],a,h T p]
theorem ap.cleared{X:Cx}{oT:Obj}(I:ap X pins σ H s)(c:H T=some (dJ T))(i:s.heap.get? T=some oT)(j:oT.data= .fields t)(k:t[3]?=some .none):ap X pins σ H { s with heap:=dA T s.heap }:=by
 have h:=HJ j (·.setIfInBounds 3 Value.none);have g:=HK (Obj.mapFields (·.setIfInBounds 3 Value.none)) i (Ip h);have:=I.write (x:=T) (e:=T) (o:=dJ T) (h':=dA T s.heap) (t':=s.toks) (by rw[c];exact True.intro) (.inl Z) (λb u a q=>(Hk _ _$ HI a).trans q) #[_,g] (uy g h (by simp [(Array.getElem?_eq_some_iff.mp k).1]));have l:af H T (dJ T)=H:=by
  funext b;by_cases a:b=T
  ·rw[a,jc,c]
  ·rw[ji a]
 rw[l]at this;exact this
theorem xP(I:ap (eU (dD P w) P w K mg base N qual scope f cd A outer s₀ H₀ E) pins σ H s)(g:H x=some (dW C d T x))(n:H T=some (dJ T))(c:T≠x)
  (h:∀t,H t=none->E (.ref C) d (af (af H t$ dJ t) x$ dW C d t x)):(eU (dD P w) P w K mg base N qual scope f cd A outer s₀ H₀ E).xe (.ref x) s:=by
 obtain⟨⟨O,V,o,D,G,F,p,q⟩,_⟩:=I.hok x _ g;obtain⟨⟨oT,J,r,u,v⟩,_⟩:=I.hok T _ n;have i:=(Array.getElem?_eq_some_iff.mp q).1;have y:=I.cleared n r u v;refine Yi (base:=base) I.ok.frames I.stack Z o p q c r u v λL z=>?_;have j:(dA T s.heap).get? x=some O:=(Hk _ _ c).trans o;obtain⟨t,B,a,k,l⟩:=cX.hok (C:=C) (d:=d) (fl:=.none) y g j D F p i (λb m=>I.stkFree b m) z;have U:=cX.un (C:=C) (d:=d) y Z g B k (λb m=>by
  rcases List.mem_cons.mp (I.stkSub b m) with e |e
  ·exact .inr (by rw[e];exact I.ok.above)
  ·exact .inl e) z
 exact#[x,C,d,t,_,Z,I.os,I.bare,U,l,jc,by rw[ji a,jc],a,h t B]
theorem wD{j:XK}(m:∀x C d T t a,a x=some (dW C d T x)->a T=some (dJ T)->a t=none->j (.ref C) d a->E (.ref C) d (af (af a t$ dJ t) x$ dW C d t x)):
  di (dD P w) (eU (dD P w) P w K mg base N qual scope f cd A outer s₀ H₀ E) j:=by
 intro pins σ H s e S I h;obtain⟨x,C,d,T,a,rfl,os,B,u,c,k,l,i,n⟩:=h;obtain⟨p,g,D,q,o⟩:=S;obtain rfl:o=s.os:=os;have r:=I.call (h':=p) (g':=g) (d':=D) (t':=q) (ch:=[]) u c B (λb z=>absurd z RV);exact xP r k l i λt v=>m x C d T t a k l v n
end
section
open PySem.W
variable {prog:Program}{w:World}{A:Around}{E:Value->Shared->Prop}{K:Frag}{x C:Addr}{ox:Obj}{vs:Array Value}{env:Env}
theorem Yj{ev:Sem Value}(e:A.handled=none)
  (h:wpAny (model prog w) A ev (λv S=>∃x C ox vs,v= .ref x/\K.In S.heap/\io K C/\typeIn K (.ref C)=some (.type "type")/\S.heap.get? x=some ox/\ox.cls= .ref C/\ox.data= .fields vs/\vs[1]?=some .none/\E (.ref x) S) E s):
  wpAny (model prog w) A (raiseStmt env (some ev) none) Q E s:=by
 unfold raiseStmt;refine GK$ Ib h (λv S a=>?_) λ_ _ z=>z;obtain⟨x,C,ox,vs,rfl,X,f,i,b,j,c,m,n⟩:=a;obtain⟨H,g,d,T,os⟩:=S;have L:Looks (model prog w) H (typeOf$ .ref x) (.ref C):=j▸(O9 b).andThen .now;have l:Looks (model prog w) H (isType$ .ref x) false:=by intro y B D F k q;unfold isType loadHead;refine GK$ Mt (k _ _ b) ?_;rw[c];exact GL q
 have _L:=MG (M:=model prog w) X f.mb;have o:=OK (M:=model prog w) X i;have p:Looks (model prog w) H (isInstance (.ref x)$ .type "BaseException") true:=L.andThen _L;have r:Looks (model prog w) H (isExcClass$ .ref x) false:=by unfold isExcClass;exact l.andThen .now
 have t:Looks (model prog w) H (raisedInstance$ .ref x) (.ref x):=by unfold raisedInstance;exact L.andThen$ o.andThen (by rw[Hm RT];exact .now)
 have u:Looks (model prog w) H (excFromValue (.ref x) "exceptions must derive from BaseException") (.ref x):=by unfold excFromValue;exact r.andThen (by rw[Ho RT];exact p.andThen (by rw[Hm Z];exact .now))
 refine GK$ GL ?_;refine GK$ Ht$ u.at ?_;dsimp only;refine GK$ l.at ?_;rw[Ho RT];refine GK$ t.at ?_;unfold setFlight;refine GK$ GK$ HC b c m ?_;rw[Ho RT];exact GL$ wpAny_raiseNew_none e n
end
def xX(X:Cx)(W:Addr->Addr->Option Addr->Hp->Prop):Prop:=∀(p:List (Addr×Obj)) (a:St) (H:Hp) (s:Shared) (x C:Addr) (d:Option Addr),ap X p a H s->H x=some (xW C d x)->W x C d H->X.xe (.ref x) s
theorem zR{P:Program}{K:Frag}:
  xX (eU (dD P w) P w K m b N q s f g A o a c E) (λx C d H=>∀T,H T=none->E (.ref C) d (af (af H T$ dJ T) x$ dW C d T x)):=
 λ_ _ _ _ _ _ _ I e h=>uP I e h
inductive nQ(K:Frag)(b:Addr->Addr->Option Addr->Hp->Prop)(v:V)(a:Hp):Prop
 |mk(x C d:_)(_:v= .ref x)(_:a x=some (xW C d x))(_:io K C)(_:typeIn K (.ref C)=some (.type "type"))(_:b x C d a)
def BF(K:Frag)(t:TE)(W:Addr->Addr->Option Addr->Hp->Prop):TS:=λ_u0 a H=>t a H (nQ K W)
theorem ql{X:Cx}{e:Expr}{t:TE}{P:Pos}{W:Addr->Addr->Option Addr->Hp->Prop}(f:X.calm=true)(F:xX X W)(g:PE X e t):PS X (.Raise (some e) none P) (BF X.K t W):=by intro p s b H D I h;rw[arm_exec_Raise];refine GK$ Ls ?_;refine Yj (K:=X.K) (ev:=do let v <- eval e X.env;standAt P;pure v) (I.ok.hd f)$ GK$ aK (g p s b H _ I h) λu S a=>GK (Ls$ GL ?_);obtain⟨v,j,i,r,x,C,d,ev,c,k,l,q⟩:=a;subst ev;obtain rfl:u=Value.ref x:=r;obtain⟨⟨o,m,n,z,A,V,w,y⟩,_⟩:=i.hok x _ c;exact#[x,C,o,V,Z,i.kIn,k,l,m,n,w,y,F p b j S x C d i c q]
section
variable {X:Cx}{pins:List (Addr×Obj)}{σ:St}{H:Hp}{s:Shared}{x C:Addr}{d:Option Addr}
theorem ap.noted{t':Nat}(I:ap X pins σ H s)(a:H x=some (.ext l))(p:s.heap.get? x=some O)(r:O.cls= .ref C)(t:O.dict=d)(v:O.data= .fields w)(c:1 < w.size)
  (N:cX .none (ip X.stack) x O s.heap y):∃T,H T=none/\T≠x/\ap X pins σ (af (af H T$ dJ T) x$ dW C d T x) { s with heap:=y,toks:=t' }:=by
 obtain⟨T,m,f,g,i⟩:=cX.hok (C:=C) (d:=d) (fl:=.none) I a p r t v c (λb h=>I.stkFree b h) N;have j:∀b,H b=none->b≠x:=λb e z=>by rw[z,a]at e;cases e
 have U:∀b u,H b=some u->(∀l,u≠ .ext l)->af (af H T$ dJ T) x (dW C d T x) b=some u:=λb u e z=>by rw[ji (λq=>by rw[q,a]at e;cases e;exact z _ Z),ji$ jm e m];exact e
 refine#[T,m,f,I.call (g':=s.gens) (d':=s.drawn) (ch:=[]) ?_ i I.bare (λb z=>absurd z RV)];refine#[λb o e n h _=>N.keep b o h (j b n) e,λb o e n _ _=>N.slot b o (j b n) e,λb o e n _=>?_,λb o e _=>?_,λb A e=>U b _ e (by intro _ q;cases q),λb o u e=>U b _ e (by intro _ q;cases q),λb P e=>#[(List.toArray []),by rw[U b _ e (by intro _ q;cases q)];simp]]
 ·rw[ji$ j b n,ji$ Hd$ He (GY e) g];exact n
 ·by_cases h:b=x
  ·obtain⟨B,_,_,_,k,_⟩:=N.ex;exact#[_,by rw[h];exact k]
  ·obtain⟨S,q⟩:=N.slot b o h e;exact#[_,q]
theorem ZM{v:V}{Q:Unit->Shared->Prop}(I:ap X pins σ H s)(R:X.N.Nodup)(B:X.N[i]?=some n)(D:X.env.scope.names.lookup n=some .local)(T:σ[i]?=some (some v))
  (h:∀S,ap X pins (σ.set i none) H S->Q () S):wpAny M A (unbindBehindTheSuite X.env n U) Q E s:=by
 obtain⟨m,K,L⟩:=id I.loc;have g:(X.env.scope.kind== .class||(X.env.scope.kind== .module&&X.env.locals != X.env.globals))=false:=by rw[I.ok.kind];rfl
 obtain⟨u,ru,lk⟩:=L i n v B T (.inl D);have W:m n=some u:=by
  rcases lk with ⟨_,e⟩ | ⟨k,_⟩
  ·exact e
  ·have O:X.env.scope.names.lookup n=some .cell∨X.env.scope.names.lookup n=some .free:=k;rw[D]at O;rcases O with z |z<;>cases z
 have l:=I.cne;obtain⟨oL,_,_,Y,_⟩:=id K;unfold unbindBehindTheSuite;refine Nk$ wpAny_unbindName_local D K W g λh' w' F a=>h _ ?_;refine#[I.ok,I.os,I.bare,#[λb o e n G r=>?_,λb o e n G r=>?_,I.base.free,λb o e r=>?_,I.base.tups,I.base.frzs,I.base.tbls],#[_,F,λj y v' f w e3=>?_],λy c e=>?_,I.free,I.freeC,λp hp=>?_,λb ob e=>?_,by simpa using I.len]
 ·exact(a.2 b$ Hd$ He (GY e) I.ok.above).trans (I.base.keep b o e n G r)
 ·obtain⟨sl,f⟩:=I.base.slot b o e n G r;exact#[sl,(a.2 b$ Hd$ He (GY e) I.ok.above).trans f]
 ·obtain⟨o',f⟩:=I.base.there b o e r;exact#[o',(a.2 b$ Hd$ He (GY e) I.ok.above).trans f]
 ·have t:i < σ.length:=by rw[I.len];exact(List.getElem?_eq_some_iff.mp B).1
  by_cases J:j=i
  ·subst J;rw[IS t]at w;cases w
  ·rw[IK$ HI J]at w;obtain⟨u',r',q⟩:=L j y v' f w e3;refine#[u',r',?_];rcases q with ⟨k,e⟩ | ⟨k,c,e,z⟩
   ·refine .inl #[k,?_];have:y≠n:=λe=>J (Kn R f$ e▸B);simp [this,e]
   ·exact .inr #[k,c,e,z.sameBut a$ l y c e]
 ·obtain⟨w2,z⟩:=I.cell y c e;exact#[w2,z.sameBut a$ l y c e]
 ·obtain⟨e,n,P,nf,d⟩:=I.pin p hp;exact#[(a.2 p.1 P).trans e,n,P,nf,d]
 ·refine(I.hok b ob e).stay (λc w' hc q=>(a.2 c ?_).trans q) (λ_ q=>q) λ_ _ q=>q;rintro rfl;rcases hc with z |z
  ·rw[<- z,I.free]at e;cases e
  ·rw[I.free]at z;cases z
end
noncomputable abbrev Cx.mark(X:Cx)(e:Value)(xe:Value->Shared->Prop):Cx:={ X with A:=X.A.mark (some e),calm:=false,xe:=xe }
theorem ap.mark{X:Cx}(I:ap X p a H s)(e:Value)(x:Value->Shared->Prop):ap (X.mark e x) p a H s:=
 #[#[I.ok.mod,I.ok.kind,I.ok.glob,I.ok.blt,I.ok.above,I.ok.inj,I.ok.has,I.ok.cab,(λz=>nomatch (show false=true from z)),I.ok.frames,I.ok.stk,I.ok.exf,I.ok.bs,I.ok.bsz,I.ok.noex,I.ok.exfs,I.ok.funs,I.ok.frf],I.os,I.bare,I.base,I.loc,I.cell,I.free,I.freeC,I.pin,I.hok,I.len]
theorem ap.unmark{X:Cx}(o:X.Ok)(I:ap (X.mark e x) p a H s):ap X p a H s:=
 #[o,I.os,I.bare,I.base,I.loc,I.cell,I.free,I.freeC,I.pin,I.hok,I.len]
section
open PySem.W
theorem zL{K:Frag}(X:K.In h)(a:h.get? x=some o)(b:o.cls= .ref C)(H:clsIn K B≠none)(tB:typeIn K (.ref B)=some (.type "type"))(m:mroIn K B (.type "BaseException")=some true)(c:mroIn K C (.ref B)=some true):
  Looks M h (excMatches (.ref x)$ .ref B) true:=by
 have L:Looks M h (typeOf$ .ref x) (.ref C):=b▸(O9 a).andThen .now;have l:=OK (M:=M) X tB;have _L:Looks M h (isInstance (.ref B)$ .type "tuple") false:=l.andThen (Pj tc_notTuple);have d:Looks M h (isType$ .ref B) true:=by
  unfold clsIn at H;split at H
  ·rename_i e
   intro A Q E s k q;unfold isType loadHead;exact GK$ Mt (k _ _$ X _ _ e)$ GL q
  ·exact absurd Z H
 have f:Looks M h (isExcClass$ .ref B) true:=by unfold isExcClass;exact d.andThen (by rw[Hm Z];exact MG X m)
 have g:=MG (M:=M) X c;intro A Q E s k q;unfold excMatches;refine GK$ _L A _ E s k ?_;rw[Ho RT];refine GK$ GL ?_;dsimp only;refine GK ?_;rw[IN];refine GK$ GK$ f A _ E s k ?_;simp only[LF,Hi,Ix];refine GL ?_;dsimp only;rw[Lv];refine GL ?_;refine GK$ L A _ E s k ?_;refine GK ?_;rw[IN];refine GK$ GK$ g A _ E s k ?_;simp only[Mi];refine GL$ GL ?_;exact GL q
end
abbrev XR:=Addr->Addr->Option Addr->Addr->Hp->Prop
def XW(X:Cx)(p:List (Addr×Obj))(a:St)(R:XR)(e:Value)(s:Shared):Prop:=
 ∃x C d T H,e= .ref x/\ap X p a H s/\H x=some (dW C d T x)/\H T=some (dJ T)/\T≠x/\R x C d T H
abbrev CD:=St->Hp->VK->XR->Prop
abbrev CY:=aW->XR->St->Hp->Prop
def Ex(X:Cx)(e:Expr)(t:CD):Prop:=
 ∀(p:List (Addr×Obj)) (s:Shared) (a:St) (H:Hp) (Q:VK) (R:XR),ap X p a H s->t a H Q R->wpAny (model X.prog X.w) X.A (eval e X.env) (EP X p a Q) (XW X p a R) s
def EQ(X:Cx)(st:Stmt)(t:CY):Prop:=
 ∀(p:List (Addr×Obj)) (s:Shared) (a:St) (H:Hp) (D:aW) (R:XR),ap X p a H s->t D R a H->wpAny (model X.prog X.w) X.A (exec st X.env) (SP X p D) (XW X p a R) s
def Gi(R:XR):XK:=λc d H=>∀x C T,c= .ref C->H x=some (dW C d T x)->H T=some (dJ T)->T≠x->R x C d T H
def BX(s:Sp)(d:List V)(t:TA):CD:=λa H Q R=>t a H λv h=>s (v++d) h Q (Gi R)
section
variable {X:Cx}{k:Nat}{f:Addr}{fd:FuncData}{ps:List Str}{sp:Sp}{dvs:List V}{ds:List Value}{x:Str}{p pos:Pos}{e:Expr}{es:List Expr}{t:TA}{te:CD}
theorem Xt(F:aj X.prog X.w X.K X.mg X.base (dD X.prog X.w) k f fd ps sp)(y:bu k X.A)(D:Gl X x)(E:X.mg x=some (.ref f))(G:keepIn X.K (.ref f)=true)(J:ay X.K fd ps ds)(L:aw dvs ds)
  (M:PA X.nox (e::es) t) (g:(x==("__debug__":Str))=false:=by decide) (N:starEach (e::es) X.env=(false,eval e X.env)::starEach es X.env:=by rfl) (j:(backTo pos$ starEach es X.env).any (·.1)=false:=by rfl):
  Ex X (.Call (.Name x p) (e::es) [] pos) (BX sp dvs t):=by
 intro P s O H Q R I h;refine Ii$ zb I D E ?_ g;refine Nq (h₀:=X.base) I.ok.mod.kin G (Ib (M pos P s O H _ (I.wish _) h) (λU S #[v,W,i,r,q]=>#[i.kIn,?_]) λ_ _ z=>z.elim) N j;have i:=i.unwish;have m:aw (v++dvs) (U++ds):=r.append L;have Y:(U++ds).length=ps.length:=by rw[<- m.length];exact F.len _ _ _ _ q
 refine M3$ LH (F.run X.A X.stack S W #[U,[]] (U++ds) (v++dvs) Q (Gi R) y i.env0 (J S U i.kIn Y) m q) λr s' a=>?_;cases r with
 |error e=>obtain⟨x,C,d,T,H',rfl,os,B,un,l,n,o,c,hw⟩:=a;exact#[x,C,d,T,H',Z,i.call' os un l B (λb z=>absurd z RV),n,o,c,hw x C T Z n o c]
 |ok fl=>
  cases fl with
  |ret u=>exact i.after a
  |next=>exact False.elim a
  |brk=>exact False.elim a
  |cont=>exact False.elim a
theorem Y1{i:Nat}{y:Str}{P:Pos}(d:X.N.Nodup)(g:X.N[i]?=some y)(j:pe X.env.scope y)(l:Ex X e te)(m:swapsWith e (some$ .Name y P) pos.line X.env=pure false:=by rfl)(n:X.fn y=true∨X.env.scope.names.lookup y=some .local:=by first |exact .inl Z |exact .inr Z |assumption):
  EQ X (.Assign [.Name y P] e pos) (λD R b H=>te b H (λv c=>D.nx (b.set i$ some v) c) R):=by
 intro a s b H D R I h;refine PH (aK (l a s b H _ R I h) λv S z=>?_) m;obtain⟨y,c,o,r,q⟩:=z;exact kQ o d g j r (λw u=>#[_,c,u,q]) n
end
theorem qw{X:Cx}{Q:Unit->Shared->Prop}(I:ap X p d H s)(e:X.N.Nodup)(b:X.N[i]?=some n)(c:X.env.scope.names.lookup n=some .local)
  (h:∀S,ap X p (d.set i none) H S->Q () S):wpAny M A (do bindName X.env n .none;unbindBehindTheSuite X.env n g) Q E s:=by
 have a:i < d.length:=by rw[I.len];exact(List.getElem?_eq_some_iff.mp b).1
 refine GK ?_;unfold bindName;refine GK$ Ht$ wpAny_point$ GK$ kQ (v:=.non) I e b (.inl c) Z (λl j=>wpAny_point ?_)$ .inr c;refine ZM j e b c (v:=.non) (IS a) λk f=>h k ?_;rw[List.set_set]at f;exact f
noncomputable def pj(i:Nat)(D:aW):aW:={ nx:=λa H=>D.nx (a.set i none) H,rt:=D.rt,bk:=λa H=>D.bk (a.set i none) H,ct:=λa H=>D.ct (a.set i none) H }
def FJ(K:Frag)(B:Addr)(i:Nat)(t:CY)(b:TS):TS:=λD a H=>t D (λx C d _ h=>mroIn K C (.ref B)=some true/\∀T,h T=none->b (pj i D) (a.set i$ some$ .ref x) (af (af h T$ dJ T) x$ dW C d T x)) a H
def uW(H:Hp)(a C:Addr)(f:List (Str×V)):Prop:=(f=[]/\∃T,H a=some (dW C none T a))∨∃d T,H a=some (dW C (some d) T a)/\H d=some (.xd f)
section
variable {X:Cx}{pins:List (Addr×Obj)}{σ:St}{H:Hp}{s:Shared}{a C:Addr}{fs:List (Str×V)}{f:Str}{v:V}{A:Around}{E:Value->Shared->Prop}
theorem ZN(I:ap X pins σ H s)(e:uW H a C fs):∃g O,PySem.W.InstAt s.heap a g C O/\∀f v,fs.lookup f=some v->∃o u,O=some o/\au v u/\lookIn f o=some (some u):=by
 rcases e with ⟨rfl,T,e⟩ | ⟨D,T,e,i⟩
 ·obtain⟨⟨o,j,h,b,c,d,_⟩,_⟩:=I.hok a _ e;exact#[o,none,#[h,b,c,by rw[d];trivial],λf v q=>nomatch q]
 ·obtain⟨⟨o,j,h,b,c,d,_⟩,_⟩:=I.hok a _ e;obtain⟨m,n,r⟩:=(show aN X.prog X.w H s.heap D (.xd fs) from I.hok D _ i);obtain⟨O,k,l⟩:=Qr n;refine#[o,some O,#[h,b,c,by rw[d];exact k],λf v q=>?_];obtain⟨u,p,R⟩:=dy.some_of (v:=v) (o:=m f) (by rw[<- q];exact r f);exact#[O,u,Z,R,by rw[l,p]]
theorem Xd:dm X (.builtin "isinstance") (λx H Q=>∃a C fs y c b,x=[.ref a,y]/\C5 y=some c/\uW H a C fs/\io X.K C/\kitOne X.K (.ref C) c=some b/\Q (.bl b) H):=by
 intro pins s σ H x U Q I r h;obtain⟨a,C,fs,y,c,b,rfl,d,g,i,e,q⟩:=h;obtain⟨u,w,rfl,j,R⟩:=En r;have k:w=c:=by
  cases y with
  |ty n=>exact Eq.trans R (HQ d)
  |ref a=>exact Eq.trans R (HQ d)
  |_=>cases d
 subst k;cases (show u=Value.ref a from j);obtain⟨o,O,J,_⟩:=ZN I g;exact kia_one (rn i) I.kIn #[o,O,J] e (λz=>nomatch z) λt=>#[.bl b,H,I.tok t,Z,q]
end
theorem aJ.ok1{P:Program}{K:Frag}{st:Stmt}{a:Sp}(F:aJ K x q st f g)(S:ak N p (aa st))(len:∀v H Q E,a v H Q E->v.length=p.length)
  (h:∀(c:Value) (A:Around) (o:List Env) (s:Shared) (H:Hp) (v:List V) (Q:VK) (E:XK),bu k (A.deeper$ envOfC q (aa st) s.heap.objs.size f c)->a v H Q E->
   ∃t,iG (eU (dD P w) P w K m b N q (aa st) f c A o s H E) (bg st) t/\t { nx:=λ_ i=>Q .non i,rt:=Q } (fX N v) H):aj P w K m b (dD P w) (k+1) f g p a:=by
 obtain⟨l,n,kV,D,r,u,c,C,O,rfl,lk,d⟩:=F.ex;exact yj lk d S len λA o s H v Q E j e=>h c A o s H v Q E j e
end _L
namespace _L
open PySem PySem.Spec PyProof.Rows PySem.SeqAt
noncomputable def mK(x y:List V):Bool:=(List.range$ min x.length y.length).all (λj=>mf (x.getD j .non) (y.getD j .non))&&x.length==y.length
section
variable {X:Cx}
theorem ZO(r:aw x i)(R:aw y I)(f:x.all cp=true)(F:y.all cp=true)(j:Nat)(c:j < i.toArray.size)(d:j < I.toArray.size):EqAt A s i.toArray[j] I.toArray[j] (mf (x.getD j .non)$ y.getD j .non):=by
 have L:=r.length;have p:=R.length;have H:j < x.length:=by simp at c;omega
 have h:j < y.length:=by simp at d;omega
 have a:x[j]?=some x[j]:=GN H;have b:y[j]?=some y[j]:=GN h;obtain⟨u,q,g⟩:=r.get a;obtain⟨U,Q,k⟩:=R.get b;have l:=List.all_eq_true.mp f _ (Lx H);have m:=List.all_eq_true.mp F _ (Lx h);have E:i.toArray[j]=u:=by obtain⟨_,e⟩:=List.getElem?_eq_some_iff.mp q;simpa using e
 have n:I.toArray[j]=U:=by obtain⟨_,e⟩:=List.getElem?_eq_some_iff.mp Q;simpa using e
 have G:x.getD j .non=x[j]:=by rw[Lu,a];rfl
 have o:y.getD j .non=y[j]:=by rw[Lu,b];rfl
 rw[E,n,G,o];exact pN g k l m
theorem sd(f:X.A.units < cLine):eh X (compareOp .Eq) (λx y H Q=>∃a b c Y,x= .ref a/\y= .ref b/\ax X.K H a c/\ax X.K H b Y/\c.all cp=true/\Y.all cp=true/\Q (.bl$ mK c Y) H):=by
 intro p s z H x y v u Q I g k h;obtain⟨a,b,c,Y,rfl,rfl,l,m,F,n,q⟩:=h;cases g;cases k;obtain⟨i,r,P,_⟩:=I.tuple l;obtain⟨d,R,o,_⟩:=I.tuple m;refine eq_tupleAt (e:=λj=>mf (c.getD j .non) (Y.getD j .non)) (show s.heap.IsTuple a i.toArray from P) (show s.heap.IsTuple b d.toArray from o) f (λj t w=>ZO r R F n j t w) ?_;have e:((List.range$ min i.toArray.size d.toArray.size).all (λj=>mf (c.getD j .non) (Y.getD j .non))&&i.toArray.size==d.toArray.size)=mK c Y:=by unfold mK;rw[GX,GX,<- r.length,<- R.length]
 rw[e];exact#[.bl _,H,I,Z,q]
end
end _L
namespace _L
open PySem PySem.Spec PyProof.Rows
section
variable {prog:Program}{w:World}{A:Around}{E:Value->Shared->Prop}{s:Shared}
theorem Yk{Q:Nat->Shared->Prop}(H:n≠0)(h:∀i d,i < n->Q i { s with drawn:=d }):wpAny (model prog w) A (choose a n) Q E s:=by intro Γ p _;show Sem.wp _ Γ (.choose a n .pure) _ _ p s;rw[Sem.wp_choose];exact#[H,h _ _$ RQ _$ Nat.pos_of_ne_zero H]
theorem XO{α:Type}:∀(n:Nat) (xs:List α) (s:Shared) {Q:List α->Shared->Prop},xs.length=n->(∀ys d,ys.Perm xs->Q ys { s with drawn:=d })->
  wpAny (model prog w) A (drawOrder n xs) Q E s:=by
 intro n;induction n with
 |zero=>
  intro xs s Q hl h;cases xs with
  |nil=>unfold drawOrder;exact GL$ h [] s.drawn .rfl
  |cons _ _=>cases hl
 |succ n ih=>
  intro xs s Q hl h;cases xs with
  |nil=>cases hl
  |cons x r=>unfold drawOrder;refine GK$ Yk RV λi d hi=>?_;have hg:(x::r)[i]?=some ((x::r)[i]'hi):=GN hi;rw[hg];dsimp only;refine GK$ ih _ _ (by rw[NJ hi,hl];rfl) λys d' hp=>GL (h _ d' ?_);refine(List.Perm.cons _ hp).trans ?_;rw[Nj];refine List.perm_middle.symm.trans ?_;rw[Od,Ln]
end
noncomputable def lD:Value->Str
 | .str x _=>x
 |_=>#[(List.toArray [])]
theorem K9(t:SetTable)(n:Nat):(t.orStandIn n).led=t.led:=by
 unfold SetTable.orStandIn;split
 ·rfl
 ·rfl
theorem Yl(t:SetTable)(e:Array (Int×Value))(h:Int)(x:Value):(layNew t e h x).2.1.led=t.led:=by
 unfold layNew;split
 ·exact K9 _ _
 ·rfl
theorem Xe(t:SetTable)(E:Array (Int×Value))(n:Nat):(relayAll t E n).2.1.led=t.led:=by
 unfold relayAll;split
 ·rename_i T o e
  unfold SetTable.relaid SetTable.laid at e;cases h:SetTable.layClean (SetTable.sizeAbove n - 1) (E.map (·.1)) with
  |none=>rw[h]at e;cases e
  |some O=>rw[h]at e;cases e;dsimp only;split<;>rfl
 ·rfl
theorem KO(t:SetTable)(E:Array (Int×Value))(n:Nat)(H:t.plain=false):(relayAll t E n).2.1.plain=false:=by
 unfold relayAll;split
 ·rename_i T o e
  unfold SetTable.relaid SetTable.laid at e;cases h:SetTable.layClean (SetTable.sizeAbove n - 1) (E.map (·.1)) with
  |none=>rw[h]at e;cases e
  |some O=>
   rw[h]at e;cases e;dsimp only;split
   ·exact H
   ·rfl
 ·rfl
def cj(p:Program)(w:World)(h:Heap)(a:Addr)(L:List Str):Prop:=
 ∃o E b t,h.get? a=some o/\o.ExactSet/\o.data= .set E b t/\ElemsOf (PySem.strKind p w) E.toList/\(E.toList.map λe=>lD e.2).Perm L/\L.Nodup
  /\E.size < scanBound/\t.fits E.size=true/\t.led=!(w.params.followText "set-order")/\(t.plain=false∨E.size=0)
theorem cj.at{H:Heap}{a:Addr}(x:cj p w h a L)(e:∀o,h.get? a=some o->H.get? a=some o):cj p w H a L:=
 let #[o,E,b,t,c,r]:=x;#[o,E,b,t,e o c,r]
section
variable {prog:Program}{w:World}{A:Around}{E:Value->Shared->Prop}{s:Shared}
theorem JI{a:Array (Int×Value)}(b:ElemsOf (PySem.strKind prog w) a.toList)(x:Str):
  (a.toList.findIdx? (λe=>(PySem.strKind prog w).is x e.2)=none↔¬x∈a.toList.map λe=>lD e.2):=by
 rw[List.findIdx?_eq_none_iff];constructor
 ·intro h m;obtain⟨e,H,f⟩:=List.mem_map.mp m;obtain⟨⟨k,g,_⟩,_⟩:=b e H;obtain⟨t,c⟩:=Mc g;have q:=h e H;rw[c]at f q;have d:k=x:=f;subst d;have Q:(PySem.strKind prog w).is k (.str k t)=true:=strKind_is prog w k t;rw[Q]at q;cases q
 ·intro h e H;cases q:(PySem.strKind prog w).is x e.2 with
  |false=>rfl
  |true=>obtain⟨t,c⟩:=Mc q;exact absurd (List.mem_map.mpr #[e,H,by rw[c];rfl]) h
theorem JJ{b:Array (Int×Value)}{T:SetTable}(d:s.heap.get? a=some o)(f:o.ExactSet)(h:o.data= .set p c t)
  (g:ElemsOf (PySem.strKind prog w) b.toList) (i:(b.toList.map λe=>lD e.2).Perm L) (j:L.Nodup) (k:b.size < scanBound) (l:T.fits b.size=true)
  (m:T.led=!(w.params.followText "set-order")) (n:T.plain=false):
  (s.heap.update a$ Obj.putSet b T).get? a=some { o with data:=.set b (c+1) T }/\cj prog w (s.heap.update a$ Obj.putSet b T) a L:=by
 have H:(s.heap.update a$ Obj.putSet b T).get? a=some { o with data:=.set b (c+1) T }:=by have q:=HK (Obj.putSet b T) d (by rw[putSet_of b T h];rfl);rwa [putSet_of b T h]at q
 exact#[H,_,b,c+1,T,H,f,Z,g,i,j,k,l,m,.inl n]
theorem XQ{Q : Bool -> Shared -> Prop}(hS : cj prog w s.heap a L)(room : L.length + 1 < scanBound)
    (h : ∀ b R l, Heap.SameBut a s.heap R -> cj prog w R a (if x ∈ L then L else L ++ [x]) -> s.toks <= l -> Q b { s with heap := R, toks := l }) :
    wpAny (model prog w) A (setAdd a$ .str x f) Q E s := by
  obtain ⟨o, g, ep, t, n, U, u, H, v, B, hb, V, X, Y⟩ := hS;have d : (PySem.strKind prog w).is x (.str x f) = true := strKind_is prog w x f;have C : g.size = L.length := by rw [<- v.length_eq, GQ, HE]
  unfold setAdd;refine Ht$ GK ((PySem.strKind prog w).pyHash (k := x) d ?_);unfold setAddHashed setAddHashedIn;refine Ht$ GK$ IQ (s := { s with toks := s.toks + 1 }) n u V ?_;dsimp only;rw [byScan_of Z hb H];simp only [↓reduceIte];unfold setAddByScan;refine GK$ GK$ J'$ GK$ wpAny_setScan_of (knd := PySem.strKind prog w) d n u V H ?_;cases hr : List.findIdx? (λe => (PySem.strKind prog w).is x e.2) g.toList with
  | some j =>
    dsimp only;have D : x ∈ L := by refine Decidable.byContradiction λhn => ?_;have q := (JI (prog := prog) (w := w) H x).mpr λm => hn (v.mem_iff.mp m);rw [q] at hr; cases hr
    have q := h false s.heap (s.toks + 1) (NP a s.heap) (by rw [Hm D]; exact #[o, g, ep, t, n, U, u, H, v, B, hb, V, X, Y]) (IL _);exact GL$ GL q
  | none =>
    dsimp only;have D : ¬ x ∈ L :=λm => (JI (prog := prog) (w := w) H x).mp hr (v.mem_iff.mpr m);have W : ∀ (b : Bool) {S : Shared} {Q' : Unit -> Shared -> Prop}, Q' () S -> wpAny (model prog w) A (match b with | true => rule "set.scan.the-table-gave-way" | false => pure ()) Q' E S := by
      intro b S Q' hq;cases b
      · exact GL hq
      · exact J' hq
    have p := layNew_perm t g ((PySem.strKind prog w).hash x) (.str x f);have M := layNew_fits t g ((PySem.strKind prog w).hash x) (.str x f);have O := Yl t g ((PySem.strKind prog w).hash x) (.str x f);generalize layNew t g ((PySem.strKind prog w).hash x) (.str x f) = N at p M O ⊢;obtain ⟨c, t1, w0, g4⟩ := N;dsimp only at p M O ⊢;rw [OF] at p;have F : ElemsOf (PySem.strKind prog w) c.toList := (H.push d Z).perm p;have P : (c.toList.map λe => lD e.2).Perm (L ++ [x]) := by refine (p.map _).trans ?_;rw [Hs];exact v.append_right _
    have G : (L ++ [x]).Nodup := List.nodup_append.mpr #[B, by simp,λy hy z hz e => by rw [M8] at hz; subst hz; subst e; exact D hy];have gH : c.size = g.size + 1 := by rw [<- HE, p.length_eq, GU, HE]; rfl
    have b1 : c.size < scanBound := by rw [gH, C]; exact room
    refine GK$ W _ ?_;have i : ∀ T : SetTable, T.fits c.size = true -> T.led = t.led -> T.plain = false ->
        wpAny (model prog w) A (do
          storeSet a c T
          if (!w0 && T.tooFull) = true then do
              (match (relayAll T c$ SetTable.grown c.size).2.2 with | true => rule "set.scan.the-table-gave-way" | false => pure ())
              storeSet a (relayAll T c$ SetTable.grown c.size).1 (relayAll T c$ SetTable.grown c.size).2.1
              pure (some true)
            else pure (some true)) (λr s' => r = some true /\ Q true s') E { s with toks := s.toks + 1 } := by
      intro T g1 g2 g3;refine GK$ Pw (s := { s with toks := s.toks + 1 }) n u ?_$ MH b1;obtain ⟨o1, S1⟩ := JJ (s := s) (prog := prog) (w := w) n U u F P G b1 g1 (g2.trans X) g3;have I := IJ s.heap a (Obj.putSet c T);split
      · have J := relayAll_perm T c (SetTable.grown c.size)
        have f2 := relayAll_fits T c (SetTable.grown c.size);have l2 := Xe T c (SetTable.grown c.size);have q2 := KO T c (SetTable.grown c.size) g3;generalize relayAll T c (SetTable.grown c.size) = Z at J f2 l2 q2 ⊢;obtain ⟨K, t3, g0⟩ := Z;dsimp only at J f2 l2 q2 ⊢;have bo : K.size = c.size := by rw [<- HE, J.length_eq, HE]
        have b2 : K.size < scanBound := by rw [bo]; exact b1
        refine GK$ W _$ GK$ Pw (s := { s with heap := s.heap.update a (Obj.putSet c T), toks := s.toks + 1 }) o1 Z ?_$ MH b2;obtain ⟨_, S2⟩ := JJ (s := { s with heap := s.heap.update a (Obj.putSet c T) }) (prog := prog) (w := w) o1 U Z (F.perm J) ((J.map _).trans P) G b2 f2 (l2.trans$ g2.trans X) q2;exact GL #[Z, h true _ _ (I.trans$ IJ _ a _) (by rw [Ho D]; exact S2) (IL _)]
      · exact GL #[Z, h true _ _ I (by rw [Ho D]; exact S1) (IL _)]
    split
    · rename_i tp
      refine GK ?_;rw [hashByValue_scannable 8 (x := .str x f) Z];refine GL ?_;have e0 : plainKind (.str x f) = false := rfl;rw [e0];simp only [Hi, ↓reduceIte];refine Ib (i { t1 with plain := false } (SetTable.fits_plain_off M) O Z) (λr s' q => ?_) λ_ _ z => z;obtain ⟨rfl, q⟩ := q;exact GL q
    · rename_i tp
      refine GK$ GL ?_;simp only [↓reduceIte];refine Ib (i t1 M O (by simpa using tp)) (λr s' q => ?_) λ_ _ z => z;obtain ⟨rfl, q⟩ := q;exact GL q
end
noncomputable def bj(w:World):Obj:={ cls:=.type "set",dict:=none,data:=.set (List.toArray []) 0 (.fresh 0 0 (!(w.params.followText "set-order"))) }
section
variable {prog:Program}{w:World}{A:Around}{E:Value->Shared->Prop}{s:Shared}
theorem XS{h:Heap}(e:h.get? a=some (bj w)):cj prog w h a []:=
 #[_,(List.toArray []),0,_,e,#[Z,Z,Z],Z,λ_ z=>by simp at z,RV,MY,(by decide:(0:Nat) < scanBound),Z,Z,.inr Z]
theorem Qa(a:Value){G:Value->Shared->Prop}(h:G (.ref s.heap.objs.size) { s with heap:=s.heap.push (bj w) }):
  codeAny (model prog w) A (.call (.builtin "set.__new__") #[[.type "set",a],[]]) (wants G E) s:=by
 refine N7 ?_;show wpAny _ A.in1 (do checkBuiltinCall "set.__new__" _;again (.builtin "set.__new__" _)) _ _ s;refine GK$ MF (PySem.F.newCall_set_1 a)$ GL #[Lj NZ _,IA PySem.F.entry_set_new ?_];rw[Ig NZ];unfold Builtin.«set.__new__» Builtin.Frozenset.newClass;have o:=sub_set_self;obtain⟨H,g,d,t,os⟩:=s;dsimp only;wp_walk;refine LG$ GL ?_;dsimp only;simp only[newObj];exact GK$ wpAny_alloc$ GL$ GL h
end
theorem StrsAre.at':∀{V:List Value} {s:List Str},StrsAre V s->∀(i:Nat) (v:Value),V[i]?=some v->∃x t,s[i]?=some x/\v= .str x t
 |_,_,.nil,i,v,h=>by simp at h
 |_,_,.cons y t r,0,v,h=>by simp at h;exact#[y,t,Z,h.symm]
 |_,_,.cons y t r,i+1,v,h=>by simp only[List.getElem?_cons_succ]at h;obtain⟨x,T,e,E⟩:=StrsAre.at' r i v h;exact#[x,T,by simpa using e,E]
theorem StrsAre.len:∀{v:List Value} {s:List Str},StrsAre v s->s.length=v.length
 |_,_,.nil=>rfl
 |_,_,.cons _ _ r=>by simp [StrsAre.len r]
theorem j6:Slot "set_iterator" "__next__" "set_iterator.__next__":=by
 refine .of (owner:="set_iterator") (n:="__next__") ?_ RW RW RW ?_ ?_
 ·rw[Iz,HW];kernel_rfl
 ·first |exact .inl RW |exact .inr RW
 ·rw[IP];kernel_rfl
theorem qf:Slot "set_iterator" "__iter__" "set_iterator.__iter__":=by
 refine .of (owner:="set_iterator") (n:="__iter__") ?_ RW RW RW ?_ ?_
 ·rw[Iz,HW];kernel_rfl
 ·first |exact .inl RW |exact .inr RW
 ·rw[IP];kernel_rfl
theorem Jy:entryFor table "set_iterator.__next__"=some Builtin.«set_iterator.__next__»:=MV (by kernel_rfl)
theorem Jz:entryFor table "set_iterator.__iter__"=some Builtin.«dict_keyiterator.__iter__»:=by refine Nb (id':="dict_keyiterator.__iter__") ?_ Z RW ?_<;>kernel_rfl
theorem JO:entryFor table "set.__iter__"=some Builtin.«frozenset.__iter__»:=by refine Nb (id':="frozenset.__iter__") ?_ Z RW ?_<;>kernel_rfl
theorem JP(a:Value):argsOk "set_iterator.__next__" #[[a],[]]:=by unfold argsOk;kernel_rfl
theorem JQ(a:Value):argsOk "set_iterator.__iter__" #[[a],[]]:=by unfold argsOk;kernel_rfl
def bX(h:Heap)(I:Addr)(f:Value)(i:Nat)(S:Addr)(n e:Nat):Prop:=
 ∃o,h.get? I=some o/\o.cls= .type "set_iterator"/\o.data= .fields (List.toArray [f,.int i 0,.ref S,.int n 0,.int e 0])
theorem bX.at{H:Heap}{i:Nat}{S:Addr}(x:bX h I f i S n E)(e:∀o,h.get? I=some o->H.get? I=some o):bX H I f i S n E:=
 let #[o,a,r]:=x;#[o,e o a,r]
theorem bX.is{s:Shared}{S:Addr}(x:bX s.heap I f i S n e):s.TypeIs (.ref I) "set_iterator":=let #[o,h,H,_]:=x;#[o,h,H]
section
variable {prog:Program}{w:World}{A:Around}{E:Value->Shared->Prop}{s:Shared}
theorem JT{c:Type}{Q:c->Shared->Prop}(d:A.handled=none)
  (h:∀H e,(∀b o,s.heap.get? b=some o->H.get? b=some o)->Shared.TypeIs { s with heap:=H } e "StopIteration"->E e { s with heap:=H }):
  wpAny (model prog w) A (do raiseNew (<- newExc (.type "StopIteration") []):Sem c) Q E s:=by
 refine GK ?_;simp only[newExc,newTuple];refine GK$ HN ?_ (by size_fits);refine GK (m:=firstArgMember _ _)$ MF (a:=Value.none) ?_ ?_
 ·first |rfl | (simp only[firstArgMember];rfl)
 refine HN ?_ (by size_fits);simp only[raiseNew];refine GK$ wpAny_handled ?_;rw[d];refine GK$ GL$ wpAny_throw$ h _ _ (λb o e=>GP _ (GP _ e)) ?_;exact#[_,GZ _ Z,Z]
theorem JU{S:Addr}(H:bX s.heap I f i S n c)
  (h:wpAny (model prog w) A.in1 (Builtin.«set_iterator.__next__» #[[.ref I],[]]) (λF a=>∃v,F= .done (.ret v)/\Q (some v) a) (λe a=>a.TypeIs e "StopIteration"/\Q none a) s):
  wpAny (model prog w) A (pyNext$ .ref I) Q E s:=by
 unfold pyNext;refine GK$ Li$ HL (name:=Str.ofString "__next__") H.is j6$ HP j6 H.is Jy ?_$ JP _;refine Ib h (λF a q=>?_) λe a q=>?_
 ·obtain⟨v,e,q⟩:=q;exact#[v,e,GL q]
 ·exact GK$ Ll (T:="StopIteration") (b:=true) q.1 Na$ GL q.2
theorem QA{I:Addr}{f:Value}{i:Nat}{S:Addr}{n a:Nat}{o:Obj}{v:Array Value}(H:s.heap.get? I=some o)(b:o.cls= .type "set_iterator")(h:o.data= .fields v)(k:Nat)(x:Value)
  (e:v.setIfInBounds k x=(List.toArray [f,.int i 0,.ref S,.int n 0,.int a 0])):bX (s.heap.update I$ Obj.mapFields (·.setIfInBounds k x)) I f i S n a:=
 #[_,HK _ H$ Ip$ HJ h _,(LX ..).trans b,by rw[HJ h,e]]
theorem Ym{I S P:Addr}{i:Nat}{O j:Obj}{e:Array (Int×Value)}{a:Nat}{t:SetTable}{k:Array Value}{c p:Nat}{hx:Int}{x:Value}{Q:Option Value->Shared->Prop}
  (h:bX s.heap I (.ref P) i S e.size a) (l:s.heap.get? S=some O) (H:O.data= .set e a t) (m:t.fits e.size=true) (n:s.heap.get? P=some j) (b:j.data= .seq k c)
  (q:k[i]?=some (.int p 0)) (r:e[p]?=some (hx,x)) (u:∀d,bX d I (.ref P) (i+1) S e.size a->Heap.SameBut I s.heap d->Q (some x) { s with heap:=d }):
  wpAny (model prog w) A (pyNext$ .ref I) Q E s:=by
 refine JU h ?_;obtain⟨o,f,v,g⟩:=h;show wpAny _ _ (fieldsOf (.ref I) >>= _) _ _ s;refine GK$ M9 f g ?_;dsimp only;refine GK$ LO l H m ?_;simp only[Lk,Hi,↓reduceIte];refine GK$ Ih n b ?_;simp only[Ie,q];unfold setNextDrawn;refine GK$ GK$ IQ l H m ?_;simp only[Lk,Hi,↓reduceIte,r];refine GL ?_;refine GK$ HV f g RV$ GL #[x,Z,u _ ?_$ IJ ..];exact QA f v g _ _ (by simp [rawInt])
theorem KP(q:A.handled=none){I S P:Addr}{i:Nat}{O l:Obj}{d:Array (Int×Value)}{m:Nat}{t:SetTable}{p:Array Value}{c:Nat}{Q:Option Value->Shared->Prop}
  (h:bX s.heap I (.ref P) i S d.size m) (r:s.heap.get? S=some O) (f:O.data= .set d m t) (u:t.fits d.size=true) (v:s.heap.get? P=some l) (g:l.data= .seq p c)
  (x:p[i]?=none) (y:∀H,(∀b o,b≠I->s.heap.get? b=some o->H.get? b=some o)->Q none { s with heap:=H }):
  wpAny (model prog w) A (pyNext$ .ref I) Q E s:=by
 refine JU h ?_;obtain⟨o,j,B,a⟩:=h;show wpAny _ _ (fieldsOf (.ref I) >>= _) _ _ s;refine GK$ M9 j a ?_;dsimp only;refine GK$ LO r f u ?_;simp only[Lk,Hi,↓reduceIte];refine GK$ Ih v g ?_;simp only[Ie,x];refine GK$ HV j a RV ?_;refine GK$ HV (HK _ j$ Ip$ HJ a _) (HJ a _) RV ?_;refine JT (s:={ s with heap:=_ }) (by simpa using q) λH e k T=>#[T,y H λb o n z=>k b o ?_];exact(Hk _ _$ HI n).trans ((Hk _ _$ HI n).trans z)
end
section
variable {prog:Program}{w:World}{A:Around}{E:Value->Shared->Prop}{s:Shared}
theorem QB{I S:Addr}{i j nx:Nat}{O:Obj}{e:Array (Int×Value)}{a:Nat}{t:SetTable}{x:Value}{Q:Option Value->Shared->Prop}
  (h:bX s.heap I (.int j 0) i S e.size a) (f:s.heap.get? S=some O) (b:O.data= .set e a t) (k:t.fits e.size=true)
  (l:∀(q:Option (Value×Nat)->Shared->Prop) m,q (some (x,nx)) s->wpAny (model prog w) A.in1 (setNext S j i a) q m s)
  (n:∀c,bX c I (.int nx 0) (i+1) S e.size a->Heap.SameBut I s.heap c->Q (some x) { s with heap:=c }):
  wpAny (model prog w) A (pyNext$ .ref I) Q E s:=by
 refine JU h ?_;obtain⟨o,d,p,H⟩:=h;show wpAny _ _ (fieldsOf (.ref I) >>= _) _ _ s;refine GK$ M9 d H ?_;dsimp only;refine GK$ LO f b k ?_;simp only[Lk,Hi,↓reduceIte];simp only[Ie];refine GK$ l _ _ ?_;dsimp only;refine GK$ HV d H RV ?_;have g:=HK (Obj.mapFields (·.setIfInBounds 0 (rawInt nx))) d (Ip$ HJ H _);have D:=HJ H (·.setIfInBounds 0 (rawInt nx));refine GK$ HV g D RV$ GL #[x,Z,n _ ?_ ((IJ ..).trans$ IJ ..)];exact QA (s:={ s with heap:=_ }) g ((LX ..).trans p) D _ _ (by simp [rawInt])
theorem qD(l:A.handled=none){I S:Addr}{i j:Nat}{O:Obj}{a:Array (Int×Value)}{c:Nat}{t:SetTable}{Q:Option Value->Shared->Prop}
  (h:bX s.heap I (.int j 0) i S a.size c) (m:s.heap.get? S=some O) (d:O.data= .set a c t) (n:t.fits a.size=true)
  (p:∀(q:Option (Value×Nat)->Shared->Prop) r,q none s->wpAny (model prog w) A.in1 (setNext S j i c) q r s)
  (u:∀H,(∀b o,b≠I->s.heap.get? b=some o->H.get? b=some o)->Q none { s with heap:=H }):
  wpAny (model prog w) A (pyNext$ .ref I) Q E s:=by
 refine JU h ?_;obtain⟨o,f,y,g⟩:=h;show wpAny _ _ (fieldsOf (.ref I) >>= _) _ _ s;refine GK$ M9 f g ?_;dsimp only;refine GK$ LO m d n ?_;simp only[Lk,Hi,↓reduceIte];simp only[Ie];refine GK$ p _ _ ?_;dsimp only;refine GK$ HV f g RV ?_;refine JT (s:={ s with heap:=_ }) (by simpa using l) λH e k T=>#[T,u H λb o v x=>k b o ?_];exact(Hk _ _$ HI v).trans x
theorem Je(a:w.params.followText "set-order"=true){S:Addr}(b:s.heap.get? S=some o)(H:o.data= .set c d t)
  (f:t.fits c.size=true) {Q:Option (Value×Nat)->Shared->Prop} (h:Q (((pickOrder (w.params.setOrder S d) c)[i]?).map λe=>(e.2,j)) s):
  wpAny (model prog w) A (setNext S j i d) Q E s:=by
 unfold setNext;refine GK$ IQ b H f ?_;dsimp only;unfold setsByText;refine GK$ GK$ LG$ GL ?_;dsimp only;rw[show(model prog w).w.params.followText "set-order"=_ from a];simp only[↓reduceIte,Lk,Hi];unfold setWalk;refine GK$ GK$ IQ b H f ?_;dsimp only;unfold setsByText;refine GK$ GK$ LG$ GL ?_;dsimp only;rw[show(model prog w).w.params.followText "set-order"=_ from a];simp only[↓reduceIte];exact GK$ LG$ GL$ GL h
theorem JK(a:w.params.followText "set-order"=false){S:Addr}(b:s.heap.get? S=some o)(H:o.data= .set e c t)
  (d:t.fits e.size=true) (f:t.led=true) (l:e.size<=1) {Q:Option (Value×Nat)->Shared->Prop}
  (h:Q (match e[SetTable.below t.place j]?,t.place[SetTable.below t.place j]? with |some (_,x),some k=>some (x,k+1) |_,_=>none) s):
  wpAny (model prog w) A (setNext S j i c) Q E s:=by
 unfold setNext;refine GK$ IQ b H d ?_;dsimp only;unfold setsByText;refine GK$ GK$ LG$ GL ?_;dsimp only;rw[show(model prog w).w.params.followText "set-order"=_ from a];simp only[Hi,↓reduceIte];split
 ·rename_i z
  have g:(!t.plain&&decide (e.size > 1))=true:=z;simp only[Iv,decide_eq_true_eq]at g;omega
 ·refine GK ?_;show wpAny _ _ (if (!t.led&&!e.isEmpty)=true then _ else _) _ _ _;rw[f];simp only[LF,M0,Hi,↓reduceIte];exact GL$ GL h
end
theorem XT{a:Type}(f:Nat->Nat):∀(n k:Nat) (l:List a) (o:Array a),l.length=n->(pickOrder.go f n k l o).toList.Perm (o.toList++l):=by
 intro n;induction n with
 |zero=>intro k l o h;rw[List.length_eq_zero_iff.mp h];unfold pickOrder.go;simp
 |succ n i=>intro k l o h;unfold pickOrder.go;have H:f k % l.length < l.length:=RQ _ RU;rw[GN H];dsimp only;refine(i _ _ _ (by rw[NJ H,h];rfl)).trans ?_;rw[OF,Lc,List.singleton_append];refine List.Perm.append_left _ ?_;rw[Nj];refine List.perm_middle.symm.trans ?_;rw[Od,Ln]
theorem kn{a:Type}(f:Nat->Nat)(x:Array a):(pickOrder f x).toList.Perm x.toList:=by have h:=XT f x.size 0 x.toList (List.toArray []) (HE ..);simpa [pickOrder] using h
theorem Xu{a:Type}(x:Array a)(d:a):(List.range x.size).map (λp=>(x[p]?).getD d)=x.toList:=by
 refine OY RV λi b h=>?_;have H:i < x.size:=by simpa using h
 simp [H]
def mx(ord:List (Int×Value))(i:Nat)(v:Value):Prop:=∃e,ord[i]?=some e/\v=e.2
section
variable {prog:Program}{w:World}{A:Around}{E:Value->Shared->Prop}{s:Shared}
theorem qJ{S:Addr}(H:bX s.heap I f i S n e){Q:Value->Shared->Prop}(h:Q (.ref I) s):wpAny (model prog w) A (pyIter$ .ref I) Q E s:=by refine Nz H.is qf$ HP qf H.is Jz ?_$ JQ _;show wpAny _ _ (ret$ .ref I) _ _ s;exact GL #[_,Z,"set_iterator",_,H.is,j6.lookup,h]
theorem Yn(D:A.handled=none)(I S P:Addr)(l:S≠I)(m:P≠I){O oP:Obj}{y:List Nat}{c:Nat}(f:O.data= .set d G t)
  (u:t.fits d.size=true) (g:oP.data= .seq (y.map λ(i:Nat)=>rawInt i).toArray c) (n:y.Perm (List.range d.size)):
  WalksS prog w A I [I,S,P] [I] (λa b=>b=a) d.size (mx$ y.map λp=>(d[p]?).getD (0,.none))
   (λi s=>bX s.heap I (.ref P) i S d.size G/\s.heap.get? S=some O/\s.heap.get? P=some oP) where
 sub:=λb H=>by simp at H;simp [H]
 grefl:=λ_=>Z
 gtrans:=λ_ _ _ F J=>J.trans F
 frame:=λi s v T st _ k=>#[st.1.at λo e=>k I RV o e,k S RV _ st.2.1,k P RV _ st.2.2]
 item:=λi s Q E K st j=>by
  have B:y.length=d.size:=by rw[n.length_eq,Ng]
  have h:i < y.length:=by omega
  have C:y[i] < d.size:=List.mem_range.mp (n.mem_iff.mp$ Lx h);refine Ym (p:=y[i]) (hx:=(d[y[i]]).1) (x:=(d[y[i]]).2) st.1 st.2.1 f u st.2.2 g (by simp [h,rawInt]) (by simp [C]) λv q r=>?_;refine j _ _ #[d[y[i]],by simp [h,C],Z] #[q,?_,?_] #[λb o H e=>?_,Z,Z,Z,GV _]
  ·rw[r.2 S l];exact st.2.1
  ·rw[r.2 P m];exact st.2.2
  ·rw[r.2 b (λz=>H (by simp [z]))];exact e
 done:=λs Q E st j=>by
  have B:y.length=d.size:=by rw[n.length_eq,Ng]
  refine KP D st.1 st.2.1 f u st.2.2 g (by simp [B]) λv k=>j _ #[λb o H e=>k b o (λz=>H (by simp [z])) e,Z,Z,Z,GV _]
 self:=λ_ _ _ _ st j=>qJ st.1 j
theorem ZP(r:A.handled=none)(m:w.params.followText "set-order"=true)(I S:Addr)(l:S≠I){O:Obj}(h:O.data= .set c d t)
  (j:t.fits c.size=true):
  WalksS prog w A I [I,S] [I] (λa b=>b=a) c.size (mx (pickOrder (w.params.setOrder S d) c).toList)
   (λi s=>bX s.heap I (.int (0:Nat) 0) i S c.size d/\s.heap.get? S=some O) where
 sub:=λb H=>by simp at H;simp [H]
 grefl:=λ_=>Z
 gtrans:=λ_ _ _ u v=>v.trans u
 frame:=λi s n T st _ k=>#[st.1.at λo e=>k I RV o e,k S RV _ st.2]
 item:=λi s Q E D st f=>by
  have y:(pickOrder (w.params.setOrder S d) c).size=c.size:=by rw[<- HE,(kn _ _).length_eq,HE]
  have g:i < (pickOrder (w.params.setOrder S d) c).size:=by omega
  refine QB (x:=(pickOrder (w.params.setOrder S d) c)[i].2) (nx:=0) st.1 st.2 h j (λB C q=>Je m st.2 h j (by rw[I8 g];exact q)) λn q p=>?_;refine f _ _ #[(pickOrder (w.params.setOrder S d) c)[i],by rw[IY];exact I8 g,Z] #[q,?_] #[λb o H e=>?_,Z,Z,Z,GV _]
  ·rw[p.2 S l];exact st.2
  ·rw[p.2 b (λz=>H (by simp [z]))];exact e
 done:=λs Q E st f=>by
  have y:(pickOrder (w.params.setOrder S d) c).size=c.size:=by rw[<- HE,(kn _ _).length_eq,HE]
  refine qD r st.1 st.2 h j (λB C q=>Je m st.2 h j (by rw[ME RU];exact q)) λn k=>f _ #[λb o H e=>k b o (λz=>H (by simp [z])) e,Z,Z,Z,GV _]
 self:=λ_ _ _ _ st f=>qJ st.1 f
theorem Yo(p:Nat):SetTable.below (List.toArray [p]) 0=0:=by simp [SetTable.below,SetTable.below.go]
theorem Yp(p:Nat):SetTable.below (List.toArray [p]) (p+1)=1:=by simp [SetTable.below,SetTable.below.go]
theorem uI(G:A.handled=none)(u:w.params.followText "set-order"=false)(I S:Addr)(n:S≠I){O:Obj}(h:O.data= .set c L t)
  (g:t.fits c.size=true) (v:t.led=true) (y:c.size<=1):
  WalksS prog w A I [I,S] [I] (λa b=>b=a) c.size (mx c.toList)
   (λi s=>(∃j:Nat,bX s.heap I (.int j 0) i S c.size L/\(i=0->j=0)/\(i=1->∃p,t.place=(List.toArray [p])/\j=p+1))/\s.heap.get? S=some O) where
 sub:=λb d=>by simp at d;simp [d]
 grefl:=λ_=>Z
 gtrans:=λ_ _ _ K M=>M.trans K
 frame:=λi s B W st _ k=>#[let #[j,a,r]:=st.1;#[j,a.at λo e=>k I RV o e,r],k S RV _ st.2]
 item:=λi s Q E X st l=>by
  obtain⟨⟨j,H,J,C⟩,f⟩:=st;have N:i=0:=by omega
  subst N;cases J Z;have D:c.size=1:=by omega
  have P:t.place.size=1:=by simp only[SetTable.fits,Iv,beq_iff_eq]at g;omega
  obtain⟨p,m⟩:=Array.size_eq_one_iff.mp P;refine QB (x:=(c[0]'RU).2) (nx:=p+1) H f h g (λR T q=>JK u f h g v y (by rw[m,Yo,I8 RU];exact q)) λB q F=>?_;refine l _ _ #[c[0]'RU,by rw[IY];exact I8 RU,Z] #[#[_,q,λz=>by omega,λ_=>#[p,m,Z]],?_] #[λb o d e=>?_,Z,Z,Z,GV _]
  ·rw[F.2 S n];exact f
  ·rw[F.2 b (λz=>d (by simp [z]))];exact e
 done:=λs Q E st l=>by
  obtain⟨⟨j,H,J,C⟩,f⟩:=st;refine qD G H f h g (λR T q=>JK u f h g v y ?_) λB k=>l _ #[λb o d e=>k b o (λz=>d (by simp [z])) e,Z,Z,Z,GV _];by_cases z:c.size=0
  ·rw[ME (show c.size<=_ by omega)];exact q
  ·have D:c.size=1:=by omega
   obtain⟨p,U,V⟩:=C D;subst V;rw[U,Yp,ME (show c.size<=1 by omega)];exact q
 self:=λ_ _ _ _ st l=>let #[#[_,a,_],_]:=st;qJ a l
end
theorem z9{prog:Program}{w:World}(h:ElemsOf (PySem.strKind prog w) E)(i:Nat)(v:Value)(b:mx E i v):∃x t,(E.map λe=>lD e.2)[i]?=some x/\v= .str x t:=by obtain⟨e,H,rfl⟩:=b;obtain⟨⟨k,c,_⟩,_⟩:=h e (Hf H);obtain⟨t,a⟩:=Mc c;exact#[k,t,by rw[Hu,H];show some (lD e.2)=_;rw[a];rfl,a]
def yS(p:Program)(w:World)(s c:Shared)(S I:Addr)(L:List Str):Prop:=
 ∃(f:List Addr) (d:List Str) (P:Nat->Value->Prop) (St:Nat->Shared->Prop),(∀b o,s.heap.get? b=some o->c.heap.get? b=some o)/\c.gens=s.gens/\c.os=s.os/\s.toks<=c.toks/\
  s.heap.objs.size<=I/\I < c.heap.objs.size/\c.TypeIs (.ref I) "set_iterator"/\(∀b∈f,b=S∨s.heap.objs.size<=b)/\(∀A:Around,A.handled=none->WalksS p w A I f [I] (λa b=>b=a) d.length P St)/\St 0 c/\
  (∀i v,P i v->∃x t,d[i]?=some x/\v= .str x t)/\d.Perm L
section
variable {prog:Program}{w:World}{A:Around}{E:Value->Shared->Prop}{s:Shared}
theorem Yq{S:Addr}(V:cj prog w s.heap S L){Q:Value->Shared->Prop}(h:∀f I,yS prog w s f S I L->Q (.ref I) f):wpAny (model prog w) A (pyIter$ .ref S) Q E s:=by
 obtain⟨o,a,x,t,H,W,m,n,M,X,r,u,Y,N⟩:=V;have P:s.TypeIs (.ref S) "set":=#[o,H,W.1];have v:S < s.heap.objs.size:=GY H;refine Nz P NY$ HP NY P JO ?_$ PySem.F.args_set_iter_1 _;unfold Builtin.«frozenset.__iter__»;show wpAny _ _ (Builtin.Frozenset.sizeOf S >>= _) _ _ s;unfold Builtin.Frozenset.sizeOf;refine GK$ GK$ LO H m u$ GL ?_;unfold setDrawn;refine GK$ GK$ IQ H m u ?_;dsimp only;unfold setsByText;refine GK$ GK$ LG$ GL$ GL ?_;split
 ·rename_i z
  have B:(!(w.params.followText "set-order")&&(!t.plain&&decide (a.size > 1)))=true:=z;simp only[Iv,decide_eq_true_eq]at B;refine GK$ XO a.size (List.range a.size) s RV λy d G=>?_;have C:y.length=a.size:=by rw[G.length_eq,Ng]
  have O:((y.map λ(i:Nat)=>rawInt i).length)<=sizeLine:=by rw[GQ,C];exact MH r
  refine GK$ Oi (s:={ s with drawn:=d }) ?_ O;refine GK ?_;unfold setEpoch;refine GK$ IQ (GP _ H) m u$ GL ?_;refine GK$ HN$ GL #[_,Z,"set_iterator",_,#[_,GZ _ Z,Z],j6.lookup,h _ _ ?_];generalize J:s.heap.push { cls:=.type "tuple",data:=.seq (y.map λ(i:Nat)=>rawInt i).toArray }=g;have R:g.objs.size=s.heap.objs.size+1:=by rw[<- J,Ia]
  have gP:g.get? s.heap.objs.size=some { cls:=.type "tuple",data:=.seq (y.map λ(i:Nat)=>rawInt i).toArray }:=by rw[<- J];exact GZ _ Z
  have gS:g.get? S=some o:=by rw[<- J];exact GP _ H
  refine#[[g.objs.size,S,s.heap.objs.size],(y.map λp=>(a[p]?).getD (0,.none)).map λe=>lD e.2,mx$ y.map λp=>(a[p]?).getD (0,.none),
   (λi f=>bX f.heap g.objs.size (.ref s.heap.objs.size) i S a.size x/\f.heap.get? S=some o/\f.heap.get? s.heap.objs.size=some { cls:=.type "tuple",data:=.seq (y.map λ(i:Nat)=>rawInt i).toArray }),λb o e=>?_,Z,Z,GV _,?_,?_,#[_,GZ _ Z,Z],λb r=>?_,
   λT D=>?_,#[#[_,GZ _ Z,Z,Z],GP _ gS,GP _ gP],?_,?_]
  ·exact GP _ (by rw[<- J];exact GP _ e)
  ·show s.heap.objs.size<=g.objs.size;omega
  ·show g.objs.size < (g.push _).objs.size;rw[Ia];exact IB _
  ·simp only[II,HG,Mh]at r;rcases r with e |e |e
   ·subst e;exact .inr RU
   ·exact .inl e
   ·rw[e];exact .inr (GV _)
  ·have q:=Yn (prog:=prog) (w:=w) D g.objs.size S s.heap.objs.size (Hd (by rw[R];exact Lq v)) (Hd (by rw[R];exact IB _)) m u (oP:={ cls:=.type "tuple",data:=.seq (y.map λ(i:Nat)=>rawInt i).toArray }) (c:=0) Z G;simpa [C] using q
  ·refine z9 (prog:=prog) (w:=w)$ n.perm ?_;have q:=G.map λp=>(a[p]?).getD ((0:Int),Value.none);rwa [Xu]at q
  ·have q:=G.map λp=>(a[p]?).getD ((0:Int),Value.none);rw[Xu]at q;exact(q.map _).trans M
 ·rename_i z
  have B:¬(!(w.params.followText "set-order")&&(!t.plain&&decide (a.size > 1)))=true:=z;refine GK$ GL ?_;refine GK ?_;unfold setEpoch;refine GK$ IQ H m u$ GL ?_;refine GK$ HN$ GL #[_,Z,"set_iterator",_,#[_,GZ _ Z,Z],j6.lookup,h _ _ ?_];have k:∀b∈[s.heap.objs.size,S],b=S∨s.heap.objs.size<=b:=λb r=>by
   simp only[II,HG,Mh]at r;rcases r with e |e
   ·subst e;exact .inr (GV _)
   ·exact .inl e
  have l:∀U:Obj,s.heap.objs.size < (s.heap.push U).objs.size:=λU=>by rw[Ia];exact IB _
  cases K:w.params.followText "set-order" with
  |true=>
   have pl:(pickOrder (w.params.setOrder S x) a).toList.length=a.size:=by rw[(kn _ _).length_eq,HE]
   refine#[[s.heap.objs.size,S],(pickOrder (w.params.setOrder S x) a).toList.map λe=>lD e.2,mx (pickOrder (w.params.setOrder S x) a).toList,
    (λi f=>bX f.heap s.heap.objs.size (.int (0:Nat) 0) i S a.size x/\f.heap.get? S=some o),λb o e=>GP _ e,Z,Z,GV _,GV _,l _,#[_,GZ _ Z,Z],k,
    λT D=>?_,#[#[_,GZ _ Z,Z,Z],GP _ H],?_,?_]
   ·have q:=ZP (prog:=prog) (w:=w) D K s.heap.objs.size S (Hd v) m u;rw[GQ,pl];exact q
   ·exact z9 (prog:=prog) (w:=w)$ n.perm$ kn _ _
   ·exact((kn _ _).map _).trans M
  |false=>
   have hs:a.size<=1:=by
    rw[K]at B;rcases N with e |e
    ·rw[e]at B;simp at B;exact B
    ·omega
   refine#[[s.heap.objs.size,S],a.toList.map λe=>lD e.2,mx a.toList,
    (λi f=>(∃j:Nat,bX f.heap s.heap.objs.size (.int j 0) i S a.size x/\(i=0->j=0)/\(i=1->∃p,t.place=(List.toArray [p])/\j=p+1))/\f.heap.get? S=some o),λb o e=>GP _ e,Z,Z,GV _,GV _,l _,#[_,GZ _ Z,Z],k,
    λT D=>?_,#[#[0,#[_,GZ _ Z,Z,Z],λ_=>Z,λz=>by cases z],GP _ H],?_,?_]
   ·have q:=uI (prog:=prog) (w:=w) D K s.heap.objs.size S (Hd v) m u (by rw[Y,K];rfl) hs;rw[GQ,HE];exact q
   ·exact z9 (prog:=prog) (w:=w) n
   ·exact M
theorem qE:∀(V:List Value) (S:List Str),V.length=S.length->(∀(i:Nat) (v:Value),V[i]?=some v->∃x t,S[i]?=some x/\v=Value.str x t)->StrsAre V S
 | [],[],_,_=>.nil
 | [],_::_,h,_=>by cases h
 |_::_,[],h,_=>by cases h
 |v::V,y::S,h,k=>by obtain⟨x,t,e,rfl⟩:=k 0 v Z;cases e;exact .cons y t$ qE V S (by simpa using h) λi u H=>k (i+1) u (by simpa using H)
theorem Qb{S:Addr}(hh:A.handled=none)(y:cj prog w s.heap S L){Q:List Value->Shared->Prop}
  (h:∀a V g,s.heap.objs.size<=a.heap.objs.size->(∀b o,s.heap.get? b=some o->a.heap.get? b=some o)->a.gens=s.gens->a.os=s.os->s.toks<=a.toks->StrsAre V g->g.Perm L->Q V a):wpAny (model prog w) A (collect$ .ref S) Q E s:=by
 have n:L.length < scanBound:=by obtain⟨o,es,ep,t,j,M,hd,h0,u,h1,k,hf,hl,h2⟩:=y;rw[<- u.length_eq,GQ,HE];exact k
 unfold collect;refine GK$ Oh$ IA No ?_;rw[Ig Nn];show wpAny _ A.in1 (newList [] >>= λl=>again (.builtin "list.__iadd__" #[[l,.ref S],[]])) _ _ s;refine GK$ HN$ GL #[Lj LC _,IA NF ?_];rw[Ig LC];show wpAny _ A.in1 (Builtin.List.listExtendWith (.ref s.heap.objs.size) (.ref S)$ .ref s.heap.objs.size) _ _ _;unfold Builtin.List.listExtendWith;have p:S < s.heap.objs.size:=by obtain⟨o,_,_,_,j,_⟩:=y;exact GY j
 generalize x:s.heap.push { cls:=.type "list",data:=.seq ([]:List Value).toArray }=H;have gl:H.get? s.heap.objs.size=some { cls:=.type "list",data:=.seq ([]:List Value).toArray }:=by rw[<- x];exact GZ _ Z
 have R:cj prog w H S L:=y.at λo e=>by rw[<- x];exact GP _ e
 have gk:∀b o,s.heap.get? b=some o->H.get? b=some o:=λb o e=>by rw[<- x];exact GP _ e
 have T:Shared.TypeIs { s with heap:=H } (.ref S) "set":=by obtain⟨o,_,_,_,j,M,_⟩:=R;exact#[o,j,M.1]
 refine GK$ IZ T ?_;have n1:Builtin.List.listSameRef (.ref s.heap.objs.size) (.ref S)=false:=by simp only[Builtin.List.listSameRef,beq_eq_false_iff_ne];exact Ic p
 have n2:(Value.type "set"==Value.type "list")=false:=by decide
 have n3:(Value.type "set"==Value.type "tuple")=false:=by decide
 simp only[n1,n2,n3,N5,Hi,Ix];refine GK$ Yq (s:={ s with heap:=H }) R λr I B=>?_;obtain⟨fp,g,P,St,K,kg,ko,kt,C,h3,h4,D,W,st,hv,u⟩:=B;have G:H.objs.size=s.heap.objs.size+1:=by rw[<- x,Ia]
 have f:r.TypeIs (.ref S) "set":=by obtain⟨o,j,hc⟩:=T;exact#[o,K _ _ j,hc]
 refine GK$ Ht ?_;unfold Builtin.List.listLengthHint;refine GK$ IU f PySem.F.slot_set_len.lookup ?_
 wp_delta
 refine GK$ Ll (b:=true) f sub_set_self ?_;show wpAny _ A.in1 (typeOf (Value.ref S) >>= _) _ _ _;refine GK$ IZ f$ GL ?_;rw[Hm RT];refine GK$ J' ?_;have U:=K _ _ gl;refine GK ?_;show wpAny _ A.in1 (updateSeq s.heap.objs.size (·.push .none) >>= λ_=>updateSeq s.heap.objs.size (·.pop)) _ _ _;refine GK$ M5 U Z ?_;have X:=HK (Obj.mapSeq (·.push Value.none)) U Z;refine M5 X Z ?_;have g3:=HK (Obj.mapSeq (·.pop)) X Z;have N:¬s.heap.objs.size∈fp:=λm=>by
  rcases D _ m with e |e
  ·exact absurd p (by rw[<- e];exact Io _)
  ·have e':H.objs.size<=s.heap.objs.size:=e;omega
 have O:∀b o,b≠s.heap.objs.size->r.heap.get? b=some o->((r.heap.update s.heap.objs.size$ Obj.mapSeq (·.push Value.none)).update s.heap.objs.size$ Obj.mapSeq (·.pop)).get? b=some o:=
  λb o k e=>(Hk _ _$ HI k).trans ((Hk _ _$ HI k).trans e)
 have Y:=W A.in1 (by simpa using hh);have hn:g.length<=sizeLine:=by rw[u.length_eq];exact MH n
 refine GL #[Lj Nr _,O6 Y hn _ N _ g.length 0 _ _ _ Z (Hg _) (Y.frame 0 r _ r.toks st (GV _) λb k o e=>O b o (λz=>N (z▸k)) e) g3 (Pm P) λa J c m gS d=>?_];show wpAny _ A (load s.heap.objs.size >>= _) _ _ a;refine GK$ Pq gS$ GL$ h a J.toList g (Ld$ GY gS) (λb o e=>?_) ?_ ?_ ?_ ?_ u
 ·have ne:b≠s.heap.objs.size:=Hd (GY e);refine m.heap b o ?_$ O b o ne$ K b o$ gk b o e;simp only[II,HG,Mh,not_or];refine#[ne,λz=>?_];have q:s.heap.objs.size+1<=I:=G▸C;have q2:=GY e;rw[z]at q2;exact absurd (He (Lq q2) q)$ Io _
 ·exact m.gens.trans kg
 ·exact m.os.trans ko
 ·exact Hh kt m.toks
 ·refine qE _ _ (by rw[HE,d.1]) λi v e=>hv i v (d.2 i v (by rwa [IY]at e))
end
section
variable {prog:Program}{w:World}{A:Around}{E:Value->Shared->Prop}{s:Shared}
theorem Xf{S:Addr}(z:A.handled=none)(B:cj prog w s.heap S L)(j:L.length < 64){Q:Value->Shared->Prop}
  (h:∀f a c v i,s.heap.objs.size<=a->(∀b o,s.heap.get? b=some o->f.heap.get? b=some o)->f.gens=s.gens->f.os=s.os->f.heap.get? a=some (seqObj "list" v c)->StrsAre v.toList i->i.Perm L->sortedS i=true->Q (.ref a) f):
  wpAny (model prog w) A (call (.builtin "sorted") [.ref S]) Q E s:=by
 refine Calls.call_function_entry kind_sorted plain_sorted entry_sorted (args_sorted1 _) ?_;unfold Builtin.«sorted»;refine GK (m:=checkCount "sorted" 1 1 _)$ GL ?_;refine GK$ Qb (by simpa using z) B λd v i K k C D P H r=>?_;have F:v.length < 64:=by rw[<- _L.StrsAre.len H,r.length_eq];exact j
 refine GK$ wpAny_newList ?_ (by have q:sizeLine=1000000000∨64<=sizeLine:=.inr RT;omega);have g:=GZ d.heap (o:=seqObj "list" v.toArray 0) Z;refine GK$ Ht$ HP slot_list_sort #[_,g,Z] entry_list_sort (list_sort_treeK strKind_oneLt g H.keysOf (λV t R e=>keyKind_strs (by rw[<- e];exact H)) F λl G I=>#[_,Z,?_]) (args_list_sort _);obtain⟨n,u,J,M⟩:=sorted_out_str H G I;generalize (arrOf l).map (·.2)=out at u ⊢;obtain⟨c,N⟩:=sortedHeap_at (out:=out) g;have O:∀b o,s.heap.get? b=some o->(sortedHeap (d.heap.push$ seqObj "list" v.toArray 0) d.heap.objs.size v out).get? b=some o:=by
  intro b o e;have x:=k b o e;have y:b < d.heap.objs.size:=GY x;have p:b < (d.heap.push$ seqObj "list" v.toArray 0).objs.size:=by rw[size_push'];exact Lq y
  rw[sortedHeap_old (Hd y) p];exact GP _ x
 exact GL #[_,Z,h { d with heap:=sortedHeap (d.heap.push$ seqObj "list" v.toArray 0) d.heap.objs.size v out } d.heap.objs.size c out n K O C D N u (J.trans r) M]
end
theorem Jf(h:StrsAre v s):aw (s.map V.str) v:=by
 induction h with
 |nil=>exact .nil
 |cons y t _ i=>exact .cons #[t,Z] i
noncomputable def EA(P:Program)(w:World)(a:Addr)(L:List Str):HO:=.ext λh=>cj P w h a L
section
variable {X:Cx}
theorem qc(i:X.calm=true):dm X (.builtin "sorted") (λx H Q=>∃(p:Addr) (L:List Str),x=[.ref p]/\H p=some (EA X.prog X.w p L)/\L.length < 64/\
  ∀l S,H l=none->S.Perm L->L.Nodup->sortedS S=true->Q (.ref l) (af H l$ .lst$ S.map V.str)):=by
 intro P s B H x U Q I r h;obtain⟨p,L,rfl,j,d,q⟩:=h;obtain⟨u,rfl,R⟩:=eI r;cases R;obtain⟨f,_,_⟩:=I.hok p _ j;have b:L.Nodup:=by obtain⟨_,_,_,_,_,_,_,_,_,b,_⟩:=f;exact b
 refine Xf (I.ok.hd i) f d λm a c v S e k K o t y g A=>?_;have len:(S.map V.str).length<=sizeLine:=by rw[GQ,g.length_eq];exact Hh (Ld d) RT
 have n:aN X.prog X.w (af H a$ .lst$ S.map V.str) m.heap a (.lst$ S.map V.str):=#[len,v.toList,c,Jf y,t];refine#[.ref a,_,I.call' (ch:=[]) o (Un.laid k e$ I.hok.fresh e) (I.hok.laid k e n) (by rw[K];exact I.bare) (λ_ z=>nomatch z),Z,q _ _ (I.hok.fresh e) g b A]
theorem Xg:dm X (.builtin "sorted") (λx H Q=>∃(p:Addr) (a:List Str),x=[.ref p]/\aB X.K H p (a.map V.str)/\a.length < 64/\
  ∀l S,H l=none->S.Perm a->sortedS S=true->Q (.ref l) (af H l$ .lst$ S.map V.str)):=by
 intro P s v H x U Q I r h;obtain⟨p,a,rfl,f,b,q⟩:=h;obtain⟨u,rfl,R⟩:=eI r;cases R;obtain⟨i,g,j,y⟩:=I.list f;have d:=zY g;have k:i.length=a.length:=(_L.StrsAre.len d).symm;refine sorted_strs j.isList d (by rw[k];exact b) λo S m A n=>?_;obtain⟨c,t⟩:=sortedAll_at s.heap i o;have len:(S.map V.str).length<=sizeLine:=by rw[GQ,A.length_eq];exact Hh (Ld b) RT
 refine#[.ref$ s.heap.objs.size+1,_,I.laid (t':=s.toks) (λ_ _ e=>sortedAll_old e) (IL _) (show aN X.prog X.w _ _ _ (.lst$ S.map V.str) from #[len,o.toList,c,Jf m,t]),Z,q _ _ (I.hok.fresh$ IL _) A n]
end
theorem Y2:mroOf (.type "reversed")=pure [.type "reversed",.type "object"]:=by rw[mroOf_type];kernel_rfl
theorem KQ:typeLookup (.type "reversed") "__new__"=pure (some$ .builtin "reversed.__new__"):=by rw[Iz,HW];kernel_rfl
theorem Qc:Slot "reversed" "__init__" "object.__init__":=by
 refine .of (owner:="object") (n:="__init__") ?_ RW RW RW ?_ ?_
 ·rw[Iz,HW];kernel_rfl
 ·first |exact .inl RW |exact .inr RW
 ·rw[IP];kernel_rfl
theorem Yr:TypeCalled "reversed" "reversed.__new__" "object.__init__":=by refine#[RW,RW,#[_,_,Y2],madeBy_type Y2 KQ RW,RW,?_,Qc];rw[IP];kernel_rfl
theorem Xh(a:Value):checkTypeCall "reversed" #[[a],[]]=pure ():=by kernel_rfl
theorem XU(a:Value):checkBuiltinCall "reversed.__new__" #[[.type "reversed",a],[]]=pure ():=by kernel_rfl
theorem Qd:entryFor table "reversed.__new__"=some Builtin.«reversed.__new__»:=MV (by kernel_rfl)
theorem xG:isSubtype (.type "reversed") (.type "reversed")=pure true:=by rw[IP];kernel_rfl
theorem Xi:typeLookup (.type "tuple") "__reversed__"=pure none:=by rw[Iz,HW];kernel_rfl
theorem KR:isSubtype (.type "tuple") (.type "dict")=pure false:=by rw[IP];kernel_rfl
noncomputable def revObj(t:Addr)(n:Int):Obj:={ cls:=.type "reversed",data:=.fields (List.toArray [.ref t,.int (n - 1) 0]) }
section
variable {prog:Program}{w:World}{A:Around}{E:Value->Shared->Prop}{s:Shared}
theorem px{Q:Value->Shared->Prop}(H:IsTup s.heap t i)(c:(i.size:Int) < 2 ^ 63)
  (h:Q (.ref s.heap.objs.size) { s with heap:=s.heap.push (revObj t i.size),toks:=s.toks+1+1 }):wpAny (model prog w) A (call (.type "reversed") [.ref t]) Q E s:=by
 refine OM (S:=λ_ R a=>a=s/\R (.ok$ .ret$ .ref s.heap.objs.size) { s with heap:=s.heap.push (revObj t i.size),toks:=s.toks+1+1 }) Yr RT (Xh _) (XU _) (λo=>Me o _) Qd
  (.of_wp λp W f R a d=>?_) #[Z,#[_,GZ _ Z,Z],h]
 obtain⟨rfl,e⟩:=d;unfold Builtin.«reversed.__new__» Builtin.SmallTypes.newClass;refine GK ?_;dsimp only;refine GK$ GL ?_;simp only[LF,Hi,Ix];refine GK$ MF xG ?_;simp only[LF,Hi,Ix];refine GL ?_;refine GK (m:=Builtin.SmallTypes.refuseKeywords _ _ _)$ GL ?_;refine GK (m:=checkCount "reversed" 1 1 _)$ GL ?_;dsimp only;refine GK$ IU H.typeIs Xi ?_;dsimp only;refine GK ?_;show wpAny _ _ (isInstance (.ref t) (.type "dict") >>= _) _ _ _;refine GK$ Ll (b:=false) H.typeIs KR ?_;simp only[Hi,Ix];refine GK$ IU H.typeIs PyProof.Rows.slot_tuple_getitem.lookup ?_;dsimp only;rw[Hm RW];refine GL ?_;simp only[LF,Hi,Ix];refine GK$ len_tuple H c ?_;refine GK (m:=asInt? _)$ GL ?_;dsimp only;show wpAny _ _ (newObj (.type "reversed") (.fields [Value.ref t,rawInt ((i.size:Int) - 1)].toArray) >>= _) _ _ _;exact GK$ HN$ GL #[_,Z,e]
end
theorem zM:Slot "reversed" "__next__" "reversed.__next__":=by
 refine .of (owner:="reversed") (n:="__next__") ?_ RW RW RW ?_ ?_
 ·rw[Iz,HW];kernel_rfl
 ·first |exact .inl RW |exact .inr RW
 ·rw[IP];kernel_rfl
theorem qF:Slot "reversed" "__iter__" "reversed.__iter__":=by
 refine .of (owner:="reversed") (n:="__iter__") ?_ RW RW RW ?_ ?_
 ·rw[Iz,HW];kernel_rfl
 ·first |exact .inl RW |exact .inr RW
 ·rw[IP];kernel_rfl
theorem KS:entryFor table "reversed.__next__"=some Builtin.«reversed.__next__»:=MV (by kernel_rfl)
theorem KU:entryFor table "reversed.__iter__"=some Builtin.«dict_keyiterator.__iter__»:=by refine Nb (id':="dict_keyiterator.__iter__") ?_ Z RW ?_<;>kernel_rfl
theorem Qe(a:Value):argsOk "reversed.__next__" #[[a],[]]:=by unfold argsOk;kernel_rfl
theorem Qg(a:Value):argsOk "reversed.__iter__" #[[a],[]]:=by unfold argsOk;kernel_rfl
def dn(h:Heap)(I t:Addr)(k:Int):Prop:=∃o,h.get? I=some o/\o.cls= .type "reversed"/\o.data= .fields (List.toArray [.ref t,.int k 0])
theorem dn.at{H:Heap}(x:dn h I t k)(e:∀o,h.get? I=some o->H.get? I=some o):dn H I t k:=let #[o,a,r]:=x;#[o,e o a,r]
theorem dn.is{s:Shared}(x:dn s.heap I t k):s.TypeIs (.ref I) "reversed":=let #[o,h,H,_]:=x;#[o,h,H]
section
variable {prog:Program}{w:World}{A:Around}{E:Value->Shared->Prop}{s:Shared}
theorem Xv(H:dn s.heap I t k)
  (h:wpAny (model prog w) A.in1 (Builtin.«reversed.__next__» #[[.ref I],[]]) (λf S=>∃v,f= .done (.ret v)/\Q (some v) S) (λe S=>S.TypeIs e "StopIteration"/\Q none S) s):
  wpAny (model prog w) A (pyNext$ .ref I) Q E s:=by
 unfold pyNext;refine GK$ Li$ HL (name:=Str.ofString "__next__") H.is zM$ HP zM H.is KS ?_$ Qe _;refine Ib h (λf S q=>?_) λe S q=>?_
 ·obtain⟨v,e,q⟩:=q;exact#[v,e,GL q]
 ·exact GK$ Ll (T:="StopIteration") (b:=true) q.1 Na$ GL q.2
theorem Dx{I t:Addr}{k:Nat}{items:Array Value}{x:Value}{Q:Option Value->Shared->Prop}(H:dn s.heap I t k)(c:IsTup s.heap t items)(d:items[k]?=some x)(e:(items.size:Int) < 2 ^ 63)
  (f:∀b,dn b I t ((k:Int) - 1)->Heap.SameBut I s.heap b->Q (some x) { s with heap:=b,toks:=s.toks+1 }):wpAny (model prog w) A (pyNext$ .ref I) Q E s:=by
 refine Xv H ?_;obtain⟨o,a,g,h⟩:=H;have i:k < items.size:=(Array.getElem?_eq_some_iff.mp d).1;show wpAny _ _ (field (.ref I) 0 >>= _) _ _ s;refine GK$ HC a h (x:=.ref t) Z$ GK$ HC a h (x:=.int k 0) Z ?_;dsimp only;rw[Ho RU];refine GK$ IU c.typeIs PyProof.Rows.slot_tuple_getitem.lookup ?_;simp only[On,Hi,Ix];refine GK$ wpAny_mkInt$ GK$ Li ?_;refine getItem_tuple (s:={ s with toks:=s.toks+1 }) c RU RU (j:=k) ?_ d ?_
 ·unfold seqIndex?;simp;omega
 refine GK$ HC (s:={ s with toks:=s.toks+1 }) a h (x:=.int k 0) Z ?_;dsimp only;refine GK$ HV a h RV$ GL #[x,Z,f _ ?_$ IJ ..];exact#[_,HK _ a$ Ip$ HJ h _,(LX ..).trans g,by rw[HJ h];simp [rawInt]]
theorem ZQ(f:A.handled=none){Q:Option Value->Shared->Prop}(h:dn s.heap I t (-1))
  (g:∀a,(∀b o,b≠I->s.heap.get? b=some o->a.get? b=some o)->Q none { s with heap:=a }):wpAny (model prog w) A (pyNext$ .ref I) Q E s:=by
 refine Xv h ?_;obtain⟨o,c,j,H⟩:=h;show wpAny _ _ (field (.ref I) 0 >>= _) _ _ s;refine GK$ HC c H (x:=.ref t) Z$ GK$ HC c H (x:=.int (-1) 0) Z ?_;dsimp only;rw[Hm RT];refine GK$ J'$ GK ?_;show wpAny _ _ (setField (.ref I) 1 (rawInt (-1)) >>= λ_=>setField (.ref I) 0 .none) _ _ _;refine GK$ HV c H RV ?_;refine HV (HK _ c$ Ip$ HJ H _) (HJ H _) RV ?_;refine GK ?_;refine JT (s:={ s with heap:=_ }) (by simpa using f) λa e k T=>#[T,g a λb o d i=>k b o ?_];exact(Hk _ _$ HI d).trans ((Hk _ _$ HI d).trans i)
theorem yp(H:dn s.heap I t k){Q:Value->Shared->Prop}(h:Q (.ref I) s):wpAny (model prog w) A (pyIter$ .ref I) Q E s:=by refine Nz H.is qF$ HP qF H.is KU ?_$ Qg _;show wpAny _ _ (ret$ .ref I) _ _ s;exact GL #[_,Z,"reversed",_,H.is,zM.lookup,h]
end
theorem JL:entryFor table "dict.update.loop"=some Builtin.«dict.update.loop»:=MV (by kernel_rfl)
theorem zH:plainId "dict.update.loop"=true:=by decide+kernel
section
variable {X:Cx}{o lo hi:Expr}{to tl th:TE}{pos p2:Pos}
inductive Dq(v:V)(h:St)(Q:St->Hp->Prop)(e a c:V)(d:Hp):Prop
 |mk(l b f g i j:_)(_:e= .ref l)(_:v= .ref b)(_:a= .int i)(_:c= .int j)(_:d l=some (.lst f))(_:d b=some (.lst g))(_:l≠b)(_:0<=i)(_:i<=j)(_:j<=(f.length:Int))(_:f.length+g.length<=sizeLine)(_:Q h (af d l (.lst (f.take i.toNat++g++f.drop j.toNat))))
def Gk(to tl th:TE):TG:=λv b H Q=>to b H λO h=>tl b h λa c=>th b c (Dq v b Q O a)
theorem su(n:PE X o to)(t:PE X lo tl)(w:PE X hi th)
  (A:∀v,assign (.Subscript o (.Slice (some lo) (some hi) none p2) pos) X.env v=(do
   let O <- holding [v] (eval o X.env)
   let c <- holding [v,O] (eval (.Slice (some lo) (some hi) none p2) X.env)
   standAt pos
   holding [v,O,c] (setItem O c v)
   release [c,v,O] []):=by intro _;rfl):PG X (.Subscript o (.Slice (some lo) (some hi) none p2) pos) (Gk to tl th):=by
 intro p s a H v u Q I r h;rw[A];refine GK$ Ht$ aK (n p s a H _ I h) λO B d=>?_;obtain⟨x,C,D,R,E⟩:=d;refine GK$ Ht ?_;refine wpAny_Slice$ aK (t p B a C _ D E) λV F #[y,G,J,K,L]=>aK (w p F a G _ J L) λm S f=>?_;obtain⟨z,M,N,P,l,b,xs,ys,i,j,T,U,W,Y,h1,h2,g,h0,k,hj,hz,q⟩:=f;subst T U W Y;cases (show O=Value.ref l from R);cases (show u=Value.ref b from r);refine GL ?_;have I4:ap X p a M { S with heap:=S.heap.push { cls:=.type "slice",data:=.fields (List.toArray [V,m,.none]) } }:=N.kept (t':=S.toks) λb o e=>GP _ e;refine GK$ Ls$ GK$ Ht ?_;exact ZB I4 h1 h2 g (Nv S.heap V m .none) K P h0 k hj hz λs5 I5=>wpAny_release #[a,_,I5,q]
end
end _L
namespace _L
open PySem PySem.Spec PyProof.Rows Builtin Builtin.Str
section
variable {prog:Program}{w:World}{A:Around}{E:Value->Shared->Prop}{s:Shared}
theorem Jh{lo:Option Int}{Q:Value->Shared->Prop}(H:IsTup s.heap t i)(d:s.heap.IsSliceOf e v j .none)(p:IsPart v lo)(P:IsPart j f)
  (g:HT.sIx i.size 0 lo=0/\HT.sIx i.size i.size f=i.size) (h:Q (.ref t) s):wpAny (model prog w) A (getItem (.ref t)$ .ref e) Q E s:=by
 obtain⟨os,a,b,k⟩:=id d;have c:s.TypeIs (.ref e) "slice":=#[os,a,b];unfold getItem;try with_reducible refine Ht ?_
 first |refine GK (GL ?_) |skip
 refine GK$ Ny H.typeIs RT ?_;refine GK (HL (name:=Str.ofString "__getitem__") H.typeIs I0
  (HP I0 H.typeIs RC ?_$ RI _ _))
 show wpAny _ _ (Builtin.Tuple.tupleItemsOf (.ref t) >>= _) _ _ s;refine GK$ Ry H ?_;refine GK$ IZ c ?_;rw[Hm RT];refine GK$ HT.sliceApplied_gen d p P ?_;show wpAny _ _ (if (((HT.sIx i.size 0 lo:Nat):Int)==0&&(1:Int)==1&&(HT.sIx i.size i.size f - HT.sIx i.size 0 lo)==i.size)=true then _ else _) _ _ s;rw[g.1,g.2,Hm RV];unfold Builtin.Tuple.tupleIsExact;refine GK$ GK$ IZ H.typeIs$ GL ?_;rw[Hm RT];first
  |exact J' (GL #[_,Z,GL h])
  |exact GK (J' (GL #[_,Z,GL h]))
  |exact GK (GL (GL #[_,Z,GL h]))
end
section
variable {X:Cx}
inductive sH(x y:V)(H:Hp)(Q:VK):Prop
 |mk(a b c d:_)(_:x= .ref a)(_:y= .ref b)(_:H a=some (.tup c))(_:H b=some (.tup d))(_:c.length+d.length<=sizeLine)(_:∀r H',H' r=some (.tup (c++d))->ae H H'->Q (.ref r) H')
theorem jV:eh X (binaryOp .Add) sH:=by
 intro P s G H x y v u Q I r R h;obtain⟨a,b,m,Y,rfl,rfl,d,f,J,q⟩:=h;have t:=ax.of (K:=X.K) d;have w:=ax.of (K:=X.K) f;by_cases z:m=[]
 ·subst z;cases r;cases R;obtain⟨l,L,M,_⟩:=I.tuple t;obtain⟨i,r2,N,_⟩:=I.tuple w;have O:l=[]:=L.nil_iff.mpr Z;subst O;obtain⟨⟨T,U,A,V⟩,B,C,n,E⟩:=id M;obtain⟨⟨F,D,data2,S⟩,g,j,W,k⟩:=id N;simp only at C E j k;subst C E j k;exact OL #[_,B,Z] #[_,g,Z] NM Oq Mu Mn (Ml _ _)
   (tuple_addW0 a b ([]:List Value).toArray i.toArray n W U D V S Z) #[B,g,.ref b,H,I,Z,q b H f$ ae.refl H]
 ·refine ww P s G H _ _ v u Q I r R #[a,b,m,Y,Z,Z,t,w,z,J,λe=>?_,λ_ p np=>?_]
  ·subst e;exact q a H (by rw[Md];exact d)$ ae.refl H
  ·exact q p _ jc λc o e=>by rw[ji$ jm e np];exact e
inductive Bv(x:V)(c b:Option Int)(H:Hp)(Q:VK):Prop
 |mk(a d:_)(_:x= .ref a)(_:H a=some (.tup d))(_:∀r H',H' r=some (.tup (aD d c b))->ae H H'->Q (.ref r) H')
theorem zj:Ez X Bv:=by
 intro P s u H x v V w lo j S Q I R k l m h;obtain⟨a,b,rfl,d,q⟩:=h;have n:=ax.of (K:=X.K) d;by_cases g:HT.sIx b.length 0 lo=0/\HT.sIx b.length b.length j=b.length
 ·cases R;obtain⟨i,r,t,y⟩:=I.tuple n;have f:i.toArray.size=b.length:=by rw[GX];exact r.length.symm
  refine#["tuple",_,PyProof.Rows.slot_tuple_getitem.lookup,t.typeIs,?_];refine Jh t k l m (by rw[f];exact g) #[.ref a,H,I,Z,q a H ?_$ ae.refl H];rw[d];unfold aD;rw[g.1,g.2,Pl,Nh,HY]
 ·exact BR P s u H _ v V w lo j S Q I R k l m #[a,b,Z,n,g,λp N=>q p _ jc λc o e=>by rw[ji$ jm e N];exact e]
end
end _L
namespace _L
open PySem PySem.Spec PyProof.Rows
theorem x6{G:Bool->Hp->Prop}(y:G true H)(n:b=false->G b H):G b H:=by
 cases b
 ·exact n Z
 ·exact y
theorem aT{A:Prop}(h:∀G:Prop,(A->G)->G):A:=h A λz=>z
section
variable {t u:TS}{D:aW}{σ:St}{H:Hp}
theorem eP(h:∀E:aW,(∀a b,u D a b->E.nx a b)->t E σ H):gj t u D σ H:=h { D with nx:=u D } λ_ _ h=>h
theorem ai(h:∀F:St->Hp->Prop,(∀a b,u D a b->F a b)->t { D with nx:=F } σ H):gj t u D σ H:=h _ λ_ _ h=>h
theorem nE{c:TT}(h:∀F:Bool->Hp->Prop,(∀b a,(if b=true then t D σ a else u D σ a)->F b a)->c σ H F):lv c t u D σ H:=h _ λ_ _ x=>x
theorem rf{c:TT}(h:∀F:Bool->Hp->Prop,(∀a,t D σ a->F true a)->(∀a,u D σ a->F false a)->c σ H F):lv c t u D σ H:=by
 refine h _ (λa x=>?_) λa x=>?_
 ·show if true=true then _ else _;rw[Hm Z];exact x
 ·show if false=true then _ else _;rw[Ho RT];exact x
theorem dq(R:St->Hp->Prop)(c:∀E:aW,E.rt=D.rt->(∀a b,R a b->E.nx a b)->t E σ H)(d:∀a b,R a b->D.nx a b):Ek t D σ H:=#[R,c { D with nx:=R } Z λ_ _ h=>h,d]
theorem uK{c:TT}{T:TS}(W:Nat->St->Hp->Prop)(d:Nat)(e:W d σ H)
  (f:∀m σ H,∀E:aW,E.rt=D.rt->(∀M a b,M < m->W M a b->E.nx a b)->∀F:Bool->Hp->Prop,(∀b,T E σ b->F true b)->(∀b,D.nx σ b->F false b)->∀G:Prop,(c σ H F->G)->W m σ H->G):uu c T D σ H:=by
 refine#[W,#[d,e],λm σ H w=>?_];refine f m σ H { D with nx:=λa b=>∃M,M < m/\W M a b,ct:=λa b=>∃M,M < m/\W M a b,bk:=D.nx } Z (λM a b l g=>#[M,l,g]) _ (λb x=>?_) (λb x=>?_) _ (λz=>z) w
 ·show if true=true then _ else _;rw[Hm Z];exact#[_,λ_ _ h=>h,x]
 ·show if false=true then _ else _;rw[Ho RT];exact x
def ou(J:It)(g:TG)(T:TS)(D:aW)(σ:St)(H:Hp):Prop:=∃W:Nat->Nat->St->Hp->Prop,(∃m,W 0 m σ H)/\∀i m σ H,W i m σ H->
 (J.stop i H/\D.nx σ H)∨(J.go i H/\∃N:St->Hp->Prop,(∀a h,N a h->∃M,M < m/\W (i+1) M a h)/\∀x h,J.yld i H x h->g x σ h λb c=>T { D with nx:=N,ct:=N,bk:=D.nx } b c)
theorem dN{w:TI}(h:∀F:It->Hp->Prop,(∀J a,ou J g T D σ a->F J a)->w σ H F):Cb w g T D σ H:=h _ λ_ _ z=>z
theorem Gx{g:TG}{Q:St->Hp->Prop}(h:∀F:St->Hp->Prop,(∀a b,Q a b->F a b)->g x σ H F):g x σ H Q:=h _ λ_ _ z=>z
theorem zE{lo:Int}{g:TG}{T:TS}{D:aW}{σ:St}{H:Hp}(Pv:Nat->St->Hp->Prop)(d:Pv 0 σ H)
  (e:∀E:aW,E.rt=D.rt->∀i σ H,i < n->(∀a c,Pv (i+1) a c->E.nx a c)->∀G:Prop,((g (.int$ lo+i) σ H λb f=>T E b f)->G)->Pv i σ H->G) (j:∀σ H,Pv n σ H->D.nx σ H):ou (uZ lo n) g T D σ H:=
 Qq Pv d (λi σ H k p=>e { D with nx:=Pv (i+1),ct:=Pv (i+1),bk:=D.nx } Z i σ H k (λ_ _ h=>h) _ (λz=>z) p) j
theorem zS{K:Frag}{a:Addr}{xs:List V}{g:TG}{T:TS}{D:aW}{σ:St}{H:Hp}(Pv:Nat->St->Hp->Prop)(e:Pv 0 σ H)(f:∀i σ H,i<=xs.length->Pv i σ H->aB K H a xs)
  (j:∀E:aW,E.rt=D.rt->∀i x σ H,xs[i]?=some x->(∀b d,Pv (i+1) b d->E.nx b d)->∀G:Prop,((g x σ H λc k=>T E c k)->G)->Pv i σ H->G) (l:∀σ H,Pv xs.length σ H->D.nx σ H):ou (uY K a) g T D σ H:=
 pU Pv e f (λi x σ H m p=>j { D with nx:=Pv (i+1),ct:=Pv (i+1),bk:=D.nx } Z i x σ H m (λ_ _ h=>h) _ (λz=>z) p) l
theorem Ks{K:Frag}{xs:List V}{g:TG}{T:TS}{D:aW}{σ:St}{H:Hp}(Pv:Nat->St->Hp->Prop)(e:Pv 0 σ H)(f:∀i σ H,i<=xs.length->Pv i σ H->ax K H a xs)
  (j:∀E:aW,E.rt=D.rt->∀i x σ H,xs[i]?=some x->(∀b d,Pv (i+1) b d->E.nx b d)->∀G:Prop,((g x σ H λc k=>T E c k)->G)->Pv i σ H->G) (l:∀σ H,Pv xs.length σ H->D.nx σ H):ou (u5 K a) g T D σ H:=
 vB Pv e f (λi x σ H m p=>j { D with nx:=Pv (i+1),ct:=Pv (i+1),bk:=D.nx } Z i x σ H m (λ_ _ h=>h) _ (λz=>z) p) l
end
end _L
namespace _L
open PySem PySem.Spec PyProof.Rows PySem.SeqAt
inductive Tr where
 |lf (v:V) |tp (l:Tr) |nil |cons (h t:Tr)
noncomputable def Tr.dep:Tr->Nat
 | .lf _=>0
 | .tp l=>l.dep+1
 | .nil=>0
 | .cons h t=>max h.dep t.dep
noncomputable def Tr.isL:Tr->Bool
 | .nil=>true
 | .cons _ _=>true
 |_=>false
noncomputable def Fk:V->Bool
 | .byt _=>false
 | .flt _=>false
 |_=>true
def lF(K:Frag)(H:Hp):Tr->V->List V->Prop
 | .lf v,x,_=>x=v/\Fk v=true
 | .tp l,x,_=>l.isL=true/\∃a X,x= .ref a/\ax K H a X/\lF K H l .non X
 | .nil,_,X=>X=[]
 | .cons h t,_,X=>h.isL=false/\t.isL=true/\∃y Y,X=y::Y/\lF K H h y []/\lF K H t .non Y
theorem ZR(o:Fk v=true)(r:au v u)(R:au v U):EqAt A s u U true:=by
 cases v with
 |int a=>obtain⟨t,rfl⟩:=r;obtain⟨T,rfl⟩:=R;have:=PU (A:=A) (s:=s) a t a T;rwa [Le]at this
 |str a=>obtain⟨t,rfl⟩:=r;obtain⟨T,rfl⟩:=R;have:=Og (A:=A) (s:=s) a t a T;rwa [Le]at this
 |byt b=>cases o
 |flt b=>cases o
 |non=>cases r;cases R;exact M4 _
 |bl b=>cases r;cases R;exact M4 _
 |ref b=>cases r;cases R;exact M4 _
 |ty b=>cases r;cases R;exact M4 _
section
variable {X:Cx}
theorem QC:(List.range n).all (λ_=>true)=true:=by simp
theorem Y3(I:ap X p D H s){A:Around}(k:ax X.K H a d)(l:ax X.K H b Y)(m:d.length=Y.length)(n:A.units < cLine)
  (h:∀(j:Nat) (x y:V) (u v:Value),d[j]?=some x->Y[j]?=some y->au x u->au y v->EqAt A.in1 s u v true):RcAt A s (.ref a) (.ref b) true:=by
 obtain⟨i,r,P,_⟩:=I.tuple k;obtain⟨f,R,o,_⟩:=I.tuple l;have:=P0 (A:=A) (e:=λ_=>true) (show s.heap.IsTuple a i.toArray from P) (show s.heap.IsTuple b f.toArray from o) n (λj q F=>?_)
 ·rw[QC,GX,GX,<- r.length,<- R.length,m,Le]at this;exact this
 ·have L:=r.length;have G:=R.length;have g:j < d.length:=by simp at q;omega
  have c:j < Y.length:=by omega
  obtain⟨U,Q,t⟩:=r.get (GN g);obtain⟨w,z,B⟩:=R.get (GN c);have E:i.toArray[j]=U:=by obtain⟨_,e⟩:=List.getElem?_eq_some_iff.mp Q;simpa using e
  have C:f.toArray[j]=w:=by obtain⟨_,e⟩:=List.getElem?_eq_some_iff.mp z;simpa using e
  rw[E,C];exact h j _ _ _ _ (GN g) (GN c) t B
theorem yL(I:ap X p U H s):∀(t:Tr) {A:Around},A.units+t.dep < cLine->∀{x y:V} {c Y:List V},lF X.K H t x c->lF X.K H t y Y->
  (t.isL=false->∀u v,au x u->au y v->EqAt A s u v true)/\(t.isL=true->c.length=Y.length/\∀(j:Nat) (d f:V) (u v:Value),c[j]?=some d->Y[j]?=some f->au d u->au f v->EqAt A s u v true):=by
 intro t;induction t with
 |lf w=>rintro A g x y c Y ⟨rfl,O⟩ ⟨rfl,_⟩;exact#[λ_ u v r R=>ZR O r R,λh=>by cases h]
 |tp l q=>
  rintro A g x y c Y ⟨z,a,W,rfl,B,T⟩ ⟨_,b,bs,rfl,C,D⟩;refine#[λ_ u v r R=>?_,λh=>by cases h];cases r;cases R;have E:A.units+(l.dep+1) < cLine:=g;have i:=(q (A:=A.in1) (by show A.units+1+l.dep < cLine;omega) T D).2 z;by_cases e:a=b
  ·rw[e];exact M4 _
  ·exact PR e$ Y3 I B C i.1 RU i.2
 |nil=>rintro A g x y c Y rfl rfl;exact#[(λh=>by cases h),λ_=>#[Z,λj d f u v h=>by simp at h]]
 |cons h t k m=>
  rintro A g x y c Y ⟨F,G,x1,J,rfl,P,L⟩ ⟨_,_,y1,M,rfl,Q,N⟩;have E:A.units+max h.dep t.dep < cLine:=g;have S:=(k (A:=A) RU P Q).1 F;have i:=(m (A:=A) RU L N).2 G;refine#[(λh=>by cases h),λ_=>#[by rw[Hv,Hv,i.1],λj d f u v n o=>?_]];cases j with
  |zero=>cases n;cases o;exact S u v
  |succ j=>exact i.2 j d f u v (by simpa using n) (by simpa using o)
inductive nJ(K:Frag)(d:Nat)(b:Bool)(x y:V)(H:Hp)(Q:VK):Prop
 |mk(l:Tr)(_:l.dep < d)(_:lF K H (.tp l) x [])(_:lF K H (.tp l) y [])(_:Q (.bl b) H)
theorem wz(i:X.A.units+d < cLine):eh X (compareOp .Eq) (nJ X.K d true):=by intro p s j H x y v u Q I r R h;obtain⟨l,k,⟨e,a,m,rfl,f,t⟩,⟨_,b,B,rfl,g,T⟩,q⟩:=h;cases r;cases R;have c:=(yL I l (A:=X.A.in1) (by show X.A.units+1+l.dep < cLine;omega) t T).2 e;exact Y3 I f g c.1 RU c.2 X.prog X.w _ _ #[.bl true,H,I,Z,q]
theorem wQ(I:ap X p D H s){A:Around}(k:ax X.K H a d)(l:ax X.K H b Y)(m:d.length=Y.length)(n:A.units < cLine)
  (h:∀(j:Nat) (x y:V) (u v:Value),d[j]?=some x->Y[j]?=some y->au x u->au y v->EqAt A.in1 s u v true):RcNeAt A s (.ref a) (.ref b) false:=by
 obtain⟨i,r,P,_⟩:=I.tuple k;obtain⟨f,R,o,_⟩:=I.tuple l;have:=RcNeAt.tuples (A:=A) (e:=λ_=>true) (show s.heap.IsTuple a i.toArray from P) (show s.heap.IsTuple b f.toArray from o) n (λj q F=>?_)
 ·rw[QC,GX,GX,<- r.length,<- R.length,m,Le]at this;exact this
 ·have L:=r.length;have G:=R.length;have g:j < d.length:=by simp at q;omega
  have c:j < Y.length:=by omega
  obtain⟨U,Q,t⟩:=r.get (GN g);obtain⟨w,z,B⟩:=R.get (GN c);have E:i.toArray[j]=U:=by obtain⟨_,e⟩:=List.getElem?_eq_some_iff.mp Q;simpa using e
  have C:f.toArray[j]=w:=by obtain⟨_,e⟩:=List.getElem?_eq_some_iff.mp z;simpa using e
  rw[E,C];exact h j _ _ _ _ (GN g) (GN c) t B
theorem wB{d:Nat}(i:X.A.units+d < cLine):eh X (compareOp .NotEq) (nJ X.K d false):=by intro p s j H x y v u Q I r R h;obtain⟨l,k,⟨e,a,m,rfl,f,t⟩,⟨_,b,B,rfl,g,T⟩,q⟩:=h;cases r;cases R;have c:=(yL I l (A:=X.A.in1) (by show X.A.units+1+l.dep < cLine;omega) t T).2 e;exact wQ I f g c.1 RU c.2 X.prog X.w _ _ #[.bl false,H,I,Z,q]
end
end _L
namespace _L
open PySem PySem.Spec PyProof.Rows
noncomputable def EL(K:Frag)(a:Addr)(n:Nat):It:=
 #[λi H=>∃X x,ax K H a X/\X.length=n/\X.reverse[i]?=some x,λi H x h=>h=H/\∀X,ax K H a X->X.reverse[i]?=some x,λi H=>∃X,ax K H a X/\X.length=n/\i=n]
theorem uC{P:Program}{K:Frag}(a f:Addr)(n:Nat):mE P w K tg (EL K a n) [f] f (λi h=>dn h f a ((n:Int) - 1 - i)) where
 mem:=by simp
 obj:=λi h st b j=>by
  have e:b=f:=by simpa using j
  subst e;obtain⟨o,e,c,d⟩:=st;exact#[o,e,λv z=>by rw[d]at z;cases z]
 keep:=λi h q st k=>st.at λo e=>k f RV o e
 item:=by
  intro X y A B O i g s Q H E I t st C;subst y A B;obtain⟨l,x,D,T,m⟩:=C;obtain⟨r,R,p,hz⟩:=I.tuple D;have hl:=R.length;have U:=dO;have V:i < l.length:=by
   rcases MM i l.length with z |z
   ·exact z
   ·rw[HU (by simpa using z)]at m;cases m
  have F:l[l.length - 1 - i]?=some x:=by rw[LY V]at m;exact m
  obtain⟨u,W,Y⟩:=R.get F;obtain⟨G,J,f2,L,M,N⟩:=t f RV;have e:((n:Int) - 1 - i)=((l.length - 1 - i:Nat):Int):=by omega
  rw[e]at st;refine Dx (items:=r.toArray) st (show IsTup s.heap a r.toArray from p) (x:=u) (by simpa using W) (by simp only[GX];omega) λq S sb=>?_;have I1:ap X g Q H { s with heap:=q,toks:=s.toks+1 }:=I.turned (t':=s.toks+1) (λb o j e=>(sb.2 b j).trans e) G J L M N;obtain⟨o,e',c,d⟩:=id S;refine#[u,Z,YJ (s:={ s with heap:=q,toks:=s.toks+1 }) e' c d RT #[x,H,I1,Y,#[Z,λys hy=>by rw[I.tuple_inj hy D];exact m],?_,λb j=>(t b j).1]];have e2:((n:Int) - 1 - ((i+1:Nat):Int))=((l.length - 1 - i:Nat):Int) - 1:=by omega
  show dn q f a ((n:Int) - 1 - ((i+1:Nat):Int));rw[e2];exact S
 done:=by
  intro X y A B O i g s Q H E I t st C;subst y A B;obtain⟨l,D,T,m⟩:=C;obtain⟨G,J,f2,L,M,N⟩:=t f RV;have e:((n:Int) - 1 - (i:Int))= -1:=by omega
  rw[e]at st;exact ZQ (I.ok.hd O) st λq eb=>#[Z,I.turned (t':=s.toks) (λb o j e=>eb b o j e) G J L M N]
 self:=λ_ _ _ _ _ st h=>yp st h
section
variable {X:Cx}{tg:Expr}
inductive yn(K:Frag)(R:It->Hp->Prop)(x:V)(b:Hp):Prop
 |mk(a c:_)(_:x= .ref a)(_:ax K b a c)(_:R (EL K a c.length) b)
def Ff(K:Frag)(t:TE):TI:=λa H R=>t a H (yn K R)
theorem sw{e:Expr}{t:TE}{c:Str}{p P:Pos}(j:Gl X c)(k:X.mg c=none)(l:bootBuiltins c=some (.type "reversed"))(y:PE X e t)(m:c≠"__name__":=by decide)(n:(c==("__debug__":Str))=false:=by decide)
  (r:starEach [e] X.env=(false,eval e X.env)::starEach [] X.env:=by rfl) (A:(backTo P$ starEach [] X.env).any (·.1)=false:=by rfl):PI X tg (.Call (.Name c p) [e] [] P) (Ff X.K t):=by
 intro d s B H R I h;refine Ii$ zU I j k l ?_ m n;refine HX ?_ r A;rw[r];show wpAny _ _ (spliced ((false,eval e X.env)::backTo P (starEach [] X.env))) _ _ s;refine Ir$ aK (y d s B H _ I h) λu S z=>?_;obtain⟨x,C,g,D,a,v,E,F,q⟩:=z;subst E;cases (show u=Value.ref a from D);obtain⟨i,G,J,N⟩:=g.tuple F;have f:=G.length;have L:=dO;refine IM$ px (show IsTup S.heap a i.toArray from J) (by simp only[GX];omega) ?_;have w:dn (S.heap.push$ revObj a i.toArray.size) S.heap.objs.size a ((v.length:Int) - 1 - ((0:Nat):Int)):=#[_,GZ _ Z,Z,by rw[GX,<- f];simp [revObj]];refine yp (s:={ S with heap:=S.heap.push (revObj a i.toArray.size),toks:=S.toks+1+1 }) w ?_;refine#[S.heap.objs.size,[S.heap.objs.size],_,_,C,Z,g.kept (t':=S.toks+1+1) λb o e=>GP _ e,uC a _ v.length,w,λb M=>?_,q];have e:b=S.heap.objs.size:=by simpa using M
 subst e;exact g.fpOk (GV _)$ g.hok.fresh$ GV _
end
theorem Xw{K:Frag}{xs:List V}{g:TG}{t:TS}{D:aW}(Pv:Nat->St->Hp->Prop)(k:Pv 0 b H)(l:∀i b H,i<=xs.length->Pv i b H->ax K H a xs)
  (n:∀E:aW,E.rt=D.rt->∀i x b H,xs.reverse[i]?=some x->(∀c f,Pv (i+1) c f->E.nx c f)->∀G:Prop,((g x b H λj o=>t E j o)->G)->Pv i b H->G) (r:∀b H,Pv xs.length b H->D.nx b H):ou (EL K a xs.length) g t D b H:=by
 refine#[λi m b H=>m=xs.length - i/\i<=xs.length/\Pv i b H,#[xs.length,RV,Hg _,k],?_];rintro i m b H ⟨rfl,s,p⟩;have q:=l i b H s p;by_cases d:i < xs.length
 ·refine .inr #[#[xs,_,q,Z,GN (by simpa using d)],Pv$ i+1,λc f P=>#[xs.length - (i+1),RU,Z,d,P],λx f y=>?_];obtain⟨e,y⟩:=y;subst e;exact n { D with nx:=Pv (i+1),ct:=Pv (i+1),bk:=D.nx } Z i x b _ (y xs q) (λ_ _ h=>h) _ (λz=>z) p
 ·have e:i=xs.length:=by omega
  subst e;exact .inl #[#[xs,q,Z,Z],r b H p]
theorem tX:Slot "list_reverseiterator" "__length_hint__" "list_reverseiterator.__length_hint__":=by refine Slot.of (owner:="list_reverseiterator") (n:="__length_hint__") (by rw[Iz,HW];kernel_rfl) RW RW RW ?_ (by rw[IP];kernel_rfl);first |exact .inl RW |exact .inr RW
theorem ZS:typeLookup (.type "list_reverseiterator") "__len__"=pure none:=by rw[Iz,HW];kernel_rfl
theorem BW:isSubtype (.type "list_reverseiterator") (.type "list_reverseiterator")=pure true:=by rw[IP];kernel_rfl
section
variable {prog:Program}{w:World}{A:Around}{E:Value->Shared->Prop}{s:Shared}
theorem Aq(H:s.heap.IsRevIter I t k){Q:Bool->Shared->Prop}(h:Q false s):wpAny (model prog w) A (Builtin.List.listLengthHint$ .ref I) Q E s:=by
 unfold Builtin.List.listLengthHint;refine GK$ IU H.typeIs ZS ?_;show wpAny _ A (specialOf (Value.ref I) (Str.ofString "__length_hint__") >>= _) _ _ _;refine GK$ IU H.typeIs tX.lookup ?_;have e:splitId "list_reverseiterator.__length_hint__"=some ("list_reverseiterator","__length_hint__"):=by decide+kernel
 dsimp only;rw[e];dsimp only;refine GK$ Ll (b:=true) H.typeIs BW ?_;simp only[LF,Hi,Ix];rw[Hm RW,Ho RW];exact GL h
theorem oy{a:Array Value}{Q:List Value->Shared->Prop}(z:A.handled=none)(f:s.heap.IsRevIter I t ((a.size:Int) - 1))(r:s.heap.IsList t a)(B:t≠I)(C:a.size<=sizeLine)
  (D:∀S,(∀b o,b≠I->s.heap.get? b=some o->S.heap.get? b=some o)->s.heap.objs.size<=S.heap.objs.size->S.gens=s.gens->S.os=s.os->Q a.toList.reverse S):wpAny (model prog w) A (collect$ .ref I) Q E s:=by
 have j:I < s.heap.objs.size:=by obtain⟨o,k,_⟩:=f;exact GY k
 have n:t < s.heap.objs.size:=by obtain⟨o,k,_⟩:=r;exact GY k
 have u:I≠s.heap.objs.size:=Hd j;have F:t≠s.heap.objs.size:=Hd n;unfold collect;refine GK (Oh (IA No (by
  rw[Ig Nn _];show wpAny _ A.in1 (newList [] >>= λl=>again (.builtin "list.__iadd__" #[[l,.ref I],[]])) _ _ s;refine GK$ HN$ GL #[Lj LC _,IA NF ?_];rw[Ig LC _];generalize v:s.heap.push { cls:=.type "list",data:=.seq ([]:List Value).toArray }=H;have J:H.get? s.heap.objs.size=some { cls:=.type "list",data:=.seq (List.toArray []) }:=by rw[<- v];exact GZ _ Z
  have G:∀b o,s.heap.get? b=some o->H.get? b=some o:=λb o e=>by rw[<- v];exact GP _ e
  have h:H.IsRevIter I t ((a.size:Int) - 1):=f.at λo e=>G I o e;have p:H.IsList t a:=r.at λo e=>G t o e;show wpAny _ A.in1 (Builtin.List.listExtendWith (.ref s.heap.objs.size) (.ref I)$ .ref s.heap.objs.size) _ _ { s with heap:=H };unfold Builtin.List.listExtendWith;refine GK$ IZ (s:={ s with heap:=H }) h.typeIs ?_;have K:Builtin.List.listSameRef (.ref s.heap.objs.size) (.ref I)=false:=by simp only[Builtin.List.listSameRef,beq_eq_false_iff_ne];exact HI u
  have L:(Value.type "list_reverseiterator"==Value.type "list")=false:=by decide
  have M:(Value.type "list_reverseiterator"==Value.type "tuple")=false:=by decide
  simp only[K,L,M,N5,Hi,Ix];refine GK$ wpAny_pyIter_revIter (s:={ s with heap:=H }) h$ GK$ Ht$ Aq (s:={ s with heap:=H }) h ?_;have N:¬s.heap.objs.size∈[I,t]:=by simp only[II,HG,Mh,not_or];exact#[HI u,HI F]
  rw[Ho RW];refine GL #[Lj Nr _,?_];have W:=(Walks.listRev (prog:=prog) (w:=w) (A:=A.in1) (by simpa using z) I t B a).toS;refine O6 W C _ N _ a.size 0 _ (List.toArray []) _ Z (Hg _) #[Hg _,by simpa using h,p] J (Pm _) λS d U m x c=>?_;have O:d=a.toList.reverse.toArray:=by
   apply Array.ext';refine List.ext_getElem? λi=>?_;by_cases y:i < a.size
   ·have g:i < d.size:=by rw[c.1];exact y
    have q:=c.2 i d[i] (by simp [g]);rw[IY,I8 g,<- q];show a[a.size - 1 - i]?=a.toList.reverse[i]?;rw[LY (by simpa using y)];simp
   ·rw[HU (by rw[HE,c.1];omega),HU (by simp;omega)]
  subst O;show wpAny _ A (load s.heap.objs.size >>= _) _ _ S;refine GK$ Pq x$ GL ?_;have P:a.toList.reverse.toArray.toList=a.toList.reverse:=by simp
  rw[P];refine D S (λb o R e=>?_) ?_ m.gens m.os
  ·have T:b≠s.heap.objs.size:=Hd (GY e);exact m.heap b o (by simp only[II,HG,Mh,not_or];exact#[T,R])$ G b o e
  ·exact Ld$ GY x)))
end
section
variable {prog:Program}{w:World}{A:Around}{E:Value->Shared->Prop}{s:Shared}
theorem Xj{i:Array Value}{Q:Value->Shared->Prop}(f:A.handled=none)(H:s.heap.IsRevIter I t ((i.size:Int) - 1))(g:s.heap.IsList t i)(j:t≠I)(d:i.size<=sizeLine)
  (h:∀S:Shared,(∀b o,b≠I->s.heap.get? b=some o->S.heap.get? b=some o)->s.heap.objs.size<=S.heap.objs.size->S.gens=s.gens->S.os=s.os->
   Q (.ref S.heap.objs.size) { S with heap:=S.heap.push { cls:=.type "tuple",data:=.seq i.toList.reverse.toArray } }):
  codeAny (model prog w) A (.call (.builtin "tuple.__new__") #[[.type "tuple",.ref I],[]]) (wants Q E) s:=by
 refine N7 (show wpAny _ A.in1 (do checkBuiltinCall "tuple.__new__" #[[.type "tuple",.ref I],[]];again (.builtin "tuple.__new__" #[[.type "tuple",.ref I],[]])) _ _ s from ?_);refine GK (MF (PySem.F.newCall_tuple_1 _) (GL #[Lj ND _,IA PySem.F.entry_tuple_new (by
  rw[Ig ND _];have e:=sub_tuple_self;have a:=init_tuple_lookup;have l:=madeHere_tuple;have c:=H.typeIs;wp_walk using IZ c,oy (by simpa using f) H g j d;intro S k z m n;show wpAny _ _ (Builtin.Tuple.tupleExact i.toList.reverse.toArray >>= λv=>ret v) _ _ _;unfold Builtin.Tuple.tupleExact;exact GK$ HN (GL$ h S k z m n) (by show i.toList.reverse.toArray.size<=sizeLine;simpa using d))]))
theorem Xk{items:Array Value}{Q:Value->Shared->Prop}(d:A.handled=none)(c:s.heap.IsRevIter I t ((items.size:Int) - 1))(e:s.heap.IsList t items)(f:t≠I)(g:items.size<=sizeLine)
  (h:∀a:Shared,(∀b o,b≠I->s.heap.get? b=some o->a.heap.get? b=some o)->s.heap.objs.size<=a.heap.objs.size->a.gens=s.gens->a.os=s.os->
   Q (.ref a.heap.objs.size) { a with heap:=a.heap.push { cls:=.type "tuple",data:=.seq items.toList.reverse.toArray } }):wpAny (model prog w) A (call (.type "tuple") [.ref I]) Q E s:=by
 refine RL (Q₁:=λO S=>S.TypeIs O "tuple"/\Q O S) PySem.F.called_tuple (PySem.F.typeCall_tuple_1 _) PySem.F.entry_object_init (Xj (by simpa using d) c e f g λa k z i j=>#[#[_,GZ _ Z,Z],h a k z i j]) λO S H=>?_;exact#[H.1,Me O _,object_init_meets PySem.F.called_tuple.init.lookup PySem.F.called_tuple.made RT prog w A.in1 _ S #[H.1,Z,H.2]]
end
section
variable {X:Cx}{e:Expr}{te:TE}{xl xr:Str}{p p2 pos pos2:Pos}
inductive lY(K:Frag)(Q:VK)(x:V)(b:Hp):Prop
 |mk(a c:_)(_:x= .ref a)(_:aB K b a c)(_:∀l,b l=none->Q (.ref l) (af b l (.tup c.reverse)))
def xJ(K:Frag)(te:TE):TE:=λa H Q=>te a H (lY K Q)
theorem ZT(M:X.calm=true)(g:Gl X xl)(j:X.mg xl=none)(l:bootBuiltins xl=some (.type "tuple"))(m:Gl X xr)(n:X.mg xr=none)(r:bootBuiltins xr=some (.type "reversed"))(O:PE X e te)
  (t:xl≠"__name__":=by decide) (v:(xl==("__debug__":Str))=false:=by decide) (y:xr≠"__name__":=by decide) (A:(xr==("__debug__":Str))=false:=by decide)
  (E:starEach [.Call (.Name xr p2) [e] [] pos2] X.env=(false,eval (.Call (.Name xr p2) [e] [] pos2) X.env)::starEach [] X.env:=by rfl) (T:(backTo pos$ starEach [] X.env).any (·.1)=false:=by rfl)
  (F:starEach [e] X.env=(false,eval e X.env)::starEach [] X.env:=by rfl) (U:(backTo pos2$ starEach [] X.env).any (·.1)=false:=by rfl):
  PE X (.Call (.Name xl p) [.Call (.Name xr p2) [e] [] pos2] [] pos) (xJ X.K te):=by
 intro P s V H Q I h;refine Ii$ zU I g j l ?_ t v;refine HX ?_ E T;rw[E];show wpAny _ _ (spliced ((false,eval (.Call (.Name xr p2) [e] [] pos2) X.env)::backTo pos (starEach [] X.env))) _ _ s;refine Ir ?_;refine Ii$ zU I m n r ?_ y A;refine HX ?_ F U;rw[F];show wpAny _ _ (spliced ((false,eval e X.env)::backTo pos2 (starEach [] X.env))) _ _ s;refine Ir$ aK (O P s V H _ I h) λu d B=>?_;obtain⟨x,W,f,Y,a,G,ex,hq,q⟩:=B;subst ex;cases (show u=Value.ref a from Y);obtain⟨i,R,C,hz⟩:=f.list hq;have J:=R.length;refine IM$ call_reversed_list C.isList$ IM ?_;have D:a < d.heap.objs.size:=by obtain⟨o,ho,_⟩:=C.isList;exact GY ho
 refine Xk (s:={ d with heap:=d.heap.push (PySem.revObj a ((i.toArray.size:Int) - 1)) }) (items:=i.toArray) (I.ok.hd M) #[_,GZ _ Z,Z,Z] (C.isList.at λo e=>GP _ e) (Hd D)
  (by simp only[GX];omega) λS k hl kg ko=>?_
 have c:d.heap.objs.size<=S.heap.objs.size:=Hh (by show _<=(d.heap.push _).objs.size;rw[Ia];exact IL _) hl;have L:∀b o,d.heap.get? b=some o->(S.heap.push { cls:=.type "tuple",data:=.seq i.toArray.toList.reverse.toArray }).get? b=some o:=λb o e=>GP _ (k b o (Hd$ GY e)$ GP _ e);have hg:(S.heap.push { cls:=.type "tuple",data:=.seq i.toArray.toList.reverse.toArray }).get? S.heap.objs.size=some { cls:=.type "tuple",data:=.seq i.toArray.toList.reverse.toArray }:=GZ _ Z;have N:aN X.prog X.w (af W S.heap.objs.size$ .tup G.reverse) (S.heap.push { cls:=.type "tuple",data:=.seq i.toArray.toList.reverse.toArray }) S.heap.objs.size (.tup G.reverse):=by
  refine#[by rw[Ov];exact hz,i.reverse,aw.reverse R,?_];have ee:i.toArray.toList.reverse.toArray=i.reverse.toArray:=by simp
  rw[<- ee];exact#[_,hg,Z,_,Z]
 exact#[.ref S.heap.objs.size,_,f.call' (ch:=[]) ko (Un.laid L c$ f.hok.fresh c) (f.hok.laid L c N) (by show AllBare S.gens;rw[kg];exact f.bare) (λ_ z=>nomatch z),Z,q _$ f.hok.fresh c]
end
section
variable {prog:Program}{w:World}{A:Around}{E:Value->Shared->Prop}{s:Shared}
theorem KH{x:Value}{Q:Value->Shared->Prop}(a:s.heap.IsTupleIter J T i)(e:s.heap.IsTuple T I)(f:I[i]?=some x)
  (q:∀b,b.IsTupleIter J T (i+1)->Heap.SameBut J s.heap b->Q x { s with heap:=b }):wpAny (model prog w) A (Builtin.SmallTypes.nextOf$ .ref J) Q E s:=by
 obtain⟨o,H,g,h⟩:=id a;obtain⟨O,c,_,n,d⟩:=e;unfold Builtin.SmallTypes.nextOf;refine GK$ HL (name:=Str.ofString "__next__") a.typeIs Im$ HP Im a.typeIs LJ (show wpAny _ _ (field (.ref J) 0 >>= _) _ _ s from ?_)$ LB _;refine GK$ HC H h (x:=.ref T) Z (show wpAny _ _ (if (Value.ref T==Value.none)=true then _ else _) _ _ s from ?_);rw[Ho (show ¬((Value.ref T==Value.none)=true) from Hc)];refine(show wpAny _ _ (field (.ref J) 1 >>= _) _ _ s from GK$ HC H h (x:=.int i 0) Z (show wpAny _ _ (seqItems? (.ref T) >>= _) _ _ s from GK$ Ih c d ?_));simp only[Ie,f];refine GK$ HV H h RV$ GL #[x,Z,GL$ q _ #[_,HK _ H$ Ip$ HJ h _,(LX ..).trans g,by rw[HJ h];simp [rawInt]] (IJ ..)]
theorem ZU(g:A.handled=none)(H:s.heap.IsTupleIter J T i)(j:s.heap.IsTuple T I)(l:I[i]?=none)
  (q:∀h e,Heap.ExtBut J s.heap h->Shared.TypeIs { s with heap:=h } e "StopIteration"->E e { s with heap:=h }):wpAny (model prog w) A (Builtin.SmallTypes.nextOf$ .ref J) Q E s:=by
 obtain⟨o,a,p,c⟩:=id H;obtain⟨O,d,_,N,f⟩:=j;unfold Builtin.SmallTypes.nextOf;refine GK$ HL (name:=Str.ofString "__next__") H.typeIs Im$ HP Im H.typeIs LJ (show wpAny _ _ (field (.ref J) 0 >>= _) _ _ s from ?_)$ LB _;refine GK$ HC a c (x:=.ref T) Z (show wpAny _ _ (if (Value.ref T==Value.none)=true then _ else _) _ _ s from ?_);rw[Ho (show ¬((Value.ref T==Value.none)=true) from Hc)];refine(show wpAny _ _ (field (.ref J) 1 >>= _) _ _ s from GK$ HC a c (x:=.int i 0) Z (show wpAny _ _ (seqItems? (.ref T) >>= _) _ _ s from GK$ Ih d f ?_));simp only[Ie,l];refine GK$ J'$ GK$ HV a c RV ?_;refine JT (by simpa using g) λh e k t=>q h e (λb o m n=>k b o ?_) t;exact(Hk _ _$ HI m).trans n
end
def gq(b:Bool)(h:Heap)(i l:Addr)(k:Nat):Prop:=match b with
 |true=>h.IsListIter i l k
 |false=>h.IsTupleIter i l k
def ij(b:Bool)(h:Heap)(l:Addr)(x:Array Value):Prop:=match b with
 |true=>h.IsList l x
 |false=>h.IsTuple l x
noncomputable def eV:Bool->String
 |true=>"list_iterator"
 |false=>"tuple_iterator"
theorem gq.kp{b:Bool}{H:Heap}(x:gq b h i l k)(e:∀o,h.get? i=some o->H.get? i=some o):gq b H i l k:=by
 cases b
 ·exact Po x e
 ·obtain⟨o,a,r⟩:=x;exact#[o,e o a,r]
theorem ij.kp{b:Bool}{H:Heap}(x:ij b h l a)(e:∀o,h.get? l=some o->H.get? l=some o):ij b H l a:=by
 cases b
 ·obtain⟨o,c,r⟩:=x;exact#[o,e o c,r]
 ·exact RS x e
theorem gq.ob(x:gq b h i l k):∃o,h.get? i=some o/\o.cls= .type (eV b)/\∀v,o.data≠ .cell v:=by
 cases b
 ·obtain⟨o,H,c,d⟩:=x;exact#[o,H,c,λv z=>by rw[d]at z;cases z]
 ·obtain⟨o,H,c,d⟩:=x;exact#[o,H,c,λv z=>by rw[d]at z;cases z]
section
variable {prog:Program}{w:World}{A:Around}{E:Value->Shared->Prop}{s:Shared}
theorem zZ{Q:Value->Shared->Prop}(H:gq b s.heap J T i)(a:ij b s.heap T I)(c:I[i]?=some x)
  (q:∀h,gq b h J T (i+1)->Heap.SameBut J s.heap h->Q x { s with heap:=h }):wpAny (model prog w) A (Builtin.SmallTypes.nextOf$ .ref J) Q E s:=by
 cases b
 ·exact KH H a c q
 ·exact wpAny_nextOf_list_item H a c q
theorem QD(H:A.handled=none)(a:gq b s.heap J T i)(c:ij b s.heap T I)(d:I[i]?=none)
  (q:∀h e,Heap.ExtBut J s.heap h->Shared.TypeIs { s with heap:=h } e "StopIteration"->E e { s with heap:=h }):wpAny (model prog w) A (Builtin.SmallTypes.nextOf$ .ref J) Q E s:=by
 cases b
 ·exact ZU H a c d q
 ·exact wpAny_nextOf_list_end H a c d λh e k #[o,f,g]=>q h (.ref e) k #[o,f,g]
theorem yq{Q:Value->Shared->Prop}(h:ij b s.heap T i)
  (q:Q (.ref s.heap.objs.size) { s with heap:=s.heap.push { cls:=.type (eV b),data:=.fields (List.toArray [.ref T,.int 0 0]) } }):wpAny (model prog w) A (pyIter$ .ref T) Q E s:=by
 cases b
 ·exact LV h q
 ·exact LZ h q
structure ve(z u v c d a b:Addr):Prop where
 uz:u≠z
 vz:v≠z
 cz:c≠z
 dz:d≠z
 uv:u≠v
 uc:u≠c
 ud:u≠d
 vc:v≠c
 vd:v≠d
 cd:c≠d
 az:a≠z
 av:a≠v
 ac:a≠c
 ad:a≠d
 bz:b≠z
 bv:b≠v
 bc:b≠c
 bd:b≠d
theorem xR{Q:Option Value->Shared->Prop}(D:ve z u v c d a b)
  (H:IsZip s.heap z u v .none) (hu:IsPair s.heap u (.ref c) (.ref d)) (hv:IsPair s.heap v p q) (h1:gq B s.heap c a k) (h2:gq C s.heap d b k) (g1:ij B s.heap a xs) (g2:ij C s.heap b ys) (hx:xs[k]?=some x) (hy:ys[k]?=some y)
  (hQ:∀h,IsZip h z u v (rawInt s.heap.objs.size)->IsPair h v x y->gq B h c a (k+1)->gq C h d b (k+1)->IsPair h s.heap.objs.size x y->h.objs.size=s.heap.objs.size+1->
   (∀e o,e≠z->e≠v->e≠c->e≠d->s.heap.get? e=some o->h.get? e=some o)->Q (some$ .ref s.heap.objs.size) { s with heap:=h }):wpAny (model prog w) A (pyNext$ .ref z) Q E s:=by
 have W:s.TypeIs (.ref z) "zip":=#[_,H,Z];unfold pyNext;refine GK$ Li$ HL (name:=Str.ofString "__next__") W Iw$ HP Iw W LP (show wpAny _ _ (field (.ref z) 2 >>= _) _ _ _ from ?_)$ LD _;refine GK$ HC H Z (x:=.bool false) Z (show wpAny _ _ (field (.ref z) 3 >>= _) _ _ _ from GK$ HC H Z (x:=.ref u) Z$ GK$ Ih hu Z ?_);refine(show wpAny _ _ (Builtin.SmallTypes.ownedTupleIsFree (.ref z) >>= _) _ _ _ from GK ?_);unfold Builtin.SmallTypes.ownedTupleIsFree;refine GK$ HC H Z (x:=.none) Z$ GL ?_;simp only[Mi];refine GK$ J'$ GK$ HC H Z (x:=.ref v) Z$ GK$ Lp H RV λX F S=>?_;replace F:IsZip X z u v .ellipsis:=F;refine GK ?_;simp only[OX,Pa,IN,Lv];refine GK$ GK$ Nk (show wpAny _ _ (Builtin.SmallTypes.nextOf (.ref c) >>= _) _ _ _ from ?_);refine GK$ zZ (s:={ s with heap:=X }) (h1.kp λo e=>S.extBut _ _ D.cz e) (g1.kp λo e=>S.extBut _ _ D.az e) hx λG i2 l=>GL ?_;have Y:IsPair G v p q:=l.extBut _ _ D.vc (S.extBut _ _ D.vz hv);refine GK$ Ih (s:={ s with heap:=G }) Y Z$ GK$ O2 (s:={ s with heap:=G }) Y λI J r=>?_;replace J:IsPair I v x q:=J;refine GK$ O4$ GL$ GK$ GK$ Nk (show wpAny _ _ (Builtin.SmallTypes.nextOf (.ref d) >>= _) _ _ _ from ?_);have K:∀e o,e≠z->e≠c->e≠v->s.heap.get? e=some o->I.get? e=some o:=λe o N f g w=>r.extBut _ _ g (l.extBut _ _ f$ S.extBut _ _ N w);refine GK$ zZ (s:={ s with heap:=I }) (h2.kp λo e=>K _ _ D.dz D.cd.symm D.vd.symm e) (g2.kp λo e=>K _ _ D.bz D.bc D.bv e) hy λL i4 i=>GL ?_;have v4:IsPair L v x q:=i.extBut _ _ D.vd J;refine GK$ Ih (s:={ s with heap:=L }) v4 Z$ GK$ O2 (s:={ s with heap:=L }) v4 λm V j=>?_;replace V:IsPair m v x y:=V;refine GK$ O4$ GL$ GL$ GK$ Ih (s:={ s with heap:=m }) V Z$ GK$ Oi ?_;have e5:m.objs.size=s.heap.objs.size:=by rw[j.1,i.1,r.1,l.1,S.1]
 have k5:∀e o,e≠z->e≠v->e≠c->e≠d->s.heap.get? e=some o->m.get? e=some o:=λe o N f g O w=>j.extBut _ _ f (i.extBut _ _ O$ K e o N g f w);have z5:IsZip m z u v .ellipsis:=j.extBut _ _ D.vz.symm (i.extBut _ _ D.dz.symm$ r.extBut _ _ D.vz.symm$ l.extBut _ _ D.cz.symm F);have j1:gq B m c a (k+1):=i2.kp λo e=>j.extBut _ _ D.vc.symm (i.extBut _ _ D.cd$ r.extBut _ _ D.vc.symm e);have j2:gq C m d b (k+1):=i4.kp λo e=>j.extBut _ _ D.vd.symm e;have lz:z < m.objs.size:=GY z5;refine(show wpAny _ _ (Builtin.SmallTypes.ownedTupleHandOut (.ref z) (.ref m.objs.size) >>= _) _ _ _ from GK ?_);unfold Builtin.SmallTypes.ownedTupleHandOut;have z6:IsZip (m.push { cls:=.type "tuple",data:=.seq (List.toArray [x,y]) }) z u v .ellipsis:=GP _ z5;refine GK$ Lp z6 RV λm7 P R=>?_;replace P:IsZip m7 z u v (rawInt m.objs.size):=P;refine Lp P RV λM t T=>?_;replace t:IsZip M z u v (rawInt m.objs.size):=t;have U:∀e o,e≠z->m.get? e=some o->M.get? e=some o:=λe o n w=>T.extBut _ _ n (R.extBut _ _ n$ GP _ w);have t8:IsPair M m.objs.size x y:=T.extBut _ _ (Ic lz) (R.extBut _ _ (Ic lz)$ GZ _ Z);have e8:M.objs.size=m.objs.size+1:=by rw[T.1,R.1,Ia]
 rw[e5]at t t8 e8;refine GL #[_,Z,GL ?_];show Q (some$ .ref m.objs.size) _;rw[e5];exact hQ M t (U _ _ D.vz V) (j1.kp λo e=>U _ o D.cz e) (j2.kp λo e=>U _ o D.dz e) t8 e8 λe o N f g O w=>U e o N (k5 e o N f g O w)
theorem Cq{b2:Bool}{ys:Array Value}{p q:Value}{Q:Option Value->Shared->Prop}(C:A.handled=none)(D:ve z u v c d a b)
  (h:IsZip s.heap z u v .none) (F:IsPair s.heap u (.ref c) (.ref d)) (G:gq I s.heap c a k) (J:ij I s.heap a L) (K:L[k]?=none)
  (O:∀H,(∀e o,e≠z->e≠v->e≠c->e≠d->s.heap.get? e=some o->H.get? e=some o)->Q none { s with heap:=H }):wpAny (model prog w) A (pyNext$ .ref z) Q E s:=by
 have g:s.TypeIs (.ref z) "zip":=#[_,h,Z];unfold pyNext;refine GK$ Li$ HL (name:=Str.ofString "__next__") g Iw$ HP Iw g LP (show wpAny _ _ (field (.ref z) 2 >>= _) _ _ _ from ?_)$ LD _;refine GK$ HC h Z (x:=.bool false) Z (show wpAny _ _ (field (.ref z) 3 >>= _) _ _ _ from GK$ HC h Z (x:=.ref u) Z$ GK$ Ih F Z ?_);refine(show wpAny _ _ (Builtin.SmallTypes.ownedTupleIsFree (.ref z) >>= _) _ _ _ from GK ?_);unfold Builtin.SmallTypes.ownedTupleIsFree;refine GK$ HC h Z (x:=.none) Z$ GL ?_;simp only[Mi];refine GK$ J'$ GK$ HC h Z (x:=.ref v) Z$ GK$ Lp h RV λm f S=>?_;replace f:IsZip m z u v .ellipsis:=f;refine GK ?_;simp only[OX,Pa,IN,Lv];refine GK$ GK$ Nk (show wpAny _ _ (Builtin.SmallTypes.nextOf (.ref c) >>= _) _ _ _ from ?_);refine GK$ QD (s:={ s with heap:=m }) (by simpa using C) (G.kp λo e=>S.extBut _ _ D.cz e) (J.kp λo e=>S.extBut _ _ D.az e) K λM e i j=>?_;have l:IsZip M z u v .ellipsis:=i _ _ D.cz.symm f;refine Lp (s:={ s with heap:=M }) l RV λn U r=>?_;have t:Shared.TypeIs { s with heap:=n } e "StopIteration":=by
  cases e with
  |ref x=>
   obtain⟨o,y,B⟩:=j;have P:x≠z:=λw=>by subst w;have:=y.symm.trans l;cases this;injection B with w;exact absurd w RT
   exact#[o,r.extBut _ _ P y,B]
  |_=>exact j
 exact GK$ Ll (T:="StopIteration") (b:=true) t Na$ GL$ O n λe o N V R W w=>r.extBut _ _ N (i _ _ R$ S.extBut _ _ N w)
theorem Cr{b1 b2:Bool}{xs ys:Array Value}{Q:Value->Shared->Prop}(J:ij b1 s.heap a xs)(L:ij b2 s.heap b ys)
  (h:∀H,IsZip H (s.heap.objs.size+4) (s.heap.objs.size+2) (s.heap.objs.size+3) .none->IsPair H (s.heap.objs.size+2) (.ref s.heap.objs.size) (.ref$ s.heap.objs.size+1)->
   IsPair H (s.heap.objs.size+3) .none .none->gq b1 H s.heap.objs.size a 0->gq b2 H (s.heap.objs.size+1) b 0->(∀e o,s.heap.get? e=some o->H.get? e=some o)->Q (.ref$ s.heap.objs.size+4) { s with heap:=H }):
  wpAny (model prog w) A (call (.type "zip") [.ref a,.ref b]) Q E s:=by
 refine OM (S:=λ_ R c=>c=s/\R (.ok$ .ret$ .ref$ s.heap.objs.size+4) { s with heap:=((((s.heap.push { cls:=.type (eV b1),data:=.fields (List.toArray [.ref a,.int 0 0]) }).push { cls:=.type (eV b2),data:=.fields (List.toArray [.ref b,.int 0 0]) }).push { cls:=.type "tuple",data:=.seq (List.toArray [.ref s.heap.objs.size,.ref$ s.heap.objs.size+1]) }).push { cls:=.type "tuple",data:=.seq (List.toArray [.none,.none]) }).push { cls:=.type "zip",data:=.fields (List.toArray [.none,.bool false,.bool false,.ref$ s.heap.objs.size+2,.ref$ s.heap.objs.size+3]) } })
  PySem.F.called_zip RT (PySem.F.typeCall_zip_2 _ _) (PySem.F.newCall_zip_2 _ _) (λO=>PySem.F.args_object_init_3 O _ _) PySem.F.entry_zip_new (.of_wp λp w' A' R c P=>?_) #[Z,?_]
 ·obtain⟨rfl,q⟩:=P;obtain⟨r,g,D,t,os⟩:=c;have u:=sub_zip;have T:ij b1 (Shared.heap #[r,g,D,t,os]) a xs:=J;have _L:ij b2 (Shared.heap #[r.push { cls:=.type (eV b1),data:=.fields (List.toArray [.ref a,.int 0 0]) },g,D,t,os]) b ys:=L.kp λo e=>GP _ e;wp_walk using yq T,yq _L;refine#[_,Z,?_];simp only[Ia]at q ⊢;exact q
 ·have z (h:Heap) (o:Obj):(h.push o).objs.size=h.objs.size+1:=Ia ..;generalize d:s.heap.push { cls:=.type (eV b1),data:=.fields (List.toArray [.ref a,.int 0 0]) }=M;generalize f:M.push { cls:=.type (eV b2),data:=.fields (List.toArray [.ref b,.int 0 0]) }=i;generalize j:i.push { cls:=.type "tuple",data:=.seq (List.toArray [.ref s.heap.objs.size,.ref$ s.heap.objs.size+1]) }=k;generalize l:k.push { cls:=.type "tuple",data:=.seq (List.toArray [.none,.none]) }=n;generalize v:n.push { cls:=.type "zip",data:=.fields (List.toArray [.none,.bool false,.bool false,.ref$ s.heap.objs.size+2,.ref$ s.heap.objs.size+3]) }=m;have N:M.objs.size=s.heap.objs.size+1:=by rw[<- d,z]
  have x:i.objs.size=s.heap.objs.size+2:=by rw[<- f,z,N]
  have y:k.objs.size=s.heap.objs.size+3:=by rw[<- j,z,x]
  have U:n.objs.size=s.heap.objs.size+4:=by rw[<- l,z,y]
  have K:∀e o,n.get? e=some o->m.get? e=some o:=λe o w=>by rw[<- v];exact GP _ w
  have B:∀e o,k.get? e=some o->m.get? e=some o:=λe o w=>K e o (by rw[<- l];exact GP _ w);have C:∀e o,i.get? e=some o->m.get? e=some o:=λe o w=>B e o (by rw[<- j];exact GP _ w);have G:∀e o,M.get? e=some o->m.get? e=some o:=λe o w=>C e o (by rw[<- f];exact GP _ w);have V:∀e o,s.heap.get? e=some o->m.get? e=some o:=λe o w=>G e o (by rw[<- d];exact GP _ w);have I:IsZip m (s.heap.objs.size+4) (s.heap.objs.size+2) (s.heap.objs.size+3) .none:=by rw[<- U,<- v];exact GZ _ Z
  have W:IsPair m (s.heap.objs.size+3) .none .none:=K _ _ (by rw[<- y,<- l];exact GZ _ Z);have X:IsPair m (s.heap.objs.size+2) (.ref s.heap.objs.size) (.ref$ s.heap.objs.size+1):=B _ _ (by rw[<- x,<- j];exact GZ _ Z);have Y:m.get? (s.heap.objs.size+1)=some { cls:=.type (eV b2),data:=.fields (List.toArray [.ref b,.int 0 0]) }:=C _ _ (by rw[<- N,<- f];exact GZ _ Z);have q1:m.get? s.heap.objs.size=some { cls:=.type (eV b1),data:=.fields (List.toArray [.ref a,.int 0 0]) }:=G _ _ (by rw[<- d];exact GZ _ Z);refine#[#[_,I,Z],h m I X W ?_ ?_ V]
  ·cases b1<;>exact#[_,q1,Z,Z]
  ·cases b2<;>exact#[_,Y,Z,Z]
end
theorem xT(n a b:Nat)(h:a < n)(H:b < n):ve (n+4) (n+2) (n+3) n (n+1) a b:=by refine#[?_,?_,?_,?_,?_,?_,?_,?_,?_,?_,?_,?_,?_,?_,?_,?_,?_,?_]<;>(show(_:Nat)≠_;omega)
section
variable {prog:Program}{w:World}{A:Around}{E:Value->Shared->Prop}
theorem ya(h:l≠J):∀(n i:Nat) (s:Shared) (Q:List Value->Shared->Prop),s.heap.IsListIter J l i->s.heap.IsList l I->i+n<=I.size->
  (∀a,a.IsListIter J l (i+n)->Heap.SameBut J s.heap a->Q ((I.toList.drop i).take n) { s with heap:=a })->wpAny (model prog w) A (draw (.ref J) n) Q E s
 |0,i,s,Q,b,_,_,q=>show wpAny _ _ (pure []) Q E s from GL (by simpa using q s.heap b (NP ..))
 |n+1,i,s,Q,b,c,d,q=>by
  have H:i < I.size:=by omega
  refine(show wpAny _ _ (pyNext (.ref J) >>= _) Q E s from GK$ OG b c (x:=I[i]) (by simp [H]) λm j S=>?_);refine GK$ Ht$ ya h n (i+1) _ _ j (c.extBut S.extBut h) RU λf g k=>GL ?_;have e:=q f (by rw[show i+(n+1)=i+1+n by omega];exact g) (S.trans k);rwa [show I.toList.drop i=I[i]::I.toList.drop (i+1) by simp [List.drop_eq_getElem_cons,H],List.take_succ_cons]at e
theorem xK{s:Shared}{Q:List Value->Shared->Prop}(f:A.handled=none)(h:s.heap.IsList l i)(a:i.size=n)
  (q:∀c,Heap.ExtBut s.heap.objs.size s.heap c->Q i.toList { s with heap:=c }):wpAny (model prog w) A (unpackItems (.ref l) n none) Q E s:=by
 have H:l≠s.heap.objs.size:=by obtain⟨o,g,_⟩:=h;exact Hd$ GY g
 unfold unpackItems;refine GK ?_;unfold notIterableAtAll;refine GK$ IU h.typeIs slot_list_iter.lookup ?_;refine GL ?_;simp only[Hi,Ix];refine GK$ Ht$ LZ h ?_;have I:(s.heap.push { cls:=.type "list_iterator",data:=.fields (List.toArray [.ref l,.int 0 0]) }).IsListIter s.heap.objs.size l 0:=#[_,GZ _ Z,Z,Z];refine GK$ Ht$ ya H n 0 _ _ I (h.push _) RU λj J S=>?_;have k:(i.toList.drop 0).take n=i.toList:=by rw[Pl,IR (by simp [a])]
 rw[k,Ho (by simp [a])];have L:j.IsList l i:=(h.push _).extBut S.extBut H;refine GK$ Ht$ OV f J L (by simp [a]) λm p=>?_;simp only[Option.isSome_none,Hi,Ix];exact GL$ q m λb o d e=>p b o d (S.extBut b o d$ GP _ e)
end
section
variable {X:Cx}{pos:Pos}
inductive Fe(K:Frag)(n:Nat)(t:vb)(v:V)(c:St)(H:Hp)(Q:St->Hp->Prop):Prop
 |mk(a b:_)(_:v= .ref a)(_:aB K H a b)(_:b.length=n)(_:t b c H Q)
theorem Y4{E:List Expr}{k n:Nat}{t:vb}(g:X.calm=true)(h:Cz X E t)
  (i:(assignEach E X.env).length=n:=by rfl) (c:(assignEach E X.env).findIdx? (·.1)=none:=by rfl):PG X (.Tuple E k pos) (Fe X.K n t):=by
 intro P s f H v u Q I r d;obtain⟨a,x,j,l,m,d⟩:=d;subst j;cases r;obtain⟨q,R,p,A⟩:=I.list l;rw[assign_Tuple];refine GK$ Ls ?_;unfold unpack;rw[i,c];refine GK$ Ht$ xK (I.ok.hd g) p.isList (by simp [<- m,R.length]) λw y=>?_;have z:ap X P f H { s with heap:=w }:=I.kept (t':=s.toks) λb o e=>y b o (Hd$ GY e) e;exact h P _ f H x _ Q z (by simpa using R) d
inductive ui(K:Frag)(i j k:Nat)(D:aW)(f:St)(x:V)(b:Hp):Prop
 |mk(a c d e:_)(_:x= .ref a)(_:ax K b a [c,d,e])(_:D.nx (((f.set k (some e)).set j (some d)).set i (some c)) b)
def yG(K:Frag)(t:TE)(i j k:Nat):TS:=λD a H=>t a H (ui K i j k D a)
theorem wJ{t e:Expr}{T:TE}{x y z:Str}{i j k:Nat}(n:X.calm=true)(c:X.N.Nodup)(w:X.N[i]?=some x)(A:X.N[j]?=some y)(B:X.N[k]?=some z)(L:pe X.env.scope x)(C:pe X.env.scope y)(E:pe X.env.scope z)(F:PE X e T)
  (G:X.fn x=true∨X.env.scope.names.lookup x=some .local:=by first |exact .inl Z |exact .inr Z) (J:X.fn y=true∨X.env.scope.names.lookup y=some .local:=by first |exact .inl Z |exact .inr Z) (M:X.fn z=true∨X.env.scope.names.lookup z=some .local:=by first |exact .inl Z |exact .inr Z)
  (O:swapsWithSole [t] e pos.line X.env=pure false:=by rfl) (P:swappedStores [t] e X.env=pure (some [x,y,z]):=by rfl):PS X (.Assign [t] e pos) (yG X.K T i j k):=by
 intro p s f H D I h;rw[exec_Assign_arm];refine GK$ Ls ?_;rw[O];refine GK$ GL ?_;rw[Ho RT];refine GK$ aK (F p s f H _ I h) λv S d=>?_;obtain⟨xv,g,l,R,a,v1,v2,v3,Q,V,q⟩:=d;rw[P];refine GK$ GL ?_;subst Q;cases R;obtain⟨W,r,Y,hz⟩:=l.tuple V;cases r with
 |cons q1 r=>
  cases r with
  |cons q2 r=>
   cases r with
   |cons q3 r=>
    cases r
    rename_i u U m
    unfold assignStores;refine GK$ J'$ GK$ wpAny_unpackItems_tuple (items:=(List.toArray [u,U,m])) (I.ok.hd n) Y λh' hx=>?_;have I2:ap X p f g { S with heap:=h' }:=l.kept (t':=S.toks) λb o e=>hx b o (Hd$ GY e) e;refine GK ?_;show wpAny _ _ (assignInOrder [λv=>bindName X.env z v,λv=>bindName X.env y v,λv=>bindName X.env x v] [m,U,u]) _ _ _;refine GK$ Ht$ Ol$ kQ I2 c B E q3 (λs2 I3=>?_) M;refine GK$ Ht$ Ol$ kQ I3 c A C q2 (λs3 I4=>?_) J;refine GK$ Ht$ Ol$ kQ I4 c w L q1 (λs4 I5=>?_) G;exact GL$ GL #[_,g,I5,q]
end
theorem vw(l b:Addr)(I i:Array Value)(n N:Nat)(D:Option Addr)(S:Array (Option Value))(e:¬(!I.isEmpty&&Builtin.List.listTooLong (I.size+i.size))=true)(W:I.size<=sizeLine)(a:I.size+i.size<=sizeLine+1):
  Meets (Builtin.«list.extend» #[[.ref l,.ref b],[]]) (λ_ R s=>s.heap.get? l=some { cls:=.type "list",dict:=none,data:=.seq I n,slots:=(List.toArray []) }/\s.heap.get? b=some #[.type "tuple",D,.seq i N,S]/\R (.ok$ .ret Value.none) { s with heap:=s.heap.update l (Obj.mapSeq λx=>x++i),toks:=s.toks }):=by
 refine PM λp w A R s h=>?_;obtain⟨f,g,d,t,os⟩:=s;obtain⟨H,c,h⟩:=h;have F:=AutoSeq1.idx_int;have j:=Nw;have k:=AutoSeq1.sub_list_list;have m:=AutoSeq1.sub_tuple_list;have o:=AutoSeq1.sub_list_tuple;have hz:(I++i).size<=sizeLine+1:=by rw[Nc];exact a
 wp_walk using (M5 H Z (hz:=W) (_hz':=hz)),IF H,IF c;exact#[_,Z,h]
section
variable {X:Cx}
inductive gM(K:Frag)(x:V)(a:List V)(H:Hp)(Q:VK):Prop
 |mk(l b c d:_)(_:x= .ref l)(_:a=[.ref b])(_:H l=some (.lst c))(_:ax K H b d)(_:c.length+d.length<=sizeLine)(_:Q .non (af H l (.lst (c++d))))
theorem Ys:Ew X "list.extend" (gM X.K):=by
 intro p s A H x V v U Q I g j h;obtain⟨l,b,B,C,rfl,rfl,f,k,D,q⟩:=h;cases g;obtain⟨u,rfl,m⟩:=j.one;cases m;obtain⟨z,a,n,r,E,e⟩:=I.lstM f;obtain⟨i,R,P,F⟩:=I.tuple k;have o:=R.length;have d:a.toArray.size+i.toArray.size<=sizeLine:=by rw[GX,GX];omega
 have c:¬(!a.toArray.isEmpty&&Builtin.List.listTooLong (a.toArray.size+i.toArray.size))=true:=by rw[eX d,Mj];exact Hc
 obtain⟨⟨G,O,J,S⟩,t,w,N,y⟩:=P;cases w;cases y;refine Np Pe #[_,e,Z] O1 (OS _ _) (vw l b a.toArray i.toArray n N O S c (by rw[GX];omega) RU) #[e,t,?_];refine#[.non,_,I.lset (its':=a++i) f e RV (r.append R) (by rw[GU];omega),Z,q]
end
section
variable {prog:Program}{w:World}{A:Around}{E:Value->Shared->Prop}{s:Shared}
theorem Ji{R:Result->Shared->Prop}{P:Nat->Value->Prop}{St:Nat->Shared->Prop}
  (W:WalksS prog w A.in1 I N j G n P St) (S:Addr) (H:¬S∈N) (c:List Str) (O:c.length=n) (Q:∀i v,P i v->∃x t,c[i]?=some x/\v= .str x t) (d:∀L:List Str,L.Nodup->(∀x∈L,x∈c)->L.length+1 < scanBound):
  ∀(k i:Nat) (s:Shared) (L:List Str),n - i=k->i<=n->St i s->cj prog w s.heap S L->(∀x,x∈L↔x∈c.take i)->L.length<=i->
   (∀a l,Moved (S::j) G s a->cj prog w a.heap S l->(∀x,x∈l↔x∈c)->l.length<=n->R (.ok$ .ret .none) a)->
   codeAny (model prog w) A (.builtin "set.update.loop" #[[.ref S,.ref I],[]]) R s:=by
 have f:¬S∈j:=λz=>H (W.sub _ z);have sub:∀b∈j,b∈S::j:=λb z=>HD _ z;intro k;induction k with
 |zero=>
  intro i s L T U st p q F r;have e:i=n:=by omega
  subst e;refine IA Mp ?_;rw[Ig Lm];show wpAny _ A.in1 (pyNext (.ref I) >>= _) _ _ s;refine GK$ W.done s _ _ st λa m=>?_;show wpAny _ A.in1 (ret Value.none) _ _ a;refine GL$ r a L (m.mono sub) (p.at λo e=>m.heap S o f e) (λx=>?_) F;rw[q x,<- O,HY]
 |succ k V=>
  intro i s L T U st p q F r;have J:i < n:=by omega
  refine IA Mp ?_;rw[Ig Lm];show wpAny _ A.in1 (pyNext (.ref I) >>= _) _ _ s;refine GK$ W.item i s _ _ J st λv a X u m=>?_;obtain⟨x,t,B,rfl⟩:=Q i v X;show wpAny _ A.in1 (holding [Value.str x t] (setAdd S$ .str x t) >>= _) _ _ a;refine GK$ Ht ?_;have h:L.Nodup:=by obtain⟨_,_,_,_,_,_,_,_,_,h,_⟩:=p;exact h
  refine XQ (p.at λo e=>m.heap S o f e) (d L h λx B=>HZ ((q x).mp B)) λb h' Y K S2 g=>?_;refine GL #[Lj Lm _,V (i+1) _ _ RU J (W.frame _ a _ _ u g λb d o e=>?_) S2 (λy=>?_) ?_ λC l M D q1 q2=>?_]
  ·rw[K.2 b (λz:b=S=>H (by rw[<- z];exact d))];exact e
  ·have tk:c.take (i+1)=c.take i++[x]:=by rw[Lh,B];rfl
   rw[tk,LK,M8,<- q y];split
   ·rename_i hm
    exact#[.inl,λz=>z.elim id λe=>e▸hm]
   ·rw[LK,M8]
  ·split
   ·omega
   ·rw[GU,Lo];omega
  ·refine r C l (Moved.trans W.gtrans ((m.mono sub).then_heap g λb o d e=>?_) M) D q1 q2;rw[K.2 b (λz:b=S=>d (by rw[z];exact Hq))];exact e
end
section
variable {prog:Program}{w:World}{A:Around}{E:Value->Shared->Prop}{s:Shared}
set_option maxHeartbeats 3200000 in
theorem JR{Q:Value->Shared->Prop}
  (hh:A.handled=none) (hl:s.heap.IsList l I) (hi:StrsAre I.toList n) (C:∀L:List Str,L.Nodup->(∀x∈L,x∈n)->L.length+1 < scanBound)
  (h:∀(a:Heap) (t:Nat) L,cj prog w a s.heap.objs.size L->(∀x,x∈L↔x∈n)->L.length<=I.size->
   (∀b o,b < s.heap.objs.size->s.heap.get? b=some o->a.get? b=some o)->s.toks<=t->Q (.ref s.heap.objs.size) { s with heap:=a,toks:=t }):
  wpAny (model prog w) A (call (.type "set") [.ref l]) Q E s:=by
 obtain⟨c,tl,m1⟩:=PySem.F.called_set.mro;have m0:=PySem.F.called_set.made;have sb:=PySem.F.called_set.sub;refine M3$ N7 ?_;show wpAny _ _ (callAny (.type "set") _) _ _ _;refine GL #[Code.quiet_builtin _ RW,IA PySem.F.entry_type_call ?_];rw[Around.under_plain (weight_type_call_type "set" [.ref l] []) Z];have n1:=PySem.F.called_set.notType;have n2:=PySem.F.called_set.canCreate;have ct:=PySem.F.typeCall_set_1 (.ref l);repeat (any_goals (first |assumption |wp_step))
 refine LH (Qa (.ref l) (E:=E) (G:=λv S=>v= .ref s.heap.objs.size/\S={ s with heap:=s.heap.push (bj w) }) #[Z,Z]) λr S D=>?_;cases r with
 |error e=>exact D
 |ok fl=>
  cases fl with
  |ret o2=>
   obtain⟨rfl,rfl⟩:=D;have J:(s.heap.push$ bj w).get? s.heap.objs.size=some (bj w):=GZ _ Z;have hT:Shared.TypeIs { s with heap:=s.heap.push (bj w) } (.ref s.heap.objs.size) "set":=#[_,J,Z];have li:=PySem.F.called_set.init.lookup;have bi:=PySem.F.called_set.init.bind (.ref s.heap.objs.size);repeat (any_goals (first |assumption |wp_step))
   refine LH (O7 (R:=wants (λr d=>r= .none/\∃a t L,d={ s with heap:=a,toks:=t }/\cj prog w a s.heap.objs.size L/\(∀x,x∈L↔x∈n)/\L.length<=I.size/\
     (∀b o,b < s.heap.objs.size->s.heap.get? b=some o->a.get? b=some o)/\s.toks<=t) E) PySem.F.called_set.init.plain PySem.F.entry_set_init (check_set_init_1 hT ?_)) λp d H=>?_
   ·obtain⟨ol,q,u,nl,y⟩:=hl;obtain⟨o1,g,K,O⟩:=ol;simp only at u y;subst u;subst y;have f:(s.heap.push$ bj w).get? l=some { cls:=.type "list",dict:=g,data:=.seq I nl,slots:=O }:=GP _ q;have ns:=PySem.F.sub_list_set;have nf:=PySem.F.sub_list_frozenset;have ne:(Value.type "list"==Value.type "dict")=false:=by decide
    have j:(s.heap.push$ bj w).IsList l I:=#[_,f,Z,nl,Z];unfold bj at J hT f j ⊢;unfold Builtin.«set.__init__» noKeywords Builtin.Frozenset.updateFrom;generalize M:pyIter=PI;wp_walk;subst M;refine LZ j ?_;refine GK$ Oh ?_;have z:l < s.heap.objs.size:=GY q;have h3:A.in1.in1.in1.handled=none:=by simp [hh]
    have N:l≠(s.heap.push$ bj w).objs.size:=by rw[Ia];exact Hd$ Lq z
    have P:¬s.heap.objs.size∈[(s.heap.push$ bj w).objs.size,l]:=by rw[Ia];simp only[II,HG,Mh,not_or];exact#[Hd$ IB _,Ic z]
    have B:n.length=I.size:=by rw[_L.StrsAre.len hi,HE]
    refine Ji ((PZ h3 _ l N I).toS) s.heap.objs.size P n B (λi v hv=>StrsAre.at' hi i v (by rw[IY];exact hv)) C (I.size - 0) 0 _ [] RU (Hg _)
     #[#[_,GZ _ Z,Z,Z],j.push _] (XS$ GP _ J) (λx=>by simp) (GV _) λs' L m T U V=>?_
    obtain⟨a,g',d',W,X⟩:=s';have eg:g'=s.gens:=m.gens;have ed:d'=s.drawn:=m.drawn;have eo:X=s.os:=m.os;subst eg;subst ed;subst eo;show wpAny _ _ _ _ _ _;refine GL ?_;show wpAny _ _ (ret Value.none) _ _ _;refine GL #[Z,a,W,L,Z,T,U,V,λb o C e=>?_,m.toks];have b1:b≠s.heap.objs.size:=Hd C;have b2:b≠(s.heap.push$ bj w).objs.size:=by rw[Ia];exact Hd$ Lq C
    exact m.heap b o (by simp only[II,HG,Mh,not_or];exact#[b1,b2])$ GP _$ GP _ e
   ·cases p with
    |error e=>exact H
    |ok k=>
     cases k with
     |ret r=>
      obtain⟨rfl,a,t,L,rfl,T,U,V,Y,q3⟩:=H;repeat (any_goals (first |assumption |wp_step))
      exact h _ _ _ T U V Y q3
     |_=>exact H.elim
  |_=>exact D.elim
end
section
variable {X:Cx}
theorem qK(m:X.calm=true):dm X (.type "set") (λg H Q=>∃(p:Addr) (S:List Str),g=[.ref p]/\aB X.K H p (S.map V.str)/\(∀L:List Str,L.Nodup->(∀x∈L,x∈S)->L.length+1 < scanBound)/\
  ∀l L,H l=none->L.Nodup->(∀x,x∈L↔x∈S)->Q (.ref l) (af H l$ EA X.prog X.w l L)):=by
 intro P s B H g U Q I r h;obtain⟨p,S,rfl,n,t,q⟩:=h;obtain⟨u,rfl,R⟩:=eI r;cases R;obtain⟨i,v,y,C⟩:=I.list n;have j:=zY v;have D:i.length=S.length:=(_L.StrsAre.len j).symm;refine JR (I.ok.hd m) y.isList (by simpa using j) t λc T L d z E k _=>?_;have a:L.Nodup:=by obtain⟨_,_,_,_,_,_,_,_,_,a,_⟩:=d;exact a
 have A:∀b o,s.heap.get? b=some o->c.get? b=some o:=λb o e=>k b o (GY e) e;obtain⟨o,f⟩:∃o,c.get? s.heap.objs.size=some o:=let #[o,_,_,_,f,_]:=d;#[o,f]
 exact#[.ref s.heap.objs.size,_,I.laid A (GV _) (show aN X.prog X.w _ c _ (EA X.prog X.w s.heap.objs.size L) from #[d,#[o,f],λF G x e=>cj.at x e]),Z,q _ _ (I.hok.fresh$ GV _) a z]
end
section
variable {X:Cx}{CX:ny}{k:Nat}{f C:Addr}{fd:FuncData}{ps:List Str}{sp:Sp}{dvs:List V}{ds:List Value}{E:XK}{x m:Str}{p pos apos:Pos}{e:Expr}{es:List Expr}{t:TA}
structure yN(K:Frag)(C:Addr)(m:Str)(f:Addr):Prop where
 rd:PySem.W.readsIn K C (.type "type")=true
 ga:specialIn K (.ref C) "__getattribute__"=some (some$ .builtin "type.__getattribute__")
 at_:PySem.W.findCls K (.ref C) (.type "type") m=some (.val$ .ref f)
 kp:keepIn K (.ref f)=true
theorem wE{pl:Sem Bool}(j:Gl X x)(l:X.mg x=some (.ref C))(M:yN X.K C m f)(F:aj X.prog X.w X.K X.mg X.base CX k f fd ps sp)(n:bu k X.A)(q:ay X.K fd ps ds)(u:aw dvs ds)(v:di CX X E)(y:PA X (e::es) t)
  (a:(x==("__debug__":Str))=false:=by decide)
  (c:starEach (e::es) X.env=(false,eval e X.env)::starEach es X.env:=by rfl) (d:(backTo pos$ starEach es X.env).any (·.1)=false:=by rfl)
  (z:eval (.Call (.Attribute (.Name x p) m apos) (e::es) [] pos) X.env=(do
   let O <- eval (.Name x p) X.env
   standAt apos.atName
   let (f,first) <- holding [O] (getMethod O m pl)
   callWith pos f first (backTo pos$ starEach (e::es) X.env) (backToKw pos$ keywordEach [] X.env)):=by rfl):
  PE X (.Call (.Attribute (.Name x p) m apos) (e::es) [] pos) (dF sp dvs E t):=by
 intro P s g H Q I h;refine Mx (pl:=pl) (zb I j l ?_ a) z;refine PySem.W.method_cls I.kIn M.ga$ PySem.W.cls_value I.kIn M.rd M.at_ Z ?_;have B:ap X P g H { s with toks:=s.toks+1 }:=I.kept (h':=s.heap) λb o e=>e;refine Nq (h₀:=X.base) I.ok.mod.kin M.kp (aK (y pos P _ g H _ B h) λU S #[G,J,i,r,D]=>#[i.kIn,?_]) c d;exact QN F n q u v i r D
end
abbrev eK(h:Heap)(z u v T:Addr)(f:Bool):Prop:=
 h.get? z=some { cls:=.type "zip",dict:=none,data:=.fields (List.toArray [rawInt T,.bool f,.bool false,.ref u,.ref v]),slots:=(List.toArray []) }
section
variable {prog:Program}{w:World}{A:Around}{E:Value->Shared->Prop}{s:Shared}
theorem ZV{Q:Option Obj->Shared->Prop}(h:Q (s.heap.get? a) s):wpAny M A (loadIfAlive a) Q E s:=λ_ _ _=>h
theorem C1{Q:Bool->Shared->Prop}(H:eK s.heap z u v T f)(a:∃o,s.heap.get? T=some o)
  (q:∀h,eK h z u v T true->Heap.ExtBut z s.heap h->h.objs.size=s.heap.objs.size->Q false { s with heap:=h }):wpAny (model prog w) A (Builtin.SmallTypes.ownedTupleIsFree$ .ref z) Q E s:=by
 unfold Builtin.SmallTypes.ownedTupleIsFree;refine GK$ HC H Z (x:=rawInt T) Z ?_;show wpAny _ _ (loadIfAlive ((T:Int).toNat) >>= _) _ _ s;refine GK$ ZV ?_;obtain⟨o,c⟩:=a;rw[Ie,c];simp only[On,Hi,Ix];refine GK$ HC H Z (x:=.bool f) Z ?_;cases f with
 |true=>simp only[Lk,Hi,Ix];exact GK$ GL$ GL$ q s.heap H (λb o _ e=>e) Z
 |false=>rw[Hm RT];refine GK$ Lp H RV λh d S=>GL (q h d S.extBut S.1)
theorem xQ{Q:Option Value->Shared->Prop}(D:ve z u v c d a b)
  (g:eK s.heap z u v T f) (p:∃o,s.heap.get? T=some o) (q:IsPair s.heap u (.ref c) (.ref d)) (r:gq B s.heap c a k) (t:gq l s.heap d b k) (G:ij B s.heap a C) (F:ij l s.heap b Y) (I:C[k]?=some x) (J:Y[k]?=some y)
  (L:∀h,eK h z u v T true->gq B h c a (k+1)->gq l h d b (k+1)->IsPair h s.heap.objs.size x y->h.objs.size=s.heap.objs.size+1->
   (∀e o,e≠z->e≠c->e≠d->s.heap.get? e=some o->h.get? e=some o)->Q (some$ .ref s.heap.objs.size) { s with heap:=h }):wpAny (model prog w) A (pyNext$ .ref z) Q E s:=by
 have H:s.TypeIs (.ref z) "zip":=#[_,g,Z];unfold pyNext;refine GK$ Li$ HL (name:=Str.ofString "__next__") H Iw$ HP Iw H LP (show wpAny _ _ (field (.ref z) 2 >>= _) _ _ _ from ?_)$ LD _;refine GK$ HC g Z (x:=.bool false) Z (show wpAny _ _ (field (.ref z) 3 >>= _) _ _ _ from GK$ HC g Z (x:=.ref u) Z$ GK$ Ih q Z ?_);refine(show wpAny _ _ (Builtin.SmallTypes.ownedTupleIsFree (.ref z) >>= _) _ _ _ from GK$ C1 g p λO P i n=>?_);simp only[Hi,Ix];refine GK ?_;simp only[OD,IN,Lv];refine GK$ GK$ Ht (show wpAny _ _ (Builtin.SmallTypes.nextOf (.ref c) >>= _) _ _ _ from ?_);refine GK$ zZ (s:={ s with heap:=O }) (r.kp λo e=>i _ _ D.cz e) (G.kp λo e=>i _ _ D.az e) I λM R j=>GL (GL ?_);refine GK$ GK$ Ht (show wpAny _ _ (Builtin.SmallTypes.nextOf (.ref d) >>= _) _ _ _ from ?_);have K:∀e o,e≠z->e≠c->s.heap.get? e=some o->M.get? e=some o:=λe o n U w=>j.extBut _ _ U (i _ _ n w);refine GK$ zZ (s:={ s with heap:=M }) (t.kp λo e=>K _ _ D.dz D.cd.symm e) (F.kp λo e=>K _ _ D.bz D.bc e) J λm V S=>GL (GL$ GL ?_);show wpAny _ _ (newTuple [x,y] >>= _) _ _ _;refine GK$ Oi$ GL #[_,Z,GL ?_];have N:m.objs.size=s.heap.objs.size:=by rw[S.1,j.1];exact n
 have W:eK m z u v T true:=S.extBut _ _ D.dz.symm (j.extBut _ _ D.cz.symm P);show Q (some$ .ref m.objs.size) _;rw[N];refine L _ (GP _ W) (R.kp λo e=>GP _ (S.extBut _ _ D.cd e)) (V.kp λo e=>GP _ e) (by rw[<- N];exact GZ _ Z) (by rw[Ia,N]) λe o X a2 a3 w=>GP _ (S.extBut _ _ a3$ K _ _ X a2 w)
theorem Cp{b2:Bool}{ys:Array Value}{Q:Option Value->Shared->Prop}(j:A.handled=none)(D:ve z u v c d a b)
  (H:eK s.heap z u v T f) (l:∃o,s.heap.get? T=some o) (m:IsPair s.heap u (.ref c) (.ref d)) (p:gq B s.heap c a k) (G:ij B s.heap a q) (r:q[k]?=none)
  (t:∀i,(∀e o,e≠z->e≠c->e≠d->s.heap.get? e=some o->i.get? e=some o)->Q none { s with heap:=i }):wpAny (model prog w) A (pyNext$ .ref z) Q E s:=by
 have h:s.TypeIs (.ref z) "zip":=#[_,H,Z];unfold pyNext;refine GK$ Li$ HL (name:=Str.ofString "__next__") h Iw$ HP Iw h LP (show wpAny _ _ (field (.ref z) 2 >>= _) _ _ _ from ?_)$ LD _;refine GK$ HC H Z (x:=.bool false) Z (show wpAny _ _ (field (.ref z) 3 >>= _) _ _ _ from GK$ HC H Z (x:=.ref u) Z$ GK$ Ih m Z ?_);refine(show wpAny _ _ (Builtin.SmallTypes.ownedTupleIsFree (.ref z) >>= _) _ _ _ from GK$ C1 H l λM F g n=>?_);simp only[Hi,Ix];refine GK ?_;simp only[OD,IN,Lv];refine GK$ GK$ Ht (show wpAny _ _ (Builtin.SmallTypes.nextOf (.ref c) >>= _) _ _ _ from ?_);refine GK$ QD (s:={ s with heap:=M }) (by simpa using j) (p.kp λo e=>g _ _ D.cz e) (G.kp λo e=>g _ _ D.az e) r λy e S C=>?_;exact GK$ Ll (T:="StopIteration") (b:=true) C Na$ GL$ t y λe o n N I w=>S _ _ N (g _ _ n w)
end
theorem JA:typeLookup (.type "zip") "__getattr__"=pure none:=by rw[Iz,HW];kernel_rfl
theorem XV:typeLookup (.type "zip") "keys"=pure none:=by rw[Iz,HW];kernel_rfl
theorem Xl:entryFor table "zip.__getattribute__"=some Builtin.«object.__getattribute__»:=
 Nb (id':="object.__getattribute__") (by kernel_rfl) RW RW (by kernel_rfl)
theorem KW(a:Addr)(x:Array Value)(S:Array (Option Value))(u:Tok):
  Meets (Builtin.«object.__getattribute__» #[[.ref a,.str "keys" u],[]]) (λA R s=>s.heap.get? a=some { cls:=.type "zip",dict:=none,data:=.fields x,slots:=S }/\raisesAttr (.ref a) "keys" A R s):=
 PM λp w A R s H=>by
  obtain⟨c,g,d,t,os⟩:=s;obtain⟨e,H⟩:=H;have f:(#[c,g,d,t,os]:Shared).TypeIs (.ref a) "zip":=#[_,e,Z];have b:=XV;have h:(["__module__","__name__","__qualname__","__doc__","__annotations__"]:List Str).contains "keys"=false:=by decide+kernel
  unfold Builtin.«object.__getattribute__»;repeat (any_goals (first |assumption |wp_step))
  try simp only[h,Hi,Ix]
  repeat (any_goals (first |assumption |wp_step))
  exact wpAny_raiseAttrError H.1 H.2$ attrMsg_fits RW (by size_fits)
section
variable {prog:Program}{w:World}{A:Around}{E:Value->Shared->Prop}{s:Shared}
theorem vQ{Q:Option Value->Shared->Prop}(f:s.heap.get? a=some { cls:=.type "zip",dict:=none,data:=.fields x,slots:=j })(k:A.handled=none)
  (h:∀c T,(∀b o,s.heap.get? b=some o->c.get? b=some o)->Q none { s with heap:=c,toks:=T }):wpAny (model prog w) A (getAttr? (.ref a) "keys") Q E s:=by
 obtain⟨l,g,d,T,os⟩:=s;have i:∀t,(#[l,g,d,t,os]:Shared).TypeIs (.ref a) "zip":=λ_=>#[_,f,Z];have m:=sub_AttributeError;have n:=PySem.F.slot_zip_getattribute.lookup;have p:=PySem.F.slot_zip_getattribute.bind (.ref a);have q:=JA;unfold getAttr? getAttrBy? getAttrBy;repeat (any_goals (first |assumption |exact i _ | ((with_reducible show wpAny _ _ (call (Value.builtin "zip.__getattribute__") _ _) _ _ _);refine Np PySem.F.slot_zip_getattribute (i _) Xl (PySem.F.args_zip_getattribute_2 _ _) (KW a x j _) #[f,by simpa using k,λc t e H=>?_]) |wp_step))
 obtain⟨r,u,v⟩:=H.there;show wpAny _ _ (getattributeRaised _ _ _ _ _ _ _) _ _ _;unfold getattributeRaised;repeat (any_goals (first |assumption |wp_step))
 exact h _ _ H.keeps
def yW(h:Heap)(z u v c d a b Dd:Addr)(x y:Array Value)(i:Nat):Prop:=
 ((IsZip h z u v .none/\∃p q,IsPair h v p q)∨∃T f o,eK h z u v T f/\h.get? T=some o/\T≠z/\T≠c/\T≠d/\T≠Dd)/\IsPair h u (.ref c) (.ref d)/\gq false h c a i/\gq false h d b i/\ij false h a x/\ij false h b y
theorem xU{Dd:Addr}{Q:Option Value->Shared->Prop}(D:ve z u v c d a b)(l:Dd < s.heap.objs.size)(S:yW s.heap z u v c d a b Dd J Y k)(L:J[k]?=some x)(M:Y[k]?=some y)
  (N:∀h,yW h z u v c d a b Dd J Y (k+1)->IsPair h s.heap.objs.size x y->h.objs.size=s.heap.objs.size+1->(∀e o,e≠z->e≠v->e≠c->e≠d->s.heap.get? e=some o->h.get? e=some o)->Q (some$ .ref s.heap.objs.size) { s with heap:=h }):wpAny (model prog w) A (pyNext$ .ref z) Q E s:=by
 obtain⟨H,g,j,m,G,i⟩:=S;obtain⟨oc,n,_⟩:=j.ob;obtain⟨od,r,_⟩:=m.ob;rcases H with ⟨H,p,q,U⟩ | ⟨T,f,o,H,O,t,P,R,V⟩
 ·refine xR D H g U j m G i L M λh B v1 I C t F K=>N h #[.inr #[s.heap.objs.size,false,_,B,t,Ic$ GY H,Ic$ GY n,Ic$ GY r,Ic l],K _ _ D.uz D.uv D.uc D.ud g,I,C,G.kp λo e=>K _ _ D.az D.av D.ac D.ad e,i.kp λo e=>K _ _ D.bz D.bv D.bc D.bd e] t F K
 ·refine xQ D H #[o,O] g j m G i L M λh B I C W F K=>N h #[.inr #[T,true,o,B,K _ _ t P R O,t,P,R,V],K _ _ D.uz D.uc D.ud g,I,C,G.kp λo e=>K _ _ D.az D.ac D.ad e,i.kp λo e=>K _ _ D.bz D.bc D.bd e] W F λe o X n2 n3 n4 w=>K e o X n3 n4 w
theorem Cu{Dd:Addr}{Q:Option Value->Shared->Prop}(g:A.handled=none)(D:ve z u v c d a b)(n:yW s.heap z u v c d a b Dd x ys k)(i:x[k]?=none)
  (j:∀H,(∀e o,e≠z->e≠v->e≠c->e≠d->s.heap.get? e=some o->H.get? e=some o)->Q none { s with heap:=H }):wpAny (model prog w) A (pyNext$ .ref z) Q E s:=by
 obtain⟨h,l,m,B,G,C⟩:=n;rcases h with ⟨h,p,q,F⟩ | ⟨T,f,o,h,r,I,J,L,M⟩
 ·exact Cq (b2:=false) (p:=p) (q:=q) (ys:=ys) g D h l m G i j
 ·exact Cp (b2:=false) (ys:=ys) g D h #[o,r] l m G i λH K=>j H λe o N O t y w=>K e o N t y w
structure EJ(D z u v c d a b:Addr):Prop where
 z:D≠z
 u:D≠u
 v:D≠v
 c:D≠c
 d:D≠d
 a:D≠a
 b:D≠b
theorem yW.keep{h j:Heap}{Dd:Addr}(F:EJ Dd z u v c d a b)(k:∀e o,e≠Dd->h.get? e=some o->j.get? e=some o)(st:yW h z u v c d a b Dd x y i):yW j z u v c d a b Dd x y i:=by
 obtain⟨H,l,m,n,G,r⟩:=st;refine#[?_,k _ _ F.u.symm l,m.kp λo e=>k _ _ F.c.symm e,n.kp λo e=>k _ _ F.d.symm e,G.kp λo e=>k _ _ F.a.symm e,r.kp λo e=>k _ _ F.b.symm e];rcases H with ⟨H,p,q,B⟩ | ⟨T,f,o,H,g,C,D,I,t⟩
 ·exact .inl #[k _ _ F.z.symm H,p,q,k _ _ F.v.symm B]
 ·exact .inr #[T,f,o,k _ _ F.z.symm H,k _ _ t g,C,D,I,t]
theorem KY{K:Type}[DecidableEq K]{knd:KeyKind prog w K}{R:Result->Shared->Prop}{Dd:Addr}{x:Array Value}(X:A.handled=none)(D:ve z u v c d a b)(F:EJ Dd z u v c d a b)(m:List (K×Value))(Y:m.length=x.size)(h0:x.size<=sizeLine)
  (hP:∀(i:Nat),i < x.size->∃f V k,x[i]?=some f/\ys[i]?=some V/\knd.is k f=true/\m[i]?=some (k,V)):
  ∀(j i:Nat) (s:Shared) (n:Int),x.size - i=j->i<=x.size->yW s.heap z u v c d a b Dd x ys i->s.heap.DictOf knd Dd (merged []$ m.take i)->
   (∀h T,(∀e o,e≠Dd->e≠z->e≠v->e≠c->e≠d->s.heap.get? e=some o->h.get? e=some o)->h.DictOf knd Dd (merged [] m)->R (.ok$ .ret .none) { s with heap:=h,toks:=T })->
   codeAny (model prog w) A (.builtin "dict.update.loop" #[[.ref Dd,.ref z,.int n 0,.none],[]]) R s:=by
 intro j;induction j with
 |zero=>
  intro i s n hj hi st q C;have e:i=x.size:=by omega
  subst e;refine IA JL ?_;rw[Ig zH];show wpAny _ A.in1 (pyNext (.ref z) >>= _) _ _ s;refine GK$ Cu (by simpa using X) D st RV λh g=>?_;show wpAny _ A.in1 (Builtin.Dict.addKeywords Dd [] >>= λ_=>ret Value.none) _ _ { s with heap:=h };refine GK ?_;unfold Builtin.Dict.addKeywords;refine GL$ GL$ C h s.toks (λe o _ N t y B w=>g e o N t y B w) ?_;rw[<- Y,HY]at q;obtain⟨o,es,ep,ho,r⟩:=q;exact#[o,es,ep,g _ _ F.z F.v F.c F.d ho,r]
 |succ j ih=>
  intro i s n hj hi st q C;have M:i < x.size:=by omega
  obtain⟨f,V,k,hx,hy,O,hm⟩:=hP i M;refine IA JL ?_;rw[Ig zH];show wpAny _ A.in1 (pyNext (.ref z) >>= _) _ _ s;obtain⟨oD,G,I,H,rD⟩:=id q;have L:Dd < s.heap.objs.size:=GY H;refine GK$ xU D L st hx hy λl S P N g=>?_;have hb:Shared.TypeIs { s with heap:=l } (.ref s.heap.objs.size) "tuple":=#[_,P,Z];have J:l.DictOf knd Dd (merged []$ m.take i):=#[oD,G,I,g _ _ F.z F.v F.c F.d H,rD];dsimp only;refine GK$ Ht ?_;refine GK$ wpAny_tryCatch ?_;unfold Builtin.Dict.pairItems;refine GK$ IZ hb ?_;rw[Hm RT];refine GK$ Ih P Z$ GL ?_;show wpAny _ A.in1 (holding [f,V]$ dictSet Dd f V) _ _ { s with heap:=l };unfold dictSet;refine Ht$ Ht$ GK$ knd.pyHash O ?_;have Q:(merged ([]:List (K×Value))$ m.take i).length<=i:=by have:=PY ([]:List (K×Value)) (m.take i);rw[HF]at this;simp only[LM]at this;omega
  refine wpAny_dictSetHashed_pairs (s:={ s with heap:=l,toks:=s.toks+1 }) O J (λh p sb=>?_) RU;rw[<- merged_take_succ [] m i (k,V) hm]at p;have U:∀e o,e≠Dd->l.get? e=some o->h.get? e=some o:=λe o ne w=>(sb.2 e ne).trans w;refine GL #[Lj zH _,ih (i+1) _ (n+1) RU M (S.keep F U) p λh2 T k2 d2=>C h2 T (λe o W N t y B w=>k2 e o W N t y B (U _ _ W$ g e o N t y B w)) d2]
theorem Qh{K:Type}[DecidableEq K]{knd:KeyKind prog w K}{more:List (K×Value)}{Q:Value->Shared->Prop}(N:A.handled=none)(D:ve z u v c d a b)
  (j:IsZip s.heap z u v .none) (P:IsPair s.heap u (.ref c) (.ref d)) (m:∃p q,IsPair s.heap v p q) (U:gq false s.heap c a 0) (V:gq false s.heap d b 0) (W:ij false s.heap a x) (X:ij false s.heap b ys)
  (hn:more.length=x.size) (n:x.size<=sizeLine) (hP:∀(i:Nat),i < x.size->∃Y vu k,x[i]?=some Y/\ys[i]?=some vu/\knd.is k Y=true/\more[i]?=some (k,vu))
  (h:∀l t,l.DictOf knd s.heap.objs.size (merged [] more)->(∀e o,e≠z->e≠v->e≠c->e≠d->s.heap.get? e=some o->l.get? e=some o)->Q (.ref s.heap.objs.size) { s with heap:=l,toks:=t }):
  wpAny (model prog w) A (call (.type "dict") [.ref z]) Q E s:=by
 refine RL (Q₁:=λO S=>O= .ref s.heap.objs.size/\S={ s with heap:=s.heap.push { cls:=.type "dict",data:=.dict (List.toArray []) } }) PySem.F.kt_called_dict (PySem.F.kt_typeCall_dict_1 _) PySem.F.entry_dict_init (kt_code_dict_new _ #[Z,Z]) ?_;rintro O S ⟨rfl,rfl⟩;have f:(s.heap.push { cls:=.type "dict",data:=.dict (List.toArray []) }).DictOf knd s.heap.objs.size []:=Of s.heap;refine#[f.typeIs,PySem.F.args_dict_init_2 _ _,?_];unfold Builtin.«dict.__init__»;refine GK ?_;unfold Builtin.Dict.selfAndRest;refine GK$ wpAny_notOrdered_dict f.typeIs ?_;show wpAny _ _ (pure (s.heap.objs.size,[Value.ref z])) _ _ _;refine GL ?_;show wpAny _ _ (Builtin.Dict.updateFrom "dict.__init__" s.heap.objs.size (.ref z) [] .none) _ _ _;unfold Builtin.Dict.updateFrom;generalize hH:s.heap.push { cls:=.type "dict",data:=.dict (List.toArray []) }=H at f ⊢;have G:∀b o,s.heap.get? b=some o->H.get? b=some o:=λb o e=>by rw[<- hH];exact GP _ e
 refine GK$ IZ #[_,G _ _ j,Z] ?_;rw[Hm RT];refine GK$ vQ (s:={ s with heap:=H }) (G _ _ j) (by simpa using N) λM t k1=>?_;simp only[Oo,Mi];refine GK$ J' ?_;have g:∀b o,s.heap.get? b=some o->M.get? b=some o:=λb o e=>k1 _ _ (G _ _ e);refine GK$ wpAny_pyIter_zip (s:={ s with heap:=M,toks:=t }) (g _ _ j) ?_;obtain⟨oD,eD,y,B,rD⟩:=f;obtain⟨p,q,m⟩:=m;obtain⟨oc,C,_⟩:=U.ob;obtain⟨od,I,_⟩:=V.ob;obtain⟨oa,J,_⟩:=id W;obtain⟨ob,L,_⟩:=id X;have F:EJ s.heap.objs.size z u v c d a b:=#[Ic$ GY j,Ic$ GY P,Ic$ GY m,Ic$ GY C,Ic$ GY I,Ic$ GY J,Ic$ GY L];refine GL #[Lj zH _,LH (KY (knd:=knd) (A:=A.in1) (R:=λr s'=>r= .ok (.ret .none)/\Q (.ref s.heap.objs.size) s') (by simpa using N) D F more hn n hP x.size 0 { s with heap:=M,toks:=t } 0 Z (Hg _)
  #[.inl #[g _ _ j,p,q,g _ _ m],g _ _ P,U.kp λo e=>g _ _ e,V.kp λo e=>g _ _ e,W.kp λo e=>g _ _ e,X.kp λo e=>g _ _ e] #[oD,eD,y,k1 _ _ B,rD] λl T k2 d2=>#[Z,?_]) λr s' q=>?_]
 ·exact h l T d2 λe o n1 n2 n3 n4 w=>k2 e o (Hd$ GY w) n1 n2 n3 n4 (g _ _ w)
 ·obtain⟨rfl,q⟩:=q;exact#[Z,q]
end
section
variable {X:Cx}{e1 e2:Expr}{ta:TA}{p p2 pos pos2:Pos}
inductive Ei(K:Frag)(Q:VK)(e:List V)(c:Hp):Prop
 |mk(a b:Addr)(d:List bJ)(f:List V)(_:e=[.ref a,.ref b])(_:ax K c a (d.map kV))(_:ax K c b f)(_:d.length=f.length)(_:∀l,c l=none->Q (.ref l) (af c l (.dK (c7 [] (d.zip f)))))
def Gs(K:Frag)(ta:TA):TE:=λa H Q=>ta a H (Ei K Q)
theorem Y5{P:Program}{w:World}:∀{K:List bJ} {U:List Value},aw (K.map kV) U->∀(i:Nat) (k:bJ),K[i]?=some k->∃u,U[i]?=some u/\(aP P w).is k u=true
 | [],_,_,i,k,h=>by simp at h
 |k0::K,_,.cons (b:=u) h t,0,k,e=>by
  have E:k0=k:=by simpa using e
  subst E;exact#[u,Z,J6 h]
 |k0::K,_,.cons h t,i+1,k,e=>by simpa using Y5 (P:=P) (w:=w) t i k (by simpa using e)
theorem rq:∀{K:List bJ} {y:List V} {u:List Value},aw y u->KV (K.zip y) (K.zip u)
 | [],_,_,_=>by simp only[ON];exact .nil
 |_::_,_,_,.nil=>by simp only[OA];exact .nil
 |k::K,_,_,.cons h t=>.cons #[Z,h] (rq t)
theorem Y6(m:Gl X "dict")(n:X.mg "dict"=none)(t:Gl X "zip")(v:X.mg "zip"=none)(N:X.calm=true)(O:PA X [e1,e2] ta)
  (T:starEach [e1,e2] X.env=(false,eval e1 X.env)::starEach [e2] X.env:=by rfl) (U:(backTo pos2$ starEach [e2] X.env).any (·.1)=false:=by rfl)
  (f:starEach [Expr.Call (.Name "zip" p2) [e1,e2] [] pos2] X.env=(false,eval (.Call (.Name "zip" p2) [e1,e2] [] pos2) X.env)::starEach [] X.env:=by rfl) (x:(backTo pos$ starEach [] X.env).any (·.1)=false:=by rfl):
  PE X (.Call (.Name "dict" p) [.Call (.Name "zip" p2) [e1,e2] [] pos2] [] pos) (Gs X.K ta):=by
 intro P s V H Q I h;refine Ii$ zU I m n RG ?_;refine HX ?_ f x;rw[f];show wpAny _ _ (spliced ((false,eval _ X.env)::backTo pos (starEach [] X.env))) _ _ s;refine Ir ?_;refine Ii$ zU I t v RE ?_;refine HX (aK (O pos2 P s V H _ I h) λus S z=>?_) T U;obtain⟨vs,H1,d,W,Y⟩:=z;obtain⟨a,b,c,ys,e,gx,gy,hl,q⟩:=Y;subst e;cases W with
 |cons r rr=>
  cases rr with
  |cons r' y=>
   cases y;cases r;cases r';obtain⟨A,F,G,z1⟩:=d.tuple gx;obtain⟨j,R,C,z2⟩:=d.tuple gy;have l1:=F.length;have l2:=R.length;rw[GQ]at l1 z1;have la:a < S.heap.objs.size:=by obtain⟨o,D,_⟩:=G;exact GY D
   have lb:b < S.heap.objs.size:=by obtain⟨o,D,_⟩:=C;exact GY D
   refine Cr (b1:=false) (b2:=false) (xs:=A.toArray) (ys:=j.toArray) G C λE J u' v' i1 i2 k=>?_;refine IM ?_;have Dz:=xT S.heap.objs.size a b la lb;refine Qh (s:={ S with heap:=E }) (knd:=aP X.prog X.w) (more:=c.zip j) (d.ok.hd N) Dz J u' #[_,_,v'] i1 i2 (ij.kp (b:=false) G λo e=>k _ _ e) (ij.kp (b:=false) C λo e=>k _ _ e) (by rw[Nt,GX];omega) (by rw[GX];omega) (λi hi=>?_) λh2 tk dd k2=>?_
   ·rw[GX]at hi;have L:i < c.length:=by omega
    have M:i < j.length:=by omega
    obtain⟨u,hu,ku⟩:=Y5 F i _ (GN L);refine#[u,j[i],c[i],by simpa using hu,by simp [M],ku,?_];rw[NO];exact#[GN L,GN M]
   ·have g:KV (c7 []$ c.zip ys) (merged []$ c.zip j):=KV.merge (rq R) .nil;have zl:(c7 []$ c.zip ys).length<=sizeLine:=by rw[g.length];have:=PY ([]:List (bJ×Value)) (c.zip j);rw[Nt]at this;simp only[LM]at this;omega
    have k3:∀e o,S.heap.get? e=some o->h2.get? e=some o:=λe o w=>by have l:=GY w;exact k2 e o (Hd$ He l$ LA _ _) (Hd$ He l$ LA _ _) (Hd l) (Hd$ He l$ LA _ _)$ k _ _ w
    have B:S.heap.objs.size<=E.objs.size:=Ld (IH (LA _ 4)$ GY J);exact#[.ref E.objs.size,_,d.laid k3 B$ pM zl (beq_eq_false_iff_ne.mpr$ HI$ Hd$ He d.big B) g dd,Z,q _$ d.hok.fresh B]
end
section
variable {X:Cx}{st:Stmt}{ss:List Stmt}{e:Expr}{es:List Expr}
def Gr:TS:=λ_ _ _=>False
theorem sC:iG X ss Gr:=λ_ _ _ _ _ _ h=>False.elim h
end
end _L
namespace _L
open PySem PySem.Spec PyProof.Rows PySem.SeqAt
inductive DR(K:Frag)(x y:V)(H:Hp)(Q:VK):Prop
 |mk(a b d e:_)(_:x= .ref a)(_:y= .ref b)(_:ax K H a d)(_:ax K H b e)(_:(d.all cp=true/\e.all cp=true/\Q (.bl (mK d e)) H)∨∃(w:Str) (c:Addr) (zs:List V) (u:Str) (i:Int),d=[.str w,.ref c]/\ax K H c zs/\e=[.str u,.int i]/\Q (.bl false) H)
theorem Bi{X:Cx}(d:X.A.units+1 < cLine):eh X (compareOp .Eq) (DR X.K):=by
 intro p s m H x y v U Q I f g h;obtain⟨a,b,n,Y,rfl,rfl,k,l,h | ⟨w,c,M,u,i,rfl,o,rfl,q⟩⟩:=h
 ·exact sd (Mq d) p s m H _ _ v U Q I f g #[a,b,n,Y,Z,Z,k,l,h]
 cases f;cases g;obtain⟨N,r,P,_⟩:=I.tuple k;obtain⟨O,R,t,_⟩:=I.tuple l;obtain⟨S,V,z,_⟩:=I.tuple o;cases r with
 |cons B r=>
  cases r with
  |cons C r=>
   cases r;cases R with
   |cons D R=>
    cases R with
    |cons E R=>
     cases R;obtain⟨T,rfl⟩:=B;cases C;obtain⟨F,rfl⟩:=D;obtain⟨G,rfl⟩:=E;refine eq_tupleAt (e:=λj=>if j=0 then w==u else false) (show s.heap.IsTuple a _ from P) (show s.heap.IsTuple b _ from t) (Mq d) (λj J L=>?_) ?_
     ·match j,J,L with
      |0,_,_=>exact Og w T u F
      |1,_,_=>exact Pp i G (show s.heap.IsTuple c _ from z) (by simpa [Around.in1,Around.units] using d)
     ·have e:((List.range$ min 2 2).all (λj=>if j=0 then w==u else false)&&(2:Nat)==2)=false:=by show((if 0=0 then w==u else false)&&((if 1=0 then w==u else false)&&true)&&true)=false;simp
      exact#[.bl false,H,I,Iq Value.bool e,q]
end _L
namespace _L
open PySem PySem.Spec PyProof.Rows
section
open PySem.W
theorem ZW{K:Frag}(X:K.In h)(a:h.get? x=some o)(b:o.cls= .ref C)(H:clsIn K B≠none)(tB:typeIn K (.ref B)=some (.type "type"))(m:mroIn K B (.type "BaseException")=some true)(c:mroIn K C (.ref B)=some false):
  Looks M h (excMatches (.ref x)$ .ref B) false:=by
 have L:Looks M h (typeOf$ .ref x) (.ref C):=b▸(O9 a).andThen .now;have l:=OK (M:=M) X tB;have _L:Looks M h (isInstance (.ref B)$ .type "tuple") false:=l.andThen (Pj tc_notTuple);have d:Looks M h (isType$ .ref B) true:=by
  unfold clsIn at H;split at H
  ·rename_i e
   intro A Q E s k q;unfold isType loadHead;exact GK$ Mt (k _ _$ X _ _ e)$ GL q
  ·exact absurd Z H
 have f:Looks M h (isExcClass$ .ref B) true:=by unfold isExcClass;exact d.andThen (by rw[Hm Z];exact MG X m)
 have g:=MG (M:=M) X c;intro A Q E s k q;unfold excMatches;refine GK$ _L A _ E s k ?_;rw[Ho RT];refine GK$ GL ?_;dsimp only;refine GK ?_;rw[IN];refine GK$ GK$ f A _ E s k ?_;simp only[LF,Hi,Ix];refine GL ?_;dsimp only;rw[Lv];refine GL ?_;refine GK$ L A _ E s k ?_;refine GK ?_;rw[IN];refine GK$ GK$ g A _ E s k ?_;simp only[Hi,Ix];refine GL ?_;dsimp only;rw[Lv];refine GL ?_;exact GL q
end
def yJ(K:Frag)(A B:Addr)(t:CY)(b c:TS):TS:=λD a H=>t D (λx C d _ h=>(mroIn K C (.ref A)=some true/\∀T,h T=none->b D a (af (af h T$ dJ T) x$ dW C d T x))∨(mroIn K C (.ref A)=some false/\mroIn K C (.ref B)=some true/\∀T,h T=none->c D a (af (af h T$ dJ T) x$ dW C d T x))) a H
section
variable {X:Cx}{st a₀ b₀:Stmt}{as bs:List Stmt}{tb:CY}{ta tc:TS}{ca cb:Str}{np np' hp hp' pos:Pos}{A B:Addr}
theorem wL(b:X.stack=X.env::X.outer)(M:X.env.frame=some X.env.locals)(hb:EQ X st tb)(hg:Gl X ca)(hm:X.mg ca=some (.ref A))(hA:clsIn X.K A≠none)(tA:typeIn X.K (.ref A)=some (.type "type"))(mA:mroIn X.K A (.type "BaseException")=some true)
  (N:Gl X cb) (O:X.mg cb=some (.ref B)) (hB:clsIn X.K B≠none) (tB:typeIn X.K (.ref B)=some (.type "type")) (mB:mroIn X.K B (.type "BaseException")=some true)
  (hs:∀e,iG (X.mark e λ_ _=>False) (a₀::as) ta) (P:∀e,iG (X.mark e λ_ _=>False) (b₀::bs) tc) (l:(ca==("__debug__":Str))=false:=by decide) (R:(cb==("__debug__":Str))=false:=by decide):
  PS X (.Try [st] [.ExceptHandler (some$ .Name ca np) none (a₀::as) hp,.ExceptHandler (some$ .Name cb np') none (b₀::bs) hp'] [] [] pos) (yJ X.K A B tb ta tc):=by
 intro p s U H D I h;refine PX$ MU$ Ib (hb p s U H D _ I h) (λf g q=>?_) λe g q=>?_
 ·cases f with
  |next=>exact Lg (Lg q)
  |ret v=>exact q
  |brk=>exact q
  |cont=>exact q
 obtain⟨x,C,d,T,V,rfl,m,hx,hT,o,q⟩:=q;obtain⟨⟨ox,vs,h1,h2,h3,h4,W,h6⟩,_⟩:=m.hok x _ hx;obtain⟨⟨oT,J,t1,t2,t3⟩,_⟩:=m.hok T _ hT;have u:=(Array.getElem?_eq_some_iff.mp h6).1;have Y:X.A.frames=some (X.env::X.outer):=by rw[<- b];exact m.ok.frames
 have f0:g.heap.FunFrames X.base (X.env::X.outer):=by rw[<- b];exact m.stack
 refine Jx (base:=X.base) Y f0 M h1 W h6 o t1 t2 t3 λg2 Nd=>?_;have E:(dA T g.heap).get? x=some ox:=(Hk _ _ o).trans h1;refine vH (s:={ g with heap:=g2 }) Nd E W u λg3 N1=>?_;obtain⟨t,hn,F,i⟩:=(m.cleared hT t1 t2 t3).noted (C:=C) (d:=d) (t':=g.toks) hx E h2 h4 W u (by unfold ip;rw[b];exact N1);have i:ap X p U (af (af V t$ dJ t) x$ dW C d t x) { g with heap:=g3 }:=i;obtain⟨⟨o1,v1,L,k2,k3,k4,k5,k6⟩,_⟩:=i.hok x _ jc;have G:af (af V t$ dJ t) x (dW C d t x) t=some (dJ t):=by rw[ji F,jc]
 obtain⟨⟨o2,t0,u1,u2,u3⟩,_⟩:=i.hok t _ G;have S:∀{E':Value->Shared->Prop} {c:Stmt} {cs:List Stmt} {J:TS} {hp:Pos},(∀e,iG (X.mark e λ_ _=>False) (c::cs) J)->J D U (af (af V t$ dJ t) x$ dW C d t x)->codeAny (model X.prog X.w) (X.A.mark$ some$ .ref x) (Code.handlers (.ref x) [.ExceptHandler none none (c::cs) hp] X.env) (λr a=>match r with | .ok f=>SP X p D f a | .error y=>cameBackBy (model X.prog X.w) X.A X.env E' y a) { g with heap:=g3 }:=by
  intro E' c cs J hp hz qz;refine codeAny_handlers_suite ?_;unfold setFlight;refine GK$ HC L k5 k6 ?_;rw[Hm (show(Value.ref t != Value.none)=true from by simp)];refine HV u1 u2 (Array.getElem?_eq_some_iff.mp u3).1 ?_;have I4:=i.cleared G u1 u2 u3;refine Ib (hz (.ref x) p _ _ _ D (I4.mark (.ref x) λ_ _=>False) qz) (λf s6 Q=>?_) λ_ _ z=>z.elim;cases f with
  |next=>obtain⟨j,H6,k,n⟩:=Q;exact#[_,_,k.unmark I.ok,n]
  |brk=>obtain⟨j,H6,k,n⟩:=Q;exact#[_,_,k.unmark I.ok,n]
  |cont=>obtain⟨j,H6,k,n⟩:=Q;exact#[_,_,k.unmark I.ok,n]
  |ret v=>obtain⟨y,j,H6,k,rv,n⟩:=Q;exact#[y,_,_,k.unmark I.ok,rv,n]
 rcases q with ⟨mC,q⟩ | ⟨mC,m0,q⟩
 ·refine Mm (Mb ?_) (by intro z;cases z);refine zb (i.mark (.ref x) λ_ _=>False) hg hm ?_ l;refine zL i.kIn L k2 hA tA mA mC _ _ _ _ (λ_ _ e=>e) ?_;exact S hs$ q t hn
 ·refine Mm (Mb ?_) (by intro z;cases z);refine zb (i.mark (.ref x) λ_ _=>False) hg hm ?_ l;refine ZW i.kIn L k2 hA tA mA mC _ _ _ _ (λ_ _ e=>e) ?_;refine Mm (Mb ?_) (by intro z;cases z);refine zb (i.mark (.ref x) λ_ _=>False) N O ?_ R;refine zL i.kIn L k2 hB tB mB m0 _ _ _ _ (λ_ _ e=>e) ?_;exact S P$ q t hn
end
theorem XX(l:Addr)(i:Array Value)(n:Nat)(D:Option Addr)(S:Array (Option Value)):
  Meets (Builtin.«enumerate.__new__» #[[.type "enumerate",.ref l],[]]) (λ_ R s=>s.heap.get? l=some { cls:=.type "tuple",dict:=D,data:=.seq i n,slots:=S }/\
   R (.ok$ .ret$ .ref (s.heap.push { cls:=.type "tuple_iterator",data:=.fields (List.toArray [.ref l,.int 0 0]) }).objs.size)
    { s with heap:=(s.heap.push { cls:=.type "tuple_iterator",data:=.fields (List.toArray [.ref l,.int 0 0]) }).push { cls:=.type "enumerate",data:=.fields (List.toArray [.none,.bool false,.ref s.heap.objs.size,rawInt 0,.none,.none]) } }):=
 .of_wp λp w A R s h=>by
  obtain⟨e,g,d,t,os⟩:=s;obtain⟨H,h⟩:=h;have b:=sub_enumerate;have a:Heap.IsTuple (Shared.heap #[e,g,d,t,os]) l i:=#[_,H,Z,n,Z];wp_walk using IF H;refine wpAny_stack_any λst=>GL ?_;split
  ·rename_i c _ _ _ _ _
   cases (c==Value.type "enumerate")
   ·wp_walk using IF H,LV a;exact#[_,Z,h]
   ·wp_walk using IF H,LV a;exact#[_,Z,h]
  ·wp_walk using IF H,LV a;exact#[_,Z,h]
section
variable {prog:Program}{w:World}{A:Around}{E:Value->Shared->Prop}{s:Shared}
theorem Yt{Q:Value->Shared->Prop}(j:s.heap.IsTuple l i)
  (h:∀H,IsEnum H (s.heap.objs.size+1) s.heap.objs.size 0 .none->H.IsTupleIter s.heap.objs.size l 0->(∀b o,s.heap.get? b=some o->H.get? b=some o)->Q (.ref$ s.heap.objs.size+1) { s with heap:=H }):
  wpAny (model prog w) A (call (.type "enumerate") [.ref l]) Q E s:=by
 obtain⟨⟨c,d,D,S⟩,k,a,n,e⟩:=j;replace a:c= .type "tuple":=a;replace e:D= .seq i n:=e;subst a e;refine OM PySem.F.called_enumerate RT (PySem.F.typeCall_enumerate_1 _) (PySem.F.newCall_enumerate_1 _) (λO=>Me O _) PySem.F.entry_enumerate_new (XX l i n d S) #[k,?_];have f:(s.heap.push { cls:=.type "tuple_iterator",data:=.fields (List.toArray [.ref l,.int 0 0]) }).objs.size=s.heap.objs.size+1:=Ia ..;show _/\_;rw[f];have g:IsEnum ((s.heap.push { cls:=.type "tuple_iterator",data:=.fields (List.toArray [.ref l,.int 0 0]) }).push { cls:=.type "enumerate",data:=.fields (List.toArray [.none,.bool false,.ref s.heap.objs.size,rawInt 0,.none,.none]) }) (s.heap.objs.size+1) s.heap.objs.size 0 .none:=by have:=GZ (s.heap.push { cls:=.type "tuple_iterator",data:=.fields (List.toArray [.ref l,.int 0 0]) }) (o:={ cls:=.type "enumerate",data:=.fields (List.toArray [.none,.bool false,.ref s.heap.objs.size,rawInt 0,.none,.none]) }) Z;rw[f]at this;exact this
 exact#[#[_,g,Z],h _ g #[_,GP _$ GZ _ Z,Z,Z] λb o x=>GP _ (GP _ x)]
theorem uM{c:Type}{Q:c->Shared->Prop}(d:A.handled=none)
  (h:∀H (e:Addr),(∀b o,s.heap.get? b=some o->H.get? b=some o)->Shared.TypeIs { s with heap:=H } (.ref e) "StopIteration"->E (.ref e) { s with heap:=H }):
  wpAny (model prog w) A (do raiseNew (<- newExc (.type "StopIteration") []):Sem c) Q E s:=by
 refine GK ?_;simp only[newExc,newTuple];refine GK$ HN ?_ (by size_fits);refine GK (m:=firstArgMember _ _)$ MF (a:=Value.none) ?_ ?_
 ·first |rfl | (simp only[firstArgMember];rfl)
 refine HN ?_ (by size_fits);simp only[raiseNew];refine GK$ wpAny_handled ?_;rw[d];refine GK$ GL$ wpAny_throw$ h _ _ (λb o e=>GP _ (GP _ e)) ?_;exact#[_,GZ _ Z,Z]
theorem KI{J T:Addr}{i:Nat}{I:Array Value}{Q:Value->Shared->Prop}(g:A.handled=none)(H:s.heap.IsTupleIter J T i)(j:s.heap.IsTuple T I)(l:I[i]?=none)
  (q:∀h (e:Addr),Heap.ExtBut J s.heap h->Shared.TypeIs { s with heap:=h } (.ref e) "StopIteration"->E (.ref e) { s with heap:=h }):wpAny (model prog w) A (Builtin.SmallTypes.nextOf$ .ref J) Q E s:=by
 obtain⟨o,a,p,c⟩:=id H;obtain⟨O,d,_,N,f⟩:=j;unfold Builtin.SmallTypes.nextOf;refine GK$ HL (name:=Str.ofString "__next__") H.typeIs Im$ HP Im H.typeIs LJ (show wpAny _ _ (field (.ref J) 0 >>= _) _ _ s from ?_)$ LB _;refine GK$ HC a c (x:=.ref T) Z (show wpAny _ _ (if (Value.ref T==Value.none)=true then _ else _) _ _ s from ?_);rw[Ho (show ¬((Value.ref T==Value.none)=true) from Hc)];refine(show wpAny _ _ (field (.ref J) 1 >>= _) _ _ s from GK$ HC a c (x:=.int i 0) Z (show wpAny _ _ (seqItems? (.ref T) >>= _) _ _ s from GK$ Ih d f ?_));simp only[Ie,l];refine GK$ J'$ GK$ HV a c RV ?_;refine uM (by simpa using g) λh e k t=>q h e (λb o m n=>k b o ?_) t;exact(Hk _ _$ HI m).trans n
theorem ZX(m:A.handled=none)(a l:Addr)(d:l≠a)(I:Array Value):
  Draws prog w A a [a,l] I.size (λi v=>I[i]?=some v) (λi h=>h.IsTupleIter a l i/\h.IsTuple l I) where
 live:=λ_ _ st=>let #[o,H,_]:=st.1;#[o,H]
 frame:=λ_ _ _ st g=>#[st.1.at λo e=>g a RV o e,let #[o,H,r]:=st.2;#[o,g l RV o H,r]]
 item:=λi s Q E j st n=>KH st.1 st.2 (x:=I[i]) (by simp [j]) λf b c=>n _ f s.toks (by simp [j]) #[b,let #[o,H,r]:=st.2;#[o,c.extBut l o d H,r]] c
 done:=λs Q E st p=>KI m st.1 st.2 RV λf e k t=>p f e k t
theorem Yu(c:A.handled=none)(a l:Addr)(I:Array Value)(i:Nat)(d:I[i]?=none):
  Draws prog w A a [a,l] i (λ_ _=>True) (λj h=>j=i/\h.IsTupleIter a l i/\h.IsTuple l I) where
 live:=λ_ _ st=>let #[o,H,_]:=st.2.1;#[o,H]
 frame:=λ_ _ _ st b=>#[st.1,st.2.1.at λo e=>b a RV o e,let #[o,H,r]:=st.2.2;#[o,b l RV o H,r]]
 item:=λj s Q E f st n=>absurd st.1 (Hd f)
 done:=λs Q E st g=>KI c st.2.1 st.2.2 d λm e k t=>g m e k t
end
noncomputable def yP(K:Frag)(a:Addr):It:=
 #[λi H=>∃X x,ax K H a X/\X[i]?=some x,λi H x h=>∃p v,x= .ref p/\H p=none/\h=af H p (.tup [.int i,v])/\∀X,ax K H a X->X[i]?=some v,λi H=>∃X,ax K H a X/\X.length<=i]
theorem Yv{P:Program}{K:Frag}(a e g:Addr)(r:e≠g):mE P w K (.Tuple e0 kx tp) (yP K a) [e,g] e (λi h=>(∃O,IsEnum h e g i O)/\h.IsTupleIter g a i) where
 mem:=by simp
 obj:=λi h st b hb=>by
  obtain⟨⟨O,j⟩,⟨o,ei,c,d⟩⟩:=st;rcases List.mem_cons.mp hb with rfl |hb
  ·exact#[_,j,λv z=>by cases (show Data.fields _=Data.cell v from z)]
  ·have q:b=g:=by simpa using hb
   subst q;exact#[o,ei,λv z=>by rw[d]at z;cases z]
 keep:=λi h A st k=>#[let #[O,j]:=st.1;#[O,k e RV _ j],st.2.at λo q=>k g RV o q]
 item:=by
  intro X Q S T U i f s J H E I L st W;subst Q S T;obtain⟨⟨O,j⟩,l⟩:=st;obtain⟨xs,x,M,N⟩:=W;obtain⟨m,R,p,hz⟩:=I.tuple M;obtain⟨u,hu,ru⟩:=R.get N;have Y:e < s.heap.objs.size:=GY j;have l0:g < s.heap.objs.size:=by obtain⟨_,q,_⟩:=l;exact GY q
  have h0:a≠g:=λz=>by rw[z]at p;obtain⟨o1,e1,c1,_⟩:=l;obtain⟨o2,B,c2,_⟩:=p;rw[e1]at B;cases B;exact absurd (c1.symm.trans c2) RT
  have h1:e∉[g,a]:=λz=>by
   rcases List.mem_cons.mp z with z |z
   ·exact r z
   ·rw[List.mem_singleton.mp z]at j;obtain⟨o2,B,c2,_⟩:=p;unfold IsEnum at j;rw[j]at B;cases B;exact absurd (show Value.type "enumerate"=Value.type "tuple" from c2) RT
  refine wpAny_pyNext_enum_itemD (ZX (by simpa using I.ok.hd U) g a h0 m.toArray) j #[l,p] (by have:=R.length;have:=(List.getElem?_eq_some_iff.mp N).1;simp;omega) r h1 λx' A t C ho y hT h4 hk=>#[_,Z,?_];have D:=y.1;have ex:u=x':=by
   have h2:m.toArray[i]?=some u:=by simpa using hu
   rw[h2]at C;exact HQ C
  subst ex;have hn:H s.heap.objs.size=none:=I.hok.fresh (GV _);have I1:ap X f J H { s with heap:=A,toks:=t+1 }:=I.turnedN L λb o hb q=>hk b o (λz=>hb (by simp [z])) (λz=>hb (by simp [z])) q;have r2:aw [V.int i,x] [Value.int i t,u]:=.cons #[_,Z] (.cons ru .nil);have I2:ap X f J (af H s.heap.objs.size$ .tup [.int i,x]) { s with heap:=A,toks:=t+1 }:=
   I1.track (I.fpOk (GV _) hn) I.sz #[by show 2<=sizeLine;decide,_,r2,_,hT,Z,_,Z]
  have F:∀b∈[e,g],eS X f (af H s.heap.objs.size$ .tup [.int i,x]) b:=λb hb=>by
   obtain⟨f0,f1⟩:=L b hb;refine#[?_,f1];rw[ji]
   ·exact f0
   ·rcases List.mem_cons.mp hb with rfl |hb
    ·exact Hd Y
    ·have q:b=g:=by simpa using hb
     subst q;exact Hd l0
  refine wpAny_letOwnedTupleGo_enum (s:={ s with heap:=A,toks:=t+1 }) ho λG h3 n=>?_;replace n:Heap.SameBut e A G:=n;have I3:ap X f J (af H s.heap.objs.size$ .tup [.int i,x]) { s with heap:=G,toks:=t+1 }:=I2.turnedN F λb o hb q=>(n.2 b λz=>hb (by simp [z])).trans q;refine#[.ref s.heap.objs.size,_,I3,Z,#[_,x,Z,hn,Z,λys hy=>by rw[I.tuple_inj hy M];exact N],#[#[u,by simpa using h3],D.at λo q=>(n.2 g r.symm).trans q],λb hb=>(F b hb).1]
 done:=by intro X Q S T U i f s J H E I L st W;subst Q S T;obtain⟨⟨O,j⟩,l⟩:=st;obtain⟨xs,M,N⟩:=W;obtain⟨m,R,p,hz⟩:=I.tuple M;have hl:=R.length;refine wpAny_pyNext_enum_endD (Yu (by simpa using I.ok.hd U) g a m.toArray i (by simp;omega)) j #[Z,l,p] λA eb=>#[Z,?_];exact I.turnedN (t':=s.toks) L λb o hb q=>eb b o (λz=>hb (by simp [z])) q
 self:=λ_ _ _ _ _ st h=>by obtain⟨⟨O,j⟩,_⟩:=st;exact Px j h
section
variable {X:Cx}{elts:List Expr}{kx:Nat}{tp:Pos}
inductive nD(K:Frag)(R:It->Hp->Prop)(c:List V)(b:Hp):Prop
 |mk(a:_)(_:c=[.ref a])(_:∃xs,ax K b a xs)(_:R (yP K a) b)
def Ar(K:Frag)(t:TA):TI:=λa H R=>t a H (nD K R)
theorem Xx(g:Gl X "enumerate")(j:X.mg "enumerate"=none)(k:PA X [a] t)(m:starEach [a] X.env=[(false,eval a X.env)]:=by rfl):PI X (.Tuple elts kx tp) (.Call (.Name "enumerate" p) [a] [] c) (Ar X.K t):=by
 intro P s n H R I h;refine Call_$ zU I g j RF$ HX (aK (k c P s n H _ I h) λU S z=>?_) m Z;obtain⟨V,o,i,u,Q⟩:=z;obtain⟨l,e,⟨A,v⟩,q⟩:=Q;subst e;cases u with
 |cons r w=>
  cases w;cases r;obtain⟨x,B,p,C⟩:=i.tuple v;refine Yt p λD f d y=>?_;refine Px f ?_;refine#[S.heap.objs.size+1,[S.heap.objs.size+1,S.heap.objs.size],_,_,o,Z,i.kept (t':=S.toks) y,Yv l _ _$ Ic$ IB _,#[#[_,f],d],λb hb=>?_,q];rcases List.mem_cons.mp hb with rfl |hb
  ·exact i.fpOk (IL _)$ i.hok.fresh$ IL _
  ·have e:b=S.heap.objs.size:=by simpa using hb
   subst e;exact i.fpOk (GV _)$ i.hok.fresh$ GV _
end
theorem KJ{K:Frag}{xs:List V}{g:TG}{t:TS}{D:aW}(Pv:Nat->St->Hp->Prop)(j:Pv 0 b H)(k:∀i b H,i<=xs.length->Pv i b H->ax K H a xs)
  (l:∀E:aW,E.rt=D.rt->∀i x p b H,xs[i]?=some x->H p=none->(∀c e,Pv (i+1) c e->E.nx c e)->∀G:Prop,((g (.ref p) b (af H p$ .tup [.int i,x]) λf n=>t E f n)->G)->Pv i b H->G) (o:∀b H,Pv xs.length b H->D.nx b H):ou (yP K a) g t D b H:=by
 refine#[λi m b H=>m=xs.length - i/\i<=xs.length/\Pv i b H,#[xs.length,RV,Hg _,j],?_];rintro i m b H ⟨rfl,s,p⟩;have q:=k i b H s p;by_cases d:i < xs.length
 ·refine .inr #[#[xs,xs[i],q,GN d],Pv$ i+1,λc e P=>#[xs.length - (i+1),RU,Z,d,P],λx e y=>?_];obtain⟨r,v,rfl,u,rfl,w⟩:=y;exact l { D with nx:=Pv (i+1),ct:=Pv (i+1),bk:=D.nx } Z i v r b H (w xs q) u (λ_ _ h=>h) _ (λz=>z) p
 ·exact .inl #[#[xs,q,RU],o _ _ (by rw[show xs.length=i by omega];exact p)]
end _L
namespace _L
open PySem PySem.Spec PyProof.Rows PySem.SeqAt PySem.W
noncomputable def ik:List Int->List Int->Bool
 | [],[]=>false
 | [],_::_=>true
 |_::_,[]=>false
 |a::p,b::q=>if a=b then ik p q else decide (a < b)
theorem Kt:∀{p q:List Int},ik p q=true->ik q p=false
 | [],[],h=>by cases h
 | [],_::_,_=>rfl
 |_::_,[],h=>by cases h
 |a::p,b::q,h=>by
  have h:(if a=b then ik p q else decide (a < b))=true:=h;show(if b=a then ik q p else decide (b < a))=false;by_cases e:a=b
  ·rw[Hm e]at h;rw[Hm e.symm];exact Kt h
  ·rw[Ho e]at h;rw[Ho$ HI e];have:=Iu h;exact G8 RU
end _L
namespace _L
open PySem PySem.Spec PyProof.Rows
def Cc(t:TE)(T:CD):CD:=λa H Q R=>t a H λx b=>T a b (λy h=>∀p,h p=none->Q (.ref p) (af h p$ .tup [x,y])) R
theorem sj{X:Cx}{a b:Expr}{t:TE}{T:CD}{P:Pos}{k}(l:PE X.nox a t)(m:Ex X b T)(n:starEach [a,b] X.env=[(false,eval a X.env),(false,eval b X.env)]:=by rfl):Ex X (.Tuple [a,b] k P) (Cc t T):=by intro p s d H Q R I h;refine Pg ?_;rw[n];show wpAny _ _ (spliced ((false,eval a X.env)::backTo P [(false,eval b X.env)])) _ _ s;refine Ir$ Ib (l p s d H _ (I.wish _) h) (λu f c=>?_) λ_ _ z=>z.elim;obtain⟨x,o,i,r,q⟩:=c;have i:=i.unwish;show wpAny _ _ (spliced ((false,eval b X.env)::backTo P [])) _ _ f;refine Ir$ aK (m p f d o _ R i q) λv S c=>?_;obtain⟨y,g,j,w,A⟩:=c;refine IM #[by show 2<=sizeLine;decide,?_];have B:g S.heap.objs.size=none:=j.hok.fresh (GV _);refine#[.ref S.heap.objs.size,af g S.heap.objs.size$ .tup [x,y],j.laid (t':=S.toks) (λb u e=>GP _ e) (GV _) ?_,Z,A _ B];exact#[by show 2<=sizeLine;decide,_,.cons r$ .cons w .nil,#[_,GZ _ Z,Z,_,Z]]
section
variable {X:Cx}{st b₀:Stmt}{suite:List Stmt}{tb:CY}{ts:TS}{cn n:Str}{np hp pos:Pos}{B:Addr}{i:Nat}
theorem wK{m:List ExceptHandler}(a:X.stack=X.env::X.outer)(L:X.env.frame=some X.env.locals)(hb:EQ X st tb)(hg:Gl X cn)(hm:X.mg cn=some (.ref B))(hB:clsIn X.K B≠none)(tB:typeIn X.K (.ref B)=some (.type "type"))(mB:mroIn X.K B (.type "BaseException")=some true)
  (o:X.N.Nodup) (r:X.N[i]?=some n) (l:X.env.scope.names.lookup n=some .local) (hs:∀e,iG (X.mark e λ_ _=>False) (b₀::suite) ts) (M:(cn==("__debug__":Str))=false:=by decide):
  PS X (.Try [st] (.ExceptHandler (some$ .Name cn np) (some n) (b₀::suite) hp::m) [] [] pos) (FJ X.K B i tb ts):=by
 intro p s Y H D I h;refine PX$ MU$ Ib (hb p s Y H D _ I h) (λf S q=>?_) λe S q=>?_
 ·cases f with
  |next=>exact Lg (Lg q)
  |ret v=>exact q
  |brk=>exact q
  |cont=>exact q
 obtain⟨x,C,d,T,H',rfl,u,hx,hT,w,mC,q⟩:=q;obtain⟨⟨ox,vs,h1,h2,h3,h4,O,h6⟩,_⟩:=u.hok x _ hx;obtain⟨⟨oT,tz,t1,t2,t3⟩,_⟩:=u.hok T _ hT;have E:=(Array.getElem?_eq_some_iff.mp h6).1;have P:X.A.frames=some (X.env::X.outer):=by rw[<- a];exact u.ok.frames
 have R:S.heap.FunFrames X.base (X.env::X.outer):=by rw[<- a];exact u.stack
 refine Jx (base:=X.base) P R L h1 O h6 w t1 t2 t3 λg2 Nd=>?_;have F:(dA T S.heap).get? x=some ox:=(Hk _ _ w).trans h1;refine vH (s:={ S with heap:=g2 }) Nd F O E λg3 U=>?_;obtain⟨t,hn,G,b⟩:=(u.cleared hT t1 t2 t3).noted (C:=C) (d:=d) (t':=S.toks) hx F h2 h4 O E (by unfold ip;rw[a];exact U);have b:ap X p Y (af (af H' t$ dJ t) x$ dW C d t x) { S with heap:=g3 }:=b;obtain⟨⟨o1,v1,k1,k2,k3,k4,k5,k6⟩,_⟩:=b.hok x _ jc;have J:af (af H' t$ dJ t) x (dW C d t x) t=some (dJ t):=by rw[ji G,jc]
 obtain⟨⟨o2,t0,u1,u2,u3⟩,_⟩:=b.hok t _ J;refine Mm (Mb ?_) (by intro z;cases z);refine zb (b.mark (.ref x) λ_ _=>False) hg hm ?_ M;refine zL b.kIn k1 k2 hB tB mB mC _ _ _ _ (λ_ _ e=>e) ?_;refine codeAny_handlers_suite_as ?_;unfold setFlight;refine GK$ HC k1 k5 k6 ?_;rw[Hm (show(Value.ref t != Value.none)=true from by simp)];refine HV u1 u2 (Array.getElem?_eq_some_iff.mp u3).1 ?_;have I4:=b.cleared J u1 u2 u3;refine kQ (v:=.ref x) I4 o r (.inl l) Z (λs5 I5=>?_)$ .inr l;refine Ib (hs (.ref x) p s5 _ _ (pj i D) (I5.mark (.ref x) λ_ _=>False)$ q t hn) (λf s6 Q=>?_) λ_ _ z=>z.elim;cases f with
 |next=>obtain⟨c,V,g,j⟩:=Q;exact qw (g.unmark I.ok) o r l λW k=>#[_,_,k,j]
 |brk=>obtain⟨c,V,g,j⟩:=Q;exact qw (g.unmark I.ok) o r l λW k=>#[_,_,k,j]
 |cont=>obtain⟨c,V,g,j⟩:=Q;exact qw (g.unmark I.ok) o r l λW k=>#[_,_,k,j]
 |ret v=>obtain⟨y,c,V,g,rv,j⟩:=Q;exact qw (g.unmark I.ok) o r l λW k=>#[y,_,_,k,rv,j]
end
end _L
namespace _L
open PySem PySem.Spec PyProof.Rows
theorem bu.m(r:bu k A)(h:j<=k:=by omega):bu j A:=r.mono h
theorem bL{N P:List Str}{s:Scope}(a:s.kind=.function:=by rfl)(b:s.isCoroutine=false:=by rfl)(c:s.isGenerator=false:=by rfl)(d:N.Nodup:=by decide +kernel)(e:N.take P.length=P:=by rfl)(f:∀x∈P,s.names.lookup x=some .local ∨ s.names.lookup x=some .cell:=by decide +kernel)(g:∀y∈s.names,y.2≠.free:=by decide +kernel):ak N P s:=#[a,b,c,d,e,f,g]
theorem nC{N:List Str}{s t:Scope}{M:List Str}{i:List Nat}(a:∀y∈t.names,y.2≠.cell:=by decide +kernel)(b:t.kind=.function:=by rfl)(c:∀y∈t.names,y.2=.local->t.names.lookup y.1=some .local:=by decide +kernel)(d:∀y∈t.names,y.2=.free->s.names.lookup y.1=some .cell:=by decide +kernel)(e:M.drop n=i.map (λi=>N.getD i Str.empty):=by decide +kernel)(f:M.length=n+i.length:=by rfl)(g:∀j∈i,t.names.lookup (N.getD j Str.empty)=some .free:=by decide +kernel):aZ N s t M n i:=#[a,b,c,d,e,f,g]
end _L
local macro_rules|`(tactic|obtain $p:rcasesPat:=$t)=>`(tactic|(refine _L.aT λG k=>?_;rcases $t:term with $p:rcasesPat<;>(refine k ?_;clear k)))
namespace _K
open PySem PySem.Spec PyProof.Rows _L
abbrev z0z:List Str:=["_law_box_here","_law_wide"]
abbrev z1z:List Str:=["_law_box_here"]
abbrev z2z:List Str:=["term"]
abbrev z3z:List Str:=["statement","behind"]
abbrev z4z:List Str:=["statement"]
abbrev z5z:List Str:=["chain","path"]
abbrev z6z:List Str:=["_law_box_here","_law_names_here","_law_heads","_law_spare","_law_deep"]
abbrev z7z:List Str:=["self","statement","behind"]
abbrev z8z:List Str:=["_law_box_here","_law_names_here","_law_deep","_law_spare"]
abbrev z9z:List Str:=["_law_box_here","_law_names_here","_law_deep"]
abbrev z10z:List Str:=["term","held"]
abbrev z11z:List Str:=["self","body","behind"]
abbrev z12z:List Str:=["part","n","held"]
abbrev z13z:List Str:=["self","part","args","deep"]
abbrev z14z:List Str:=["_law_chain_here","_law_ahead"]
abbrev z15z:List Str:=["body","behind"]
abbrev z16z:List Str:=["_law_box_here","_law_a","_law_b"]
abbrev z17z:List Str:=["name","params","body"]
abbrev z18z:List Str:=["_law_box_here","_law_f","_law_inner_here","_law_w"]
abbrev z19z:List Str:=["self","deed","deep"]
abbrev z20z:List Str:=["_law_box_here","_law_total"]
abbrev z21z:List Str:=["self","statement","place","behind"]
abbrev z22z:List Str:=["sign","left","right"]
abbrev z23z:List Str:=["self","cells","most"]
abbrev z24z:List Str:=["self","parts","cells","most"]
abbrev z25z:List Str:=["_law_box_here","_law_names_here"]
abbrev z26z:List Str:=["parts","f","args","cells","most"]
abbrev z27z:List Str:=["_law_box_here","_law_total","_law_letters","_law_wide","_law_spot_here","_law_signs","_law_first","_law_form","_law_found","_law_k","_law_one","_law_word","_law_some","_law_odd"]
abbrev z28z:List Str:=["_law_k","_law_box_here","_law_letters"]
abbrev z29z:List Str:=["_law_j","_law_box_here","_law_letters"]
abbrev z30z:List Str:=["num","var","op","go","ask","back","chain","sets","iff","ends","calls","reads","gives"]
abbrev z31z:List Str:=["_law_one","_law_box_here","_law_names_here"]
abbrev z32z:List Str:=["_law_box_here","_law_total","_law_room"]
abbrev z33z:List Str:=["_law_box_here","_law_f","_law_g","_law_w"]
abbrev z34z:List Str:=["_law_box_here","_law_names_here","_law_deep","_law_spare","_law_k","_law_args","_law_steps","_law_f","_law_held"]
abbrev z35z:List Str:=["_law_box_here","_law_names_here","_law_heads","_law_spare","_law_deep","_law_kind","_law_x","_law_f","_law_params","_law_body_here"]
abbrev z36z:List Str:=["_law_box_here","_law_f","_law_inner_here","_law_w","_law_n","_law_i","_law_s","_law_x","_law_y","_law_body_here","_law_spot_here","_law_start","_law_loop"]
abbrev z37z:List Str:=["_law_box_here","_law_f","_law_inner_here","_law_w","_law_n","_law_i","_law_s","_law_x","_law_y","_law_spot_here","_law_body_here","_law_kept","_law_some","_law_start","_law_loop"]
abbrev z38z:List Str:=["_law_box_here","_law_program","_law_total","_law_f","_law_params","_law_body_here"]
abbrev z39z:List Str:=["_law_chain_here","_law_bad_here","_law_path","_law_step","_law_further"]
abbrev z40z:List Str:=["_law_script","_law_chain_here","_law_last","_law_due","_law_path","_law_step","_law_what_here","_law_one"]
variable {P:Program}{w:World}{K:Frag}{mg:Str->Option Value}{base:Heap}
noncomputable def bM(i:Nat):Stmt:=PySem.Challenge.pw_againbook_k27_what_reads_see.main.body.getD i (.Pass #[0,0,0,0])
noncomputable abbrev BB:Stmt:=bM 54
noncomputable abbrev tq:Stmt:=bM 55
noncomputable abbrev gR:Stmt:=bM 57
def ar(p:Addr)(H h:Hp):Prop:=∀b o,b≠p->H b=some o->h b=some o
theorem ar.refl:ar p H H:=λ_ _ _ h=>h
theorem ar.trans(a:ar p H d)(b:ar p d e):ar p H e:=λc o n h=>b c o n (a c o n h)
theorem ar.of_eq{H a:Hp}(h:∀b,b≠p->a b=H b):ar p H a:=λb o n e=>by rw[h b n];exact e
theorem ar.upd_new{o:HO}(a:ar p H h)(n:h r=none):ar p H (af h r o):=λb u N e=>by have q:=a b u N e;rw[ji$ jm q n];exact q
theorem ar.upd_own(a:ar p H h)(n:H r=none):ar p H (af h r o):=λb u N e=>by rw[ji$ jm e n];exact a b u N e
structure ao(H:Hp)(p:Addr):Prop where
 ob:∃a b:Int,0<=a/\1<=b/\b<=2147483646/\H p=some (.lst [.int a,.int b])
theorem ao.eq{c:Hp}(B:ao H p)(e:c p=H p):ao c p:=by obtain⟨a,b,d,f,g,h⟩:=B.ob;exact#[a,b,d,f,g,by rw[e];exact h]
theorem ao.upd_new{o:HO}(B:ao H p)(n:H r=none):ao (af H r o) p:=by obtain⟨a,b,c,d,e,h⟩:=B.ob;exact B.eq (by rw[ji$ jm h n])
theorem ao.ne(B:ao H p)(n:H r=none):r≠p:=by obtain⟨a,b,c,d,e,h⟩:=B.ob;exact HI$ jm h n
inductive aL(c:List V)(H:Hp)(Q:VK)(a:XK):Prop
 |mk(p:Addr)(w:Int)(_:c=[.ref p,.int w])(_:ao H p)(_:0 < w)(_:w<=1000000000000000000)(_:∀(d:Int) (H':Hp),0<=d->d < w->ao H' p->(∀b,b≠p->H' b=H b)->Q (.int d) H')
inductive n8(K:Frag)(e:List V)(H:Hp)(Q:VK)(c:XK):Prop
 |mk(a:Addr)(d:List Int)(k:Int)(_:e=[.ref a,.int k])(_:aB K H a (d.map V.int))(_:0<=k)(_:k < 1000)(_:∀(r:Addr) (H':Hp),H r=none->ao H' r->(∀b,b≠r->H' b=H b)->Q (.ref r) H')
theorem uA:(10:Int) ^ (18:Int).toNat=1000000000000000000:=by decide
theorem rg{ns:List Int}{k:Int}(H:0<=k)(a:k < (ns.length:Int)):∃v:Int,du (ns.map V.int) k=some (.int v):=by
 have h:k.toNat < ns.length:=by omega
 have e:k=((k.toNat:Nat):Int):=by omega
 have q:du (ns.map V.int) ((k.toNat:Nat):Int)=some (.int ns[k.toNat]):=jQ (by rw[Hu,GN h];rfl);rw[<- e]at q;exact#[_,q]
structure Cl(P:Program)(w:World)(K:Frag)(mg:Str->Option Value)(base:Heap)(L:Nat)(f:Addr)(fd:FuncData)(ps:List Str)(sp:Sp)(py:Str):Prop where
 g:aj P w K mg base aA L f fd ps sp
 b:ay K fd ps []
 k:keepIn K (.ref f)=true
 m:mg py=some (.ref f)
theorem Cl.e{X:Cx}{e:Expr}(c:Cl X.prog X.w X.K X.mg X.base L f o q s a)(i:bu L X.A)(j:PA X (e::E) t)(l:Gl X a:=by rfl)(h:(a==("__debug__":Str))=false:=by decide)(n:starEach (e::E) X.env=(false,eval e X.env)::starEach E X.env:=by rfl)(H:(backTo d$ starEach E X.env).any (·.1)=false:=by rfl):PE X (.Call (.Name a p) (e::E) [] d) (dF s [] E0 t):=ke c.g i l c.m c.k c.b .nil bH j h n H
theorem jz{X:Cx}(h:PE X a t):PE X (.Subscript a (.Constant (.int i) j p) b) (dG (eZ X.K) t$ tC$ .int i):=jr jR h jf λ_ _=>Z
theorem jx{X:Cx}{p:Pos}(i:Nat)(h:X.N.Nodup)(H:PE X e t)(b:X.N[i]?=some x:=by rfl)(c:pe X.env.scope x:=by exact Or.inl Z)(d:swapsWith e (some$ .Name x a) p.line X.env=pure false:=by rfl)(f:X.fn x=true∨X.env.scope.names.lookup x=some .local:=by first |exact .inl Z |exact .inr Z |assumption):PS X (.Assign [.Name x a] e p) (dU t$ bp i):=kL h b c H d f
theorem js{K:Frag}{H:Hp}{Q:VK}(h:H p=some (.tup x))(a:du x n=some v)(q:Q v H)(e:b[i]?=some (some$ .ref p):=by rfl):dG (eZ K) (aX i) (tC$ .int n) b H Q:=#[_,e,p,x,n,v,Z,Z,ax.of h,a,q]
theorem kh{X:Cx}(h:PE X a t):PT X (.Compare a [.Eq] [.Constant (.str x) j p] b) (ii$ dG DP t$ tC$ .str x):=jA JB h jk Z
theorem kJ{X:Cx}(h:PE X a t):PT X (.Compare a [.Eq] [.Constant (.int x) j p] b) (ii$ dG DP t$ tC$ .int x):=jA JB h jf Z
theorem gW:ak ["_law_box_here","_law_wide","_law_digit","_law_one","_law_mixed"] z0z (aa tq):=bL
theorem wm(F:aJ K "_law_take" "_law_take" tq f x):aj P w K mg base aA 1 f x z0z aL:=by
 refine F.ok gW ?_ λC A O s H V Q E z h=>?_
 ·rintro _ _ _ _ ⟨p,w,rfl,_⟩;rfl
 obtain⟨p,W,rfl,B,d,g,q⟩:=h;obtain⟨a,b,l,i,j,e⟩:=B.ob;refine#[_,je (jw (jA qM (jr jq (pv 0) jf (λ_ _=>Z)) jf$ aE _)
   (je (jx 2 gW.nd$ jv kX (jr jq (pv 0) jf (λ_ _=>Z))$ pv 1)
   (je (kW (jv Ko (jr jq (pv 0) jf (λ_ _=>Z))$ pv 1)$ qh (pv 0) jf zf)
   (jg$ jo$ pv 2))) jp)
  (je (jx 3 gW.nd$ jv kX (jv zq (jr jq (pv 0) jf (λ_ _=>Z)) jf) jf)
  (je (kW (jv jZ (jv kX (jv jZ (jv zq (pv 3) jf) jf) jf) jf)$ qh (pv 0) jf zf)
  (je (jx 4 gW.nd$ jv Ko (jv jZ (jv zq (pv 3) jf)$ jr jq (pv 0) jf (λ_ _=>Z)) jf)
  (je (jw (jA qM (pv 1) (jv Kf jf jf)$ aE _) (jg$ jx 4 gW.nd$ jv zq (pv 4)$ pv 4) jp)
  (jg$ jo$ jv kX (pv 4)$ pv 1))))),?_]
 refine#[_,Z,p,_,_,_,Z,Z,aB.of e,Z,_,_,Z,Z,_,Z,?_];refine bN (λc=>?_) (λc=>?_)
 ·have D:(0:Int) < a:=Iu c;refine#[_,Z,p,_,_,_,Z,Z,aB.of e,Z,_,Z,_,_,Z,Z,d,?_];refine#[_,Z,p,_,_,_,Z,Z,aB.of e,Z,_,Z,_,_,Z,Z,#[d,g],_,Z,p,_,_,0,Z,Z,e,Z,_,Z,?_];refine q (a % W) _ (Ij _ RU) (HS _ d) #[a / W,b,Pn l RU,i,j,jc] λb n=>ji n
 ·have I:0<=b*69621 % 2147483647:=Ij _ RT;have J:b*69621 % 2147483647 < 2147483647:=HS _ RT;refine#[_,Z,p,_,_,_,Z,Z,aB.of e,Z,_,_,Z,Z,.inr #[RT,RT],_,_,Z,Z,(by show(0:Int) < 2147483647;decide),?_];refine#[_,Z,_,_,Z,Z,.inr #[RT,RT],_,_,Z,Z,_,_,Z,Z,(by show(0:Int) < 2147483646;decide),_,_,Z,Z,_,Z,p,_,_,1,Z,Z,e,Z,?_];generalize m:b*69621 % 2147483647=o at*;have N:0<=(o*48271+30103) % 2147483646:=Ij _ RT;have L:(o*48271+30103) % 2147483646 < 2147483646:=HS _ RT;generalize r:(o*48271+30103) % 2147483646=t at*;refine#[_,Z,_,_,Z,Z,.inr #[RT,RT],_,Z,p,_,_,_,Z,Z,aB.of jc,Z,_,_,Z,Z,_,_,Z,Z,#[RT,RT],?_];have X:0<=(o*2147483647+(t+1)) / 8191:=by omega
  have R:(o*2147483647+(t+1)) / 8191 < 18446744073709551616:=by omega
  generalize u:(o*2147483647+(t+1)) / 8191=M at*;refine#[_,Z,_,_,Z,Z,#[RT,RT,RT],_,_,Z,Z,_,Z,?_];have v:ao (af H p$ .lst [.int a,.int$ t+1]) p:=#[a,t+1,l,RU,RU,jc];refine bN (λy=>?_) (λy=>?_)
  ·refine#[_,Z,_,Z,_,_,Z,Z,.inl #[RU,RU],?_];refine#[_,Z,_,Z,_,_,Z,Z,d,?_];exact q _ _ (Ij _ RU) (HS _ d) v λb n=>ji n
  ·refine#[_,Z,_,Z,_,_,Z,Z,d,?_];exact q _ _ (Ij _ RU) (HS _ d) v λb n=>ji n
theorem lN:ak ["_law_script","_law_k","_law_cell","_law_seed"] ["_law_script","_law_k"] (aa BB):=bL
theorem AW(F:aJ K "_law_box" "_law_box" BB f I)(m:mg "len"=none)(M:mg "int"=none):aj P w K mg base aA 1 f I ["_law_script","_law_k"] (n8 K):=by
 refine F.ok lN ?_ λJ A o s H W Q E X h=>?_
 ·rintro _ _ _ _ ⟨a,ns,k,rfl,_⟩;rfl
 obtain⟨a,ns,k,rfl,d,i,L,q⟩:=h;refine#[_,je (jx 2 lN.nd$ jv jZ (jv zq jf$ pv 1) jf)
  (je (jw (jA qL (pv 1) (jI jD Z m HR$ ja (pv 0) jb)$ aE _)
   (jg$ jx 2 lN.nd$ jr jq (pv 0) (pv 1) (λ_ _=>Z))
   (jg (jw (jA qM (jI jD Z m HR$ ja (pv 0) jb) jf$ aE _)
    (jg$ jx 2 lN.nd$ jv jZ (pv 2)$ jv zq (jv kX (jr jq (pv 0) (jv kX (pv 1)$ jI jD Z m HR$ ja (pv 0) jb) (λ_ _=>Z)) jf) jf) jp)))
  (je (jx 3 lN.nd$ jv jZ (jv kX (jv jZ (jv zq (jv kX (pv 2) jf) jf)$ jv zq jf$ pv 1) jf) jf)
  (jg$ jo$ jE$ ja (jv zq (pv 2)$ jG Ju Z M RN$ ja (JS sf (pv 2) (jv Kf jf jf)$ aE _) jb)$ ja (pv 3) jb))),?_]
 have e:(ns.map V.int).length=ns.length:=GQ _;have T:∀c:Int,∃v:V,∃x:Int,v= .int x/\1<=x/\x<=2147483646/\v= .int ((c % 2147483629*48271+40692*k) % 2147483646+1):=λc=>by have N:0<=(c % 2147483629*48271+40692*k) % 2147483646:=Ij _ RT;have O:(c % 2147483629*48271+40692*k) % 2147483646 < 2147483646:=HS _ RT;exact#[_,_,Z,RU,RU,Z]
 have j:∀(c:Int) (r:Addr),H r=none->Q (.ref r) (af H r$ .lst [.int$ c*(if decide ((10:Int) ^ (18:Int).toNat<=c)=true then 1 else 0),.int ((c % 2147483629*48271+40692*k) % 2147483646+1)]):=λc r R=>by
  refine q r _ R #[_,_,?_,?_,?_,jc] λb n=>ji n
  ·rw[uA];by_cases h:(1000000000000000000:Int)<=c
   ·rw[Hl h,Hm Z];omega
   ·rw[G8 h,Ho Hc];omega
  ·have N:0<=(c % 2147483629*48271+40692*k) % 2147483646:=Ij _ RT;omega
  ·have O:(c % 2147483629*48271+40692*k) % 2147483646 < 2147483646:=HS _ RT;omega
 have B:∀c:Int,uT c (if decide ((10:Int) ^ (18:Int).toNat<=c)=true then 1 else 0):=λc=>.inr (by split<;>decide);refine ai λF0 u=>#[_,Z,_,_,Z,Z,.inl #[RT,RT],_,_,Z,Z,u _ _ ?_];clear u;refine ai λS y=>?_;have l:∀c:Int,S [some$ .ref a,some$ .int k,some$ .int c,none] H:=λc=>y _ _ (ai λF2 U=>#[_,Z,_,_,Z,Z,(by show(0:Int) < 2147483629;decide),_,_,Z,Z,.inr #[RT,RT],_,Z,_,_,Z,Z,.inl #[RT,RT],_,_,Z,Z,_,_,Z,Z,(by show(0:Int) < 2147483646;decide),_,_,Z,Z,U _ _ (#[_,Z,_,Z,_,_,Z,Z,#[RT,RT,RT],_,_,Z,Z,.inr #[_,Z,_,_,Z,Z,B c,_,Z,bo,j c]])]);clear y;refine nE λG g=>#[_,Z,_,Z,a,_,Z,.inl d,_,_,Z,Z,_,Z,g _ _ ?_];clear g;refine bN (λc=>?_) (λc=>?_)
 ·have C:k < (((ns.map V.int).length:Nat):Int):=Iu c;rw[e]at C;obtain⟨v,p⟩:=rg (ns:=ns) i C;exact#[_,Z,_,Z,a,_,_,_,Z,Z,d,p,l v]
 ·have C:¬k < (((ns.map V.int).length:Nat):Int):=MQ (Bool.eq_false_iff.mpr c);rw[e]at C;refine nE λG g=>#[_,Z,a,_,Z,.inl d,_,_,Z,Z,_,Z,g _ _ ?_];clear g;refine bN (λz=>?_) (λz=>?_)
  ·have D:(0:Int) < (((ns.map V.int).length:Nat):Int):=Iu z;obtain⟨v,p⟩:=rg (ns:=ns) (k:=k % (((ns.map V.int).length:Nat):Int)) (Ij _ RU) (by have:=HS k D;rw[e]at this;rw[e];exact this);exact#[_,Z,_,Z,_,Z,_,Z,a,_,Z,.inl d,_,_,Z,Z,D,a,_,_,_,Z,Z,d,p,_,_,Z,Z,(by show(0:Int) < 2147483629;decide),_,_,Z,Z,.inr #[RT,RT],_,_,Z,Z,l _]
  ·exact l _
theorem nj(i j:Str):(i++j).length=i.length+j.length:=by show(i.cps++j.cps).size=i.cps.size+j.cps.size;exact Nc
theorem zz:1000000<=sizeLine:=by rw[M'];decide
theorem am{H:Hp}{o:HO}(h:H b=some u)(n:H r=none):af H r o b=some u:=by rw[ji$ jm h n];exact h
theorem ug{z:Str}{k:Int}(H:0<=k)(a:k < (z.length:Int)):∃c:Nat,du z.cps.toList k=some c:=by
 have b:z.cps.toList.length=z.length:=HE;have h:k.toNat < z.cps.toList.length:=by omega
 have e:k=((k.toNat:Nat):Int):=by omega
 have q:du z.cps.toList ((k.toNat:Nat):Int)=some z.cps.toList[k.toNat]:=jQ (GN h);rw[<- e]at q;exact#[_,q]
theorem Jn{ys:List Str}{k:Int}(H:0<=k)(a:k < (ys.length:Int)):∃y∈ys,du (ys.map V.str) k=some (.str y):=by
 have h:k.toNat < ys.length:=by omega
 have e:k=((k.toNat:Nat):Int):=by omega
 have q:du (ys.map V.str) ((k.toNat:Nat):Int)=some (.str ys[k.toNat]):=jQ (by rw[Hu,GN h];rfl);rw[<- e]at q;exact#[_,Lx h,q]
noncomputable def bf(s:List Str)(lo h:Option Int):List Str:=(s.drop$ HT.sIx s.length 0 lo).take (HT.sIx s.length s.length h - HT.sIx s.length 0 lo)
theorem zA(s:List Str)(lo h:Option Int):aD (s.map V.str) lo h=(bf s lo h).map V.str:=by unfold aD bf;rw[GQ,Ma,Pu]
theorem zN{lo:Option Int}(h:y∈bf s lo H):y∈s:=MZ (HZ h)
theorem qm(s:List Str)(lo h:Option Int):(bf s lo h).length<=s.length:=by unfold bf;rw[HF,IW];omega
theorem qR:∀{ys:List Str},(∀y∈ys,y.length<=1)->(ys.map (·.length)).sum<=ys.length
 | [],_=>GV _
 |y::r,h=>by have a:=h y Hq;have b:=qR (ys:=r) λz H=>h z (HD _ H);rw[Ik,List.sum_cons,Hv];omega
theorem qS{z:Str}{ys:List Str}(H:z.length=0)(h:∀y∈ys,y.length<=1):(Txt.join z ys).length<=ys.length:=by show(Builtin.Str.glued z ys).length<=_;rw[size_glued,H,Nat.mul_zero,Rg];exact qR h
noncomputable def dh:Str:="abcdefghijklmnopqrstuvwxyz"
theorem JM:dh.length=26:=by decide+kernel
noncomputable def oC(d:Int)(k:Nat):Nat:=97+((d+5*(0+(k:Int))) % 26).toNat
theorem vI(H:i < 20)(a:j < 20)(h:oC d i=oC d j):i=j:=by unfold oC at h;omega
theorem Ay(H:0<=k)(a:k < 26)(h:du dh.cps.toList k=some c):c=97+k.toNat:=by
 have q:∀m:Fin 26,du dh.cps.toList (m.val:Int)=some (97+m.val):=by decide+kernel
 have e:=q #[k.toNat,RU];have E:((k.toNat:Nat):Int)=k:=by omega
 dsimp only at e;rw[E,h]at e;injection e
def Sh(A S:Str)(d:Int)(c:Nat)(w:Str):Prop:=if d=2 then ∃R:Str,w=R++#[(List.toArray [c])] else w=A++#[(List.toArray [c])]++S∨w=A++#[(List.toArray [c])]++S++"z"∨w="qqqqqqq"++#[(List.toArray [c])]
theorem kG(a b:Str):(a++b).cps.toList=a.cps.toList++b.cps.toList:=by show(a.cps++b.cps).toList=_;exact Array.toList_append
theorem Xy{R:Str}(h:R++(#[(List.toArray [c])]:Str)=r++#[(List.toArray [C])]):c=C:=by have e:=Iq (Array.toList ∘ Str.cps) h;have e:(R++(#[(List.toArray [c])]:Str)).cps.toList=(r++(#[(List.toArray [C])]:Str)).cps.toList:=e;rw[kG,kG]at e;have:=List.append_inj_right' e Z;injection this
theorem vL{S:Str}(h:A++(#[(List.toArray [c])]:Str)++S=A++#[(List.toArray [C])]++S):c=C:=by have e:=Iq (Array.toList ∘ Str.cps) h;have e:(A++(#[(List.toArray [c])]:Str)++S).cps.toList=(A++(#[(List.toArray [C])]:Str)++S).cps.toList:=e;rw[kG,kG,kG,kG]at e;have:=N9 (Mr e);injection this
theorem D8{A S : Str}{d : Int}{c C : Nat}{w : Str}(i : A.length + S.length <= 5)(h : Sh A S d c w)(H : Sh A S d C w) : c = C := by
  unfold Sh at h H;have l : ∀ c : Nat, (#[(List.toArray [c])] : Str).length = 1 :=λ_ => Z;have L : (Str.ofString "z").length = 1 := by decide +kernel
  have f : (Str.ofString "qqqqqqq").length = 7 := by decide +kernel
  split at h
  · rename_i a
    rw [Hm a] at H;obtain ⟨R, rfl⟩ := h;obtain ⟨r, e⟩ := H;exact Xy e
  · rename_i a
    rw [Ho a] at H;rcases h with rfl | rfl | rfl <;> rcases H with e | e | e
    · exact vL e
    all_goals first
      | exact Xy e
      | (have g := Iq Str.length e
         simp only [nj, l, L, f] at g;omega)
      | skip
    have E := Iq (Array.toList ∘ Str.cps) e;have E : (A ++ (#[(List.toArray [c])] : Str) ++ S ++ ("z" : Str)).cps.toList = (A ++ (#[(List.toArray [C])] : Str) ++ S ++ ("z" : Str)).cps.toList := E;rw [kG, kG (A ++ _ ++ S)] at E;have b := Mr E;rw [kG, kG, kG, kG] at b;have := N9 (Mr b);injection this
theorem Xz{y:List Str}:y.Nodup↔∀i j:Nat,i < j->j < y.length->y[i]?≠y[j]?:=by
 unfold List.Nodup;rw[List.pairwise_iff_getElem];refine#[λh i j H a e=>?_,λh i j b a H e=>h i j H a ?_]
 ·rw[GN (by omega:i < y.length),GN a]at e;injection e with e;exact h i j RU a H e
 ·rw[GN b,GN a,e]
theorem tW{A S:Str}{d D:Int}{Y:List Str}(b:A.length+S.length<=5)(g:Y.length<=20)(h:∀j y,Y[j]?=some y->Sh A S D (oC d j) y):Y.Nodup:=by rw[Xz];intro i j c H e;have a:=h i _ (GN (by omega:i < Y.length));have f:=h j _ (GN H);rw[GN (by omega:i < Y.length),GN H]at e;injection e with e;rw[e]at a;have:=vI RU RU (D8 b a f);omega
theorem ZY{y:List Str}(h:y.Nodup)(b:a∉y):(y.set n a).Nodup:=by
 rw[Xz]at h ⊢;intro i j H c e;rw[MO]at c;by_cases d:n=i
 ·rw[d,IS RU,IK RU]at e;exact b$ Hf e.symm
 ·by_cases f:n=j
  ·rw[f,IS RU,IK RU]at e;exact b$ Hf e
  ·rw[IK d,IK f]at e;exact h i j H c e
theorem vV{y:List Str}(h:nF (.str a) (y.map V.str)=false):a∉y:=λm=>by unfold nF at h;rw[OQ]at h;exact h (.str a) (List.mem_map.mpr #[a,m,Z]) (by simp [mf])
theorem vq{ss:List Str}{d1 d2:Int}(h:ss.length=(1+d1).toNat)(a:0<=d2)(b:d2 < 1+d1):(bf ss none$ some d2).length+(bf ss (some$ d2+1) none).length<=d1.toNat:=by
 obtain⟨k,rfl⟩:∃k:Nat,d2=k:=#[d2.toNat,(M7 a).symm];obtain⟨n,rfl⟩:∃n:Nat,d1=n:=#[d1.toNat,(M7 RU).symm];have H:k<=n:=by omega
 have h:ss.length=n+1:=by rw[h];omega
 clear a b;unfold bf;rw[show((k:Int)+1)=((k+1:Nat):Int) from Z,HT.sIx_nat,HT.sIx_nat,HF,HF,IW,h,La$ IG H,La$ Nat.le_succ_of_le H];refine Hh (Nat.add_le_add (NB _ _)$ NB _ _) ?_;show k - 0+(n+1 - (k+1))<=n;rw[Nh,Nat.add_sub_add_right,Oy H];exact GV _
theorem Fv{S:Str}:Sh A S d c ("qqqqqqq"++#[(List.toArray [c])]):=by
 unfold Sh;split
 ·exact#[_,Z]
 ·exact .inr$ .inr Z
theorem Fx{A S:Str}{d:Int}{c:Nat}{w:Str}(h:if d=2 then ∃R:Str,w=R++#[(List.toArray [c])] else w=A++#[(List.toArray [c])]++S∨w=A++#[(List.toArray [c])]++S++"z"):Sh A S d c w:=by
 unfold Sh;split at h
 ·rename_i e;rw[Hm e];exact h
 ·rename_i e;rw[Ho e];exact h.elim .inl λz=>.inr (.inl z)
noncomputable def pre(s:List Str)(d:Int):Str:=Txt.join "" (bf s none$ some d)
noncomputable def eQ(s:List Str)(d:Int):Str:=Txt.join "" (bf s (some$ d+1) none)
inductive dY(b:List V)(H:Hp)(Q:VK)(a:XK):Prop
 |mk(p:Addr)(n:Int)(_:b=[.ref p,.int n])(_:ao H p)(_:1<=n)(_:n<=20)(_:∀(r:Addr) (ys:List Str) (H':Hp),H r=none->H' r=some (.lst (ys.map V.str))->(ys.length:Int)=n->(∀y∈ys,y.length<=20)/\ys.Nodup->ao H' p->ar p H H'->Q (.ref r) H')
theorem aY:ak z27z z20z (aa gR):=bL
noncomputable def Qi:Scope:=#[.function,[(".0",.local),("_law_k",.local),("_law_take",.globalImplicit),("_law_box_here",.free),("_law_letters",.free)],false,false,[]]
theorem Yw:(z28z:List Str).Nodup:=by decide+kernel
theorem Yx:aZ z27z (aa gR) Qi z28z 1 [0,2]:=nC
noncomputable def Qj:Scope:=#[.function,[(".0",.local),("_law_j",.local),("_law_take",.globalImplicit),("_law_box_here",.free),("_law_letters",.free)],false,false,[]]
theorem Yy:(z29z:List Str).Nodup:=by decide+kernel
theorem Yz:aZ z27z (aa gR) Qj z29z 1 [0,2]:=nC
theorem Jg{p:Addr}{Q:List V->Hp->Prop}(o:n<=20)(B:ao f p)
  (q:∀(S:List Str) (H:Hp),S.length=n->(∀s∈S,s.length<=1)->ao H p->(∀b,b≠p->H b=f b)->Q (S.map V.str) H):
  eB (uZ 0 n) 1 [some$ .ref p,some$ .str dh] (bp 0) lV (dG wO (aX 2)$ dF aL [] E0$ al (aX 1)$ al (tC$ .int 26) aM) Q f:=by
 refine qp (λi y H=>∃S:List Str,y=S.map V.str/\S.length=i/\(∀s∈S,s.length<=1)/\ao H p/\∀b,b≠p->H b=f b)
  #[[],Z,Z,(λ_ h=>nomatch h),B,λ_ _=>Z] (Hh o RT) (λi y H #[S,e,l,_]=>by rw[e,GQ,l];exact GV _) ?_ ?_
 ·intro i y H x a;obtain⟨S,rfl,g,j,m,E⟩:=a;refine#[_,Z,_,Z,p,26,Z,m,RT,RT,λd A D r t u=>?_];obtain⟨c,v⟩:=ug (z:=dh) D (by rw[JM];exact r);refine#[_,_,c,Z,Z,RT,v,S++[#[(List.toArray [c])]],by rw[Hs];rfl,by rw[GU,g];rfl,λs hs=>?_,t,λb N=>(u b N).trans (E b N)];rcases List.mem_append.mp hs with hs |hs
  ·exact j s hs
  ·rw[List.mem_singleton.mp hs];exact GV 1
 ·intro y H a;obtain⟨S,rfl,g,j,m,E⟩:=a;exact q S H g j m E
def Rw(p g r:Addr)(n d D b e:Int)(i c:Nat)(s y:List Str)(H:Hp)(L:Nat)(Z:Str->Prop):_L.St->Hp->Prop:=λa h=>∃W:Str,(W.length<=L/\Z W)/\
 a=[some$ .ref p,some$ .int n,some$ .str dh,some$ .int (1+d),some$ .int D,some$ .ref g,some$ .int b,some$ .int e,some$ .ref r,some$ .int (0+(i:Int)),some$ .str #[(List.toArray [c])],some$ .str W,none,none]/\
 h g=some (.lst$ s.map V.str)/\h r=some (.lst$ y.map V.str)/\ao h p/\ar p H h
def Rf(p r:Addr)(n:Int)(H:Hp):_L.St->Hp->Prop:=λa h=>a[8]?=some (some$ .ref r)/\∃Y:List Str,h r=some (.lst$ Y.map V.str)/\(Y.length:Int)=n/\((∀y∈Y,y.length<=20)/\Y.Nodup)/\ao h p/\ar p H h
theorem QE(Y:List Str):(Y.map V.str).all cp=true:=by rw[Mw];intro v h;obtain⟨y,_,rfl⟩:=List.mem_map.mp h;rfl
theorem tU(Y:List Str)(j:Nat)(y:Str):(Y.map V.str).set j (V.str y)=(Y.set j y).map V.str:=(PQ ..).symm
inductive NI(p g r:Addr)(n b c d e:Int)(v:List Str)(H:Hp)(i:Nat)(x:_L.St)(a:Hp):Prop
 |mk(s t u:Option V)(w:List Str)(f:x=[some (.ref p),some (.int n),some (.str dh),some (.int (1+b)),some (.int c),some (.ref g),some (.int d),some (.int e),some (.ref r),s,t,u,none,none])(h:a g=some (.lst (v.map V.str)))(k:a r=some (.lst (w.map V.str)))(l:w.length=i)(m:(∀y∈w,y.length<=20)/\∀j y,w[j]?=some y->Sh (pre v c) (eQ v c) e (oC d j) y)(o:ao a p)(q:ar p H a)
theorem rS(F:aJ K "_law_names" "_law_names" gR f fd)(GT:aj P w K mg base aA 1 fT f4 z0z aL)(x:ay K f4 z0z [])(C:keepIn K (.ref fT)=true)
  (M:mg "_law_take"=some (.ref fT)) (mr:mg "range"=none):aj P w K mg base aA 2 f fd z20z dY:=by
 refine F.ok aY ?_ λc1 A o1 s H vs Q E D h=>?_
 ·rintro _ _ _ _ ⟨p,n,rfl,_⟩;rfl
 obtain⟨p,n,rfl,B,a3,a4,q⟩:=h;refine#[_,(@je _ _ _ _ _ (@kL _ _ (2) _ _ _ _ aY.nd Z (Or.inr Z) (@jk _ _ _ _) RX$ .inl Z)$ @je _ _ _ _ _ (@kL _ _ (3) _ _ _ _ aY.nd Z (Or.inl Z) (@jv _ _ _ _ _ _ _ _ jZ (@jf _ _ _ _)$ @ke _ _ _ _ _ _ _ _ _ _ _ _ _ _ _ _ GT D Z M C x .nil bH (@ja _ _ _ _ _ (@pv _ 0 _ _ RX (.inr$ .inl Z) RT RT) (@ja _ _ _ _ _ (@jf _ _ _ _) (@jb _) RX) RX) RT RX RX) RX$ .inl Z)$ @je _ _ _ _ _ (@kL _ _ (4) _ _ _ _ aY.nd Z (Or.inl Z) (@ke _ _ _ _ _ _ _ _ _ _ _ _ _ _ _ _ GT D Z M C x .nil bH (@ja _ _ _ _ _ (@pv _ 0 _ _ RX (.inr$ .inl Z) RT RT) (@ja _ _ _ _ _ (@pv _ 3 _ _ RX (.inl Z) RT RT) (@jb _) RX) RX) RT RX RX) RX$ .inl Z)$ @je _ _ _ _ _ (@YZ _ _ _ _ _ _ _ _ _ _ (5) (z28z) (1) ([0,2]) _ _ _ _ aY.nd Z (Or.inl Z) Z (@j7 _ _ _ _ _ _ Z mr (@ja _ _ _ _ _ (@pv _ 3 _ _ RX (by first |exact Or.inl Z |exact Or.inr (Or.inl Z) |exact Or.inr$ Or.inr Z) RT RT) (@jb _) RX) RX) Yx (λ_ _ _ _ _=>(@ju _ _ (0) _ Yw Z (Or.inl Z) (by first |exact .inl Z |exact .inr Z))) (λ_ _ _ _ _=>(@zi _)) (λ_ _ _ _ _=>(@jr _ _ _ _ _ _ _ Kg (@pv _ 2 _ _ RX (by first |exact Or.inl Z |exact Or.inr (Or.inl Z) |exact Or.inr$ Or.inr Z) RT RT) (@ke _ _ _ _ _ _ _ _ _ _ _ _ _ _ _ _ GT D Z M C x .nil bH (@ja _ _ _ _ _ (@pv _ 1 _ _ RX (by first |exact Or.inl Z |exact Or.inr (Or.inl Z) |exact Or.inr$ Or.inr Z) RT RT) (@ja _ _ _ _ _ (@jf _ _ _ _) (@jb _) RX) RX) RT RX RX) (λ_ _=>Z))) RX (by first |exact .inl Z |exact .inr Z) (by intro _;rfl))$ @je _ _ _ _ _ (@kL _ _ (6) _ _ _ _ aY.nd Z (Or.inl Z) (@ke _ _ _ _ _ _ _ _ _ _ _ _ _ _ _ _ GT D Z M C x .nil bH (@ja _ _ _ _ _ (@pv _ 0 _ _ RX (.inr$ .inl Z) RT RT) (@ja _ _ _ _ _ (@jf _ _ _ _) (@jb _) RX) RX) RT RX RX) RX$ .inl Z)$ @je _ _ _ _ _ (@kL _ _ (7) _ _ _ _ aY.nd Z (Or.inl Z) (@ke _ _ _ _ _ _ _ _ _ _ _ _ _ _ _ _ GT D Z M C x .nil bH (@ja _ _ _ _ _ (@pv _ 0 _ _ RX (.inr$ .inl Z) RT RT) (@ja _ _ _ _ _ (@jf _ _ _ _) (@jb _) RX) RX) RT RX RX) RX$ .inl Z)$ @je _ _ _ _ _ (@kL _ _ (8) _ _ _ _ aY.nd Z (Or.inl Z) (@jE _ _ _ _$ @jb _) RX$ .inl Z)$ @je _ _ _ _ _ (@j9 _ _ _ _ _ _ _ _ HM Z (@j7 _ _ _ _ _ _ Z mr (@ja _ _ _ _ _ (@pv _ 1 _ _ RX (.inl Z) RT RT) (@jb _) RX) RX) (@ju _ _ (9) _ aY.nd Z (Or.inl Z)$ .inl Z) (@je _ _ _ _ _ (@kL _ _ (10) _ _ _ _ aY.nd Z (Or.inl Z) (@jr _ _ _ _ _ _ _ Kg (@pv _ 2 _ _ RX (.inr$ .inl Z) RT RT) (@jv _ _ _ _ _ _ _ _ kX (@jv _ _ _ _ _ _ _ _ jZ (@pv _ 6 _ _ RX (.inl Z) RT RT)$ @jv _ _ _ _ _ _ _ _ zq (@jf _ _ _ _)$ @pv _ 9 _ _ RX (.inl Z) RT RT)$ @jf _ _ _ _) (λ_ _=>Z)) RX$ .inl Z)$ @je _ _ _ _ _ (@j4 _ _ _$ @kL _ _ (11) _ _ _ _ aY.nd Z (Or.inl Z) (@jv _ _ _ _ _ _ _ _ zD (@jv _ _ _ _ _ _ _ _ zD (@ki _ _ _ _ _ _ _ _ _ _ _ _ Mv Mz My Q3 (@jk _ _ _ _) (@ja _ _ _ _ _ (@jJ _ _ _ _ _ _ _ _ _ _ kf (@pv _ 5 _ _ RX (.inl Z) RT RT) (@j3 _)$ @jH _ _ _$ @pv _ 4 _ _ RX (.inl Z) RT RT) (@jb _) RX) RX RX RX RX RX)$ @pv _ 10 _ _ RX (.inl Z) RT RT)$ @ki _ _ _ _ _ _ _ _ _ _ _ _ Mv Mz My Q3 (@jk _ _ _ _) (@ja _ _ _ _ _ (@jJ _ _ _ _ _ _ _ _ _ _ kf (@pv _ 5 _ _ RX (.inl Z) RT RT) (@jH _ _ _$ @jv _ _ _ _ _ _ _ _ jZ (@pv _ 4 _ _ RX (.inl Z) RT RT)$ @jf _ _ _ _)$ @j3 _) (@jb _) RX) RX RX RX RX RX) RX$ .inl Z)$ @je _ _ _ _ _ (@j4 _ _ _$ @jw _ _ _ _ _ _ _ _ (@PW.pt _ _ _$ @Jk _ _ _ _ _ _ _ (kJ$ @pv _ 7 _ _ RX (.inl Z) RT RT)$ @qu _ _ _ _$ kJ$ @jv _ _ _ _ _ _ _ _ kX (@pv _ 9 _ _ RX (.inl Z) RT RT)$ @jf _ _ _ _) (@jg _ _ _$ @kL _ _ (11) _ _ _ _ aY.nd Z (Or.inl Z) (@jv _ _ _ _ _ _ _ _ zD (@pv _ 11 _ _ RX (.inl Z) RT RT)$ @jk _ _ _ _) RX$ .inl Z)$ @jp _)$ @je _ _ _ _ _ (@j4 _ _ _$ @jw _ _ _ _ _ _ _ _ (kJ$ @pv _ 7 _ _ RX (.inl Z) RT RT) (@jg _ _ _$ @kL _ _ (11) _ _ _ _ aY.nd Z (Or.inl Z) (@jv _ _ _ _ _ _ _ _ zD (@ki _ _ _ _ _ _ _ _ _ _ _ _ Mv Mz My Q3 (@jk _ _ _ _) (@ja _ _ _ _ _ (@kE _ _ _ _ _ _ _ (z29z) (1) ([0,2]) _ _ _ _ Z (@j7 _ _ _ _ _ _ Z mr (@ja _ _ _ _ _ (@ke _ _ _ _ _ _ _ _ _ _ _ _ _ _ _ _ GT D Z M C x .nil bH (@ja _ _ _ _ _ (@pv _ 0 _ _ RX (by first |exact Or.inl Z |exact Or.inr (Or.inl Z) |exact Or.inr$ Or.inr Z) RT RT) (@ja _ _ _ _ _ (@jf _ _ _ _) (@jb _) RX) RX) RT RX RX) (@jb _) RX) RX) Yz (λ_ _ _ _ _=>(@ju _ _ (0) _ Yy Z (Or.inl Z) (by first |exact .inl Z |exact .inr Z))) (λ_ _ _ _ _=>(@zi _)) (λ_ _ _ _ _=>(@jr _ _ _ _ _ _ _ Kg (@pv _ 2 _ _ RX (by first |exact Or.inl Z |exact Or.inr (Or.inl Z) |exact Or.inr$ Or.inr Z) RT RT) (@ke _ _ _ _ _ _ _ _ _ _ _ _ _ _ _ _ GT D Z M C x .nil bH (@ja _ _ _ _ _ (@pv _ 1 _ _ RX (by first |exact Or.inl Z |exact Or.inr (Or.inl Z) |exact Or.inr$ Or.inr Z) RT RT) (@ja _ _ _ _ _ (@jf _ _ _ _) (@jb _) RX) RX) RT RX RX) (λ_ _=>Z))) (by intro _;rfl)) (@jb _) RX) RX RX RX RX RX)$ @pv _ 10 _ _ RX (.inl Z) RT RT) RX$ .inl Z)$ @jp _)$ @je _ _ _ _ _ (@j4 _ _ _$ @jw _ _ _ _ _ _ _ _ (@jA _ _ _ _ _ _ _ _ zp (@pv _ 11 _ _ RX (.inl Z) RT RT) (@jh _ _ _ _ _$ @Q4 _ _ RX) Z) (@jg _ _ _$ @kL _ _ (11) _ _ _ _ aY.nd Z (Or.inl Z) (@jv _ _ _ _ _ _ _ _ zD (@jk _ _ _ _)$ @pv _ 10 _ _ RX (.inl Z) RT RT) RX$ .inl Z)$ @jp _)$ @jg _ _ _$ @jP _ _ _ _ (@ki _ _ _ _ _ _ _ _ _ _ _ _ Hj Hz Hw jM (@pv _ 8 _ _ RX (.inl Z) RT RT) (@ja _ _ _ _ _ (@pv _ 11 _ _ RX (.inl Z) RT RT) (@jb _) RX) RX RX RX RX RX) RX) (by intro _;rfl))$ @je _ _ _ _ _ (@j4 _ _ _$ @jw _ _ _ _ _ _ _ _ (@jA _ _ _ _ _ _ _ _ JB (@ke _ _ _ _ _ _ _ _ _ _ _ _ _ _ _ _ GT D Z M C x .nil bH (@ja _ _ _ _ _ (@pv _ 0 _ _ RX (.inr$ .inl Z) RT RT) (@ja _ _ _ _ _ (@jf _ _ _ _) (@jb _) RX) RX) RT RX RX) (@jf _ _ _ _)$ aE _) (@je _ _ _ _ _ (@kL _ _ (12) _ _ _ _ aY.nd Z (Or.inl Z) (@jE _ _ _ _$ @Q4 _ _ RX) RX$ .inl Z)$ @je _ _ _ _ _ (@kL _ _ (13) _ _ _ _ aY.nd Z (Or.inl Z) (@jr _ _ _ _ _ _ _ jq (@pv _ 12 _ _ RX (.inl Z) RT RT) (@ke _ _ _ _ _ _ _ _ _ _ _ _ _ _ _ _ GT D Z M C x .nil bH (@ja _ _ _ _ _ (@pv _ 0 _ _ RX (.inr$ .inl Z) RT RT) (@ja _ _ _ _ _ (@jf _ _ _ _) (@jb _) RX) RX) RT RX RX) (λ_ _=>Z)) RX$ .inl Z)$ @jg _ _ _$ @jw _ _ _ _ _ _ _ _ (@jA _ _ _ _ _ _ _ _ Jb (@pv _ 13 _ _ RX (.inl Z) RT RT) (@pv _ 8 _ _ RX (.inl Z) RT RT) Z) (@jg _ _ _$ @kW _ _ _ _ _ _ (@pv _ 13 _ _ RX (.inl Z) RT RT) (@qh _ _ _ _ _ _ _ (@pv _ 8 _ _ RX (.inl Z) RT RT) (@ke _ _ _ _ _ _ _ _ _ _ _ _ _ _ _ _ GT D Z M C x .nil bH (@ja _ _ _ _ _ (@pv _ 0 _ _ RX (.inr$ .inl Z) RT RT) (@ja _ _ _ _ _ (@pv _ 1 _ _ RX (.inl Z) RT RT) (@jb _) RX) RX) RT RX RX) zf (by intro _;rfl)) RX RX RX)$ @jp _)$ @jp _)$ @jg _ _ _$ @jo _ _ _ _$ @pv _ 8 _ _ RX (.inl Z) RT RT),?_];refine eP λE0 f0=>f0 _ _ ?_;refine eP λG a=>#[_,Z,p,6,Z,B,RT,RT,λd1 H1 a5 a6 U e1=>#[_,_,Z,Z,a _ _ ?_]];refine eP λE2 f2=>#[_,Z,_,Z,p,_,Z,U,RU,RU,λd2 H2 a8 a9 B2 e2=>f2 _ _ ?_];clear f0 a f2;refine eP λG a=>#[_,Z,_,Z,RU,RU,?_];refine Jg (p:=p) RU B2 λss H3 a2 e B3 e3 g hg=>a _ _ ?_;clear a;have k3:ar p H H3:=(ar.of_eq e1).trans ((ar.of_eq e2).trans$ ar.of_eq e3);have v:g≠p:=B3.ne hg;refine eP λG a=>#[_,Z,p,26,Z,B3.upd_new hg,RT,RT,λW H4 a' b0 B4 e4=>a _ _ ?_];refine eP λE2 f2=>#[_,Z,p,3,Z,B4,RT,RT,λI H5 b1 b2 B5 e5=>f2 _ _ ?_];clear a f2;have h2:H5 g=some (.lst$ ss.map V.str):=by rw[e5 g v,e4 g v];exact jc
 have k5:ar p H H5:=(k3.upd_new hg).trans ((ar.of_eq e4).trans$ ar.of_eq e5);refine eP λG a=>#[RT,λr u=>a _ _ ?_];clear a;have m:r≠p:=B5.ne u;have h4:g≠r:=jm h2 u;have n3:H g=none:=by
  cases z:H g with
  |none=>rfl
  |some o=>have:=k3 g o v z;rw[hg]at this;cases this
 have X:H r=none:=by
  cases z:H r with
  |none=>rfl
  |some o=>have:=k5 r o m z;rw[u]at this;cases this
 have b3:=zz;refine eP λG a=>dN λJ j=>#[_,Z,_,Z,RU,RU,j _ _ ?_];clear j;refine zE (lo:=0) (NI p g r n d1 d2 W I ss H) #[none,none,none,[],Z,am h2 u,jc,Z,#[(λ_ h=>nomatch h),(λ_ _ h=>nomatch h)],B5.upd_new u,k5.upd_new u] ?_ ?_
 ·intro E0 _ i σ H' hi fE Gq T b;obtain⟨ok,oo,ow,ys,rfl,L,Y,h0,d,B',k'⟩:=b;clear a;obtain⟨c,hc⟩:=ug (z:=dh) (k:=(W+5*(0+(i:Int))) % 26) (Ij _ RT) (by rw[JM];exact HS _ RT);refine T ?_;clear T;show gj (dU _ _) _ E0 _ _;refine eP λG a=>#[_,Z,_,Z,_,Z,_,_,Z,Z,.inl #[RT,RT],_,_,Z,Z,_,_,Z,Z,(by show(0:Int) < 26;decide),_,_,c,Z,Z,RT,hc,a _ _ ?_];clear a;have b4:(#[(List.toArray [c])]:Str).length=1:=rfl;have h5:c=oC W i:=Ay (Ij _ RT) (HS _ RT) hc;refine eP λG a=>dq (Rw p g r n d1 d2 W I i c ss ys H 13 (·=pre ss d2++#[(List.toArray [c])]++eQ ss d2)) (λE2 _ t=>?_) λO H1 b=>?_
  ·clear a fE;refine#[Z,_,Z,_,Z,_,Z,g,_,Z,aB.of L,λs1 n1=>?_];have z1:=qR (ys:=bf ss none (some d2)) λy d=>e y (zN d);have z2:=qm ss none (some d2);refine#[_,s1,bf ss none$ some d2,Z,Z,aB.of (by rw[jc,zA]),RT,RU,?_];have j1:=qS (z:="") (ys:=bf ss none (some d2)) RW λy d=>e y (zN d);refine#[_,Z,_,_,Z,Z,RU,?_];refine#[Z,_,Z,_,Z,_,_,Z,Z,_,Z,g,_,Z,aB.of$ am L n1,λs2 n2=>?_];have z3:=qR (ys:=bf ss (some$ d2+1) none) λy d=>e y (zN d);have z4:=qm ss (some$ d2+1) none;refine#[_,s2,bf ss (some$ d2+1) none,Z,Z,aB.of (by rw[jc,zA]),RT,RU,?_];have j2:=qS (z:="") (ys:=bf ss (some$ d2+1) none) RW λy d=>e y (zN d);refine#[_,_,Z,Z,by rw[nj];omega,?_];exact t _ _ #[_,#[by show(Txt.join ("":Str) (bf ss none$ some d2)++(#[(List.toArray [c])]:Str)++Txt.join ("":Str) (bf ss (some$ d2+1) none)).length<=13;rw[nj,nj];omega,Z],Z,am (am L n1) n2,am (am Y n1) n2,(B'.upd_new n1).upd_new n2,(k'.upd_new n1).upd_new n2]
  obtain⟨w1,⟨b5,z1⟩,rfl,g1,r1,U,k1⟩:=b;refine a _ _ ?_;clear a;refine eP λG a=>dq (Rw p g r n d1 d2 W I i c ss ys H 14 (λw=>w=pre ss d2++#[(List.toArray [c])]++eQ ss d2∨w=pre ss d2++#[(List.toArray [c])]++eQ ss d2++"z")) (λE2 _ t=>?_) λO H2 b=>?_
  ·clear a fE;refine#[_,Z,Z,_,Z,?_];refine bN (λS=>?_) (λS=>?_)
   ·refine#[_,Z,_,_,Z,Z,(by show(0:Int) < 2;decide),Z,_,Z,?_];refine bN (λcb=>?_) (λcb=>?_)
    ·have hz:(Str.ofString "z").length=1:=by decide+kernel
     refine#[_,Z,_,_,Z,Z,by rw[hz];omega,?_];exact t _ _ #[_,#[by rw[nj,hz];omega,.inr (by rw[z1])],Z,g1,r1,U,k1]
    ·exact t _ _ #[w1,#[RU,.inl z1],Z,g1,r1,U,k1]
   ·exact oA$ t _ _ #[w1,#[RU,.inl z1],Z,g1,r1,U,k1]
  obtain⟨w2,⟨b7,z2⟩,rfl,g2,r2,B2,k2⟩:=b;refine a _ _ ?_;clear a;refine eP λG a=>dq (Rw p g r n d1 d2 W I i c ss ys H 14 (λw=>if I=2 then ∃R:Str,w=R++#[(List.toArray [c])] else w=pre ss d2++#[(List.toArray [c])]++eQ ss d2∨w=pre ss d2++#[(List.toArray [c])]++eQ ss d2++"z")) (λE2 _ t=>?_) λO H3 b=>?_
  ·clear a fE;refine#[_,Z,Z,_,Z,?_];refine bN (λS=>?_) (λS=>?_)
   ·refine#[Z,_,Z,p,8,Z,B2,RT,RT,λd6 H6 d0 d3 B6 e6=>?_];refine#[_,Z,RU,RU,?_];refine Jg (p:=p) RU B6 λtt H7 b9 h3 B7 e7 g7 n7=>?_;have jt:=qS (z:="") (ys:=tt) RW h3;have zt:=qR h3;refine#[_,g7,tt,Z,Z,aB.of jc,RT,RU,?_];refine#[_,Z,_,_,Z,Z,RU,?_];have g8:H7 g=some (.lst$ ss.map V.str):=by rw[e7 g v,e6 g v];exact g2
    have r8:H7 r=some (.lst$ ys.map V.str):=by rw[e7 r m,e6 r m];exact r2
    have e5:I=2:=by injection Iu S
    exact t _ _ #[_,#[by rw[nj];omega,(Hm e5).mpr #[_,Z]],Z,am g8 n7,am r8 n7,B7.upd_new n7,(k2.trans ((ar.of_eq e6).trans$ ar.of_eq e7)).upd_new n7]
   ·have e5:I≠2:=λz=>S (by rw[z];exact Hl Z);exact t _ _ #[w2,#[RU,(Ho e5).mpr z2],Z,g2,r2,B2,k2]
  obtain⟨w3,⟨b',z3⟩,rfl,g3,r3,B3,k3⟩:=b;refine a _ _ ?_;clear a;refine eP λG a=>dq (Rw p g r n d1 d2 W I i c ss ys H 14$ Sh (pre ss d2) (eQ ss d2) I c) (λE2 _ t=>?_) λO H4 b=>?_
  ·clear a fE;refine#[_,Z,RT,λt0 N=>?_];refine#[t0,_,Z,.inr$ ax.of jc,Z,ZG RX,_,Z,?_];refine bN (λS=>?_) (λS=>?_)
   ·have hq:(Str.ofString "qqqqqqq").length=7:=by decide+kernel
    refine#[_,Z,_,_,Z,Z,by rw[hq];omega,?_];exact t _ _ #[_,#[by rw[nj,hq];omega,Fv],Z,am g3 N,am r3 N,B3.upd_new N,k3.upd_new N]
   ·exact t _ _ #[w3,#[RU,Fx z3],Z,am g3 N,am r3 N,B3.upd_new N,k3.upd_new N]
  obtain⟨w4,⟨c2,z4⟩,rfl,g4,r4,B4,k4⟩:=b;refine a _ _ ?_;clear a;refine#[_,Z,.inl #[Z,_,aB.of r4],_,Z,r,_,_,Z,Z,r4,by rw[GQ];omega,?_];refine fE _ _ #[_,_,_,ys++[w4],Z,by rw[ji h4];exact g4,by rw[jc,Hs];rfl,by rw[GU,h0];rfl,#[λy hm=>?_,λj y hj=>?_],B4.eq$ ji$ HI m,k4.upd_own X]
  ·rcases List.mem_append.mp hm with hm |hm
   ·exact d.1 y hm
   ·rw[List.mem_singleton.mp hm];omega
  ·by_cases h6:j < ys.length
   ·rw[I9 h6]at hj;exact d.2 j y hj
   ·have lj:=(List.getElem?_eq_some_iff.mp hj).1;rw[GU,Lo]at lj;have ej:j=ys.length:=by omega
    rw[ej,IX$ GV _,ML]at hj;injection hj with hj;rw[<- hj,ej,h0,<- h5];exact z4
 ·intro σ H' b;obtain⟨ok,oo,ow,ys,rfl,L,Y,h0,d,B',k'⟩:=b;have h1:(ys.length:Int)=n:=by omega
  have f5:=vq (ss:=ss) (d1:=d1) (d2:=d2) RU RU RU;have j1:(pre ss d2).length<=_:=qS (z:="") (ys:=bf ss none (some d2)) RW λy d=>e y (zN d);have j2:(eQ ss d2).length<=_:=qS (z:="") (ys:=bf ss (some$ d2+1) none) RW λy d=>e y (zN d);have nd:=tW RU RU d.2;have d:=d.1;refine a _ _ ?_;clear a;refine ai λF1 a=>dq (Rf p r n H) (λE2 _ t=>?_) λO H1 b=>?_
  ·clear a;refine nE λG' g'=>#[_,Z,p,6,Z,B',RT,RT,λd6 H6 d0 d3 B6 e6=>#[Z,_,Z,g' _ _ ?_]];clear g';have r6:H6 r=some (.lst$ ys.map V.str):=by rw[e6 r m];exact Y
   have k6:ar p H H6:=k'.trans (ar.of_eq e6);refine bN (λS=>?_) (λS=>?_)
   ·refine eP λE3 f3=>#[RT,λt0 N=>f3 _ _ ?_];clear f3;have t1:t0≠p:=B6.ne N;refine eP λE4 f3=>#[_,Z,_,Z,p,13,Z,B6.upd_new N,RT,RT,λd7 H7 d9 d' B7 e7=>?_];have t7:H7 t0=some (.lst ((z30z:List Str).map V.str)):=((e7 t0 t1).trans jc).trans (Iq (λl=>some (HO.lst l)) RW);have r7:H7 r=some (.lst$ ys.map V.str):=by rw[e7 r m];exact am r6 N
    have k7:ar p H H7:=(k6.upd_new N).trans (ar.of_eq e7);obtain⟨od,h7,h8⟩:=Jn (ys:=(z30z:List Str)) d9 (by simpa using d');refine#[t0,_,_,_,Z,Z,aB.of t7,h8,f3 _ _ ?_];clear f3;have h':od.length<=20:=by
     have:∀y∈(z30z:List Str),y.length<=20:=by decide+kernel
     exact this od h7
    refine nE λG' g'=>#[_,Z,_,Z,r,_,Z,.inl$ aB.of r7,Z,QE _,_,Z,g' _ _ ?_];clear g';refine bN (λcb=>?_) (λcb=>?_)
    ·refine#[_,Z,_,Z,_,Z,_,Z,p,n,Z,B7,RU,RU,λd8 H8 a0 c3 B8 e8=>?_];have r8:H8 r=some (.lst$ ys.map V.str):=by rw[e8 r m];exact r7
     have k8:ar p H H8:=k7.trans (ar.of_eq e8);refine#[r,_,d8,d8.toNat,Z,Z,r8,?_,?_]
     ·unfold mN;rw[Hm a0,GQ,Hm RU]
     refine t _ _ #[Z,ys.set d8.toNat od,by rw[jc,tU],by rw[MO];exact h1,#[λy hm=>?_,ZY nd$ vV (by have c0:(!nF (.str od) (ys.map V.str))=true:=cb;rw[OT]at c0;exact c0)],B8.eq$ ji$ HI m,k8.upd_own X];rcases List.mem_or_eq_of_mem_set hm with hm |hm
     ·exact d y hm
     ·rw[hm];exact h'
    ·exact t _ _ #[Z,ys,r7,h1,#[d,nd],B7,k7]
   ·exact t _ _ #[Z,ys,r6,h1,#[d,nd],B6,k6]
  obtain⟨a1,y0,r1,l1,y1,U,k1⟩:=b;refine a _ _ ?_;exact#[_,a1,q r y0 H1 X r1 l1 y1 U k1]
def ah(H h:Hp):Prop:=∀b x,H b=some (.tup x)->h b=some (.tup x)
theorem ae.tm(a:ae H c):ah H c:=λb x h=>a b _ h
theorem jd{H:Hp}{o:HO}(n:H p=none):ae H (af H p o):=λb u e=>am e n
theorem bQ{b:Bool}{A B:Prop}(h:b=true)(x:A):if b=true then A else B:=by rw[Hm h];exact x
theorem aO{b:Bool}{A B:Prop}(h:b=false)(x:B):if b=true then A else B:=by rw[h,Ho Hc];exact x
theorem aF:sizeLine=16777216:=by rw[M']
theorem ao.same(B:ao H p)(s:ae H c):ao c p:=by obtain⟨a,b,d,e,f,h⟩:=B.ob;exact#[a,b,d,e,f,s _ _ h]
theorem ar.of_same(s:ae H h):ar p H h:=λb o _ e=>s _ _ e
theorem ar.tm(k:ar p H h)(B:ao H p):ah H h:=λb x e=>by obtain⟨a,c,_,_,_,f⟩:=B.ob;exact k b _ (jN e f (by intro w;cases w)) e
theorem ar.none(k:ar p H h)(B:ao h p)(n:h r=none):H r=none:=by
 cases z:H r with
 |none=>rfl
 |some o=>have:=k _ _ (B.ne n) z;rw[n]at this;cases this
theorem QF{K:Frag}{a:Addr}{xs:List V}{t:TE}{Q:List V->Hp->Prop}(u:xs.length<=sizeLine)(Pv:Nat->List V->Hp->Prop)(l:Pv 0 [] H)
  (n:∀i Y h,Pv i Y h->aB K h a xs/\Y.length<=i) (o:∀i x Y h,xs[i]?=some x->Pv i Y h->t (some x::d) h λy c=>Pv (i+1) (Y++[y]) c) (q:∀Y h,Pv xs.length Y h->Q Y h):
  eB (uY K a) 1 d (bp 0) lV t Q H:=by
 refine#[λi m Y h=>m=xs.length - i/\i<=xs.length/\Pv i Y h,#[xs.length,RV,Hg _,l],?_];intro i m Y h f;obtain⟨rfl,z,p⟩:=f;obtain⟨g,A⟩:=n i Y h p;by_cases b:i < xs.length
 ·refine .inr #[#[xs,xs[i],g,GN b],RU,Pv$ i+1,λr c s=>#[xs.length - (i+1),RU,Z,b,s],λv c T j y=>?_];obtain⟨e,y⟩:=y;subst e;obtain⟨w,rfl⟩:=rE j;exact#[#[[some _],Z,Z],o i v Y c (y xs g) p]
 ·have e:i=xs.length:=by omega
  subst e;exact .inl #[#[xs,g,GV _],q Y h p]
theorem qx{K:Frag}{xs:List V}{t:TE}{Q:List V->Hp->Prop}(u:xs.length<=sizeLine)(Pv:Nat->List V->Hp->Prop)(l:Pv 0 [] H)
  (n:∀i Y h,Pv i Y h->ax K h a xs/\Y.length<=i) (o:∀i x Y h,xs[i]?=some x->Pv i Y h->t (some x::d) h λy c=>Pv (i+1) (Y++[y]) c) (q:∀Y h,Pv xs.length Y h->Q Y h):
  eB (u5 K a) 1 d (bp 0) lV t Q H:=by
 refine#[λi m Y h=>m=xs.length - i/\i<=xs.length/\Pv i Y h,#[xs.length,RV,Hg _,l],?_];intro i m Y h f;obtain⟨rfl,z,p⟩:=f;obtain⟨g,A⟩:=n i Y h p;by_cases b:i < xs.length
 ·refine .inr #[#[xs,xs[i],g,GN b],RU,Pv$ i+1,λr c s=>#[xs.length - (i+1),RU,Z,b,s],λv c T j y=>?_];obtain⟨e,y⟩:=y;subst e;obtain⟨w,rfl⟩:=rE j;exact#[#[[some _],Z,Z],o i v Y c (y xs g) p]
 ·have e:i=xs.length:=by omega
  subst e;exact .inl #[#[xs,g,GV _],q Y h p]
noncomputable abbrev iT:Stmt:=bM 56
noncomputable abbrev nS:Stmt:=bM 58
inductive Tm where
 |num (n:Int) |var (x:Str) |op (i:Nat) (a b:Tm)
noncomputable def Tm.depth:Tm->Nat
 | .num _=>0
 | .var _=>0
 | .op _ a b=>max a.depth b.depth+1
noncomputable def i5:Str:="+-*/<="
theorem tV:i5.length=6:=by decide+kernel
noncomputable def Fu(i:Nat):Str:=#[(List.toArray [i5.cps.toList.getD i 0])]
theorem BQ(H:0<=d)(a:d < 6):du i5.cps.toList d=some (i5.cps.toList.getD d.toNat 0):=by
 have b:i5.cps.toList.length=6:=by decide+kernel
 have h:d.toNat < i5.cps.toList.length:=by omega
 have e:d=((d.toNat:Nat):Int):=by omega
 have q:du i5.cps.toList ((d.toNat:Nat):Int)=some (i5.cps.toList.getD d.toNat 0):=jQ (by rw[Lu,GN h];rfl);rw[<- e]at q;exact q
def Tm.Good(y:List Str):Tm->Prop
 | .num n=>0<=n/\n < 1000000000000000000
 | .var x=>x∈y
 | .op i a b=>i < 6/\a.Good y/\b.Good y
def be(H:Hp):Tm->Addr->Prop
 | .num n,p=>H p=some (.tup [.str "num",.int n])
 | .var x,p=>H p=some (.tup [.str "var",.str x])
 | .op i a b,p=>∃q r,H p=some (.tup [.str "op",.str (Fu i),.ref q,.ref r])/\be H a q/\be H b r
theorem be.mono{H a:Hp}(h:∀b xs,H b=some (.tup xs)->a b=some (.tup xs)):∀{t:Tm} {p:Addr},be H t p->be a t p
 | .num _,_,e=>h _ _ e
 | .var _,_,e=>h _ _ e
 | .op _ _ _,_,z=>by obtain⟨q,r,e,E,c⟩:=z;exact #[q,r,h _ _ e,be.mono h E,be.mono h c]
theorem be.same(h:ae H a)(e:be H t p):be a t p:=e.mono λb x z=>h b _ z
theorem be.but(B:ao H p)(k:ar p H h)(e:be H t a):be h t a:=e.mono λb X z=>by obtain⟨x,y,_,_,_,d⟩:=B.ob;exact k b _ (jN z d (by intro q;cases q)) z
theorem be.new{H:Hp}{o:HO}(n:H r=none)(e:be H t a):be (af H r o) t a:=e.mono λb x z=>am z n
inductive eG(c:List V)(H:Hp)(Q:VK)(a:XK):Prop
 |mk(p:Addr)(_:c=[.ref p])(_:ao H p)(_:∀(d:Int) (H':Hp),0<=d->d < 1000000000000000000->ao H' p->(∀b,b≠p->H' b=H b)->Q (.int d) H')
inductive cy(n:Nat)(b:List V)(H:Hp)(Q:VK)(a:XK):Prop
 |mk(p g:Addr)(d:Int)(c:List Str)(_:b=[.ref p,.ref g,.int d])(_:ao H p)(_:H g=some (.lst (c.map V.str)))(_:1<=c.length)(_:c.length<=20)(_:0<=d)(_:d < (n:Int))(_:∀(r:Addr) (T:Tm) (H':Hp),be H' T r->(T.depth:Int)<=d->T.Good c->ao H' p->ar p H H'->Q (.ref r) H')
theorem zu{Y:List Str}(B:ao H p)(h:H g=some (.lst$ Y.map V.str)):g≠p:=by
 obtain⟨x,y,_,_,_,b⟩:=B.ob;refine jN h b λz=>?_;injection z with z
 match Y,z with
 |a::r,z=>injection z with c _;cases c
theorem tM:ak z1z z1z (aa iT):=bL
theorem ZZ(F:aJ K "_law_number" "_law_number" iT f t)(C:Cl P w K mg base 1 I u z0z aL "_law_take"):aj P w K mg base aA 2 f t z1z eG:=by
 refine F.ok tM (λv H Q E h=>?_) (λx A o s H v Q E a h=>?_)
 ·obtain⟨p,rfl,_⟩:=h;rfl
 obtain⟨p,rfl,B,q⟩:=h;refine#[_,(je (jw (kJ$ C.e a$ ja (pv 0)$ ja jf jb) (jg$ jo$ C.e a$ ja (pv 0)$ ja (jv Kf jf jf) jb) jp)$ jg$ jo$ C.e a$ ja (pv 0)$ ja jf jb),?_];refine#[_,Z,p,4,Z,B,RT,RT,λL M y G m r=>#[Z,_,Z,?_]];refine bN (λc=>?_) (λc=>?_)
 ·refine#[_,Z,_,_,Z,Z,#[RT,RT,RT],p,_,Z,m,RT,RT,λD g d i j k=>?_];have z:=uA;exact q D g d RU j λb n=>(k b n).trans (r b n)
 ·refine#[_,Z,p,9,Z,m,RT,RT,λD g d i j k=>?_];exact q D g d RU j λb n=>(k b n).trans (r b n)
theorem ni:ak ["_law_box_here","_law_names_here","_law_deep","_law_kind","_law_one"] z9z (aa nS):=bL
theorem wn(F:aJ K "_law_term" "_law_term" nS f fd)(cF:Cl P w K mg base (n+2) f fd z9z (cy n) "_law_term")(S:Cl P w K mg base 1 fT f0 z0z aL "_law_take")(cN:Cl P w K mg base 2 fN f2 z1z eG "_law_number")(ml:mg "len"=none):aj P w K mg base aA (n+3) f fd z9z (cy$ n+1):=by
 refine F.ok ni ?_ λc0 A T s H vs Q E u h=>?_
 ·rintro _ _ _ _ ⟨p,g,d,ys,rfl,_⟩;rfl
 obtain⟨p,g,d,ys,rfl,B,hg,v,x,h1,h2,q⟩:=h;refine#[_,(je (jx 3 ni.nd$ S.e u.m$ ja (pv 0)$ ja jf jb)$ je (j4$ jw (PW.pt$ Qm (jA qL (pv 3) jf$ aE _)$ Jj$ PW.pt$ Jk (jA qM (pv 3) jf$ aE _)$ qu$ kJ$ pv 2) (jg$ jo$ jh$ ja jk$ ja (cN.e u.m$ ja (pv 0) jb) jb) jp)$ je (jw (jA qL (pv 3) jf$ aE _) (jg$ jo$ jh$ ja jk$ ja (jr jq (pv 1) (S.e u.m$ ja (pv 0)$ ja (jI jD Z ml HR$ ja (pv 1) jb) jb) (λ_ _=>Z)) jb) jp)$ je (jx 4 ni.nd$ cF.e u$ ja (pv 0)$ ja (pv 1)$ ja (jv kM (pv 2) jf) jb)$ jg$ jo$ jh$ ja jk$ ja (jr Kg jk (S.e u.m$ ja (pv 0)$ ja jf jb) (λ_ _=>Z))$ ja (pv 4)$ ja (cF.e u$ ja (pv 0)$ ja (pv 1)$ ja (jv kM (pv 2) jf) jb) jb),?_];have b0:=zz;have j:g≠p:=zu B hg;refine ai λF1 l=>#[_,Z,p,6,Z,B,RT,RT,λM O k0 k1 R e1=>l _ _ ?_];clear l;have k:O g=some (.lst$ ys.map V.str):=by rw[e1 g j];exact hg
 have U:ar p H O:=ar.of_eq e1;have num:∀(D:Int) (a:Hp) (r:Addr),0<=D->D < 1000000000000000000->ao a p->(∀b,b≠p->a b=O b)->a r=none->Q (.ref r) (af a r$ .tup [.str "num",.int D]):=λD a r C I i o N=>
  q r (.num D) _ jc (by show((0:Nat):Int)<=d;omega) #[C,I] (i.upd_new N) ((U.trans$ ar.of_eq o).upd_new N)
 refine ai λF1 l=>dq (λJ H'=>J=[some$ .ref p,some$ .ref g,some$ .int d,some$ .int M,none]/\H'=O/\(M<=3∨d≠0)) (λE2 eR fm=>?_) λJ H' W=>?_
 ·clear l;refine nE λG' G=>#[_,Z,_,_,Z,Z,_,Z,?_];refine bN (λc=>?_) (λc=>?_)
  ·refine G _ _$ oB ?_;show iz _ E2 _ _;unfold iz;rw[eR];exact#[_,Z,p,Z,R,λD a C I i o=>#[bo,λr N=>num D a r C I i o N]]
  refine#[_,Z,_,_,Z,Z,_,Z,?_];refine bN (λc2=>?_) (λc2=>?_)
  ·refine#[_,Z,Z,_,Z,G _ _ ?_];refine bN (λc3=>?_) (λc3=>?_)
   ·show iz _ E2 _ _;unfold iz;rw[eR];exact#[_,Z,p,Z,R,λD a C I i o=>#[bo,λr N=>num D a r C I i o N]]
   ·exact fm _ _ #[Z,Z,.inr λz=>c3 (by rw[z];rfl)]
  ·have c1:¬(3:Int) < M:=MQ (Bool.eq_false_iff.mpr c2);exact G _ _$ oA$ fm _ _ #[Z,Z,.inl RU]
 obtain⟨rfl,eH,hk⟩:=W;rw[eH];refine l _ _ ?_;clear l;refine ai λF1 l=>nE λG' G=>#[_,Z,_,_,Z,Z,_,Z,G _ _ ?_];clear G;refine bN (λc=>?_) (λc=>l _ _ ?_)
 ·-- a variable
  refine#[_,Z,_,Z,_,Z,g,_,Z,.inl$ aB.of k,p,_,Z,R,by rw[GQ];omega,by rw[GQ];omega,λD a X L i o=>?_];rw[GQ]at L;obtain⟨y,hy,Y⟩:=Jn (ys:=ys) X L;have t:a g=some (.lst$ ys.map V.str):=by rw[o g j];exact k
  refine#[g,_,_,_,Z,Z,aB.of t,Y,bo,λr N=>?_];exact q r (.var y) _ jc (by show((0:Nat):Int)<=d;omega) hy (i.upd_new N) ((U.trans$ ar.of_eq o).upd_new N)
 ·have c':¬M < (4:Int):=MQ (Bool.eq_false_iff.mpr c);have hd:d≠0:=hk.resolve_left RU;refine#[_,Z,_,Z,_,Z,_,_,Z,Z,p,g,d - 1,ys,Z,R,k,v,x,RU,RU,λr1 T1 a t1 d3 g0 i k2=>?_];have t:a g=some (.lst$ ys.map V.str):=k2 g _ j k;refine#[_,Z,p,6,Z,i,RT,RT,λs3 H3 s0 s1 B3 e3=>?_];have h0:H3 g=some (.lst$ ys.map V.str):=by rw[e3 g j];exact t
  have k3:ar p a H3:=ar.of_eq e3;refine#[i5,_,_,Z,Z,(by rw[tV];omega),BQ s0 s1,?_];refine#[_,Z,_,Z,_,Z,_,Z,_,_,Z,Z,p,g,d - 1,ys,Z,B3,h0,v,x,RU,RU,λr2 T2 H4 t2 d4 g1 B4 k4=>?_];refine#[oW,λr N=>?_];have t0:be H4 T1 r1:=(t1.but i k3).but B3 k4;refine q r (.op s3.toNat T1 T2) _ #[r1,r2,jc,t0.new N,t2.new N] ?_ #[RU,g0,g1] (B4.upd_new N) (((U.trans k2).trans$ k3.trans k4).upd_new N);show((max T1.depth T2.depth+1:Nat):Int)<=d;omega
theorem vU:aj P w K mg base aA 2 f e z9z (cy 0):=by
 have n:∀v H Q E,¬cy 0 v H Q E:=λv H Q E h=>by obtain⟨p,g,d,y,_,_,_,_,_,i,b,_⟩:=h;have c:d < ((0:Nat):Int):=b;omega
 exact#[λv H Q E h=>absurd h (n v H Q E),λA o s H a u v Q E _ _ _ _ h=>absurd h (n v H Q E)]
theorem yK(F:aJ K "_law_term" "_law_term" nS f a)(b:ay K a z9z [])(m:mg "_law_term"=some (.ref f))(c:Cl P w K mg base 1 g d z0z aL "_law_take")(C:Cl P w K mg base 2 h e z1z eG "_law_number")(M:mg "len"=none):
  ∀n:Nat,aj P w K mg base aA (n+2) f a z9z (cy n)
 |0=>vU
 |n+1=>wn F #[(yK F b m c C M n),b,F.kp,m] c C M
end _K
namespace _K
open PySem PySem.Spec PyProof.Rows _L
variable {P:Program}{w:World}{K:Frag}{mg:Str->Option Value}{base:Heap}
noncomputable def Tm.vars:Tm->List Str
 | .num _=>[]
 | .var x=>[x]
 | .op _ a b=>a.vars++b.vars
theorem kr:∀{t:Tm},t.Good y->∀x∈t.vars,x∈y
 | .num _,_,_,h=>nomatch h
 | .var _,g,_,h=>by rw[List.mem_singleton.mp h];exact g
 | .op _ _ _,g,_,h=>(List.mem_append.mp h).elim (kr g.2.1 _) (kr g.2.2 _)
theorem j8:∀{l m:List Str},l.Nodup->(∀x∈l,x∈m)->l.length<=m.length
 | [],_,_,_=>Hg _
 |x::l,m,n,h=>by rw[Pb]at n;have H:=h x Hq;have q:=j8 (l:=l) (m:=m.erase x) n.2 λy a=>(List.mem_erase_of_ne (λe=>n.1 (by rw[<- e];exact a))).mpr (h y$ HD _ a);rw[List.length_erase_of_mem H]at q;have:0 < m.length:=List.length_pos_of_mem H;rw[Hv];omega
theorem KK:∀{l m:List Str},l.Nodup->m.Nodup->(∀x,x∈l↔x∈m)->l.Perm m
 | [],[],_,_,_=>.nil
 | [],y::m,_,_,h=>absurd ((h y).mpr Hq) RV
 |x::l,m,n,N,h=>by
  rw[Pb]at n;have a:x∈m:=(h x).mp Hq;refine(List.Perm.cons x$ KK n.2 (N.erase x) λy=>?_).trans (List.perm_cons_erase a).symm;rw[N.mem_erase_iff];constructor
  ·intro H;exact#[λe=>n.1 (by rw[<- e];exact H),(h y).mp$ HD _ H]
  ·rintro ⟨b,H⟩;exact(List.mem_cons.mp ((h y).mpr H)).resolve_left b
theorem QG:∀{p:Str} {l:List Str},risingS p l=true->(p::l).Pairwise λa b=>a.cps.toList<=b.cps.toList
 |p,[],_=>by simp
 |p,x::r,h=>by
  have H:(!ltCps x.cps.toList p.cps.toList&&risingS x r)=true:=h;rw[Iv]at H;have i:=QG H.2;have c:p.cps.toList<=x.cps.toList:=by have z:=H.1;rw[ltCps_eq]at z;simpa using z
  rw[List.pairwise_cons]at i ⊢;refine#[λy hy=>?_,List.pairwise_cons.mpr i];rcases List.mem_cons.mp hy with rfl |hy
  ·exact c
  ·exact List.le_trans c$ i.1 y hy
theorem QH(h:sortedS l=true):l.Pairwise λa b=>a.cps.toList<=b.cps.toList:=by
 cases l with
 |nil=>exact .nil
 |cons x r=>exact QG h
theorem XY{l:List Str}(p:l.Perm m)(h:sortedS l=true)(H:sortedS m=true):l=m:=by refine List.Perm.eq_of_pairwise (λa b _ _ x y=>?_) (QH h) (QH H) p;have e:=List.le_antisymm x y;cases a;cases b;exact Iq Str.mk$ Array.toList_inj.mp e
inductive Lf where
 |rd (x:Str) (t:Addr) (T:Tm)
 |st (x:Str) (t:Addr) (T:Tm)
 |wr (t u:Addr) (T U:Tm)
 |cl (x f:Str) (q:Addr) (ts:List (Addr×Tm))
 |gv (t:Addr) (T:Tm)
def u6(H:Hp):Lf->List V->Prop
 | .rd x t T,v=>v=[.str "read",.str x,.ref t]/\be H T t
 | .st x t T,v=>v=[.str "set",.str x,.ref t]/\be H T t
 | .wr t u T U,v=>v=[.str "write",.ref t,.ref u]/\be H T t/\be H U u
 | .cl x f q a,v=>v=[.str "call",.str x,.str f,.ref q]/\H q=some (.tup (a.map λc=>V.ref c.1))/\∀c∈a,be H c.2 c.1
 | .gv t T,v=>v=[.str "give",.ref t]/\be H T t
theorem u6.mono(k:ah H a)(h:u6 H l v):u6 a l v:=by
 cases l with
 |rd x t T |st x t T |gv t T=>exact#[h.1,h.2.mono k]
 |wr t u T U=>exact#[h.1,h.2.1.mono k,h.2.2.mono k]
 |cl x f q d=>exact#[h.1,k _ _ h.2.1,λc b=>(h.2.2 c b).mono k]
inductive Bd where
 |nil
 |lf (p:Addr) (l:Lf) (r:Bd)
 |ite (p t:Addr) (T:Tm) (a b r:Bd)
 |loop (p t:Addr) (T:Tm) (a r:Bd)
noncomputable def Bd.app:Bd->Bd->Bd
 | .nil,s=>s
 | .lf p l r,s=>.lf p l (r.app s)
 | .ite p t T a b r,s=>.ite p t T a b (r.app s)
 | .loop p t T a r,s=>.loop p t T a (r.app s)
noncomputable def Bd.size:Bd->Nat
 | .nil=>0
 | .lf _ _ r=>r.size+1
 | .ite _ _ _ a b r=>a.size+b.size+r.size+1
 | .loop _ _ _ a r=>a.size+r.size+1
noncomputable def Bd.dep:Bd->Nat
 | .nil=>0
 | .lf _ _ r=>r.dep
 | .ite _ _ _ a b r=>max (max a.dep b.dep+1) r.dep
 | .loop _ _ _ a r=>max (a.dep+1) r.dep
def de(y:List Str)(T:Tm):Prop:=T.Good y/\T.depth < 6
def Lf.Ok(y:List Str):Lf->Prop
 | .rd x _ T=>x∈y/\de y T
 | .st x _ T=>x∈y/\de y T
 | .wr _ _ T U=>de y T/\de y U
 | .cl x _ _ t=>x∈y/\t.length<=6/\∀c∈t,de y c.2
 | .gv _ T=>de y T
def Bd.Ok(y:List Str):Bd->Prop
 | .nil=>True
 | .lf _ l r=>l.Ok y/\r.Ok y
 | .ite _ _ T a b r=>de y T/\a.Ok y/\b.Ok y/\r.Ok y
 | .loop _ _ T a r=>de y T/\a.Ok y/\r.Ok y
abbrev gJ:=List (Str×Nat)
def Lf.Cs(F:gJ):Lf->Prop
 | .cl _ f _ t=>(f,t.length)∈F
 |_=>True
def Bd.Cs(F:gJ):Bd->Prop
 | .nil=>True
 | .lf _ l r=>l.Cs F/\r.Cs F
 | .ite _ _ _ a b r=>a.Cs F/\b.Cs F/\r.Cs F
 | .loop _ _ _ a r=>a.Cs F/\r.Cs F
theorem Kh{F:gJ}:∀{a b:Bd},a.Cs F->b.Cs F->(a.app b).Cs F
 | .nil,_,_,h=>h
 | .lf _ _ _,_,h,k=>#[h.1,Kh h.2 k]
 | .ite _ _ _ _ _ _,_,h,k=>#[h.1,h.2.1,Kh h.2.2 k]
 | .loop _ _ _ _ _,_,h,k=>#[h.1,Kh h.2 k]
theorem kA{F:gJ}(k:∀f∈F,f∈G):∀{a:Bd},a.Cs F->a.Cs G
 | .nil,_=>trivial
 | .lf _ l _,h=>#[by cases l<;>first |exact k _ h.1 |trivial,kA k h.2]
 | .ite _ _ _ _ _ _,h=>#[kA k h.1,kA k h.2.1,kA k h.2.2]
 | .loop _ _ _ _ _,h=>#[kA k h.1,kA k h.2]
noncomputable def Lf.calls:Lf->gJ
 | .cl _ f _ t=>[(f,t.length)]
 |_=>[]
noncomputable def Bd.calls:Bd->gJ
 | .nil=>[]
 | .lf _ l r=>l.calls++r.calls
 | .ite _ _ _ a b r=>a.calls++(b.calls++r.calls)
 | .loop _ _ _ a r=>a.calls++r.calls
theorem zB:∀b:Bd,b.Cs b.calls
 | .nil=>trivial
 | .lf _ l r=>#[by cases l<;>first |exact List.mem_append_left _ List.mem_cons_self |trivial,kA (λ_ h=>List.mem_append_right _ h) (zB r)]
 | .ite _ _ _ a b r=>#[kA (λ_ h=>List.mem_append_left _ h) (zB a),kA (λ_ h=>List.mem_append_right _ (List.mem_append_left _ h)) (zB b),kA (λ_ h=>List.mem_append_right _ (List.mem_append_right _ h)) (zB r)]
 | .loop _ _ _ a r=>#[kA (λ_ h=>List.mem_append_left _ h) (zB a),kA (λ_ h=>List.mem_append_right _ h) (zB r)]
theorem zC{F:gJ}:∀{b:Bd},b.Cs F->∀f∈b.calls,f∈F
 | .nil,_,_,h=>nomatch h
 | .lf _ l r,k,f,h=>(List.mem_append.mp h).elim (λh=>by cases l<;>first | (rw[List.mem_singleton.mp h];exact k.1) |exact nomatch h) (zC k.2 f)
 | .ite _ _ _ a b r,k,f,h=>(List.mem_append.mp h).elim (zC k.1 f) λh=>(List.mem_append.mp h).elim (zC k.2.1 f) (zC k.2.2 f)
 | .loop _ _ _ a r,k,f,h=>(List.mem_append.mp h).elim (zC k.1 f) (zC k.2 f)
theorem jW:∀(a b:Bd),(a.app b).size=a.size+b.size
 | .nil,b=>by show b.size=0+b.size;omega
 | .lf _ _ r,b=>by have:=jW r b;show(r.app b).size+1=r.size+1+b.size;omega
 | .ite _ _ _ x y r,b=>by have:=jW r b;show x.size+y.size+(r.app b).size+1=x.size+y.size+r.size+1+b.size;omega
 | .loop _ _ _ x r,b=>by have:=jW r b;show x.size+(r.app b).size+1=x.size+r.size+1+b.size;omega
theorem zk:∀(a b:Bd),(a.app b).dep=max a.dep b.dep
 | .nil,b=>(Nat.zero_max b.dep).symm
 | .lf _ _ r,b=>zk r b
 | .ite _ _ _ x y r,b=>by show max _ (r.app b).dep=max (max _ r.dep) b.dep;rw[zk r b,PL]
 | .loop _ _ _ x r,b=>by show max _ (r.app b).dep=max (max _ r.dep) b.dep;rw[zk r b,PL]
theorem Ki:∀{a b:Bd},a.Ok y->b.Ok y->(a.app b).Ok y
 | .nil,_,_,h=>h
 | .lf _ _ _,_,g,h=>#[g.1,Ki g.2 h]
 | .ite _ _ _ _ _ _,_,g,h=>#[g.1,g.2.1,g.2.2.1,Ki g.2.2.2 h]
 | .loop _ _ _ _ _,_,g,h=>#[g.1,g.2.1,Ki g.2.2 h]
def dj(H:Hp):Bd->List V->Prop
 | .nil,x=>x=[]
 | .lf p l r,x=>∃v y,x= .ref p::y/\H p=some (.tup v)/\u6 H l v/\dj H r y
 | .ite p t T a b r,x=>∃q Q A B y,x= .ref p::y/\H p=some (.tup [.str "if",.ref t,.ref q,.ref Q])/\be H T t/\H q=some (.tup A)/\H Q=some (.tup B)/\dj H a A/\dj H b B/\dj H r y
 | .loop p t T a r,x=>∃q A y,x= .ref p::y/\H p=some (.tup [.str "while",.ref t,.ref q])/\be H T t/\H q=some (.tup A)/\dj H a A/\dj H r y
theorem dj.mono(k:ah H m){a:Bd}:∀{xs:List V},dj H a xs->dj m a xs:=by
 induction a with
 |nil=>exactλh=>h
 |lf p l r n=>rintro xs ⟨v,y,e,c,d,f⟩;exact#[v,y,e,k _ _ c,d.mono k,n f]
 |ite p t T a b r i o I=>rintro xs ⟨q,Q,A,B,y,e,c,g,d,f,j,s,u⟩;exact#[q,Q,A,B,y,e,k _ _ c,g.mono k,k _ _ d,k _ _ f,i j,o s,I u]
 |loop p t T a r i I=>rintro xs ⟨q,A,y,e,c,g,d,f,j⟩;exact#[q,A,y,e,k _ _ c,g.mono k,k _ _ d,i f,I j]
theorem dj.app(k:dj H b y):∀{x:List V},dj H a x->dj H (a.app b) (x++y):=by
 induction a with
 |nil=>intro x h;have e:x=[]:=h;rw[e];exact k
 |lf p l r I=>rintro x ⟨v,z,e,c,d,f⟩;exact#[v,z++y,by rw[e];rfl,c,d,I f]
 |ite p t T a b r _ _ i=>rintro x ⟨q,Q,A,B,z,e,c,g,d,f,j,m,n⟩;exact#[q,Q,A,B,z++y,by rw[e];rfl,c,g,d,f,j,m,i n]
 |loop p t T a r _ i=>rintro x ⟨q,A,z,e,c,g,d,f,j⟩;exact#[q,A,z++y,by rw[e];rfl,c,g,d,f,i j]
theorem dj.len:∀{x:List V},dj H a x->x.length<=a.size:=by
 induction a with
 |nil=>intro x h;have e:x=[]:=h;rw[e];exact GV 0
 |lf p l r I=>rintro x ⟨v,y,e,d,f,c⟩;rw[e];exact IG (I c)
 |ite p t T a b r _ _ i=>rintro x ⟨q,Q,A,B,y,e,d,j,f,c,g,m,k⟩;rw[e];exact IG (Hh (i k) (Ph _ _))
 |loop p t T a r _ i=>rintro x ⟨q,A,y,e,d,j,f,c,g⟩;rw[e];exact IG (Hh (i g) (Ph _ _))
inductive gA(H:Hp):V->Bd->Prop
 |lf (p:Addr) (l:Lf) (vs:List V) (h1:H p=some (.tup vs)) (h2:u6 H l vs):gA H (.ref p) (.lf p l .nil)
 |ite (p t:Addr) (T:Tm) (a b:Bd) (qa qb:Addr) (as bs:List V) (h1:H p=some (.tup [.str "if",.ref t,.ref qa,.ref qb])) (h0:be H T t) (h2:H qa=some (.tup as)) (h3:H qb=some (.tup bs)) (h4:dj H a as) (h5:dj H b bs):gA H (.ref p) (.ite p t T a b .nil)
 |loop (p t:Addr) (T:Tm) (a:Bd) (qa:Addr) (as:List V) (h1:H p=some (.tup [.str "while",.ref t,.ref qa])) (h0:be H T t) (h2:H qa=some (.tup as)) (h3:dj H a as):gA H (.ref p) (.loop p t T a .nil)
theorem gA.bd(h:gA H v s):dj H s [v]:=by
 cases h with
 |lf p l V c d=>exact#[V,[],Z,c,d,Z]
 |ite p t T a b q Q A B c e d f g i=>exact#[q,Q,A,B,[],Z,c,e,d,f,g,i,Z]
 |loop p t T a q A c e d f=>exact#[q,A,[],Z,c,e,d,f,Z]
theorem gA.mono(k:ah H g)(h:gA H v s):gA g v s:=by
 cases h with
 |lf p l V c d=>exact .lf p l V (k _ _ c) (d.mono k)
 |ite p t T a b q Q A B c e d f i j=>exact .ite p t T a b q Q A B (k _ _ c) (e.mono k) (k _ _ d) (k _ _ f) (i.mono k) (j.mono k)
 |loop p t T a q A c e d f=>exact .loop p t T a q A (k _ _ c) (e.mono k) (k _ _ d) (f.mono k)
theorem dj.last:∀{x:List V},dj H a x->x=[]/\a= .nil∨∃z v b s,x=z++[v]/\a=b.app s/\dj H b z/\gA H v s:=by
 induction a with
 |nil=>exactλh=>.inl #[h,Z]
 |lf p l r i=>
  rintro x ⟨u,y,e,f,g,n⟩;rcases i n with ⟨E,d⟩ | ⟨z,v,b,s,E,d,j,k⟩
  ·exact .inr #[[],.ref p,.nil,.lf p l .nil,by rw[e,E];rfl,by rw[d];rfl,Z,.lf p l u f g]
  ·exact .inr #[.ref p::z,v,.lf p l b,s,by rw[e,E];rfl,by rw[d];rfl,#[u,z,Z,f,g,j],k]
 |ite p t T a b r _ _ i=>
  rintro x ⟨q,Q,A,B,y,e,f,m,g,n,G,C,o⟩;rcases i o with ⟨E,d⟩ | ⟨z,v,c,s,E,d,j,k⟩
  ·exact .inr #[[],.ref p,.nil,.ite p t T a b .nil,by rw[e,E];rfl,by rw[d];rfl,Z,.ite p t T a b q Q A B f m g n G C]
  ·exact .inr #[.ref p::z,v,.ite p t T a b c,s,by rw[e,E];rfl,by rw[d];rfl,#[q,Q,A,B,z,Z,f,m,g,n,G,C,j],k]
 |loop p t T a r _ i=>
  rintro x ⟨q,A,y,e,f,m,g,G,o⟩;rcases i o with ⟨E,d⟩ | ⟨z,v,c,s,E,d,j,k⟩
  ·exact .inr #[[],.ref p,.nil,.loop p t T a .nil,by rw[e,E];rfl,by rw[d];rfl,Z,.loop p t T a q A f m g G]
  ·exact .inr #[.ref p::z,v,.loop p t T a c,s,by rw[e,E];rfl,by rw[d];rfl,#[q,A,z,Z,f,m,g,G,j],k]
theorem zJ:∀{a b:Bd},(a.app b).Ok y->a.Ok y/\b.Ok y
 | .nil,_,h=>#[trivial,h]
 | .lf _ _ _,_,h=>#[#[h.1,(zJ h.2).1],(zJ h.2).2]
 | .ite _ _ _ _ _ _,_,h=>#[#[h.1,h.2.1,h.2.2.1,(zJ h.2.2.2).1],(zJ h.2.2.2).2]
 | .loop _ _ _ _ _,_,h=>#[#[h.1,h.2.1,(zJ h.2.2).1],(zJ h.2.2).2]
structure Nm(ss:List Str)(M:Str->Prop):Prop where
 nd:ss.Nodup
 so:sortedS ss=true
 mem:∀x,x∈ss↔M x
theorem Nm.uniq(h:Nm a M)(g:Nm s M):a=s:=XY (KK h.nd g.nd λx=>(h.mem x).trans (g.mem x).symm) h.so g.so
open Classical in
noncomputable def canon(M:Str->Prop):List Str:=if h:∃s,Nm s M then Classical.choose h else []
theorem Nm.canon(h:Nm s M):s=canon M:=by have e:∃s,Nm s M:=#[s,h];unfold _K.canon;rw[dif_pos e];exact h.uniq$ Classical.choose_spec e
theorem Nm.len{s y:List Str}{M:Str->Prop}(h:Nm s M)(H:∀x,M x->x∈y):s.length<=y.length:=j8 h.nd λx a=>H x ((h.mem x).mp a)
def Lf.use(M:Str->Prop):Lf->Str->Prop
 | .rd x _ T,y=>(M y/\y≠x)∨y∈T.vars
 | .st x _ T,y=>(M y/\y≠x)∨y∈T.vars
 | .wr _ _ T U,y=>M y∨y∈T.vars∨y∈U.vars
 | .cl x _ _ t,y=>(M y/\y≠x)∨∃c∈t,y∈c.2.vars
 | .gv _ T,y=>y∈T.vars
def Bd.use:Bd->(Str->Prop)->Str->Prop
 | .nil,M=>M
 | .lf _ l r,M=>l.use (r.use M)
 | .ite _ _ T a b r,M=>λy=>(a.use (r.use M) y∨b.use (r.use M) y)∨y∈T.vars
 | .loop _ _ T a r,M=>λy=>(a.use (λ_=>False) y∨r.use M y)∨y∈T.vars
theorem JV:∀(a b:Bd) (M:Str->Prop),(a.app b).use M=a.use (b.use M)
 | .nil,_,_=>rfl
 | .lf _ l r,b,M=>by show l.use ((r.app b).use M)=l.use (r.use (b.use M));rw[JV r b M]
 | .ite _ _ T x y r,b,M=>by show(λz=>(x.use ((r.app b).use M) z∨y.use ((r.app b).use M) z)∨z∈T.vars)=λz=>(x.use (r.use (b.use M)) z∨y.use (r.use (b.use M)) z)∨z∈T.vars;rw[JV r b M]
 | .loop _ _ T x r,b,M=>by show(λz=>(x.use (λ_=>False) z∨(r.app b).use M z)∨z∈T.vars)=λz=>(x.use (λ_=>False) z∨r.use (b.use M) z)∨z∈T.vars;rw[JV r b M]
theorem Lf.use_in{M:Str->Prop}{l:Lf}(h:l.Ok Y)(a:∀x,M x->x∈Y):∀y,l.use M y->y∈Y:=by
 intro y H;cases l with
 |rd x t T |st x t T=>exact H.elim (λz=>a y z.1) (kr h.2.1 y)
 |wr t u T U=>exact H.elim (a y) λz=>z.elim (kr h.1.1 y) (kr h.2.1 y)
 |cl x f q d=>exact H.elim (λz=>a y z.1) λ#[c,b,z]=>kr (h.2.2 c b).1 y z
 |gv t T=>exact kr h.1 y H
theorem Bd.use_in:∀{b:Bd} {M:Str->Prop},b.Ok Y->(∀x,M x->x∈Y)->∀y,b.use M y->y∈Y
 | .nil,_,_,H,y,c=>H y c
 | .lf _ l r,_,h,H,y,c=>Lf.use_in h.1 (Bd.use_in h.2 H) y c
 | .ite _ _ T a b r,_,h,H,y,c=>c.elim (λz=>z.elim (Bd.use_in h.2.1 (Bd.use_in h.2.2.2 H) y) (Bd.use_in h.2.2.1 (Bd.use_in h.2.2.2 H) y)) (kr h.1.1 y)
 | .loop _ _ T a r,_,h,H,y,c=>c.elim (λz=>z.elim (Bd.use_in h.2.1 (λ_ w=>w.elim) y) (Bd.use_in h.2.2 H y)) (kr h.1.1 y)
end _K
namespace _K
open PySem PySem.Spec PyProof.Rows _L
variable {P:Program}{w:World}{K:Frag}{mg:Str->Option Value}{base:Heap}
noncomputable abbrev dQ:Stmt:=bM 17
noncomputable abbrev BE:Stmt:=bM 19
noncomputable abbrev tE:Stmt:=bM 20
noncomputable abbrev xh:Stmt:=bM 21
noncomputable abbrev xg:Stmt:=bM 22
inductive db(n:Nat)(c:List V)(H:Hp)(Q:VK)(b:XK):Prop
 |mk(a:Addr)(T:Tm)(d:List Str)(_:c=[.ref a])(_:be H T a)(_:T.depth < n)(_:T.Good d)(_:d.length<=21)(_:∀(r:Addr) (ss:List Str) (H':Hp),H r=none->H' r=some (.lst (ss.map V.str))->ss.Nodup->(∀x,x∈ss↔x∈T.vars)->sortedS ss=true->ae H H'->Q (.ref r) H')
theorem tK:ak z2z z2z (aa dQ):=bL
theorem wb{f:Addr}{o:FuncData}(F:aJ K "names_in" "names_in" dQ f o){n:Nat}(C:Cl P w K mg base (n+1) f o z2z (db n) "names_in")(M:mg "set"=none)(p:mg "sorted"=none):aj P w K mg base aA (n+2) f o z2z (db$ n+1):=by
 refine F.ok tK (λvs H Q E h=>?_) (λc0 A O s H vs Q E v h=>?_)
 ·obtain⟨a,T,Y,rfl,_⟩:=h;rfl
 obtain⟨a,T,Y,rfl,t,dp,g,j,q⟩:=h;refine#[_,(je (jw (kh$ jz$ pv 0) (jg$ jo$ jE jb) jp)$ je (jw (kh$ jz$ pv 0) (jg$ jo$ jE$ ja (jz$ pv 0) jb) jp)$ jg$ jo$ jI (qc Z) Z p NQ$ ja (jG (qK Z) Z M RM$ ja (jv zI (C.e v$ ja (jz$ pv 0) jb)$ C.e v$ ja (jz$ pv 0) jb) jb) jb),?_];cases T with
 |num m=>have b:H a=some (.tup [.str "num",.int m]):=t;refine(js b Z #[Z,_,Z,bQ RW ?_]);exact#[RT,λr N=>q r [] _ N jc MY (λx=>NK) Z (jd N)]
 |var x=>have b:H a=some (.tup [.str "var",.str x]):=t;refine(js b Z #[Z,_,Z,aO RW ?_]);refine(js b Z #[Z,_,Z,bQ RW ?_]);exact(js b Z #[gH,λr N=>q r [x] _ N jc RV (λy=>NK) Z (jd N)])
 |op i B D=>obtain⟨p1,p2,b,h1,h2⟩:=t;have d0:max B.depth D.depth+1 < n+1:=dp;refine(js b Z #[Z,_,Z,aO RW ?_]);refine(js b Z #[Z,_,Z,aO RW ?_]);refine(js b Z #[p1,B,Y,Z,h1,RU,g.2.1,j,λr1 S H1 n1 e1 d1 G o1 u=>?_]);refine(js (u _ _ b) Z #[p2,D,Y,Z,h2.same u,RU,g.2.2,j,λr2 k H2 n2 e2 d2 I o2 J=>?_]);have l1:S.length<=21:=Hh (j8 d1 λx d=>kr g.2.1 x ((G x).mp d)) j;have l2:k.length<=21:=Hh (j8 d2 λx d=>kr g.2.2 x ((I x).mp d)) j;have b0:=zz;refine#[r1,r2,_,_,Z,Z,J _ _ e1,e2,(by rw[GQ,GQ];omega),λc nc=>?_];refine#[c,S++k,Z,aB.of (by rw[jc,Hs]),(λL nd hs=>IH (IG$ j8 nd hs) (by rw[GU];show S.length+k.length+1 < 4096;omega)),λl L nl dL R=>?_];have lL:=j8 dL λx d=>(R x).mp d;rw[GU]at lL;refine#[l,L,Z,jc,RU,λz ss U W dz oz=>?_];have X:ae H (af (af H2 c$ .lst$ S.map V.str++k.map V.str) l$ EA P w l L):=(u.trans J).trans ((jd nc).trans$ jd nl);refine q z ss _ (X.free U) jc (W.nodup_iff.mpr dz) (λx=>?_) oz$ X.trans$ jd U;rw[W.mem_iff,R x,LK,G x,I x];exact List.mem_append.symm
theorem vS:aj P w K mg base aA 1 f d z2z (db 0):=by
 have n:∀v H Q E,¬db 0 v H Q E:=λv H Q E h=>by obtain⟨a,T,y,_,_,c,_⟩:=h;exact absurd c$ Mf _
 exact#[λv H Q E h=>absurd h (n v H Q E),λA o s H b u v Q E _ _ _ _ h=>absurd h (n v H Q E)]
theorem yt(F:aJ K "names_in" "names_in" dQ f a)(b:ay K a z2z [])(c:mg "names_in"=some (.ref f))(m:mg "set"=none)(M:mg "sorted"=none):
  ∀n:Nat,aj P w K mg base aA (n+1) f a z2z (db n)
 |0=>vS
 |n+1=>wb F #[(yt F b c m M n),b,F.kp,c] m M
noncomputable def Lf.own:Lf->List (Addr×Tm)
 | .rd _ t T=>[(t,T)]
 | .st _ t T=>[(t,T)]
 | .wr t u T U=>[(t,T),(u,U)]
 | .cl _ _ _ a=>a
 | .gv t T=>[(t,T)]
noncomputable def Bd.own:Bd->List (Addr×Tm)
 | .nil=>[]
 | .lf _ l _=>l.own
 | .ite _ t T _ _ _=>[(t,T)]
 | .loop _ t T _ _=>[(t,T)]
noncomputable def rT(c:Addr×Tm):V:=.ref c.1
inductive lT(b:List V)(H:Hp)(Q:VK)(a:XK):Prop
 |mk(v:V)(s:Bd)(_:b=[v])(_:gA H v s)(_:∀(r:Addr) (H':Hp),H' r=some (.tup (s.own.map rT))->ae H H'->Q (.ref r) H')
theorem Y7:aD (a::b::r) (some 1) (some 2)=[b]:=by
 unfold aD;have e:(1:Int)=((1:Nat):Int):=rfl;have E:(2:Int)=((2:Nat):Int):=rfl;rw[E,e,HT.sIx_nat,HT.sIx_nat,Hv,Hv];have c:min 1 (r.length+1+1)=1:=by omega
 have d:min 2 (r.length+1+1) - 1=1:=by omega
 rw[c,d];rfl
theorem yA:ak ["statement","word"] z4z (aa BE):=bL
theorem A4{f:Addr}{j:FuncData}(F:aJ K "own_terms" "own_terms" BE f j):aj P w K mg base aA 1 f j z4z lT:=by
 refine F.ok yA ?_ λC A o s H V Q E d h=>?_
 ·rintro _ _ _ _ ⟨v,s,rfl,_⟩;rfl
 obtain⟨v,st,rfl,m,q⟩:=h;refine#[_,(je (jx 1 yA.nd$ jz$ pv 0)$ je (jw (jA zp (pv 1) (jh$ ja jk$ ja jk jb) Z) (jg$ jo$ jJ zj (pv 0) (jH jf) j3) jp)$ je (jw (kh$ pv 1) (jg$ jo$ jJ zj (pv 0) (jH jf) j3) jp)$ je (jw (kh$ pv 1) (jg$ jo$ jz$ pv 0) jp)$ jg$ jo$ jJ zj (pv 0) (jH jf)$ jH jf),?_];cases m with
 |lf p l V c g=>
  cases l with
  |rd x t T |st x t T=>obtain⟨rfl,i⟩:=g;refine(js c Z #[_,Z,bo,λl n=>#[l,_,Z,.inr$ ax.of jc,Z,Z,_,Z,bQ RW ?_]]);exact#[_,Z,_,Z,p,_,Z,am c n,λr e d s=>q r e d ((jd n).trans s)]
  |wr t u T U=>obtain⟨rfl,i,L⟩:=g;refine(js c Z #[_,Z,bo,λl n=>#[l,_,Z,.inr$ ax.of jc,Z,Z,_,Z,aO RW ?_]]);refine#[_,Z,Z,_,Z,bQ RW ?_];exact#[_,Z,_,Z,p,_,Z,am c n,λr e d s=>q r e d ((jd n).trans s)]
  |cl x M y N=>obtain⟨rfl,z,i⟩:=g;refine(js c Z #[_,Z,bo,λl n=>#[l,_,Z,.inr$ ax.of jc,Z,Z,_,Z,aO RW ?_]]);refine#[_,Z,Z,_,Z,aO RW ?_];refine#[_,Z,Z,_,Z,bQ RW ?_];exact(js (am c n) Z$ q y _ (am z n)$ jd n)
  |gv t T=>obtain⟨rfl,i⟩:=g;refine(js c Z #[_,Z,bo,λl n=>#[l,_,Z,.inr$ ax.of jc,Z,Z,_,Z,aO RW ?_]]);refine#[_,Z,Z,_,Z,aO RW ?_];refine#[_,Z,Z,_,Z,aO RW ?_];exact#[_,Z,_,Z,_,Z,p,_,Z,am c n,λr e d s=>q r e (by rw[Y7]at d;exact d) ((jd n).trans s)]
 |ite p t T a b B O D R c G g I S W |loop p t T a B D c G g I=>refine(js c Z #[_,Z,bo,λl n=>#[l,_,Z,.inr$ ax.of jc,Z,Z,_,Z,aO RW ?_]]);refine#[_,Z,Z,_,Z,aO RW ?_];refine#[_,Z,Z,_,Z,aO RW ?_];exact#[_,Z,_,Z,_,Z,p,_,Z,am c n,λr e d s=>q r e (by rw[Y7]at d;exact d) ((jd n).trans s)]
theorem KL{K:Frag}{a:Addr}{Y:List Str}{t:TT}{T:TE}{q:List V->Hp->Prop}{b:_L.St}{H:Hp}(f:Str->Bool)(L:Y.length<=1000)(A:H a=some (.lst$ Y.map V.str))
  (B:∀y g (Q:Bool->Hp->Prop),y∈Y->ae H g->(∀j,ae g j->Q (f y) j)->t (some (.str y)::b) g Q)
  (C:∀y g (Q:VK),y∈Y->Q (.str y) g->T (some (.str y)::b) g Q) (D:∀c,ae H c->q ((Y.filter f).map V.str) c):eB (uY K a) 1 b (bp 0) t T q H:=by
 have F:=zz;refine#[λi m n c=>m=Y.length - i/\i<=Y.length/\n=((Y.take i).filter f).map V.str/\ae H c,#[Y.length,RV,Hg _,RV,ae.refl H],?_];rintro i m n c ⟨rfl,M,rfl,k⟩;have d:aB K c a (Y.map V.str):=aB.of (k _ _ A);by_cases h:i < Y.length
 ·have o:(Y.map V.str)[i]?=some (.str Y[i]):=by rw[Hu,GN h];rfl
  refine .inr #[#[_,_,d,o],?_,λz j=>z=((Y.take$ i+1).filter f).map V.str/\ae H j,λz j #[G,I]=>#[Y.length - (i+1),RU,Z,h,G,I],λv j N l y=>?_]
  ·rw[GQ];have:=MT f (Y.take i);rw[HF]at this;omega
  obtain⟨e,y⟩:=y;subst e;have p:=y _ d;rw[o]at p;cases p;obtain⟨w,rfl⟩:=rE l;have r:Y[i]∈Y:=Lx h;have s:Y.take (i+1)=Y.take i++[Y[i]]:=by rw[ID,GN h];rfl
  refine#[#[[some _],Z,Z],B Y[i] _ _ r k λJ u=>?_];cases x:f Y[i] with
  |true=>
   refine bQ Z$ C Y[i] J _ r #[?_,k.trans u];rw[s,OE,Hs];have E:[Y[i]].filter f=[Y[i]]:=by simp [x]
   rw[E];rfl
  |false=>
   refine aO Z #[?_,k.trans u];rw[s,OE,Hs];have E:[Y[i]].filter f=[]:=by simp [x]
   rw[E];simp
 ·have e:i=Y.length:=by omega
  subst e;refine .inl #[#[_,d,RV],?_];rw[IR$ GV _];exact D c k
def Lf.bt(M:Str->Prop):Lf->Str->Prop
 | .rd x _ _,y=>M y/\y≠x
 | .st x _ _,y=>M y/\y≠x
 | .wr _ _ _ _,y=>M y
 | .cl x _ _ _,y=>M y/\y≠x
 | .gv _ _,_=>False
def Bd.bt(M:Str->Prop):Bd->Str->Prop
 | .nil,y=>M y
 | .lf _ l _,y=>l.bt M y
 | .ite _ _ _ a b _,y=>a.use M y∨b.use M y
 | .loop _ _ _ a _,y=>a.use (λ_=>False) y∨M y
theorem uF(h:gA H v s)(M:Str->Prop)(y:Str):s.use M y↔s.bt M y∨∃c∈s.own,y∈c.2.vars:=by
 cases h with
 |lf p l V _ _=>
  cases l with
  |rd x t T |st x t T=>exact#[λz=>z.elim .inl λw=>.inr #[_,List.mem_singleton.mpr Z,w],λz=>z.elim .inl λ#[c,hc,w]=>.inr (by rw[List.mem_singleton.mp hc]at w;exact w)]
  |wr t u T U=>
   refine#[λz=>z.elim .inl λw=>.inr (w.elim (λw=>#[_,Hq ..,w]) λw=>#[_,HD _$ List.mem_singleton.mpr Z,w]),λz=>z.elim .inl λ#[c,hc,w]=>.inr ?_];rcases List.mem_cons.mp hc with e |hc
   ·rw[e]at w;exact .inl w
   ·rw[List.mem_singleton.mp hc]at w;exact .inr w
  |cl x f q d=>exact NK
  |gv t T=>exact#[λw=>.inr #[_,List.mem_singleton.mpr Z,w],λz=>z.elim False.elim λ#[c,hc,w]=>by rw[List.mem_singleton.mp hc]at w;exact w]
 |ite p t T a b Q g A B _ _ _ _ _ _ |loop p t T a Q A _ _ _ _=>exact#[λz=>z.elim .inl λw=>.inr #[_,List.mem_singleton.mpr Z,w],λz=>z.elim .inl λ#[c,hc,w]=>.inr (by rw[List.mem_singleton.mp hc]at w;exact w)]
structure NL(H:Hp)(g:Addr)(ss:List Str)(M:Str->Prop)(ys:List Str):Prop where
 at':H g=some (.lst$ ss.map V.str)
 nm:Nm ss M
 sub:∀x,M x->x∈ys
 y20:ys.length<=21
theorem NL.len{H:Hp}{g:Addr}{s:List Str}{M:Str->Prop}{y:List Str}(h:NL H g s M y):s.length<=21:=Hh (h.nm.len h.sub) h.y20
theorem NL.same(h:NL H g a M y)(s:ae H b):NL b g a M y:=#[s _ _ h.at',h.nm,h.sub,h.y20]
structure NU(H:Hp)(g:Addr)(ss:List Str)(M:Str->Prop)(ys:List Str):Prop where
 at':H g=some (.lst$ ss.map V.str)
 nd:ss.Nodup
 mem:∀x,x∈ss↔M x
 sub:∀x,M x->x∈ys
 y20:ys.length<=21
theorem NL.nu(h:NL H g s M y):NU H g s M y:=#[h.at',h.nm.nd,h.nm.mem,h.sub,h.y20]
inductive ua(n:Nat)(c:List V)(H:Hp)(Q:VK)(a:XK):Prop
 |mk(v:V)(g:Addr)(s:Bd)(b:List Str)(M:Str->Prop)(d:List Str)(_:c=[v,.ref g])(_:gA H v s)(_:NL H g b M d)(_:s.Ok d)(_:s.dep < n+1)(_:s.size<=10000000)(_:∀(r:Addr) (zs:List Str) (H':Hp),H' r=some (.lst (zs.map V.str))->(∀y,y∈zs↔s.bt M y)->zs.length<=50->ae H H'->Q (.ref r) H')
inductive fQ(n:Nat)(c:List V)(H:Hp)(Q:VK)(a:XK):Prop
 |mk(v:V)(g:Addr)(s:Bd)(b:List Str)(M:Str->Prop)(d:List Str)(_:c=[v,.ref g])(_:gA H v s)(_:NL H g b M d)(_:s.Ok d)(_:s.dep < n+1)(_:s.size<=10000000)(_:∀(r:Addr) (zs:List Str) (H':Hp),H r=none->NL H' r zs (s.use M) d->ae H H'->Q (.ref r) H')
inductive ie(n:Nat)(e:List V)(H:Hp)(Q:VK)(c:XK):Prop
 |mk(a g:Addr)(b:Bd)(f:List V)(d:List Str)(M:Str->Prop)(h:List Str)(_:e=[.ref a,.ref g])(_:H a=some (.tup f))(_:dj H b f)(_:NU H g d M h)(_:b.Ok h)(_:b.dep < n)(_:b.size<=10000000)(_:∀(r:Addr) (zs:List Str) (H':Hp),H r=none->NL H' r zs (b.use M) h->ae H H'->Q (.ref r) H')
theorem Nm.empty:Nm [] (λ_=>False):=#[MY,Z,λx=>#[λh=>absurd h HG,False.elim]]
theorem yD:ak ["statement","behind","word"] z3z (aa tE):=bL
noncomputable def tS:Scope:=#[.function,[(".0",.local),("name",.local),("statement",.free)],false,false,[]]
theorem Dw:(["name","statement"]:List Str).Nodup:=by decide+kernel
theorem C7:aZ ["statement","behind","word"] (aa tE) tS ["name","statement"] 1 [0]:=nC
theorem rX{L n:Nat}(F:aJ K "used_behind_terms" "used_behind_terms" tE f fd)(J:Cl P w K mg base L fA f0 z15z (ie n) "used_ahead"):aj P w K mg base aA (L+1) f fd z3z (ua n):=by
 refine F.ok yD ?_ λc0 A O s H vs Q E R h=>?_
 ·rintro _ _ _ _ ⟨v,g,s,G,M,Y,rfl,_⟩;rfl
 obtain⟨v,g,st,G,M,Y,rfl,hs,c,W,hd,hz,q⟩:=h;refine#[_,(je (jx 2 yD.nd$ jz$ pv 0)$ je (jw (jA zp (pv 2) (jh$ ja jk$ ja jk$ ja jk jb) Z) (jg$ jo$ @kE _ _ _ _ _ _ _ (["name","statement"]) (1) ([0]) _ _ _ _ Z (zc$ pv 1) C7 (λ_ _ _ _ _=>(ju (i:=0) Dw Z$ Or.inl Z)) (λ_ _ _ _ _=>(@sq _ _ _$ jA YK (pv 0) (jr (r:=eZ K) jR (pv 1) jf (λ_ _=>Z))$ aE _)) (λ_ _ _ _ _=>(pv 0)) (by intro _;rfl)) jp)$ je (jw (kh$ pv 2) (jg$ jo$ jv zI (J.e R.m$ ja (jz$ pv 0)$ ja (pv 1) jb)$ J.e R.m$ ja (jz$ pv 0)$ ja (pv 1) jb) jp)$ je (jw (kh$ pv 2) (jg$ jo$ jv zI (J.e R.m$ ja (jz$ pv 0)$ ja (jE jb) jb)$ pv 1) jp)$ je (jw (kh$ pv 2) (jg$ jo$ jE jb) jp)$ jg$ jo$ pv 1),?_];have g0:=c.len;cases hs with
 |lf p l vs d B=>
  cases l with
  |rd x t T |st x t T=>
   obtain⟨rfl,X⟩:=B;refine(js d Z #[_,Z,dZ,λl N=>#[l,_,Z,.inr$ ax.of jc,Z,Z,_,Z,bQ RW ?_]]);have S:ae H (af H l$ .tup [.str "set",.str "read",.str "call"]):=jd N;refine#[_,Z,g,Z,#[_,aB.of$ S _ _ c.at'],KL (λy=>!decide (V.str y=V.str x)) RU (S _ _ c.at') (λy I Q' hy k C=>?_) (λy I Q' hy C=>#[_,Z,C]) λH' k r j=>?_]
   ·exact#[_,Z,js (k _ _$ S _ _ d) Z #[Z,_,Z,C _$ ae.refl _]]
   ·refine q r _ _ jc (λy=>?_) (Hh (MT ..) RU) ((S.trans k).trans$ jd j);rw[Pd,c.nm.mem y];exact and_congr_right λ_=>by simp
  |wr t u T U=>obtain⟨rfl,X,hU⟩:=B;refine(js d Z #[_,Z,dZ,λl N=>#[l,_,Z,.inr$ ax.of jc,Z,Z,_,Z,aO RW ?_]]);refine#[_,Z,Z,_,Z,aO RW ?_];refine#[_,Z,Z,_,Z,aO RW ?_];refine#[_,Z,Z,_,Z,aO RW ?_];exact#[_,Z,q g G _ (am c.at' N) c.nm.mem RU$ jd N]
  |cl x f' q' ts=>
   obtain⟨rfl,h8,X⟩:=B;refine(js d Z #[_,Z,dZ,λl N=>#[l,_,Z,.inr$ ax.of jc,Z,Z,_,Z,bQ RW ?_]]);have S:ae H (af H l$ .tup [.str "set",.str "read",.str "call"]):=jd N;refine#[_,Z,g,Z,#[_,aB.of$ S _ _ c.at'],KL (λy=>!decide (V.str y=V.str x)) RU (S _ _ c.at') (λy I Q' hy k C=>?_) (λy I Q' hy C=>#[_,Z,C]) λH' k r j=>?_]
   ·exact#[_,Z,js (k _ _$ S _ _ d) Z #[Z,_,Z,C _$ ae.refl _]]
   ·refine q r _ _ jc (λy=>?_) (Hh (MT ..) RU) ((S.trans k).trans$ jd j);rw[Pd,c.nm.mem y];exact and_congr_right λ_=>by simp
  |gv t T=>obtain⟨rfl,X⟩:=B;refine(js d Z #[_,Z,dZ,λl N=>#[l,_,Z,.inr$ ax.of jc,Z,Z,_,Z,aO RW ?_]]);refine#[_,Z,Z,_,Z,aO RW ?_];refine#[_,Z,Z,_,Z,aO RW ?_];refine#[_,Z,Z,_,Z,bQ RW ?_];exact#[ig,λr j=>q r [] _ jc (λy=>#[λh=>absurd h HG,λh=>(show False from h).elim]) (Hg _) ((jd N).trans$ jd j)]
 |ite p t T a b qa qb as bs d h0 B h3 h4 h5=>refine(js d Z #[_,Z,dZ,λl N=>#[l,_,Z,.inr$ ax.of jc,Z,Z,_,Z,aO RW ?_]]);refine#[_,Z,Z,_,Z,bQ RW ?_];have S:ae H (af H l$ .tup [.str "set",.str "read",.str "call"]):=jd N;have h6:max (max a.dep b.dep+1) 0 < n+1:=hd;have h7:a.size+b.size+0+1<=10000000:=hz;refine(js (S _ _ d) Z #[_,Z,qa,g,a,as,G,M,Y,Z,S _ _ B,h4.mono$ ae.tm S,(c.same S).nu,W.2.1,RU,RU,λr1 z1 I _ D k1=>?_]);have z:=S.trans k1;refine(js (z _ _ d) Z #[_,Z,qb,g,b,bs,G,M,Y,Z,z _ _ h3,h5.mono$ ae.tm z,(c.same z).nu,W.2.2.1,RU,RU,λr2 z2 H2 _ n2 k2=>?_]);have l1:=D.len;have l2:=n2.len;have b0:=zz;refine#[r1,r2,_,_,Z,Z,k2 _ _ D.at',n2.at',by rw[GQ,GQ];omega,λr j=>q r (z1++z2) _ (by rw[jc,Hs]) (λy=>?_) (by rw[GU];omega) ((z.trans k2).trans$ jd j)];rw[LK,D.nm.mem y,n2.nm.mem y];exact NK
 |loop p t T a qa as d h0 B h3=>refine(js d Z #[_,Z,dZ,λl N=>#[l,_,Z,.inr$ ax.of jc,Z,Z,_,Z,aO RW ?_]]);refine#[_,Z,Z,_,Z,aO RW ?_];refine#[_,Z,Z,_,Z,bQ RW ?_];have S:ae H (af H l$ .tup [.str "set",.str "read",.str "call"]):=jd N;have h6:max (a.dep+1) 0 < n+1:=hd;have h7:a.size+0+1<=10000000:=hz;refine(js (S _ _ d) Z #[ig,λe ne=>?_]);have z:=S.trans (jd (o:=.lst []) ne);refine#[qa,e,a,as,[],λ_=>False,Y,Z,z _ _ B,h3.mono$ ae.tm z,(NL.nu #[jc,Nm.empty,λ_ w=>w.elim,c.y20]),W.2.1,RU,RU,λr1 z1 I _ D k1=>?_];have l1:=D.len;have s3:=z.trans k1;have b0:=zz;refine#[_,Z,r1,g,_,_,Z,Z,D.at',s3 _ _ c.at',by rw[GQ,GQ];omega,λr j=>q r (z1++G) _ (by rw[jc,Hs]) (λy=>?_) (by rw[GU];omega) (s3.trans$ jd j)];rw[LK,D.nm.mem y,c.nm.mem y];exact NK
theorem Bk(h:gA H v s):∀c∈s.own,be H c.2 c.1:=by
 cases h with
 |lf p l V _ d=>
  cases l with
  |rd x t T |st x t T |gv t T=>intro c hc;rw[List.mem_singleton.mp hc];exact d.2
  |wr t u T U=>
   intro c hc;rcases List.mem_cons.mp hc with e |hc
   ·rw[e];exact d.2.1
   ·rw[List.mem_singleton.mp hc];exact d.2.2
  |cl x f q i=>exact d.2.2
 |ite p t T a b Q j A B _ g _ _ _ _ |loop p t T a Q A _ g _ _=>intro c hc;rw[List.mem_singleton.mp hc];exact g
theorem Bl(h:gA H v s)(o:s.Ok y):s.own.length<=100/\∀c∈s.own,de y c.2:=by
 have O:∀(t:Addr) (T:Tm),de y T->[(t,T)].length<=100/\∀c∈[(t,T)],de y c.2:=λt T h=>#[by show 1<=100;omega,λc hc=>by rw[List.mem_singleton.mp hc];exact h];cases h with
 |lf p l V _ g=>
  cases l with
  |rd x t T |st x t T=>exact O t T o.1.2
  |wr t u T U=>
   refine#[by show 2<=100;omega,λc hc=>?_];rcases List.mem_cons.mp hc with e |hc
   ·rw[e];exact o.1.1
   ·rw[List.mem_singleton.mp hc];exact o.1.2
  |cl x f q i=>exact#[Hh o.1.2.1 RT,o.1.2.2]
  |gv t T=>exact O t T o.1
 |ite p t T a b Q j A B _ d _ _ _ _ |loop p t T a Q A _ d _ _=>exact O t T o.1
theorem zT:∀(a b c:Bd),(a.app b).app c=a.app (b.app c)
 | .nil,_,_=>rfl
 | .lf p l r,b,c=>by show Bd.lf p l ((r.app b).app c)=_;rw[zT r b c];rfl
 | .ite p t T x y r,b,c=>by show Bd.ite p t T x y ((r.app b).app c)=_;rw[zT r b c];rfl
 | .loop p t T x r,b,c=>by show Bd.loop p t T x ((r.app b).app c)=_;rw[zT r b c];rfl
theorem qT:∀(a:Bd),a.app .nil=a
 | .nil=>rfl
 | .lf p l r=>by show Bd.lf p l (r.app .nil)=_;rw[qT r]
 | .ite p t T x y r=>by show Bd.ite p t T x y (r.app .nil)=_;rw[qT r]
 | .loop p t T x r=>by show Bd.loop p t T x (r.app .nil)=_;rw[qT r]
inductive OI(v:V)(g r k:Addr)(s:Bd)(M:Str->Prop)(b:Hp)(i:Nat)(n:_L.St)(a:Hp):Prop
 |mk(l:Option V)(m:List Str)(d:n=[some v,some (.ref g),some (.ref k),l])(e:a k=some (.lst (m.map V.str)))(f:∀y,y∈m↔s.bt M y∨∃c∈s.own.take i,y∈c.2.vars)(h:m.length<=50+21*i)(j:ar k b a)
theorem tP:ak ["statement","behind","names","term"] z3z (aa xh):=bL
theorem rY{L:Nat}(F:aJ K "used_ahead_of" "used_ahead_of" xh f fd)(cB:Cl P w K mg base (L+9) fB f0 z3z (ua n) "used_behind_terms")(cO:Cl P w K mg base 1 fO f2 z4z lT "own_terms")(cN:Cl P w K mg base 7 fN f3 z2z (db 6) "names_in")(m0:mg "list"=none)(m2:mg "set"=none)(m3:mg "sorted"=none):aj P w K mg base aA (L+10) f fd z3z (fQ n):=by
 refine F.ok tP ?_ λc0 A o1 s H vs Q E t h=>?_
 ·rintro _ _ _ _ ⟨v,g,s,ss,M,Y,rfl,_⟩;rfl
 obtain⟨v,g,st,ss,M,Y,rfl,j,u,U,hd,hz,q⟩:=h;refine#[_,(je (jx 2 tP.nd$ jG Jc Z m0 boot_list$ ja (cB.e t.m$ ja (pv 0)$ ja (pv 1) jb) jb)$ je (j9 HM Z (qi$ cO.e t.m$ ja (pv 0) jb) (ju (i:=3) tP.nd Z$ Or.inl Z)$ jg$ jP$ ki Hj Lz Ly Jw (pv 2)$ ja (cN.e t.m$ ja (pv 3) jb) jb)$ jg$ jo$ jI (qc Z) Z m3 NQ$ ja (jG (qK Z) Z m2 RM$ ja (pv 2) jb) jb),?_];refine ai λF1 C=>#[_,Z,_,Z,v,g,st,ss,M,Y,Z,j,u,U,hd,hz,λr1 G H1 e1 m1 l1 k1=>#[r1,_,Z,.inl$ aB.of e1,λN I=>C _ _ ?_]];clear C;have s2:ae H (af H1 N$ .lst$ G.map V.str):=k1.trans (jd I);have J:=j.mono (ae.tm s2);obtain⟨o2,O⟩:=Bl j U;have a:af H1 N (.lst$ G.map V.str) N=some (.lst$ G.map V.str):=jc;have h0:H N=none:=k1.free I;generalize af H1 N (.lst$ G.map V.str)=H2 at s2 J a;refine ai λF1 C=>?_;refine dN λF kF=>#[_,Z,v,st,Z,J,λr H3 t W=>#[r,Z,#[_,ax.of t],kF _ _ ?_]];clear kF;have r0:r≠N:=jN t (W _ _ a) (by intro z;cases z);have s3:=s2.trans W;have b0:=zz;refine Ks (K:=K) (xs:=st.own.map rT) (OI v g r N st M H3) #[_,G,Z,W _ _ a,λy=>?_,RU,ar.refl] (λi σ H' hi h=>?_) ?_ (λσ H' h=>C _ _ ?_)
 ·rw[m1 y];exact#[.inl,λz=>z.elim (λw=>w) λ#[c,p,_]=>absurd p HG]
 ·obtain⟨_,_,_,_,_,_,k⟩:=h;exact ax.of$ k _ _ r0 t
 ·clear C;intro E _ i x σ H4 B fE Gq D h;obtain⟨o3,X,rfl,h1,R,h3,k4⟩:=h;rw[Hu]at B;cases p:st.own[i]? with
  |none=>rw[p]at B;cases B
  |some c=>
   rw[p]at B;cases B;refine D ?_;clear D;have cm:=Hf p;have hi:i < st.own.length:=by
    rcases MM i st.own.length with z |z
    ·exact z
    ·rw[HU z]at p;cases p
   have tm:ah H3 H4:=λb xs e=>k4 b _ (jN e (W _ _ a) (by intro z;cases z)) e;show ot _ E [some v,some$ .ref g,some$ .ref N,some$ .ref c.1] H4;refine#[_,Z,.inl #[Z,_,aB.of h1],_,Z,c.1,c.2,Y,Z,((Bk j c cm).mono$ ae.tm s3).mono tm,(O c cm).2,(O c cm).1,u.y20,λr5 s5 H5 n5 e5 d5 m5 o5 k5=>?_];have l5:s5.length<=21:=Hh (j8 d5 λx B=>kr (O c cm).1 x ((m5 x).mp B)) u.y20;refine#[N,r5,_,_,Z,Z,k5 _ _ h1,e5,by rw[GQ,GQ];omega,fE _ _ #[_,X++s5,Z,by rw[jc,Hs],λy=>?_,by rw[GU];omega,λb o nb e=>?_]]
   ·rw[LK,R y,m5 y,ID,p];refine#[λz=>z.elim (λz=>z.elim .inl λ#[d,hd,w]=>.inr #[d,Iy _ hd,w]) λw=>.inr #[c,Hn _$ List.mem_singleton.mpr Z,w],λz=>z.elim (λw=>.inl (.inl w)) λ#[d,hd,w]=>?_];rcases List.mem_append.mp hd with hd |hd
    ·exact .inl$ .inr #[d,hd,w]
    ·have ed:d=c:=List.mem_singleton.mp hd;rw[ed]at w;exact .inr w
   ·rw[ji nb];exact k5 _ _$ k4 b o nb e
 ·obtain⟨o3,X,rfl,h1,R,h3,k4⟩:=h;clear C;rw[GQ]at R h3;have s4:ae H H':=λb o e=>k4 b o (jm e h0) (s3 _ _ e);refine#[_,Z,N,X,Z,aB.of h1,(λL nd j=>IH (IG$ j8 nd j) (by show X.length+1 < 4096;omega)),λl L S h4 hm=>?_];have sub:∀y∈L,y∈Y:=λy hy=>Bd.use_in U u.sub y ((uF j M y).mpr (by have:=(R y).mp ((hm y).mp hy);rwa [HY]at this));have lL:=Hh (j8 h4 sub) u.y20;refine#[l,L,Z,jc,RU,λr' s0 T pm nd so=>?_];refine q r' s0 _ ((s4.trans$ jd S).free T) #[jc,#[pm.nodup_iff.mpr nd,so,λy=>?_],Bd.use_in U u.sub,u.y20] ((s4.trans$ jd S).trans$ jd T);rw[pm.mem_iff,hm y,R y,uF j M y,HY]
theorem none_of(s:ae H h)(n:h r=none):H r=none:=by
 cases z:H r with
 |none=>rfl
 |some o=>have:=s _ _ z;rw[n]at this;cases this
inductive UI(a g:Addr)(b:Bd)(p:List V)(M:Str->Prop)(q:List Str)(H:Hp)(i:Nat)(s:_L.St)(d:Hp):Prop
 |mk(n:Addr)(o:Option V)(c m:Bd)(r:List Str)(e:s=[some (.ref a),some (.ref g),some (.ref n),o])(f:b=c.app m)(h:dj H c (p.take (p.length - i)))(j:NL d n r (m.use M) q)(k:ae H d)(l:H n=none)
theorem nX:ak ["body","behind","names","statement"] z15z (aa xg):=bL
theorem Bc{L:Nat}(F:aJ K "used_ahead" "used_ahead" xg f fd)(cU:Cl P w K mg base (L+10) fU f0 z3z (fQ n) "used_ahead_of")(J:mg "sorted"=none)(N:mg "reversed"=none):aj P w K mg base aA (L+11) f fd z15z (ie$ n+1):=by
 refine F.ok nX ?_ λc0 A O s H vs Q E hr h=>?_
 ·rintro _ _ _ _ ⟨a,g,b,xs,R,M,Y,rfl,_⟩;rfl
 obtain⟨a,g,b,xs,R,M,Y,rfl,ha,hb,d,ho,hd,hz,q⟩:=h;refine#[_,(je (jx 2 nX.nd$ jI Xg Z J NQ$ ja (pv 1) jb)$ je (j9 HM Z (@sw _ _ _ _ _ _ _ Z N Ot (pv 0) RT RT RX RX) (ju (i:=3) nX.nd Z$ Or.inl Z)$ jg$ jx 2 nX.nd$ cU.e hr.m$ ja (pv 3)$ ja (pv 2) jb)$ jg$ jo$ pv 2),?_];have g0:R.length<=21:=Hh (j8 d.nd λx o=>d.sub x ((d.mem x).mp o)) d.y20;have b0:=aF;refine ai λF1 t=>#[_,Z,g,R,Z,aB.of d.at',RU,λl c nl pm so=>t _ _ ?_];clear t;have T:Nm c M:=#[pm.nodup_iff.mpr d.nd,so,λx=>pm.mem_iff.trans (d.mem x)];have U:ae H (af H l$ .lst$ c.map V.str):=jd nl;have u:NL (af H l$ .lst$ c.map V.str) l c M Y:=#[jc,T,d.sub,d.y20];generalize af H l (.lst$ c.map V.str)=H1 at U u;have xl:=hb.len;refine ai λF1 t=>?_;refine dN λF kF=>#[_,Z,a,xs,Z,ax.of$ U _ _ ha,kF _ _ ?_];clear kF;refine Xw (K:=K) (xs:=xs) (UI a g b xs M Y H) #[l,_,b,.nil,c,Z,(qT b).symm,by rw[Nh,HY];exact hb,u,U,nl] (λi σ H' hi h=>?_) ?_ (λσ H' h=>t _ _ ?_)
 ·obtain⟨_,_,_,_,_,_,_,_,_,k,_⟩:=h;exact ax.of$ k _ _ ha
 ·clear t;intro E _ i x σ H2 o fE Gq p h;obtain⟨I,o3,pre,eQ,W,rfl,j,y,X,B,n2⟩:=h;have hi:i < xs.length:=by
   rcases MM i xs.length with z |z
   ·exact z
   ·rw[HU (by simpa using z)]at o;cases o
  rw[LY hi]at o;have et:xs.take (xs.length - i)=xs.take (xs.length - (i+1))++[x]:=by
   have C:xs.length - i=(xs.length - 1 - i)+1:=by omega
   have e2:xs.length - (i+1)=xs.length - 1 - i:=by omega
   rw[C,e2,ID,o];rfl
  rw[et]at y;rcases y.last with ⟨e,_⟩ | ⟨ws,v,D,S,C,e2,h4,h5⟩
  ·exact absurd e RV
  obtain⟨ew,ev⟩:=OZ C Z;cases ev;subst e2;have h0:=zJ (j▸ho);have G:=zJ h0.1;have a1:b.dep=max (D.app S).dep eQ.dep:=by rw[j,zk]
  have a2:(D.app S).dep=max D.dep S.dep:=zk ..;have h6:S.dep<=b.dep:=by rw[a1,a2];exact Hh (L9 ..)$ Mg ..
  clear a1 a2;have h7:S.size<=b.size:=by rw[j,jW,jW];omega
  refine p ?_;clear p;show dU _ _ E [some$ .ref a,some$ .ref g,some$ .ref I,some x] H2;refine#[_,Z,_,Z,x,I,S,W,eQ.use M,Y,Z,h5.mono$ ae.tm B,X,G.2,RU,RU,λr z H3 nr n3 k3=>fE _ _ #[r,_,D,S.app eQ,z,Z,by rw[j,zT],?_,by rw[JV];exact n3,B.trans k3,none_of B nr]];rw[ew];exact h4
 ·obtain⟨I,o3,pre,eQ,W,rfl,j,y,X,B,n2⟩:=h;rw[ML]at y;have ep:pre= .nil:=by
   rcases y.last with ⟨_,e⟩ | ⟨ws,v,D,S,C,_⟩
   ·exact e
   ·exact absurd C RV
  rw[ep]at j;refine#[_,Z,q I W H' n2 ?_ B];rw[j];exact X
theorem AN:aj P w K mg base aA k f e z15z (ie 0):=by
 have n:∀v H Q E,¬ie 0 v H Q E:=λv H Q E h=>by obtain⟨a,g,b,x,S,M,y,_,_,_,_,_,d,_⟩:=h;exact absurd d$ Mf _
 exact#[λv H Q E h=>absurd h (n v H Q E),λA o s H c u v Q E _ _ _ _ h=>absurd h (n v H Q E)]
theorem Em(F:aJ K "used_ahead" "used_ahead" xg f e)(FB:aJ K "used_behind_terms" "used_behind_terms" tE r g)(d:aJ K "used_ahead_of" "used_ahead_of" xh o b)
  (B:ay K e z15z []) (i:mg "used_ahead"=some (.ref f)) (j:ay K g z3z []) (k:mg "used_behind_terms"=some (.ref r)) (p:ay K b z3z []) (q:mg "used_ahead_of"=some (.ref o)) (C:Cl P w K mg base 1 u s z4z lT "own_terms") (l:Cl P w K mg base 7 v t z2z (db 6) "names_in") (M:mg "list"=none) (a:mg "set"=none) (m:mg "sorted"=none) (c:mg "reversed"=none):
  ∀n:Nat,aj P w K mg base aA (3*n+8) f e z15z (ie n)/\aj P w K mg base aA (3*n+10) o b z3z (fQ n)
 |0=>by have h:aj P w K mg base aA 8 f e z15z (ie 0):=AN;have H:=rX (L:=8) (n:=0) FB #[h,B,F.kp,i];exact#[h,rY (L:=0) d #[H,j,FB.kp,k] C l M a m]
 |n+1=>by
  have I:=(Em F FB d B i j k p q C l M a m c n).2;have h:=Bc (L:=3*n) F #[I,p,d.kp,q] m c;have E:3*n+11=3*(n+1)+8:=by omega
  rw[E]at h;have H:=rX (L:=3*(n+1)+8) (n:=n+1) FB #[h,B,F.kp,i];exact#[h,rY (L:=3*(n+1)) d #[H,j,FB.kp,k] C l M a m]
noncomputable abbrev BA:Stmt:=bM 24
noncomputable abbrev sT:Stmt:=bM 27
noncomputable abbrev sQ:Stmt:=bM 28
noncomputable abbrev iW:Stmt:=bM 29
noncomputable abbrev sV:Stmt:=bM 30
noncomputable def Lf.cut:Lf->Nat
 | .st _ _ _=>0
 | .gv _ _=>0
 |_=>1
noncomputable def Bd.cuts:Bd->Nat
 | .nil=>0
 | .lf _ l r=>l.cut+r.cuts
 | .ite _ _ _ a b r=>1+a.cuts+b.cuts+r.cuts
 | .loop _ _ _ a r=>1+a.cuts+r.cuts
noncomputable def Bd.inn:Bd->Bd
 | .ite _ _ _ a b _=>a.app b
 | .loop _ _ _ a _=>a
 |_=>.nil
theorem zO:∀(a b:Bd),(a.app b).cuts=a.cuts+b.cuts
 | .nil,b=>by show b.cuts=0+b.cuts;omega
 | .lf _ l r,b=>by have:=zO r b;show l.cut+(r.app b).cuts=l.cut+r.cuts+b.cuts;omega
 | .ite _ _ _ x y r,b=>by have:=zO r b;show 1+x.cuts+y.cuts+(r.app b).cuts=1+x.cuts+y.cuts+r.cuts+b.cuts;omega
 | .loop _ _ _ x r,b=>by have:=zO r b;show 1+x.cuts+(r.app b).cuts=1+x.cuts+r.cuts+b.cuts;omega
inductive lP(b:List V)(H:Hp)(Q:VK)(a:XK):Prop
 |mk(v:V)(s:Bd)(_:b=[v])(_:gA H v s)(_:s.size<=10000000)(_:∀(r:Addr) (xs:List V) (H':Hp),H' r=some (.tup xs)->dj H' s.inn xs->ae H H'->Q (.ref r) H')
inductive gi(d:List V)(H:Hp)(Q:VK)(c:XK):Prop
 |mk(a:Addr)(b:Bd)(e:List V)(_:d=[.ref a])(_:H a=some (.tup e))(_:dj H b e)(_:b.size<=10000000)(_:∀H',ae H H'->Q (.int (b.cuts:Int)) H')
theorem D1:ak z4z z4z (aa BA):=bL
theorem AV(F:aJ K "bodies_in" "bodies_in" BA f y):aj P w K mg base aA 1 f y z4z lP:=by
 refine F.ok D1 ?_ λC A o s H V Q E j h=>?_
 ·rintro _ _ _ _ ⟨v,s,rfl,_⟩;rfl
 obtain⟨v,st,rfl,z,B,q⟩:=h;refine#[_,(je (jw (kh$ jz$ pv 0) (jg$ jo$ jv jV (jz$ pv 0)$ jz$ pv 0) jp)$ je (jw (kh$ jz$ pv 0) (jg$ jo$ jz$ pv 0) jp)$ jg$ jo$ jh jb),?_];have D:=aF;cases z with
 |lf p l V c d=>
  cases l with
  |rd x t T |st x t T |wr t u T U |cl x f R S |gv t T=>obtain⟨rfl,_⟩:=d;refine(js c Z #[Z,_,Z,aO RW ?_]);refine(js c Z #[Z,_,Z,aO RW ?_]);exact#[ig,λr N=>q r [] _ jc Z (jd N)]
 |ite p t T a b e G g I c J d i m n=>refine(js c Z #[Z,_,Z,bQ RW ?_]);have L:a.size+b.size+0+1<=10000000:=B;have W:=m.len;have X:=n.len;exact(js c Z$ js c Z #[e,G,g,I,Z,Z,d,i,RU,λr M j s=>q r _ M j ((n.mono$ ae.tm s).app$ m.mono$ ae.tm s) s])
 |loop p t T a e g c J d i=>refine(js c Z #[Z,_,Z,aO RW ?_]);refine(js c Z #[Z,_,Z,bQ RW ?_]);exact(js c Z$ q e g H d i$ ae.refl H)
theorem xE(h:gA H v s):s.inn.size < s.size/\∃(p:Addr) (w:Str) (r:List V),v= .ref p/\H p=some (.tup (.str w::r))/\s.cuts=(if nF (.str w) [.str "set",.str "give"]=true then 0 else 1)+s.inn.cuts:=by
 cases h with
 |lf p l i c d=>
  refine#[Nat.zero_lt_succ _,?_];cases l with
  |rd x t T |wr t u T U |cl x f Q j=>obtain⟨rfl,_⟩:=d;exact#[p,_,_,Z,c,by rw[Ho RW];rfl]
  |st x t T |gv t T=>obtain⟨rfl,_⟩:=d;exact#[p,_,_,Z,c,by rw[Hm RW];rfl]
 |ite p t T a b q k A B c e d g m n=>refine#[by show(a.app b).size < a.size+b.size+0+1;rw[jW];omega,p,_,_,Z,c,?_];rw[Ho RW];show 1+a.cuts+b.cuts+0=1+(a.app b).cuts;rw[zO];omega
 |loop p t T a q A c e d g=>refine#[by show a.size < a.size+0+1;omega,p,_,_,Z,c,?_];rw[Ho RW];show 1+a.cuts+0=1+a.cuts;omega
theorem dH:du (v::y) 0=some v:=jQ (j:=0) Z
inductive MI(a n:Addr)(b:Bd)(H:Hp)(m:Nat)(p:_L.St)(c:Hp):Prop
 |mk(l:Option V)(W:Bd)(o:List V)(k:Nat)(d:m=W.size)(e:p=[some (.ref a),some (.int (k:Int)),some (.ref n),l])(f:c n=some (.lst o))(g:dj c W o)(h:k+W.cuts=b.cuts)(i:W.size<=10000000)(j:ar n H c)
theorem gV:ak ["body","many","todo","statement"] ["body"] (aa sT):=bL
theorem v6(F:aJ K "many_cuts" "many_cuts" sT f fd)(cB:Cl P w K mg base 1 fB f0 z4z lP "bodies_in")(m0:mg "list"=none):aj P w K mg base aA 2 f fd ["body"] gi:=by
 refine F.ok gV ?_ λc0 A o1 s H vs Q E hr h=>?_
 ·rintro _ _ _ _ ⟨a,b,xs,rfl,_⟩;rfl
 obtain⟨a,b,xs,rfl,ha,hb,hz,q⟩:=h;refine#[_,(je (jx 1 gV.nd jf)$ je (jx 2 gV.nd$ jG Jc Z m0 boot_list$ ja (pv 0) jb)$ je (Xp HM (@sF _ _ _ (pv 2) (λ_=>Z))$ je (jx 3 gV.nd$ Bp Hj PySem.F.slot_list_pop PySem.F.type_list_pop AB$ pv 2)$ je (j4$ jw (jA Jb (jz$ pv 3) (jh$ ja jk$ ja jk jb) Z) (jg$ Bs (i:=1) gV.nd Z (Or.inl Z) jf At) jp)$ jg$ jP$ ki Hj Lz Ly Ys (pv 2)$ ja (cB.e hr.m$ ja (pv 3) jb) jb)$ jg$ jo$ pv 1),?_];have b0:=aF;refine ai λU d=>d _ _ ?_;clear d;refine ai λU d=>#[_,Z,a,_,Z,.inr$ ax.of ha,λt C=>d _ _ ?_];clear d;have s0:ae H (af H t$ .lst xs):=jd C;refine ai λU d=>?_;refine uK (MI a t b H) b.size #[_,b,xs,0,Z,Z,jc,hb.mono$ ae.tm s0,RU,hz,λc o N e=>s0 _ _ e] ?_;intro m σ D E _ fE F X Y Gq y h;obtain⟨o3,W,zs,k,rfl,rfl,x,h2,h3,h4,h5⟩:=h;refine y #[_,Z,!zs.isEmpty,.inl #[zs,aB.of x,Z],?_];clear y;rcases h2.last with ⟨e1,e2⟩ | ⟨g,v,B,n,e1,e2,g1,g2⟩
 ·rw[e1];refine Y _$ d _ _ #[_,Z,?_];rw[e2]at h3;have e3:k=b.cuts:=by have:k+0=b.cuts:=h3;omega
  rw[e3];exact q _ λc o e=>h5 c o (jm e C) e
 ·rw[e1];have ne:(!(g++[v]).isEmpty)=true:=by cases g<;>rfl
  rw[ne];refine X _ ?_;clear Y X d;have h6:W.size=B.size+n.size:=by rw[e2,jW]
  have h7:W.cuts=B.cuts+n.cuts:=by rw[e2,zO]
  obtain⟨h8,p,w',r,rfl,hp,hc⟩:=xE g2;rw[e1]at x;refine ai λU d=>#[_,Z,.inl #[Z,_,aB.of x],t,_,.ref p,Z,Z,x,RV,d _ _ ?_];clear d;rw[List.dropLast_concat];have T:ah D (af D t$ .lst g):=λc ys e=>by rw[ji$ jN e x (by intro z;cases z)];exact e
  have t2:af D t (.lst g) t=some (.lst g):=jc;have u:=g1.mono T;have I:=g2.mono T;have J:=T _ _ hp;have k2:ar t H (af D t$ .lst g):=λc o N e=>by rw[ji N];exact h5 c o N e
  generalize af D t (.lst g)=H2 at t2 u I J k2;clear T x h2 h5 g1 g2 hp;have R:∀(j:Nat) (H3:Hp),ae H2 H3->j+B.cuts+n.inn.cuts=b.cuts->ot (Fz K "list" (gM K) (aX 2)$ al (dF lP [] E0$ al (aX 3) aM) aM) E [some$ .ref a,some$ .int (j:Int),some$ .ref t,some$ .ref p] H3:=λj H3 L hk=>by
   have g0:=I.mono (ae.tm L);refine#[_,Z,.inl #[Z,_,aB.of$ L _ _ t2],_,Z,.ref p,n,Z,g0,RU,λr' ys H4 h0 hy s4=>?_];have S:=L.trans s4;have l1:=u.len;have l2:=hy.len;refine#[t,r',g,ys,Z,Z,S _ _ t2,ax.of h0,RU,fE (B.app n.inn).size _ _ (by rw[jW];omega) #[_,B.app n.inn,g++ys,j,Z,Z,jc,?_,by rw[zO];omega,by rw[jW];omega,λc o N e=>?_]]
   ·have M:ah H4 (af H4 t$ .lst$ g++ys):=λc z0 e=>by rw[ji$ jN e (S _ _ t2) (by intro z;cases z)];exact e
    exact(hy.mono M).app ((u.mono$ ae.tm S).mono M)
   ·rw[ji N];exact S _ _$ k2 c o N e
  refine ai λU d=>dq (λO H'=>∃j:Nat,O=[some$ .ref a,some$ .int (j:Int),some$ .ref t,some$ .ref p]/\ae H2 H'/\j+B.cuts+n.inn.cuts=b.cuts) (λE2 _ fm=>?_) λO H' h=>?_
  ·clear d fE;refine rf λG X Y=>(js J dH #[bo,λl nl=>#[l,_,Z,.inr$ ax.of jc,Z,Z,_,Z,?_]]);cases hv:nF (.str w') [.str "set",.str "give"] with
   |true=>rw[hv,Hm Z]at hc;exact Y _$ fm _ _ #[k,Z,jd nl,RU]
   |false=>rw[hv,Ho Hc]at hc;refine X _ #[_,Z,_,_,Z,Z,fm _ _ #[k+1,?_,jd nl,RU]];show [_,some$ V.int ((k:Int)+1),_,_]=[_,some$ V.int ((k+1:Nat):Int),_,_];rfl
  ·obtain⟨j,rfl,L,hk⟩:=h;exact d _ _$ R j H' L hk
end _K
namespace _K
open PySem PySem.Spec PyProof.Rows _L
variable {P:Program}{w:World}{K:Frag}{mg:Str->Option Value}{base:Heap}
inductive Es where
 |go (n:Int) |give (t:Addr)
structure Wy where
 sets:List (Str×Addr)
 goal:Es
inductive Dd where
 |st (p:Addr) |ask (t:Addr)
structure Ct where
 M:Str->Prop
 d:Dd
 ws:List Wy
structure Pc where
 M:Str->Prop
 w:Wy
def aS(H:Hp):Tr->V->List V->Prop
 | .lf v,x,_=>x=v/\Fk v=true
 | .tp l,x,_=>l.isL=true/\∃a X,x= .ref a/\H a=some (.tup X)/\aS H l .non X
 | .nil,_,X=>X=[]
 | .cons h t,_,X=>h.isL=false/\t.isL=true/\∃y Y,X=y::Y/\aS H h y []/\aS H t .non Y
theorem aS.at{K:Frag}:∀{t:Tr} {x:V} {xs:List V},aS H t x xs->lF K H t x xs:=by
 intro t;induction t with
 |lf v |nil=>exactλh=>h
 |tp l d=>rintro x xs ⟨h,a,Y,e,b,c⟩;exact#[h,a,Y,e,ax.of b,d c]
 |cons h t i I=>rintro x xs ⟨E,f,y,Y,e,b,c⟩;exact#[E,f,y,Y,e,i b,I c]
theorem aS.mono(k:ah H d):∀{t:Tr} {x:V} {xs:List V},aS H t x xs->aS d t x xs:=by
 intro t;induction t with
 |lf v |nil=>exactλh=>h
 |tp l f=>rintro x xs ⟨h,a,Y,e,b,c⟩;exact#[h,a,Y,e,k _ _ b,f c]
 |cons h t i I=>rintro x xs ⟨E,g,y,Y,e,b,c⟩;exact#[E,g,y,Y,e,i b,I c]
noncomputable def aC:List Tr->Tr
 | []=>.nil
 |t::T=>.cons t (aC T)
theorem QI:∀t:List Tr,(aC t).isL=true
 | []=>rfl
 |_::_=>rfl
noncomputable def ba(t:List Tr):Tr:=.tp (aC t)
noncomputable def bh(x:Str):Tr:=.lf (.str x)
noncomputable def oM(a:Addr):Tr:=.lf (.ref a)
noncomputable def aV(n:Int):Tr:=.lf (.int n)
section
variable {H:Hp}
theorem jB:aS H (aC []) .non []:=rfl
theorem jl{t:Tr}(h:t.isL=false)(a:aS H t y [])(b:aS H (aC T) .non Y):aS H (aC (t::T)) .non (y::Y):=#[h,QI T,y,Y,Z,a,b]
theorem jC(h:H a=some (.tup x))(b:aS H (aC t) .non x):aS H (ba t) (.ref a) []:=#[QI t,a,x,Z,h,b]
theorem jO:aS H (bh x) (.str x) []:=#[Z,Z]
theorem Jo:aS H (oM a) (.ref a) []:=#[Z,Z]
theorem kc:aS H (aV n) (.int n) []:=#[Z,Z]
theorem JW(a:aS H (aC s) .non Y):∀{T:List Tr} {x:List V},aS H (aC T) .non x->aS H (aC$ T++s) .non (x++Y)
 | [],x,h=>by have e:x=[]:=h;rw[e];exact a
 |t::T,x,h=>by obtain⟨E,_,y,z,e,b,c⟩:=h;rw[e];exact jl E b (JW a c)
theorem zG:∀{T:List Tr} {x:List V},aS H (aC T) .non x->x.length=T.length
 | [],x,h=>by have e:x=[]:=h;rw[e];rfl
 |t::T,x,h=>by obtain⟨_,_,y,z,e,_,a⟩:=h;rw[e,Hv,Hv,zG a]
theorem XA:∀(S:List Str),aS H (aC$ S.map bh) .non (S.map V.str)
 | []=>rfl
 |s::S=>jl Z jO (XA S)
theorem Y8:∀{T:List Tr} {x:List V},aS H (aC T) .non x->aS H (aC T.reverse) .non x.reverse
 | [],x,h=>by have e:x=[]:=h;rw[e];rfl
 |t::T,x,h=>by obtain⟨E,_,y,z,e,a,b⟩:=h;rw[e,Mo,Mo];exact JW (jl E a jB)$ Y8 b
theorem Jp:∀{T:List Tr} {X:List V},aS H (aC T) .non X->∀(i:Nat) (x:V),X[i]?=some x->∃t,T[i]?=some t/\aS H t x []
 | [],X,h,i,x,a=>by have e:X=[]:=h;rw[e]at a;simp at a
 |t::T,X,h,0,x,a=>by obtain⟨_,_,y,z,e,b,c⟩:=h;rw[e]at a;cases a;exact#[t,Z,b]
 |t::T,X,h,i+1,x,a=>by obtain⟨_,_,y,z,e,b,c⟩:=h;rw[e]at a;simpa using Jp c i x (by simpa using a)
end
noncomputable def D6(s:Str×Addr):Tr:=ba [bh s.1,oM s.2]
noncomputable def vF:Es->Tr
 | .go n=>ba [bh "go",aV n]
 | .give t=>ba [bh "give",oM t]
noncomputable def gw(w:Wy):Tr:=ba [ba$ w.sets.map D6,vF w.goal]
noncomputable def EC:Dd->Tr
 | .st p=>oM p
 | .ask t=>ba [bh "ask",oM t]
noncomputable def C8(c:Ct):Tr:=ba [ba ((canon c.M).map bh),EC c.d,ba$ c.ws.map gw]
theorem Ap(g:Es):(vF g).isL=false:=by cases g<;>rfl
theorem Dc(d:Dd):(EC d).isL=false:=by cases d<;>rfl
def md(H:Hp)(p:Pc)(v:V)(g:Addr)(y:List Str):Prop:=∃(r:Addr) (s:List Str) (W:V),v= .ref r/\H r=some (.tup [.ref g,W])/\NL H g s p.M y/\aS H (gw p.w) W []
theorem md.same(h:md H p v g y)(s:ae H a):md a p v g y:=by obtain⟨r,S,W,e,b,c,d⟩:=h;exact#[r,S,W,e,s _ _ b,c.same s,d.mono$ ae.tm s]
theorem md.but(h:md H p v g y)(k:ar f H c)(d:H f=some (.lst C))(n:g≠f):md c p v g y:=by obtain⟨r,s,W,e,i,a,j⟩:=h;have t:ah H c:=λb x e=>k b _ (jN e d (by intro z;cases z)) e;exact#[r,s,W,e,t _ _ i,#[k _ _ n a.at',a.nm,a.sub,a.y20],j.mono t]
noncomputable def Lf.isCut:Lf->Bool
 | .st _ _ _=>false
 | .gv _ _=>false
 |_=>true
noncomputable def Bd.deed:Bd->Dd
 | .lf p _ _=>.st p
 | .ite _ t _ _ _ _=>.ask t
 | .loop _ t _ _ _=>.ask t
 | .nil=>.st 0
inductive gZ(b:List V)(H:Hp)(Q:VK)(a:XK):Prop
 |mk(v:V)(s:Bd)(_:b=[v])(_:gA H v s)(_:∀(d:V) (H':Hp),aS H' (EC s.deed) d []->ae H H'->Q d H')
inductive fq(b:List V)(H:Hp)(Q:VK)(a:XK):Prop
 |mk(t:Addr)(T:Tm)(c:List Str)(_:b=[.ref t])(_:be H T t)(_:de c T)(_:c.length<=21)(_:∀(v:V) (g:Addr) (H':Hp),md H' #[λx=>x∈T.vars,#[[],.give t]] v g c->H g=none->ae H H'->Q v H')
inductive og(K:Frag)(c:List V)(H:Hp)(Q:VK)(b:XK):Prop
 |mk(a:Addr)(_:c=[.ref a])(_:ax K H a [.str "num",.int 0])(_:∀(r:Addr),H r=none->Q (.ref r) (af H r (.lst [])))
inductive oh(K:Frag)(b:List V)(H:Hp)(Q:VK)(a:XK):Prop
 |mk(t:Addr)(c:List Str)(_:b=[.ref t])(_:ax K H t [.str "num",.int 0])(_:c.length<=21)(_:∀(v:V) (g:Addr) (H':Hp),md H' #[λx=>x∈(Tm.num 0).vars,#[[],.give t]] v g c->H g=none->ae H H'->Q v H')
open Classical in
noncomputable def gX(x:Str)(t:Addr)(p:Pc):Wy:=if p.M x then #[(x,t)::p.w.sets,p.w.goal] else p.w
inductive hV(d:List V)(H:Hp)(Q:VK)(a:XK):Prop
 |mk(v b:V)(p t:Addr)(x:Str)(T:Tm)(c:Pc)(g:Addr)(e:List Str)(_:d=[v,b])(_:gA H v (.lf p (.st x t T) .nil))(_:md H c b g e)(_:x∈e)(_:de e T)(_:c.w.sets.length<=10000000)(_:∀(v':V) (g':Addr) (H':Hp),md H' #[(Lf.st x t T).use c.M,gX x t c] v' g' e->H g'=none->ae H H'->Q v' H')
theorem BK:ak z4z z4z (aa sQ):=bL
theorem vZ(F:aJ K "deed_of" "deed_of" sQ f e):aj P w K mg base aA 1 f e z4z gZ:=by
 refine F.ok BK ?_ λC A o s H V Q E z h=>?_
 ·rintro _ _ _ _ ⟨v,s,rfl,_⟩;rfl
 obtain⟨v,st,rfl,g,q⟩:=h;refine#[_,(je (jw (jA zp (jz$ pv 0) (jh$ ja jk$ ja jk jb) Z) (jg$ jo$ jh$ ja jk$ ja (jz$ pv 0) jb) jp)$ jg$ jo$ pv 0),?_];cases g with
 |lf p l V c d=>
  cases l with
  |rd x t T |st x t T |wr t u T U |cl x f B D |gv t T=>obtain⟨rfl,_⟩:=d;refine(js c Z #[bo,λl n=>#[l,_,Z,.inr$ ax.of jc,Z,Z,_,Z,aO RW ?_]]);exact#[_,Z,q _ _ Jo$ jd n]
 |ite p t T a b i I j J c m d y L M |loop p t T a i j c m d y=>refine(js c Z #[bo,λl n=>#[l,_,Z,.inr$ ax.of jc,Z,Z,_,Z,bQ RW ?_]]);refine(js (am c n) Z #[bo,λr N=>?_]);exact q _ _ (jC jc$ jl Z jO$ jl Z Jo jB) ((jd n).trans$ jd N)
theorem A3{fN:Addr}{fdN:FuncData}(F:aJ K "names_in" "names_in" dQ f b)(c:Cl P w K mg base (n+1) f b z2z (db n) "names_in")(m:mg "set"=none)(M:mg "sorted"=none):aj P w K mg base aA (n+2) f b z2z (og K):=by
 refine F.ok tK (λv H Q E h=>?_) (λC A o s H v Q E d h=>?_)
 ·obtain⟨a,rfl,_⟩:=h;rfl
 obtain⟨a,rfl,g,q⟩:=h;refine#[_,(je (jw (kh$ jz$ pv 0) (jg$ jo$ jE jb) jp)$ je (jw (kh$ jz$ pv 0) (jg$ jo$ jE$ ja (jz$ pv 0) jb) jp)$ jg$ jo$ jI (qc Z) Z M NQ$ ja (jG (qK Z) Z m RM$ ja (jv zI (c.e d$ ja (jz$ pv 0) jb)$ c.e d$ ja (jz$ pv 0) jb) jb) jb),?_];refine#[_,Z,a,_,_,_,Z,Z,g,Z,Z,_,Z,bQ RW ?_];exact#[ig,λr N=>q r N]
theorem nV:ak z2z z2z (aa iW):=bL
theorem rV(F:aJ K "place_of_give" "place_of_give" iW f d)(C:Cl P w K mg base 7 U i z2z (db 6) "names_in"):aj P w K mg base aA 8 f d z2z fq:=by
 refine F.ok nV ?_ λj A o s H V Q E l h=>?_
 ·rintro _ _ _ _ ⟨t,T,y,rfl,_⟩;rfl
 obtain⟨t,T,y,rfl,p,O,b,q⟩:=h;refine#[_,(jg$ jo$ jh$ ja (C.e l.m$ ja (pv 0) jb)$ ja (jh$ ja (jh jb)$ ja (jh$ ja jk$ ja (pv 0) jb) jb) jb),?_];refine#[_,Z,t,T,y,Z,p,O.2,O.1,b,λg v a z B D M G I=>?_];have J:NL a g v (λx=>x∈T.vars) y:=#[B,#[D,G,M],kr O.1,b];refine#[ig,λe L=>#[_,Z,bo,λu c=>#[bo,λx N=>#[bo,λr n=>?_]]]];have S:ae a (af (af (af (af a e$ .tup []) u$ .tup [.str "give",.ref t]) x$ .tup [.ref e,.ref u]) r$ .tup [.ref g,.ref x]):=(((jd L).trans$ jd c).trans$ jd N).trans (jd n);refine q _ g _ #[r,_,.ref x,Z,jc,J.same S,?_] z (I.trans S);exact jC (am jc n)$ jl Z (jC (am (am (am jc c) N) n) jB)$ jl Z (jC (am (am jc N) n)$ jl Z jO$ jl Z Jo jB) jB
theorem A5(F:aJ K "place_of_give" "place_of_give" iW f j)(C:Cl P w K mg base 7 G l z2z (og K) "names_in"):aj P w K mg base aA 8 f j z2z (oh K):=by
 refine F.ok nV ?_ λp A o s H V Q E v h=>?_
 ·rintro _ _ _ _ ⟨t,y,rfl,_⟩;rfl
 obtain⟨t,y,rfl,z,B,q⟩:=h;refine#[_,(jg$ jo$ jh$ ja (C.e v.m$ ja (pv 0) jb)$ ja (jh$ ja (jh jb)$ ja (jh$ ja jk$ ja (pv 0) jb) jb) jb),?_];refine#[_,Z,t,Z,z,λg a=>?_];have b:ae H (af H g$ .lst []):=jd a;have c:NL (af H g$ .lst []) g [] (λx=>x∈(Tm.num 0).vars) y:=#[jc,#[MY,Z,λx=>NK],λx h=>absurd h HG,B];generalize af H g (.lst [])=d at b c;refine#[ig,λe D=>#[_,Z,bo,λu i=>#[bo,λx N=>#[bo,λr n=>?_]]]];have S:ae d (af (af (af (af d e$ .tup []) u$ .tup [.str "give",.ref t]) x$ .tup [.ref e,.ref u]) r$ .tup [.ref g,.ref x]):=(((jd D).trans$ jd i).trans$ jd N).trans (jd n);refine q _ g _ #[r,_,.ref x,Z,jc,c.same S,?_] a (b.trans S);exact jC (am jc n)$ jl Z (jC (am (am (am jc i) N) n) jB)$ jl Z (jC (am (am jc N) n)$ jl Z jO$ jl Z Jo jB) jB
end _K
namespace _K
open PySem PySem.Spec PyProof.Rows _L
variable {P:Program}{w:World}{K:Frag}{mg:Str->Option Value}{base:Heap}
theorem vG{Y:List Str}:nF (.str x) (Y.map V.str)=decide (x∈Y):=by
 by_cases h:x∈Y
 ·rw[Hl h];unfold nF;rw[O0];exact#[.str x,List.mem_map.mpr #[x,h,Z],by simp [mf]]
 ·rw[G8 h];unfold nF;rw[OU];intro z;rw[O0]at z;obtain⟨v,a,e⟩:=z;obtain⟨y,H,rfl⟩:=List.mem_map.mp a;have E:x=y∨y=x:=by
   first
    |exact .inl (by simpa [mf] using e)
    |exact .inr (by simpa [mf] using e)
  rcases E with rfl |rfl
  ·exact h H
  ·exact h H
theorem Cm{H:Hp}{w:Wy}{v:V}(h:aS H (gw w) v []):∃(W s:Addr) (S:List V) (y:V),v= .ref W/\H W=some (.tup [.ref s,y])/\H s=some (.tup S)/\aS H (aC$ w.sets.map D6) .non S/\aS H (vF w.goal) y []:=by obtain⟨_,W,x,rfl,a,_,_,l,b,e,⟨_,s,S,c,d,f⟩,_,_,g,Y,E,i,j⟩:=h;have k:Y=[]:=j;rw[k]at E;rw[E]at e;rw[e,c]at a;exact#[W,s,S,g,Z,a,d,f,i]
theorem nh:ak ["statement","behind","way"] z3z (aa sV):=bL
theorem wf(F:aJ K "place_of_set" "place_of_set" sV f fd)(cU:Cl P w K mg base 10 fU f0 z3z (fQ 0) "used_ahead_of"):aj P w K mg base aA 11 f fd z3z hV:=by
 refine F.ok nh ?_ λc0 A O s H vs Q E hr h=>?_
 ·rintro _ _ _ _ ⟨v,bv,p,t,x,T,C,g,Y,rfl,_⟩;rfl
 obtain⟨v,bv,p,t,x,T,C,g,Y,rfl,X,hp,hx,ok,hl,q⟩:=h;refine#[_,(je (jx 2 nh.nd$ jz$ pv 1)$ je (j4$ jw (jA zp (jz$ pv 0) (jz$ pv 1) Z) (jg$ jx 2 nh.nd$ jh$ ja (jv jV (jh$ ja (jJ zj (pv 0) (jH jf) j3) jb)$ jz$ pv 2)$ ja (jz$ pv 2) jb) jp)$ jg$ jo$ jh$ ja (cU.e hr.m$ ja (pv 0)$ ja (jz$ pv 1) jb)$ ja (pv 2) jb),?_];have b0:=aF;obtain⟨r,ss,wv,rfl,b,B,hW⟩:=hp;have h0:=X;cases X with
 |lf _ _ vs h1 h2=>
  obtain⟨rfl,hT⟩:=h2;obtain⟨wa,sa,sx,y,rfl,i,D,j,hy⟩:=Cm hW;refine ai λF1 d=>(js b Z$ d _ _ ?_);clear d;have sl:=zG j;rw[GQ]at sl;refine ai λF1 d=>dq (λl I=>∃W:V,l=[some$ .ref p,some$ .ref r,some W]/\aS I (gw$ gX x t C) W []/\ae H I) (λE2 _ fm=>?_) λl I h=>?_
  ·clear d;refine rf λG kT kF=>(js h1 Z$ js b Z #[g,_,Z,.inl$ aB.of B.at',Z,QE _,_,Z,?_]);rw[vG];by_cases a:x∈ss
   ·rw[Hl a];refine kT _ #[_,Z,_,Z,p,_,Z,h1,λs1 H1 J k1=>#[gH,λu nu=>?_]];have L:=k1.trans (jd (o:=.tup [.ref s1]) nu);refine(js (L _ _ i) Z #[u,sa,_,_,Z,Z,jc,L _ _ D,by show 1+sx.length<=_;omega,λc H2 hc z=>?_]);have R:=L.trans z;refine(js (R _ _ i) Z #[bo,λnw n=>fm _ _ #[.ref nw,Z,?_,R.trans$ jd n]]);have tm:=ae.tm (R.trans$ jd (o:=.tup [.ref c,y]) n);unfold gX;rw[Hm ((B.nm.mem x).mp a)];refine jC jc$ jl Z (jC (am hc n)$ jl Z ?_$ j.mono tm)$ jl (Ap _) (hy.mono tm) jB;exact jC (am (z _ _$ am J nu) n)$ jl Z jO$ jl Z Jo jB
   ·rw[G8 a];refine kF _$ fm _ _ #[_,Z,?_,ae.refl _];unfold gX;rw[Ho λw=>a ((B.nm.mem x).mpr w)];exact hW
  ·obtain⟨W,rfl,S,k⟩:=h;refine d _ _ ?_;clear d;refine#[_,Z,js (k _ _ b) Z #[.ref p,g,.lf p (.st x t T) .nil,ss,C.M,Y,Z,h0.mono$ ae.tm k,B.same k,#[#[hx,ok],trivial],(by show 0 < 1;decide),(by show 0+1<=10000000;decide),λg' zs H3 n3 N3 z=>?_]];refine#[_,Z,bo,λr' N=>q _ g' _ #[r',zs,W,Z,jc,N3.same$ jd N,S.mono$ ae.tm$ z.trans$ jd N] (k.free n3) ((k.trans z).trans$ jd N)]
noncomputable abbrev wU:Stmt:=b6 (bM 31) 1
noncomputable abbrev wY:Stmt:=b6 (bM 31) 2
noncomputable abbrev wV:Stmt:=b6 (bM 31) 3
noncomputable abbrev xj:Stmt:=b6 (bM 31) 4
noncomputable abbrev sS:Stmt:=b6 (bM 31) 0
noncomputable def pL(m:Int)(p:Addr)(l:Lf)(q:Pc×List Ct):Pc×List Ct:=match l with
 | .gv t T=>(#[λx=>x∈T.vars,#[[],.give t]],q.2)
 | .st x t T=>(#[(Lf.st x t T).use q.1.M,gX x t q.1],q.2)
 | .rd x t T=>(#[(Lf.rd x t T).use q.1.M,#[[],.go (m - (q.2.length:Int) - 1)]],q.2++[#[(Lf.rd x t T).use q.1.M,.st p,[q.1.w]]])
 | .wr t u T U=>(#[(Lf.wr t u T U).use q.1.M,#[[],.go (m - (q.2.length:Int) - 1)]],q.2++[#[(Lf.wr t u T U).use q.1.M,.st p,[q.1.w]]])
 | .cl x f a b=>(#[(Lf.cl x f a b).use q.1.M,#[[],.go (m - (q.2.length:Int) - 1)]],q.2++[#[(Lf.cl x f a b).use q.1.M,.st p,[q.1.w]]])
noncomputable def pB(m:Int):Bd->Pc->List Ct->Pc×List Ct
 | .nil,c,f=>(c,f)
 | .lf p l r,c,f=>pL m p l (pB m r c f)
 | .ite p t T a b r,c,f=>
  let q:=pB m r c f
  let o:=pB m b q.1 q.2
  let s:=pB m a q.1 o.2
  (#[(Bd.ite p t T a b .nil).use q.1.M,#[[],.go$ m - (q.2.length:Int) - ((Bd.ite p t T a b .nil).cuts:Int)]],s.2++[#[(Bd.ite p t T a b .nil).use q.1.M,.ask t,[s.1.w,o.1.w]]])
 | .loop p t T a r,c,f=>
  let q:=pB m r c f
  let d:Pc:=#[(Bd.loop p t T a .nil).use q.1.M,#[[],.go$ m - (q.2.length:Int) - ((Bd.loop p t T a .nil).cuts:Int)]]
  let s:=pB m a d q.2
  (d,s.2++[#[(Bd.loop p t T a .nil).use q.1.M,.ask t,[s.1.w,q.1.w]]])
theorem Kj(m:Int):∀(a b:Bd) (c:Pc) (f:List Ct),pB m (a.app b) c f=pB m a (pB m b c f).1 (pB m b c f).2
 | .nil,_,_,_=>rfl
 | .lf p l r,b,c,f=>by show pL m p l (pB m (r.app b) c f)=pL m p l (pB m r _ _);rw[Kj m r b c f]
 | .ite p t T x y r,b,c,f=>by have e:=Kj m r b c f;show pB m (.ite p t T x y$ r.app b) c f=_;unfold pB;rw[e]
 | .loop p t T x r,b,c,f=>by have e:=Kj m r b c f;show pB m (.loop p t T x$ r.app b) c f=_;unfold pB;rw[e]
theorem kj(m:Int):∀(b:Bd) (c:Pc) (F:List Ct),(pB m b c F).2.length=F.length+b.cuts
 | .nil,_,_=>rfl
 | .lf p l r,c,F=>by
  have e:=kj m r c F;show(pL m p l$ pB m r c F).2.length=F.length+(l.cut+r.cuts);cases l with
  |rd x t T |wr t u T U |cl x f a d=>show((pB m r c F).2++[_]).length=F.length+(1+r.cuts);rw[GU,e];show _+1=_;omega
  |st x t T |gv t T=>show(pB m r c F).2.length=F.length+(0+r.cuts);omega
 | .ite p t T x y r,c,F=>by have e:=kj m r c F;show((pB m x _ (pB m y _ _).2).2++[_]).length=_;rw[GU,kj m x,kj m y,e];show _+1=F.length+(1+x.cuts+y.cuts+r.cuts);omega
 | .loop p t T x r,c,F=>by have e:=kj m r c F;show((pB m x _ _).2++[_]).length=_;rw[GU,kj m x,e];show _+1=F.length+(1+x.cuts+r.cuts);omega
theorem XB(x:Str)(t:Addr)(p:Pc):(gX x t p).sets.length<=p.w.sets.length+1:=by
 unfold gX;split
 ·exact GV _
 ·exact IL _
theorem Y9(m:Int):∀(b:Bd) (a:Pc) (f:List Ct),(pB m b a f).1.w.sets.length<=a.w.sets.length+b.size
 | .nil,_,_=>GV _
 | .lf p l r,a,f=>by
  have e:=Y9 m r a f;show(pL m p l$ pB m r a f).1.w.sets.length<=a.w.sets.length+(r.size+1);cases l with
  |st x t T=>have:=XB x t (pB m r a f).1;show(gX x t (pB m r a f).1).sets.length<=_;omega
  |_=>exact Hg _
 | .ite p t T x y r,a,f=>Hg _
 | .loop p t T x r,a,f=>Hg _
theorem kI:∀b:Bd,b.cuts<=b.size
 | .nil=>GV _
 | .lf _ l r=>by
  have:=kI r;have h:l.cut<=1:=by cases l<;>first |exact GV _ |exact Hg _
  show l.cut+r.cuts<=r.size+1;omega
 | .ite _ _ _ a b r=>by have:=kI a;have:=kI b;have:=kI r;show 1+a.cuts+b.cuts+r.cuts<=a.size+b.size+r.size+1;omega
 | .loop _ _ _ a r=>by have:=kI a;have:=kI r;show 1+a.cuts+r.cuts<=a.size+r.size+1;omega
structure CK(K:Frag)(C:Addr):Prop where
 cl:oY K C
 nm:bK K C "many"
 nf:bK K C "found"
structure Cg(H:Hp)(C ia dx fa:Addr)(m:Int)(cts:List Ct)(cs:List V):Prop where
 ins:H ia=some (.ins C dx [("many",.int m),("found",.ref fa)])
 fd:H fa=some (.lst cs)
 tr:aS H (aC$ cts.map C8) .non cs
theorem Cg.same(h:Cg H C i d f m c a)(s:ae H b):Cg b C i d f m c a:=#[s _ _ h.ins,s _ _ h.fd,h.tr.mono$ ae.tm s]
theorem Cg.len(h:Cg H C i d f m c a):a.length=c.length:=by rw[zG h.tr,GQ]
theorem Cg.tm(h:Cg H C i d f m c g)(k:ar f H a):ah H a:=λb x e=>k b _ (jN e h.fd (by intro z;cases z)) e
structure uX(H:Hp)(C ia dx fa:Addr)(m:Int)(cts:List Ct)(cs:List V)(pc:Pc)(bv:V)(g:Addr)(ys:List Str)(b:Bd):Prop where
 c:Cg H C ia dx fa m cts cs
 p:md H pc bv g ys
 ng:g≠fa
 ok:b.Ok ys
 sz:cts.length+pc.w.sets.length+b.size<=10000000
def pf(H:Hp)(C i d f:Addr)(m:Int)(y:List Str)(q:Pc×List Ct)(Q:VK):Prop:=∀(v:V) (g:Addr) (c:List V) (h:Hp),md h q.1 v g y->g≠f->Cg h C i d f m q.2 c->ar f H h->Q v h
inductive lU(C:Addr)(n:Nat)(l:List V)(H:Hp)(Q:VK)(c:XK):Prop
 |mk(j h i a g:Addr)(m:Int)(d:List Ct)(f o:List V)(k:Pc)(e:V)(p:List Str)(b:Bd)(_:l=[.ref j,.ref a,e])(_:uX H C j h i m d f k e g p b)(_:H a=some (.tup o))(_:dj H b o)(_:b.dep < n)(_:pf H C j h i m p (pB m b k d) Q)
inductive BS(C:Addr)(n:Nat)(j:List V)(H:Hp)(Q:VK)(a:XK):Prop
 |mk(h e f g:Addr)(m:Int)(b:List Ct)(d:List V)(i:Pc)(v c:V)(k:List Str)(s:Bd)(_:j=[.ref h,v,c])(_:uX H C h e f m b d i c g k s)(_:gA H v s)(_:s.dep < n+1)(_:pf H C h e f m k (pB m s i b) Q)
noncomputable def Bd.isCut:Bd->Bool
 | .lf _ l _=>l.isCut
 | .nil=>false
 |_=>true
inductive xC(C:Addr)(n:Nat)(j:List V)(H:Hp)(Q:VK)(a:XK):Prop
 |mk(h e f g:Addr)(m:Int)(b:List Ct)(d:List V)(i:Pc)(v c:V)(k:List Str)(s:Bd)(_:j=[.ref h,v,c])(_:uX H C h e f m b d i c g k s)(_:gA H v s)(_:s.dep < n+1)(_:s.isCut=true)(_:pf H C h e f m k (pB m s i b) Q)
noncomputable def gm(m:Int)(c:Pc)(p:Pc)(f:List Ct):Bd->List Wy×List Ct
 | .ite _ _ _ a b _=>([(pB m a p (pB m b p f).2).1.w,(pB m b p f).1.w],(pB m a p (pB m b p f).2).2)
 | .loop _ _ _ a _=>([(pB m a c f).1.w,p.w],(pB m a c f).2)
 |_=>([p.w],f)
inductive BU(C:Addr)(n:Nat)(o:List V)(H:Hp)(Q:VK)(a:XK):Prop
 |mk(i e f g h:Addr)(m:Int)(b:List Ct)(d:List V)(j k:Pc)(v c l:V)(p:List Str)(s:Bd)(_:o=[.ref i,v,l,c])(_:uX H C i e f m b d j c g p s)(_:md H k l h p)(_:h≠f)(_:k.w.sets=[])(_:gA H v s)(_:s.dep < n+1)(_:∀(wv:V) (cs':List V) (H':Hp),aS H' (ba ((gm m k j b s).1.map gw)) wv []->Cg H' C i e f m (gm m k j b s).2 cs'->ar f H H'->Q wv H')
theorem X2(h:gA H v s)(g:s.isCut=true)(m:Int)(c:Pc)(F:List Ct):
  pB m s c F=(#[s.use c.M,#[[],.go$ m - (F.length:Int) - (s.cuts:Int)]],(gm m #[s.use c.M,#[[],.go$ m - (F.length:Int) - (s.cuts:Int)]] c F s).2++[#[s.use c.M,s.deed,(gm m #[s.use c.M,#[[],.go$ m - (F.length:Int) - (s.cuts:Int)]] c F s).1]]):=by
 cases h with
 |lf p l V d e=>
  cases l with
  |rd x t T |wr t u T U |cl x f a k=>rfl
  |st x t T |gv t T=>cases g
 |ite p t T a b q Q A B d i e j n o |loop p t T a q A d i e j=>rfl
theorem uJ(h:md H p v g y):∃(r:Addr) (W:V),v= .ref r/\H r=some (.tup [.ref g,W])/\aS H (gw p.w) W []:=by obtain⟨r,s,W,e,a,c,b⟩:=h;exact#[r,W,e,a,b]
theorem D3:ak ["self","statement","place","behind","other"] z21z (aa xj):=bL
theorem DG(F:aJ K "ways_of" "Cutting.ways_of" xj f fd)(X:CK K C)(GB:aj P w K mg base aA (4*n+31) fB f0 z11z (lU C n))(bB:ay K f0 z11z [])(hB:bY K C "place_of_body" fB):aj P w K mg base aA (4*n+32) f fd z21z (BU C n):=by
 refine F.ok D3 ?_ λc3 A o1 s H vs Q E hr h=>?_
 ·rintro _ _ _ _ ⟨i,D,R,g,g2,m,d,S,y,pl,v,bv,pv,Y,s,rfl,_⟩;rfl
 obtain⟨i,D,R,g,g2,m,d,S,y,pl,v,bv,G,Y,st,rfl,I,h6,n0,h7,hs,hd,q⟩:=h;refine#[_,(je (jw (kh$ jz$ pv 1) (je (jx 4 D3.nd$ kO (pv 0) X.cl hB GB hr.m bB .nil bH$ ja (jz$ pv 1)$ ja (pv 3) jb)$ jg$ jo$ jh$ ja (jr jR (kO (pv 0) X.cl hB GB hr.m bB .nil bH$ ja (jz$ pv 1)$ ja (pv 3) jb) jf (λ_ _=>Z))$ ja (jz$ pv 4) jb) jp)$ je (jw (kh$ jz$ pv 1) (jg$ jo$ jh$ ja (jr jR (kO (pv 0) X.cl hB GB hr.m bB .nil bH$ ja (jz$ pv 1)$ ja (pv 2) jb) jf (λ_ _=>Z))$ ja (jz$ pv 3) jb) jp)$ jg$ jo$ jh$ ja (jz$ pv 3) jb),?_];have b0:=aF;obtain⟨br,bw,rfl,J,L⟩:=uJ I.p;cases hs with
 |lf p l vs e M=>
  have f2:iz (bV$ al (dG (eZ K) (aX 3)$ tC$ V.int 1) aM) { nx:=λx H'=>Q V.non H',rt:=Q } [some$ .ref i,some$ .ref p,some G,some$ .ref br,none] H:=by refine(js J Z #[gH,λr N=>q (.ref r) S _ (jC jc$ jl Z (L.mono$ ae.tm$ jd N) jB) (I.c.same$ jd N) (ar.of_same$ jd N)])
  cases l with
  |rd x t T |st x t T |wr t u T U |cl x f q2 ts |gv t T=>obtain⟨rfl,_⟩:=M;refine(js e Z #[Z,_,Z,aO RW ?_]);refine(js e Z #[Z,_,Z,aO RW ?_]);exact f2
 |ite p t T a b qa qb as bs e h0 M h3 h4 h5=>refine(js e Z #[Z,_,Z,bQ RW ?_]);have h8:max (max a.dep b.dep+1) 0 < n+1:=hd;have hz:d.length+y.w.sets.length+(a.size+b.size+0+1)<=10000000:=I.sz;have W:=I.ok;refine ai λF1 f1=>#[_,Z,i,D,_,Z,I.c.ins,Z,js e Z #[_,Z,i,D,R,qb,g,m,d,S,bs,y,.ref br,Y,b,Z,#[I.c,I.p,I.ng,W.2.2.1,RU],h3,h5,RU,λv1 g1 j H1 p1 n1 O z=>f1 _ _ ?_]];clear f1;have B:=I.c.tm z;have lc:=kj m b y d;have cb:=kI b;refine#[_,Z,i,D,_,Z,O.ins,Z,js (B _ _ e) Z #[_,Z,i,D,R,qa,g,m,_,j,as,y,.ref br,Y,a,Z,#[O,I.p.but z I.c.fd I.ng,I.ng,W.2.1,RU],B _ _ M,h4.mono B,RU,λv2 g2 c0 H2 p2 n2 c2 k2=>?_]];obtain⟨r2,w2,rfl,h',a0⟩:=uJ p2;obtain⟨r1,w1,rfl,k,o⟩:=uJ (p1.but k2 O.fd n1);refine#[r2,_,_,_,Z,Z,ax.of h',Z,js k Z #[bo,λr N=>q (.ref r) c0 _ (jC jc$ jl Z (a0.mono$ ae.tm$ jd N)$ jl Z (o.mono$ ae.tm$ jd N) jB) (c2.same$ jd N) ((z.trans k2).trans$ ar.of_same$ jd N)]]
 |loop p t T a qa as e h0 M h3=>refine(js e Z #[Z,_,Z,aO RW ?_]);refine(js e Z #[Z,_,Z,bQ RW ?_]);have h8:max (a.dep+1) 0 < n+1:=hd;have hz:d.length+y.w.sets.length+(a.size+0+1)<=10000000:=I.sz;have W:=I.ok;refine#[_,Z,i,D,_,Z,I.c.ins,Z,js e Z #[_,Z,i,D,R,qa,g2,m,d,S,as,pl,G,Y,a,Z,#[I.c,h6,n0,W.2.1,by rw[h7];show d.length+0+a.size<=_;omega],M,h3,RU,λv1 g1 j H1 p1 n1 O z=>?_]];obtain⟨r1,w1,rfl,k,o⟩:=uJ p1;have B:=I.c.tm z;refine#[r1,_,_,_,Z,Z,ax.of k,Z,js (B _ _ J) Z #[bo,λr N=>q (.ref r) j _ (jC jc$ jl Z (o.mono$ ae.tm$ jd N)$ jl Z ((L.mono B).mono$ ae.tm$ jd N) jB) (O.same$ jd N) (z.trans$ ar.of_same$ jd N)]]
theorem tF:ak ["self","statement","behind","n","names","place","ways"] z7z (aa wV):=bL
theorem DC(F:aJ K "place_of_cut" "Cutting.place_of_cut" wV f fd)(y:CK K C)(h7:n<=7)(GW:aj P w K mg base aA (4*n+32) fW f0 z21z (BU C n))(bW:ay K f0 z21z [])(hW:bY K C "ways_of" fW)(cM:Cl P w K mg base 2 fM f2 ["body"] gi "many_cuts")(cU:Cl P w K mg base 31 fU f3 z3z (fQ 7) "used_ahead_of")(cD:Cl P w K mg base 1 fD f4 z4z gZ "deed_of")(ml:mg "len"=none)(m0:mg "tuple"=none):aj P w K mg base aA (4*n+33) f fd z7z (xC C n):=by
 refine F.ok tF ?_ λc0 A o1 s H vs Q E Y h=>?_
 ·rintro _ _ _ _ ⟨z,L,l,g,m,a,cs,j,v,bv,ys,s,rfl,_⟩;rfl
 obtain⟨z,L,l,g,m,a,cs,j,v,bv,ys,st,rfl,I,B,hd,hc,q⟩:=h;refine#[_,(je (jx 3 tF.nd$ jv kM (jv kM (zr (pv 0) Z)$ jI jD Z ml HR$ ja (zr (pv 0) Z) jb)$ cM.e Y.m$ ja (jh$ ja (pv 1) jb) jb)$ je (jx 4 tF.nd$ cU.e Y.m$ ja (pv 1)$ ja (jz$ pv 2) jb)$ je (jx 5 tF.nd$ jh$ ja (pv 4)$ ja (jh$ ja (jh jb)$ ja (jh$ ja jk$ ja (pv 3) jb) jb) jb)$ je (jx 6 tF.nd$ kO (pv 0) y.cl hW GW Y.m bW .nil bH$ ja (pv 1)$ ja (pv 5)$ ja (pv 2) jb)$ je (jP$ ki Hj Hz Hw jM (zr (pv 0) Z)$ ja (jh$ ja (jG jF Z m0 IE$ ja (pv 4) jb)$ ja (cD.e Y.m$ ja (pv 1) jb)$ ja (pv 6) jb) jb)$ jg$ jo$ pv 5),?_];have b0:=aF;obtain⟨br,ss,bw,rfl,h0,hN,h1⟩:=id I.p;have hz:=I.sz;have lc:=I.c.len;refine ai λF1 i=>#[_,Z,z,C,L,_,_,Z,I.c.ins,y.cl,y.nm,Z,_,Z,z,C,L,_,_,Z,I.c.ins,y.cl,y.nf,Z,l,_,Z,.inl$ aB.of I.c.fd,_,_,Z,Z,_,Z,gH,λu nu=>?_];have s1:ae H (af H u$ .tup [v]):=jd nu;refine#[u,st,_,Z,jc,(B.mono$ ae.tm s1).bd,RU,λH1 k1=>#[_,_,Z,Z,i _ _ ?_]];clear i;have S:=s1.trans k1;rw[lc];refine ai λF1 i=>#[_,Z,js (S _ _ h0) Z #[v,g,st,ss,j.M,ys,Z,B.mono$ ae.tm S,hN.same S,I.ok,RU,RU,λG zs H2 n2 N2 k2=>i _ _ ?_]];clear i;have s3:=S.trans k2;have N:G≠l:=λe=>by rw[e,S _ _ I.c.fd]at n2;cases n2
 refine ai λF1 i=>#[_,Z,ig,λe ne=>#[_,Z,bo,λU O=>#[bo,λx nx=>#[bo,λr nr=>i _ _ ?_]]]];clear i;have s4:ae H2 (af (af (af (af H2 e$ .tup []) U$ .tup [.str "go",.int$ m - (a.length:Int) - (st.cuts:Int)]) x$ .tup [.ref e,.ref U]) r$ .tup [.ref G,.ref x]):=(((jd ne).trans$ jd O).trans$ jd nx).trans (jd nr);have P4:md (af (af (af (af H2 e$ .tup []) U$ .tup [.str "go",.int$ m - (a.length:Int) - (st.cuts:Int)]) x$ .tup [.ref e,.ref U]) r$ .tup [.ref G,.ref x]) #[st.use j.M,#[[],.go$ m - (a.length:Int) - (st.cuts:Int)]] (.ref r) G ys:=
  #[r,zs,.ref x,Z,jc,N2.same s4,jC (am jc nr)$ jl Z (jC (am (am (am jc O) nx) nr) jB)$ jl Z (jC (am (am jc nx) nr)$ jl Z jO$ jl Z kc jB) jB]
 generalize af (af (af (af H2 e$ .tup []) U$ .tup [.str "go",.int$ m - (a.length:Int) - (st.cuts:Int)]) x$ .tup [.ref e,.ref U]) r (.tup [.ref G,.ref x])=H4 at s4 P4;have R:=s3.trans s4;have c5:=I.c.same R;refine ai λF1 i=>#[_,Z,z,L,_,Z,c5.ins,Z,_,Z,_,Z,_,Z,z,L,l,g,G,m,a,cs,j,_,v,.ref br,.ref r,ys,st,Z,#[c5,I.p.same R,I.ng,I.ok,I.sz],P4,N,Z,B.mono$ ae.tm R,hd,λwv D H6 w6 c6 k6=>i _ _ ?_];clear i;have t0:=c5.tm k6;have p6:=P4.but k6 c5.fd N;have z6:H6 G=some (.lst$ zs.map V.str):=k6 _ _ N (s4 _ _ N2.at');have ez:=N2.nm.canon;have l6:=c6.len;have lw:(gm m #[st.use j.M,#[[],.go$ m - (a.length:Int) - (st.cuts:Int)]] j a st).2.length+1=a.length+st.cuts:=by have:=kj m st j a;rw[X2 B hc m j a,GU]at this;exact this
 have cl:=kI st;refine ai λF1 i=>#[_,Z,z,C,L,_,_,Z,c6.ins,y.cl,y.nf,Z,.inl #[Z,_,aB.of c6.fd],_,Z,G,_,Z,.inl #[aB.of z6,λnt n0=>?_]];have s7:ae H6 (af H6 nt$ .tup$ zs.map V.str):=jd n0;refine#[_,Z,v,st,Z,((B.mono$ ae.tm R).mono t0).mono$ ae.tm s7,λd H8 d8 k8=>#[_,Z,dZ,λW J=>?_]];have X:=(s7.trans k8).trans (jd (o:=.tup [.ref nt,d,wv]) J);have t:=c6.same X;refine#[l,D,_,Z,Z,t.fd,RU,i _ _ ?_];clear i;have T9:aS (af H8 W$ .tup [.ref nt,d,wv]) (C8 #[st.use j.M,st.deed,(gm m #[st.use j.M,#[[],.go$ m - (a.length:Int) - (st.cuts:Int)]] j a st).1]) (.ref W) []:=by refine jC jc$ jl Z (jC (am (k8 _ _ jc) J) ?_)$ jl (Dc _) (d8.mono$ ae.tm$ jd J)$ jl Z (w6.mono$ ae.tm X) jB;rw[<- ez];exact XA zs
 have p9:=p6.same X;generalize af H8 W (.tup [.ref nt,d,wv])=H9 at X t T9 p9;have k:ar l H9 (af H9 l$ .lst$ D++[.ref W]):=λb o nb e=>by rw[ji nb];exact e
 have T:=t.tm k;have n1:z≠l:=λe=>by have:=t.ins;rw[e,t.fd]at this;cases this
 refine#[_,Z,q (.ref r) G (D++[.ref W]) _ ?_ N ?_ (λb o nb e=>k b o nb (X _ _$ k6 b o nb$ R _ _ e))]
 ·rw[X2 B hc m j a];exact p9.but k t.fd N
 ·rw[X2 B hc m j a];refine#[k _ _ n1 t.ins,jc,?_];rw[Hs];exact JW (jl Z (T9.mono T) jB)$ t.tr.mono T
inductive BI(C u j t a:Addr)(m:Int)(c:List Ct)(x:Pc)(f:V)(z:List Str)(b:Bd)(y:List V)(H:Hp)(i:Nat)(A:_L.St)(e:Hp):Prop
 |mk(d s:Bd)(v:V)(g:Addr)(h:List V)(w:Option V)(k:A=[some (.ref u),some (.ref a),some f,some v,w])(l:b=d.app s)(n:dj H d (y.take (y.length - i)))(o:md e (pB m s x c).1 v g z)(p:g≠t)(q:Cg e C u j t m (pB m s x c).2 h)(r:ar t H e)
theorem JX(m:Int):∀(b:Bd) (c:Pc) (F:List Ct),(pB m b c F).2.length+(pB m b c F).1.w.sets.length<=F.length+c.w.sets.length+b.size
 | .nil,_,_=>GV _
 | .lf p l r,c,F=>by
  have e:=JX m r c F;show(pL m p l$ pB m r c F).2.length+(pL m p l$ pB m r c F).1.w.sets.length<=F.length+c.w.sets.length+(r.size+1);cases l with
  |st x t T=>have:=XB x t (pB m r c F).1;show(pB m r c F).2.length+(gX x t (pB m r c F).1).sets.length<=_;omega
  |gv t T=>show(pB m r c F).2.length+0<=_;omega
  |rd x t T |wr t u T U |cl x f a d=>show((pB m r c F).2++[_]).length+0<=_;rw[GU];show _+1+0<=_;omega
 | .ite p t T x y r,c,F=>by have e:=JX m r c F;have h:=kI x;have H:=kI y;show((pB m x _ (pB m y _ _).2).2++[_]).length+0<=F.length+c.w.sets.length+(x.size+y.size+r.size+1);rw[GU,kj m x,kj m y];show _+1+0<=_;omega
 | .loop p t T x r,c,F=>by have e:=JX m r c F;have h:=kI x;show((pB m x _ _).2++[_]).length+0<=F.length+c.w.sets.length+(x.size+r.size+1);rw[GU,kj m x];show _+1+0<=_;omega
theorem Ft:ak z7z z7z (aa wY):=bL
theorem DF(F:aJ K "place_of" "Cutting.place_of" wY f fd)(ck:CK K C)(GC:aj P w K mg base aA (4*n+33) fC D z7z (xC C n))(bC:ay K D z7z [])(hC:bY K C "place_of_cut" fC)(cG:Cl P w K mg base 8 fG f0 z2z fq "place_of_give")(cS:Cl P w K mg base 11 fS f1 z3z hV "place_of_set"):aj P w K mg base aA (4*n+34) f fd z7z (BS C n):=by
 refine F.ok Ft ?_ λc0 A O s H vs Q E G h=>?_
 ·rintro _ _ _ _ ⟨r,J,fa,g,m,j,z,L,v,B,y,s,rfl,_⟩;rfl
 obtain⟨r,J,fa,g,m,j,z,L,v,B,y,st,rfl,I,M,hd,q⟩:=h;refine#[_,(je (jw (kh$ jz$ pv 1) (jg$ jo$ cG.e G.m$ ja (jz$ pv 1) jb) jp)$ je (jw (kh$ jz$ pv 1) (jg$ jo$ cS.e G.m$ ja (pv 1)$ ja (pv 2) jb) jp)$ jg$ jo$ kO (pv 0) ck.cl hC GC G.m bC .nil bH$ ja (pv 1)$ ja (pv 2) jb),?_];have hz:=I.sz;have R:=M;have i:st.isCut=true->iz (um C "place_of_cut" (xC C n) [] E0 (aX 0)$ al (aX 1)$ al (aX 2) aM) { nx:=λx k=>Q V.non k,rt:=Q } [some$ .ref r,some v,some B] H:=λhc=>
  #[_,Z,r,J,_,Z,I.c.ins,Z,_,Z,_,Z,r,J,fa,g,m,j,z,L,v,B,y,st,Z,I,M,hd,hc,q]
 cases M with
 |lf p l vs d o=>
  cases l with
  |rd x t T |wr t u T U |cl x f q2 ts=>obtain⟨rfl,_⟩:=o;refine(js d Z #[Z,_,Z,aO RW ?_]);refine(js d Z #[Z,_,Z,aO RW ?_]);exact i Z
  |gv t T=>
   obtain⟨rfl,hT⟩:=o;refine(js d Z #[Z,_,Z,bQ RW ?_]);clear i;have Y:y.length<=21:=by obtain⟨_,_,_,_,_,hN,_⟩:=I.p;exact hN.y20
   exact(js d Z #[t,T,y,Z,hT,I.ok.1,Y,λW X k p' N S=>q W X z k p' (λe=>by rw[e,I.c.fd]at N;cases N) (I.c.same S) (ar.of_same S)])
  |st x t T=>obtain⟨rfl,hT⟩:=o;refine(js d Z #[Z,_,Z,aO RW ?_]);refine(js d Z #[Z,_,Z,bQ RW ?_]);clear i;exact#[_,Z,_,Z,.ref p,B,p,t,x,T,L,g,y,Z,R,I.p,I.ok.1.1,I.ok.1.2,RU,λW X k p' N S=>q W X z k p' (λe=>by rw[e,I.c.fd]at N;cases N) (I.c.same S) (ar.of_same S)]
 |ite p t T a b qa qb as bs d h0 o h3 h4 h5 |loop p t T a qa as d h0 o h3=>refine(js d Z #[Z,_,Z,aO RW ?_]);refine(js d Z #[Z,_,Z,aO RW ?_]);exact i Z
theorem xp:ak ["self","body","behind","place","statement"] z11z (aa wU):=bL
theorem DB(F:aJ K "place_of_body" "Cutting.place_of_body" wU f fd)(ck:CK K C)(GO:aj P w K mg base aA (4*n+34) fO T z7z (BS C n))(bO:ay K T z7z [])(hO:bY K C "place_of" fO)(R:mg "reversed"=none):aj P w K mg base aA (4*n+35) f fd z11z (lU C$ n+1):=by
 refine F.ok xp ?_ λc1 A U s H vs Q E hr h=>?_
 ·rintro _ _ _ _ ⟨r,J,V,a,g,m,d,cs,xs,l,L,Y,b,rfl,_⟩;rfl
 obtain⟨r,J,V,a,g,m,d,cs,xs,l,L,Y,b,rfl,I,ha,hb,hd,q⟩:=h;refine#[_,(je (jx 3 xp.nd$ pv 2)$ je (j9 HM Z (@sw _ _ _ _ _ _ _ Z R Ot (pv 1) RT RT RX RX) (ju (i:=4) xp.nd Z$ Or.inl Z)$ jg$ jx 3 xp.nd$ kO (pv 0) ck.cl hO GO hr.m bO .nil bH$ ja (pv 4)$ ja (pv 3) jb)$ jg$ jo$ pv 3),?_];have b0:=aF;have hz:=I.sz;have xl:=hb.len;refine ai λF1 u=>#[_,Z,u _ _ ?_];clear u;refine ai λF1 u=>?_;refine dN λF kF=>#[_,Z,a,xs,Z,ax.of ha,kF _ _ ?_];clear kF;refine Xw (K:=K) (xs:=xs) (BI C r J V a m d l L Y b xs H) #[b,.nil,L,g,cs,_,Z,(qT b).symm,by rw[Nh,HY];exact hb,I.p,I.ng,I.c,ar.refl] (λi σ H' hi h=>?_) ?_ (λσ H' h=>u _ _ ?_)
 ·obtain⟨_,_,_,_,_,_,_,_,_,_,_,_,k⟩:=h;exact ax.of$ I.c.tm k _ _ ha
 ·clear u;intro E _ i x σ H2 M fE Gq t h;obtain⟨pre,eQ,v,W,o,o4,rfl,j,y,X,h4,N,O⟩:=h;have hi:i < xs.length:=by
   rcases MM i xs.length with z |z
   ·exact z
   ·rw[HU (by simpa using z)]at M;cases M
  rw[LY hi]at M;have et:xs.take (xs.length - i)=xs.take (xs.length - (i+1))++[x]:=by
   have D:xs.length - i=(xs.length - 1 - i)+1:=by omega
   have e2:xs.length - (i+1)=xs.length - 1 - i:=by omega
   rw[D,e2,ID,M];rfl
  rw[et]at y;rcases y.last with ⟨e,_⟩ | ⟨ws,v',B,S,D,e2,h6,h7⟩
  ·exact absurd e RV
  obtain⟨ew,ev⟩:=OZ D Z;cases ev;subst e2;have h0:=zJ (j▸I.ok);have G:=zJ h0.1;have a1:b.dep=max (B.app S).dep eQ.dep:=by rw[j,zk]
  have a2:(B.app S).dep=max B.dep S.dep:=zk ..;have h8:S.dep<=b.dep:=by rw[a1,a2];exact Hh (L9 ..)$ Mg ..
  clear a1 a2;have h':b.size=B.size+S.size+eQ.size:=by rw[j,jW,jW]
  have hl:=kj m eQ l d;have a0:=kI eQ;have a3:=Y9 m eQ l d;have a4:(pB m eQ l d).1.w.sets.length+(pB m eQ l d).2.length+S.size<=10000000:=by have:=JX m eQ l d;omega
  refine t ?_;clear t;have tm:=I.c.tm O;show dU _ _ E [some$ .ref r,some$ .ref a,some L,some v,some x] H2;refine#[_,Z,r,J,_,Z,N.ins,Z,_,Z,_,Z,r,J,V,W,m,_,o,_,x,v,Y,S,Z,#[N,X,h4,G.2,RU],h7.mono tm,RU,λv3 g3 c0 H3 p3 n3 c3 k3=>fE _ _ #[B,S.app eQ,v3,g3,c0,_,Z,by rw[j,zT],?_,by rw[Kj];exact p3,n3,by rw[Kj];exact c3,O.trans k3]];rw[ew];exact h6
 ·obtain⟨pre,eQ,v,W,o,o4,rfl,j,y,X,h4,N,O⟩:=h;rw[ML]at y;have ep:pre= .nil:=by
   rcases y.last with ⟨_,e⟩ | ⟨ws,v,B,S,D,_⟩
   ·exact e
   ·exact absurd D RV
  rw[ep]at j;refine#[_,Z,q v W o H' ?_ h4 ?_ O]
  ·rw[j];exact X
  ·rw[j];exact N
theorem Dy:aj P w K mg base aA k f i z11z (lU C 0):=by
 have n:∀v H Q E,¬lU C 0 v H Q E:=λv H Q E h=>by obtain⟨I,D,F,a,g,m,d,j,x,p,B,y,b,_,_,_,_,e,_⟩:=h;exact absurd e$ Mf _
 exact#[λv H Q E h=>absurd h (n v H Q E),λA o s H c u v Q E _ _ _ _ h=>absurd h (n v H Q E)]
theorem Gf(c:CK K C)(FB:aJ K "place_of_body" "Cutting.place_of_body" wU g f)(F:aJ K "place_of" "Cutting.place_of" wY A a)(i:aJ K "place_of_cut" "Cutting.place_of_cut" wV D b)(j:aJ K "ways_of" "Cutting.ways_of" xj E d)
  (B:ay K f z11z []) (H:bY K C "place_of_body" g) (k:ay K a z7z []) (l:bY K C "place_of" A) (o:ay K b z7z []) (p:bY K C "place_of_cut" D) (q:ay K d z21z []) (r:bY K C "ways_of" E)
  (s:Cl P w K mg base 2 T G ["body"] gi "many_cuts") (t:Cl P w K mg base 31 U I z3z (fQ 7) "used_ahead_of") (u:Cl P w K mg base 1 Y J z4z gZ "deed_of") (v:Cl P w K mg base 8 fG L z2z fq "place_of_give") (x:Cl P w K mg base 11 fS N z3z hV "place_of_set") (y:mg "len"=none) (m:mg "tuple"=none) (M:mg "reversed"=none):
  ∀n:Nat,n<=8->aj P w K mg base aA (4*n+31) g f z11z (lU C n)
 |0,_=>Dy
 |n+1,h=>by
  have O:=Gf c FB F i j B H k l o p q r s t u v x y m M n RU;have Q:=DG j c O B H;have R:=DC i c RU Q q r s t u y m;have S:=DF F c R o p v x;have z:=DB FB c S k l M;have e:4*n+35=4*(n+1)+31:=by omega
  rw[e]at z;exact z
theorem wG{X:Cx}{K:Frag}{n:Nat}(a:X.K=K)(b:X.calm=true)(h:Cz X e t)
  (c:(assignEach e X.env).length=n) (H:(assignEach e X.env).findIdx? (·.1)=none):PG X (.Tuple e k p) (pX K n t):=by
 subst a;exact kU b h c H
def DT(K:Frag):List V->Hp->VK->Prop:=λx H Q=>∃p y,x=[.ref p]/\(aB K H p y∨ax K H p y)/\Q (.int y.length) H
theorem Z0{X:Cx}{K:Frag}(h:X.K=K):dm X (.builtin "len") (DT K):=by subst h;exact jD
abbrev g3(K:Frag)(i j k:Nat):TG:=pX K 3 (dE (bp i)$ dE (bp j)$ dE (bp k) vC)
theorem Fi{t:_L.St}(h:t.length=3):∃a b c,t=[a,b,c]:=by
 cases t with
 |nil=>cases h
 |cons a r=>
  cases r with
  |nil=>cases h
  |cons b R=>
   cases R with
   |nil=>cases h
   |cons c d=>
    cases d with
    |nil=>exact#[a,b,c,Z]
    |cons _ _=>cases h
noncomputable abbrev sU:Stmt:=bM 32
noncomputable abbrev nP:Stmt:=bM 33
structure Df where
 f:Str
 p:Addr
 pa:Addr
 pb:Addr
 b:Bd
def xV(H:Hp)(d:Df)(v:V):Prop:=∃B,v= .ref d.p/\H d.p=some (.tup [.str d.f,.ref d.pa,.ref d.pb])/\H d.pb=some (.tup B)/\dj H d.b B
def cw(H:Hp):List Df->List V->Prop
 | [],a=>a=[]
 |d::D,a=>∃v r,a=v::r/\xV H d v/\cw H D r
theorem xV.mono(k:ah H a)(h:xV H d v):xV a d v:=by obtain⟨b,e,c,f,g⟩:=h;exact#[b,e,k _ _ c,k _ _ f,g.mono k]
theorem cw.mono(k:ah H b):∀{a:List V},cw H D a->cw b D a:=by
 induction D with
 |nil=>exactλh=>h
 |cons d D i=>rintro a ⟨v,r,e,c,f⟩;exact#[v,r,e,c.mono k,i f]
theorem cw.snoc{d:Df}(a:xV H d v):∀{D:List Df} {b:List V},cw H D b->cw H (D++[d]) (b++[v])
 | [],_,h=>by have e:_=[]:=h;rw[e];exact#[v,[],Z,a,Z]
 |_::_,_,z=>by obtain⟨u,r,e,c,f⟩:=z;exact #[u,r++[v],by rw[e];rfl,c,cw.snoc a f]
theorem cw.len:∀{d:List Df} {v:List V},cw H d v->v.length=d.length
 | [],_,h=>by have e:_=[]:=h;rw[e];rfl
 |_::_,_,z=>by obtain⟨u,r,e,b,a⟩:=z;rw[e,Hv,Hv,cw.len a]
theorem cw.at:∀{D:List Df} {b:List V},cw H D b->∀(i:Nat) (v:V),b[i]?=some v->∃d,D[i]?=some d/\xV H d v
 | [],_,h,i,v,a=>by have e:_=[]:=h;rw[e]at a;simp at a
 |d::_,_,q,0,v,a=>by obtain⟨u,r,e,c,f⟩:=q;rw[e]at a;cases a;exact#[d,Z,c]
 |_::D,_,q,i+1,v,a=>by obtain⟨u,r,e,c,f⟩:=q;rw[e]at a;simpa using cw.at f i v (by simpa using a)
def mv(d:Df):Prop:=(∃y:List Str,y.length<=20/\d.b.Ok y)/\d.b.dep < 8/\d.b.size<=3000
noncomputable def Fn(n:Addr):Pc:=#[λx=>x∈(Tm.num 0).vars,#[[],.give n]]
noncomputable def gN(n:Addr)(d:Df):Pc×List Ct:=pB (d.b.cuts:Int) d.b (Fn n) []
noncomputable def eY(n:Addr)(d:Df):Tr:=ba [bh d.f,oM d.pa,gw (gN n d).1.w,ba ((gN n d).2.reverse.map C8)]
def my(K:Frag)(n:Addr):Prop:=∀H:Hp,ax K H n [.str "num",.int 0]
inductive n9(C:Addr)(f:List V)(H:Hp)(Q:VK)(c:XK):Prop
 |mk(e d a:Addr)(b:Bd)(g:List V)(_:f=[.ref e,.ref a])(_:H e=some (.ins C d []))(_:H a=some (.tup g))(_:dj H b g)(_:b.size<=10000000)(_:∀(fa:Addr) (H':Hp),H fa=none->Cg H' C e d fa (b.cuts:Int) [] []->ar e H H'->Q .non H')
inductive j'(K:Frag)(c:Addr)(e:List V)(H:Hp)(Q:VK)(a:XK):Prop
 |mk(d:Df)(b:List V)(_:e=[.str d.f,.ref d.pa,.ref d.pb])(_:H d.pb=some (.tup b))(_:dj H d.b b)(_:mv d)(_:∀(v:V) (H':Hp),aS H' (eY c d) v []->ae H H'->Q v H')
inductive i8(K:Frag)(e:Addr)(f:List V)(H:Hp)(Q:VK)(b:XK):Prop
 |mk(a:Addr)(c:List Df)(g:List V)(_:f=[.ref a])(_:H a=some (.tup g))(_:cw H c g)(_:c.length<=1000)(_:∀d∈c,mv d)(_:∀(v:V) (H':Hp),aS H' (ba (c.map (eY e))) v []->ae H H'->Q v H')
theorem Z1{K:Frag}{t:TE}{Q:List V->Hp->Prop}{H:Hp}(x:H a=some (.tup g))(u:cw H D g)(R:D.length<=1000)
  (Pv:Nat->List V->Hp->Prop) (z:Pv 0 [] H) (A:∀i Y h,Pv i Y h->ae H h/\Y.length<=i)
  (C:∀i d B Y h,D[i]?=some d->h d.pb=some (.tup B)->dj h d.b B->Pv i Y h->t (some (.str d.f)::some (.ref d.pa)::some (.ref d.pb)::l) h λy j=>Pv (i+1) (Y++[y]) j)
  (E:∀Y h,Pv D.length Y h->Q Y h):eB (u5 K a) 3 l (g3 K 0 1 2) lV t Q H:=by
 have F:=aF;have S:=u.len;refine#[λi m Y h=>m=D.length - i/\i<=D.length/\Pv i Y h,#[D.length,RV,Hg _,z],?_];intro i m Y h c;obtain⟨rfl,T,p⟩:=c;obtain⟨s,U⟩:=A i Y h p;have c:ax K h a g:=ax.of (s _ _ x);by_cases n:i < D.length
 ·have I:i < g.length:=by omega
  refine .inr #[#[g,g[i],c,GN I],RU,Pv$ i+1,λJ j L=>#[D.length - (i+1),RU,Z,n,L],λv j W o y=>?_];obtain⟨e,y⟩:=y;subst e;have q:=y g c;obtain⟨d,r,B,rfl,M,N,O⟩:=(u.mono$ ae.tm s).at i v q;obtain⟨X,t2,t3,rfl⟩:=Fi o;refine#[d.p,_,Z,ax.of M,Z,_,_,Z,_,_,Z,_,_,Z,Z,#[[some _,some _,some _],Z,Z],?_];exact C i d B Y j r N O p
 ·have e:i=D.length:=by omega
  subst e;exact .inl #[#[g,c,RU],E Y h p]
theorem D2:ak ["self","body"] ["self","body"] (aa sS):=bL
theorem AY(F:aJ K "__init__" "Cutting.__init__" sS f t)(d:CK K C)(u:Cl P w K mg base 2 M v ["body"] gi "many_cuts"):aj P w K mg base aA 3 f t ["self","body"] (n9 C):=by
 refine F.ok D2 ?_ λy A O s H V Q E B h=>?_
 ·rintro _ _ _ _ ⟨i,D,a,b,x,rfl,_⟩;rfl
 obtain⟨i,D,a,b,x,rfl,G,I,J,L,q⟩:=h;refine#[_,(je (@qG _ _ _ _ _ _ _ _ (pv 0) (u.e B.m$ ja (pv 1) jb) Z)$ jg$ @qG _ _ _ _ _ _ _ _ (pv 0) (jE jb) Z),?_];refine ai λS l=>#[_,Z,a,b,x,Z,I,J,L,λT k=>#[_,Z,i,C,D,_,Z,k _ _ G,d.cl,d.nm,RT,l _ _ ?_]];clear l;refine#[ig,λg n=>#[_,Z,i,C,D,_,Z,am jc n,d.cl,d.nf,(by show 1 < 1000;decide),?_]];have N:g≠i:=λe=>by rw[e,jc]at n;cases n
 have p:H g=none:=by
  cases e:H g with
  |none=>rfl
  |some o=>rw[ji N,k _ _ e]at n;cases n
 refine q g _ p #[jc,by rw[ji N,jc],Z] λc o r e=>?_;rw[ji r,ji (λz=>by rw[z,p]at e;cases e),ji r];exact k _ _ e
theorem mZ:ak ["name","params","body","cutting","first"] z17z (aa sU):=bL
theorem wc(F:aJ K "part_made" "part_made" sU f fd)(t:CK K C)(mk:Mk K C fI)(GI:aj P w K mg base aA 3 fI u ["self","body"] (n9 C))(bI:ay K u ["self","body"] [])(mC:mg "Cutting"=some (.ref C))(M:mg "NOUGHT"=some (.ref n))(no:my K n)(GB:aj P w K mg base aA 63 fB x z11z (lU C 8))(bB:ay K x z11z [])(hB:bY K C "place_of_body" fB)(cG:Cl P w K mg base 8 fG f0 z2z (oh K) "place_of_give")(y:mg "tuple"=none)(z:mg "reversed"=none):aj P w K mg base aA 64 f fd z17z (j' K n):=by
 refine F.ok mZ ?_ λc0 A O s H vs Q E B h=>?_
 ·rintro _ _ _ _ ⟨d,G,rfl,_⟩;rfl
 obtain⟨d,G,rfl,hb,a,I,q⟩:=h;refine#[_,(je (jx 3 mZ.nd$ YW mk GI B.m Z mC bI .nil bH$ ja (pv 2) jb)$ je (jx 4 mZ.nd$ kO (pv 3) t.cl hB GB B.m bB .nil bH$ ja (pv 2)$ ja (cG.e B.m$ ja (qt (v:=.ref n) Z M Z) jb) jb)$ jg$ jo$ jh$ ja (pv 0)$ ja (pv 1)$ ja (jz$ pv 4)$ ja (@ZT _ _ _ _ _ _ _ _ _ Z Z y IE Z z Ot (zr (pv 3) Z) RT RT RT RT RX RX RX RX) jb),?_];have b0:=aF;obtain⟨⟨ys,y0,ok⟩,J,hz⟩:=I;refine ai λF1 j=>#[_,Z,λi D N L n0=>?_];have S:ae H (af (af H D$ .own i) i$ .ins C D []):=λc o e=>by rw[ji$ jm e N,ji$ jm e L];exact e
 refine#[i,D,d.pb,d.b,G,Z,jc,S _ _ hb,a.mono$ ae.tm S,RU,λp H1 nf R k1=>#[Z,j _ _ ?_]];clear j;have s1:ae H H1:=λc o e=>k1 c o (jm e N) (S _ _ e);have T:H p=none:=S.free nf;refine ai λF1 j=>#[_,Z,i,D,_,Z,R.ins,Z,_,Z,n,ys,Z,no _,RU,λv g H2 p2 n2 k2=>?_];have ng:g≠p:=λe=>by rw[e,R.fd]at n2;cases n2
 have U:=s1.trans k2;refine#[i,D,p,d.pb,g,_,[],[],G,Fn n,v,ys,d.b,Z,#[R.same k2,p2,ng,ok,by show 0+0+d.b.size<=_;omega],U _ _ hb,a.mono$ ae.tm U,J,λv3 g3 k V p3 n3 W k3=>j _ _ ?_];clear j;obtain⟨r3,w3,rfl,X,Y⟩:=uJ p3;have s3:ae H V:=λc o e=>k3 c o (jm e T) (U _ _ e);refine#[_,Z,_,Z,js X Z #[_,Z,i,C,D,_,_,Z,W.ins,t.cl,t.nf,Z,p,k,Z,aB.of W.fd,λl nl=>#[oW,λr nr=>?_]]];have s5:ae V (af (af V l$ .tup k.reverse) r$ .tup [.str d.f,.ref d.pa,w3,.ref l]):=(jd nl).trans (jd nr);refine q (.ref r) _ ?_$ s3.trans s5;refine jC jc$ jl Z jO$ jl Z Jo$ jl Z (Y.mono$ ae.tm s5)$ jl Z (jC (am jc nr) ?_) jB;have e:=Y8 (W.tr.mono$ ae.tm s5);rw[<- List.map_reverse]at e;exact e
theorem BL:ak ["program"] ["program"] (aa nP):=bL
noncomputable def tR:Scope:=#[.function,[(".0",.local),("name",.local),("params",.local),("body",.local),("part_made",.globalImplicit)],false,false,[]]
theorem rH:(z17z:List Str).Nodup:=by decide+kernel
theorem C6:aZ ["program"] (aa nP) tR z17z 3 []:=nC
theorem v0(F:aJ K "made" "made" nP f p)(C:Cl P w K mg base 64 U t z17z (j' K N) "part_made")(M:mg "tuple"=none):aj P w K mg base aA 65 f p ["program"] (i8 K N):=by
 refine F.ok BL ?_ λu A o s H V Q E x h=>?_
 ·rintro _ _ _ _ ⟨a,D,X,rfl,_⟩;rfl
 obtain⟨a,D,X,rfl,g,y,B,O,q⟩:=h;refine#[_,(jg$ jo$ jG jF Z M IE$ ja (@kE _ _ _ _ _ _ _ (z17z) (3) ([]) _ _ _ _ Z (qi$ pv 0) C6 (λ_ _ _ _ _=>(wG (K:=K) (n:=3) Z Z (jy (ju (i:=0) rH Z$ Or.inl Z)$ jy (ju (i:=1) rH Z$ Or.inl Z)$ jy (ju (i:=2) rH Z$ Or.inl Z) j5) Z Z)) (λ_ _ _ _ _=>(@zi _)) (λ_ _ _ _ _=>(C.e x.m$ ja (pv 0)$ ja (pv 1)$ ja (pv 2) jb)) (by intro _;rfl)) jb),?_];refine#[_,Z,a,Z,#[_,ax.of g],?_];refine Z1 g y B (λi V b=>aS b (aC ((D.take i).map$ eY N)) .non V/\ae H b/\i<=D.length) #[Z,ae.refl _,Hg _] (λi V b h=>#[h.2.1,?_]) (λi d G V b c I J h=>?_) (λV b h l L=>?_)
 ·rw[zG h.1,GQ,HF];exact NB ..
 ·have R:i < D.length:=by
   rcases MM i D.length with z |z
   ·exact z
   ·rw[HU z]at c;cases c
  refine#[_,Z,_,Z,_,Z,d,G,Z,I,J,O d$ Hf c,λv Y T j=>#[?_,h.2.1.trans j,R]];rw[ID,c,Hs];exact JW (jl Z T jB)$ h.1.mono$ ae.tm j
 ·refine#[l,V,Z,.inl #[aB.of jc,λr S=>?_]];have s:ae b (af (af b l$ .lst V) r$ .tup V):=(jd L).trans (jd S);refine q (.ref r) _ (jC jc ?_)$ h.2.1.trans s;have e:=h.1;rw[HY]at e;exact e.mono$ ae.tm s
noncomputable abbrev sX:Stmt:=bM 59
noncomputable abbrev sY:Stmt:=bM 60
noncomputable abbrev nM:Stmt:=bM 61
def aH(p q:Addr)(H h:Hp):Prop:=∀b o,b≠p->b≠q->H b=some o->h b=some o
theorem aH.refl:aH p q H H:=λ_ _ _ _ h=>h
theorem aH.trans(a:aH p q H d)(b:aH p q d e):aH p q H e:=λc o n m h=>b c o n m (a c o n m h)
theorem ar.two(a:ar p H b):aH p q H b:=λc o n _ h=>a c o n h
theorem aH.of_same(a:ae H b):aH p q H b:=λc o _ _ h=>a c o h
theorem aH.at:aH p q H (af H q o):=λb u _ m e=>by rw[ji m];exact e
def cf(H:Hp)(q:Addr):Prop:=∃k:Int,H q=some (.lst [.int k])
theorem cf.new{o:HO}(h:cf H q)(n:H r=none):cf (af H r o) q:=let #[k,e]:=h;#[k,am e n]
theorem cf.ne(h:cf H q)(B:ao H p):q≠p:=by obtain⟨k,e⟩:=h;obtain⟨a,b,_,_,_,d⟩:=B.ob;exact jN e d (by intro z;cases z)
theorem cf.but(h:cf H q)(B:ao H p)(k:ar p H a):cf a q:=by have n:=h.ne B;obtain⟨z,e⟩:=h;exact#[z,k _ _ n e]
theorem aH.tm(k:aH p q H h)(B:ao H p)(s:cf H q):ah H h:=λb x e=>by obtain⟨a,c,_,_,_,f⟩:=B.ob;obtain⟨z,g⟩:=s;exact k b _ (jN e f (by intro w;cases w)) (jN e g (by intro w;cases w)) e
noncomputable def cr(H:Hp)(q:Addr):Int:=match H q with
 |some (.lst [.int k])=>k
 |_=>0
theorem zK{H:Hp}(e:H q=some (.lst [.int k])):cr H q=k:=by unfold cr;rw[e]
theorem QO{h:Hp}(s:cf H q)(k:∀o,H q=some o->h q=some o):cr h q=cr H q:=by obtain⟨z,e⟩:=s;rw[zK e,zK$ k _ e]
theorem jT(B:ao H p)(s:cf H q)(k:ar p H h):cr h q=cr H q:=QO s λo e=>k _ _ (s.ne B) e
theorem jX(s:cf H q)(k:ae H h):cr h q=cr H q:=QO s λo e=>k _ _ e
def Et(H:Hp)(c:Str×List Str)(v:V):Prop:=∃p t,v= .ref p/\H p=some (.tup [.str c.1,.ref t])/\H t=some (.tup$ c.2.map V.str)
def dw(H:Hp):List (Str×List Str)->List V->Prop
 | [],a=>a=[]
 |c::C,a=>∃v r,a=v::r/\Et H c v/\dw H C r
theorem dw.mono(k:ah H b):∀{c:List (Str×List Str)} {a:List V},dw H c a->dw b c a
 | [],_,h=>h
 |_::_,_,z=>by obtain⟨v,r,e,⟨p,t,E,d,f⟩,g⟩:=z;exact #[v,r,e,#[p,t,E,k _ _ d,k _ _ f],dw.mono k g]
theorem dw.snoc(a:Et H c v):∀{C:List (Str×List Str)} {b:List V},dw H C b->dw H (C++[c]) (b++[v])
 | [],_,h=>by have e:_=[]:=h;rw[e];exact#[v,[],Z,a,Z]
 |_::_,_,z=>by obtain⟨u,r,e,d,f⟩:=z;exact #[u,r++[v],by rw[e];rfl,d,dw.snoc a f]
theorem dw.len:∀{c:List (Str×List Str)} {v:List V},dw H c v->v.length=c.length
 | [],_,h=>by have e:_=[]:=h;rw[e];rfl
 |_::_,_,z=>by obtain⟨u,r,e,b,a⟩:=z;rw[e,Hv,Hv,dw.len a]
theorem dw.at:∀{C:List (Str×List Str)} {b:List V},dw H C b->∀(i:Nat) (v:V),b[i]?=some v->∃c,C[i]?=some c/\Et H c v
 | [],_,h,i,v,a=>by have e:_=[]:=h;rw[e]at a;simp at a
 |c::_,_,q,0,v,a=>by obtain⟨u,r,e,d,f⟩:=q;rw[e]at a;cases a;exact#[c,Z,d]
 |_::C,_,q,i+1,v,a=>by obtain⟨u,r,e,d,f⟩:=q;rw[e]at a;simpa using dw.at f i v (by simpa using a)
theorem Bw(h:dw H C a)(i:0<=k)(j:k < (a.length:Int)):∃v c,du a k=some v/\c∈C/\Et H c v:=by
 have b:k.toNat < a.length:=by omega
 have d:k=((k.toNat:Nat):Int):=by omega
 have E:a[k.toNat]?=some a[k.toNat]:=GN b;have e:du a ((k.toNat:Nat):Int)=some a[k.toNat]:=jQ E;rw[<- d]at e;obtain⟨c,f,g⟩:=h.at _ _ E;exact#[_,c,e,Hf f,g]
def Bd.fit(h:List (Str×List Str))(y:List Str)(d:Nat)(b:Bd):Prop:=(b.Ok y/\b.Cs (h.map λc=>(c.1,c.2.length)))/\b.dep<=d
theorem Za:Bd.fit h y d .nil:=#[#[trivial,trivial],Hg _]
theorem Am{H:List (Str×List Str)}{l:Lf}(h:l.Ok y)(k:l.Cs (H.map λc=>(c.1,c.2.length))):Bd.fit H y d (.lf p l .nil):=#[#[#[h,trivial],k,trivial],Hg _]
theorem Zb{a b:Bd}(h:a.fit H y d)(k:b.fit H y d):(a.app b).fit H y d:=#[#[Ki h.1.1 k.1.1,Kh h.1.2 k.1.2],by rw[zk];have:=h.2;have:=k.2;omega]
theorem vA{a b:Bd}(c:de y T)(h:a.fit H y d)(k:b.fit H y d):Bd.fit H y (d+1) (.ite p t T a b .nil):=#[#[#[c,h.1.1,k.1.1,trivial],h.1.2,k.1.2,trivial],by show max (max a.dep b.dep+1) 0<=d+1;have:=h.2;have:=k.2;omega]
theorem pT{a:Bd}(H:de y T)(h:a.fit b y d):Bd.fit b y (d+1) (.loop p t T a .nil):=#[#[#[H,h.1.1,trivial],h.1.2,trivial],by show max (a.dep+1) 0<=d+1;have:=h.2;omega]
noncomputable def Gg:Nat->Nat
 |0=>1
 |d+1=>1+2*(5*Gg d)
inductive hZ(b:List V)(H:Hp)(Q:VK)(a:XK):Prop
 |mk(p g:Addr)(c:List Str)(_:b=[.ref p,.ref g])(_:ao H p)(_:H g=some (.lst (c.map V.str)))(_:1<=c.length)(_:c.length<=20)(_:∀(r:Addr) (T:Tm) (H':Hp),be H' T r->de c T->ao H' p->ar p H H'->Q (.ref r) H')
structure l8(H:Hp)(p g h sp:Addr)(ys:List Str)(hs:List (Str×List Str)):Prop where
 B:ao H p
 g:H g=some (.lst$ ys.map V.str)
 y1:1<=ys.length
 y2:ys.length<=20
 h:∃hv,H h=some (.lst hv)/\dw H hs hv
 h1:1<=hs.length
 h2:hs.length<=20
 h3:∀c∈hs,c.2.length<=6
 s:cf H sp
theorem l8.gsp{H:Hp}{p g h S:Addr}{y:List Str}{b:List (Str×List Str)}(G:l8 H p g h S y b):g≠S:=by
 obtain⟨k,e⟩:=G.s;refine jN G.g e λz=>?_;injection z with z;have c:=G.y1
 match y,c,z with
 |a::r,_,z=>injection z with d _;cases d
theorem l8.hsp{H:Hp}{p g h S:Addr}{y:List Str}{f:List (Str×List Str)}(G:l8 H p g h S y f):h≠S/\h≠p:=by
 obtain⟨k,e⟩:=G.s;obtain⟨j,E,l⟩:=G.h;obtain⟨a,b,_,_,_,m⟩:=G.B.ob;have n:=G.h1;have:∃q r,j= .ref q::r:=by
  match f,n,l with
  |c::C,_,#[v,r,e,#[q,t,o,_],_]=>exact#[q,r,by rw[e,o]]
 obtain⟨q,r,rfl⟩:=this;refine#[jN E e λz=>?_,jN E m λz=>?_]
 ·injection z with z;injection z with d _;cases d
 ·injection z with z;injection z with d _;cases d
theorem l8.but2{H a:Hp}{p g h S:Addr}{y:List Str}{b:List (Str×List Str)}(G:l8 H p g h S y b)(B:ao a p)(s:cf a S)(k:aH p S H a):l8 a p g h S y b:=by obtain⟨c,e,E⟩:=G.h;exact#[B,k _ _ (zu G.B G.g) G.gsp G.g,G.y1,G.y2,#[c,k _ _ G.hsp.2 G.hsp.1 e,E.mono$ k.tm G.B G.s],G.h1,G.h2,G.h3,s]
theorem l8.but{H a:Hp}{p g h S:Addr}{y:List Str}{b:List (Str×List Str)}(G:l8 H p g h S y b)(B:ao a p)(k:ar p H a):l8 a p g h S y b:=G.but2 B (G.s.but G.B k) k.two
inductive iF(n:Nat)(f:List V)(H:Hp)(Q:VK)(a:XK):Prop
 |mk(p g h e:Addr)(d:Nat)(i:List Str)(c:List (Str×List Str))(_:f=[.ref p,.ref g,.ref h,.ref e,.int (d:Int)])(_:l8 H p g h e i c)(_:d < n)(_:0 < cr H e)(_:∀(r:Addr) (b:Bd) (H':Hp),dj H' b [.ref r]->(b.size:Int)+cr H' e<=cr H e->0<=cr H' e->b.fit c i d->ao H' p->cf H' e->aH p e H H'->Q (.ref r) H')
inductive gg(n:Nat)(f:List V)(H:Hp)(Q:VK)(a:XK):Prop
 |mk(p g h e:Addr)(d:Nat)(i:List Str)(c:List (Str×List Str))(_:f=[.ref p,.ref g,.ref h,.ref e,.int (d:Int)])(_:l8 H p g h e i c)(_:d < n)(_:0<=cr H e)(_:∀(r:Addr) (b:Bd) (bs:List V) (H':Hp),H' r=some (.tup bs)->dj H' b bs->(b.size:Int)+cr H' e<=cr H e->0<=cr H' e->b.fit c i d->ao H' p->cf H' e->aH p e H H'->Q (.ref r) H')
theorem tO:ak ["_law_box_here","_law_names_here","_law_kind"] z25z (aa sX):=bL
theorem wj(F:aJ K "_law_spot" "_law_spot" sX f M)(C:Cl P w K mg base 1 Y N z0z aL "_law_take")(O:Cl P w K mg base 6 fM R z9z (cy 4) "_law_term"):aj P w K mg base aA 7 f M z25z hZ:=by
 refine F.ok tO ?_ λS A o s H vs Q E a h=>?_
 ·rintro _ _ _ _ ⟨p,g,y,rfl,_⟩;rfl
 obtain⟨p,g,y,rfl,B,I,i,j,q⟩:=h;refine#[_,(je (jx 2 tO.nd$ C.e a.m$ ja (pv 0)$ ja jf jb)$ je (jw (jA qL (pv 2) jf$ aE _) (jg$ jo$ O.e a$ ja (pv 0)$ ja (pv 1)$ ja jf jb) jp)$ je (jw (kJ$ pv 2) (jg$ jo$ jh$ ja jk$ ja (jv kM (jv kM (jv Kf jf jf) jf)$ C.e a.m$ ja (pv 0)$ ja jf jb) jb) jp)$ jg$ jo$ jh$ ja jk$ ja (C.e a.m$ ja (pv 0)$ ja jf jb) jb),?_];have k:g≠p:=zu B I;refine#[_,Z,p,8,Z,B,RT,RT,λkd J k0 k1 l L=>?_];have t:J g=some (.lst$ y.map V.str):=by rw[L g k];exact I
 have u:ar p H J:=ar.of_eq L;refine#[_,Z,_,_,Z,Z,_,Z,?_];refine bN (λc=>?_) (λc=>?_)
 ·exact#[_,Z,_,Z,p,g,1,y,Z,l,t,i,j,RT,RT,λr T v U dT W b X=>q r T v U #[W,RU] b (u.trans X)]
 refine#[_,Z,Z,_,Z,?_];refine bN (λc=>?_) (λc=>?_)
 ·refine#[_,_,Z,Z,#[RT,RT,RT],_,_,Z,Z,_,Z,p,4,Z,l,RT,RT,λD v d x b z=>#[_,_,Z,Z,bo,λr n=>?_]];exact q r (.num (1000000000000000000 - 1 - D)) _ jc #[#[RU,RU],(by show 0 < 6;decide)] (b.upd_new n) ((u.trans$ ar.of_eq z).upd_new n)
 ·refine#[_,Z,p,12,Z,l,RT,RT,λD v d x b z=>#[bo,λr n=>?_]];exact q r (.num D) _ jc #[#[d,RU],(by show 0 < 6;decide)] (b.upd_new n) ((u.trans$ ar.of_eq z).upd_new n)
theorem iE:ak z35z z6z (aa sY):=bL
noncomputable def Z2:Scope:=#[.function,[(".0",.local),("_law_one",.local),("_law_term",.globalImplicit),("_law_box_here",.free),("_law_names_here",.free)],false,false,[]]
theorem AE:(z31z:List Str).Nodup:=by decide+kernel
theorem Ad:aZ z35z (aa sY) Z2 z31z 1 [0,1]:=nC
def RH(p g h s:Addr)(d:Nat)(k:Int)(y:Str)(H:Hp)(a:_L.St)(b:Hp):Prop:=a=[some$ .ref p,some$ .ref g,some$ .ref h,some$ .ref s,some$ .int (d:Int),some$ .int k,some$ .str y,none,none,none]/\b=H
theorem A9(F:aJ K "_law_statement" "_law_statement" sY f fd)(cT:Cl P w K mg base 1 fT f0 z0z aL "_law_take")(cM:Cl P w K mg base 6 fM f3 z9z (cy 4) "_law_term")(cP:Cl P w K mg base 7 fP f4 z25z hZ "_law_spot"){L:Nat}(cB:Cl P w K mg base (L+9) fB f5 z6z (gg n) "_law_body")(ml:mg "len"=none)(m0:mg "tuple"=none):aj P w K mg base aA (L+10) f fd z6z (iF$ n+1):=by
 refine F.ok iE ?_ λc3 A o2 s H vs Q E U h=>?_
 ·rintro _ _ _ _ ⟨p,g,h,S,d,ys,hs,rfl,_⟩;rfl
 obtain⟨p,g,h,S,d,ys,hs,rfl,G0,hd,b1,q⟩:=h;refine#[_,(je (jx 5 iE.nd$ cT.e U.m$ ja (pv 0)$ ja jf jb)$ je (jx 6 iE.nd$ jr jq (pv 1) (cT.e U.m$ ja (pv 0)$ ja (jI jD Z ml HR$ ja (pv 1) jb) jb) (λ_ _=>Z))$ je (kW (jv kM (jr jq (pv 3) jf (λ_ _=>Z)) jf)$ qh (pv 3) jf zf)$ je (jw (jA qL (pv 5) jf$ aE _) (jg$ jo$ jh$ ja jk$ ja (pv 6)$ ja (cP.e U.m$ ja (pv 0)$ ja (pv 1) jb) jb) jp)$ je (jw (PW.pt$ Qm (kJ$ pv 5)$ Jj$ kJ$ pv 5) (jg$ jo$ jh$ ja jk$ ja (cP.e U.m$ ja (pv 0)$ ja (pv 1) jb)$ ja (cM.e U.m$ ja (pv 0)$ ja (pv 1)$ ja jf jb) jb) jp)$ je (jw (PW.pt$ Qm (kJ$ pv 5)$ Jj$ kJ$ pv 5) (je (kW (jr jq (pv 2) (cT.e U.m$ ja (pv 0)$ ja (jI jD Z ml HR$ ja (pv 2) jb) jb) (λ_ _=>Z))$ kU (n:=2) Z$ jy (ju (i:=7) iE.nd Z$ Or.inl Z)$ jy (ju (i:=8) iE.nd Z$ Or.inl Z) j5)$ jg$ jo$ jh$ ja jk$ ja (pv 6)$ ja (pv 7)$ ja (jG jF Z m0 IE$ ja (@kE _ _ _ _ _ _ _ (z31z) (1) ([0,1]) _ _ _ _ Z (qi$ pv 8) Ad (λ_ _ _ _ _=>(ju (i:=0) AE Z$ Or.inl Z)) (λ_ _ _ _ _=>(@zi _)) (λ_ _ _ _ _=>(cM.e U.m$ ja (pv 1)$ ja (pv 2)$ ja jf jb)) (by intro _;rfl)) jb) jb) jp)$ je (j4$ jw (PW.pt$ Jk (kJ$ pv 5)$ qu$ jA qM (pv 4) jf$ aE _) (je (jx 9 iE.nd$ cB.e U$ ja (pv 0)$ ja (pv 1)$ ja (pv 2)$ ja (pv 3)$ ja (jv kM (pv 4) jf) jb)$ jg$ jo$ jh$ ja jk$ ja (cM.e U.m$ ja (pv 0)$ ja (pv 1)$ ja jf jb)$ ja (pv 9)$ ja (cB.e U$ ja (pv 0)$ ja (pv 1)$ ja (pv 2)$ ja (pv 3)$ ja (jv kM (pv 4) jf) jb) jb) jp)$ je (j4$ jw (PW.pt$ Jk (kJ$ pv 5)$ qu$ jA qM (pv 4) jf$ aE _) (jg$ jo$ jh$ ja jk$ ja (cM.e U.m$ ja (pv 0)$ ja (pv 1)$ ja jf jb)$ ja (cB.e U$ ja (pv 0)$ ja (pv 1)$ ja (pv 2)$ ja (pv 3)$ ja (jv kM (pv 4) jf) jb) jb) jp)$ je (jw (kJ$ pv 5) (jg$ jo$ jh$ ja jk$ ja (cM.e U.m$ ja (pv 0)$ ja (pv 1)$ ja jf jb) jb) jp)$ jg$ jo$ jh$ ja jk$ ja (pv 6)$ ja (cM.e U.m$ ja (pv 0)$ ja (pv 1)$ ja jf jb) jb),?_];have b2:=aF;have B:=G0.B;have b4:g≠p:=zu B G0.g;refine ai λF1 u=>#[_,Z,p,10,Z,B,RT,RT,λkd H1 k0 k1 B1 e1=>u _ _ ?_];clear u;have G1:=G0.but B1 (ar.of_eq e1);have y1:=G0.y1;have y2:=G0.y2;refine ai λF1 u=>#[_,Z,_,Z,_,Z,g,_,Z,.inl$ aB.of G1.g,p,_,Z,B1,by rw[GQ];omega,by rw[GQ];omega,λd2 H2 d1 d0 B2 e2=>?_];rw[GQ]at d0;have G2:=G1.but B2 (ar.of_eq e2);obtain⟨y,hy,a2⟩:=Jn (ys:=ys) d1 d0;refine#[g,_,_,_,Z,Z,aB.of G2.g,a2,u _ _ ?_];clear u;obtain⟨k,hk⟩:=G2.s;have ek:cr H S=k:=((jT B1 G1.s$ ar.of_eq e2).trans$ jT B G0.s$ ar.of_eq e1).symm.trans (zK hk);refine ai λF1 u=>#[_,Z,S,_,_,_,Z,Z,aB.of hk,Z,_,_,Z,Z,_,Z,S,_,_,0,Z,Z,hk,Z,u _ _ ?_];clear u;have s0:=G2.s.ne B2;have B3:ao (af H2 S$ .lst ([.int k].set 0 (.int$ k - 1))) p:=B2.eq (ji$ HI s0);have s3:cf (af H2 S$ .lst ([.int k].set 0 (.int$ k - 1))) S:=#[k - 1,jc];have K3:aH p S H (af H2 S$ .lst ([.int k].set 0 (.int$ k - 1))):=((ar.of_eq e1).trans$ ar.of_eq e2).two.trans aH.at;have G:=G0.but2 B3 s3 K3;have e3:cr (af H2 S$ .lst ([.int k].set 0 (.int$ k - 1))) S=k - 1:=zK jc;generalize af H2 S (.lst ([.int k].set 0 (.int$ k - 1)))=H3 at B3 s3 K3 G e3;have l0:∀(l:Lf) (M:List V) (j:Hp) (r:Addr),u6 j l M->l.Ok ys->l.Cs (hs.map λc=>(c.1,c.2.length))->l8 j p g h S ys hs->aH p S H j->cr j S=k - 1->j r=none->Q (.ref r) (af j r$ .tup M):=λl M j r hl ok cs C K4 e4 nr=>
  q r (.lf r l .nil) _ #[M,[],Z,jc,hl.mono$ ae.tm$ jd nr,Z] (by rw[jX C.s$ jd nr];show((0+1:Nat):Int)+_<=_;omega) (by rw[jX C.s$ jd nr];omega) (Am ok cs) (C.B.upd_new nr) (C.s.new nr) (K4.trans$ aH.of_same$ jd nr)
 refine ai λF1 u=>nE λG' D=>#[_,Z,_,_,Z,Z,_,Z,D _ _ ?_];clear D;refine bN (λc=>?_) (λc=>u _ _ ?_)
 ·refine#[_,Z,_,Z,_,Z,p,g,ys,Z,G.B,G.g,y1,y2,λr T j W oT B4 J=>#[dZ,λt N=>?_]];exact l0 (.rd y r T) _ j t #[Z,W] #[hy,oT] trivial (G.but B4 J) (K3.trans J.two) ((jT G.B G.s J).trans e3) N
 have wr:∀(r:Addr) (T0:Tm) (j:Hp),be j T0 r->de ys T0->ao j p->ar p H3 j->dF (cy 4) [] E0 (al (aX 0)$ al (aX 1)$ al (tC$ .int 2) aM) [some$ .ref p,some$ .ref g,some$ .ref h,some$ .ref S,some$ .int (d:Int),some$ .int kd,some$ .str y,none,none,none] j (λv o=>3<=sizeLine/\∀t,o t=none->Q (.ref t) (af o t$ .tup [.str "write",.ref r,v])):=λr T0 j h4 o1 B4 J=>by refine#[_,Z,_,Z,p,g,2,ys,Z,B4,(G.but B4 J).g,y1,y2,RT,RT,λX T o W dT gT R a=>#[RT,λt N=>?_]];exact l0 (.wr r X T0 T) _ o t #[Z,h4.but B4 a,W] #[o1,gT,RU] trivial (G.but R$ J.trans a) (K3.trans (J.trans a).two) ((jT G.B G.s$ J.trans a).trans e3) N
 refine ai λF1 u=>nE λG' D=>?_;have Y:G' true H3:=D _ _ (oB #[_,Z,_,Z,p,g,ys,Z,G.B,G.g,y1,y2,λr T0 j h4 o1 B4 J=>wr r T0 j h4 o1 B4 J]);refine#[_,Z,Z,_,Z,bN (λc=>Y) (λc=>#[_,Z,Z,_,Z,x6 Y λc2=>D _ _ (aO c2$ u _ _ ?_)])];clear Y D u;obtain⟨hv,hh,hH⟩:=G.h;have hl:=hH.len;have h1:=G0.h1;have h2:=G0.h2;have c1:∀(f':Str) (ps:List Str) (h':(f',ps.length)∈hs.map λc=>(c.1,c.2.length)) (t:Addr) (j:Hp),l8 j p g h S ys hs->aH p S H j->cr j S=k - 1->j t=some (.tup$ ps.map V.str)->ps.length<=6->
   eB (u5 K t) 1 [some$ .ref p,some$ .ref g] (bp 0) lV (dF (cy 4) [] E0$ al (aX 1)$ al (aX 2)$ al (tC$ .int 1) aM) (λM o=>∀l,o l=none->∃p' y0,[V.ref l]=[.ref p']/\((aB K (af o l$ .lst M) p' y0/\∀l2,af o l (.lst M) l2=none->4<=sizeLine/\∀r,af (af o l$ .lst M) l2 (.tup y0) r=none->Q (.ref r) (af (af (af o l$ .lst M) l2$ .tup y0) r$ .tup [.str "call",.str y,.str f',.ref l2]))∨(ax K (af o l$ .lst M) p' y0/\4<=sizeLine/\∀r,af o l (.lst M) r=none->Q (.ref r) (af (af o l$ .lst M) r$ .tup [.str "call",.str y,.str f',.ref p'])))) j:=λf' ps h' t j C K4 e4 ht b5=>by
  refine qx (K:=K) (xs:=ps.map V.str) (by rw[GQ];omega) (λi M o=>∃ts:List (Addr×Tm),M=ts.map (λc=>V.ref c.1)/\ts.length=i/\(∀c∈ts,be o c.2 c.1/\de ys c.2)/\ao o p/\ar p j o) #[[],Z,Z,(λ_ h=>absurd h HG),C.B,ar.refl] (λi M o h5=>?_) ?_ ?_
  ·obtain⟨ts,rfl,e5,_,_,a⟩:=h5;exact#[ax.of$ a.tm C.B _ _ ht,by rw[GQ,e5];exact GV _]
  ·intro i x M o hx a3;obtain⟨ts,rfl,e5,h5,R,a⟩:=a3;refine#[_,Z,_,Z,p,g,1,ys,Z,R,(C.but R a).g,y1,y2,RT,RT,λX T H6 W dT gT B6 k6=>#[ts++[(X,T)],by rw[Hs];rfl,by rw[GU,e5];rfl,λc hc=>?_,B6,a.trans k6]];rcases List.mem_append.mp hc with hc |hc
   ·exact#[(h5 c hc).1.but R k6,(h5 c hc).2]
   ·rw[List.mem_singleton.mp hc];exact#[W,gT,(by show T.depth < 6;omega)]
  ·rintro M o ⟨ts,rfl,e5,h5,R,a⟩ l nl;refine#[l,_,Z,.inl #[aB.of jc,λl2 n0=>#[RT,λr nr=>?_]]];have O:=C.but R a;have s6:ae o (af (af o l$ .lst$ ts.map λc=>V.ref c.1) l2$ .tup$ ts.map λc=>V.ref c.1):=(jd nl).trans (jd n0);rw[GQ]at e5;exact l0 (.cl y f' l2 ts) _ _ r #[Z,jc,λc hc=>(h5 c hc).1.same s6] #[hy,RU,λc hc=>(h5 c hc).2] (by show(f',ts.length)∈_;rw[e5];exact h') (O.but2 ((O.B.upd_new nl).upd_new n0) ((O.s.new nl).new n0)$ aH.of_same s6) ((K4.trans a.two).trans$ aH.of_same s6) ((jX O.s s6).trans ((jT C.B C.s a).trans e4)) nr
 refine ai λF1 u=>nE λG' D=>?_;have Y:G' true H3:=by refine D _ _$ oB ?_;clear u D;refine ai λF2 f2=>#[_,Z,_,Z,_,Z,h,_,Z,.inl$ aB.of hh,p,_,Z,G.B,RU,RU,λd4 j d3 d5 B4 e4=>?_];have C:=G.but B4 (ar.of_eq e4);have J:ar p H3 j:=ar.of_eq e4;have a4:=hH.mono (J.tm G.B);obtain⟨v,c0,a5,a0,p4,t4,rfl,z1,z2⟩:=Bw a4 d3 d5;refine#[h,_,_,_,Z,Z,aB.of$ J _ _ G.hsp.2 hh,a5,p4,_,Z,ax.of z1,Z,_,_,Z,_,_,Z,Z,f2 _ _ ?_];clear f2;refine#[_,Z,_,Z,_,Z,t4,Z,#[_,ax.of z2],?_];exact c1 c0.1 c0.2 (List.mem_map.mpr #[c0,a0,Z]) t4 j C (K3.trans J.two) ((jT G.B G.s J).trans e3) z2$ G0.h3 c0 a0
 refine#[_,Z,Z,_,Z,bN (λc=>Y) (λc=>#[_,Z,Z,_,Z,x6 Y λc2=>D _ _ (aO c2$ u _ _ ?_)])];clear Y D u;have l1:∀(c:(0:Int) < (d:Int)),∃d':Nat,d=d'+1:=λc=>#[d - 1,RU];refine ai λF1 u=>dq (RH p g h S d kd y H3) (λE6 eR f6=>?_) λσ0 H' z=>?_
 ·clear u;refine nE λG' D=>#[_,Z,Z,_,Z,?_];refine bN (λc=>?_) (λc=>D _ _ (oA$ f6 _ _ #[Z,Z]));refine#[_,Z,_,_,Z,Z,_,Z,D _ _ ?_];clear D;refine bN (λc2=>?_) (λc2=>f6 _ _ #[Z,Z]);clear f6;obtain⟨d',rfl⟩:=l1 (Iu c2);have ed:(((d'+1:Nat):Int) - 1)=((d':Nat):Int):=by omega
  refine#[_,Z,_,Z,_,Z,_,Z,_,Z,_,_,Z,Z,p,g,h,S,d',ys,hs,(by show [V.ref p,V.ref g,V.ref h,V.ref S,V.int (((d'+1:Nat):Int) - 1)]=_;rw[ed]),G,RU,RU,λr b bs j a6 a8 b7 a9 a' B4 s4 J=>?_];have C:=G.but2 B4 s4 J;refine#[_,Z,_,Z,p,g,2,ys,Z,C.B,C.g,y1,y2,RT,RT,λX T o W dT gT R a=>?_];have O:=C.but R a;refine#[_,Z,_,Z,_,Z,_,Z,_,Z,_,Z,_,_,Z,Z,p,g,h,S,d',ys,hs,(by show [V.ref p,V.ref g,V.ref h,V.ref S,V.int (((d'+1:Nat):Int) - 1)]=_;rw[ed]),O,RU,(by rw[jT C.B C.s a];exact a9),λr3 b3 b0 H6 h6 h7 a1 h8 h0 B6 s6 k6=>#[oW,λt N=>?_]];have G6:=O.but2 B6 s6 k6;have tm:ah j H6:=λb' xs e=>k6.tm O.B O.s _ _ (a.tm C.B _ _ e);have I:ah H6 (af H6 t$ .tup [.str "if",.ref X,.ref r,.ref r3]):=ae.tm (jd N);rw[eR];refine q t (.ite t X T b b3 .nil) _ #[r,r3,bs,b0,[],Z,jc,(W.mono$ k6.tm O.B O.s).mono I,I _ _$ tm _ _ a6,I _ _ h6,(a8.mono tm).mono I,h7.mono I,Z] (by have x1:=jT C.B C.s a;rw[jX G6.s$ jd N];show((b.size+b3.size+0+1:Nat):Int)+_<=_;omega) (by rw[jX G6.s$ jd N];exact h8) (vA #[gT,RU] a' h0) (G6.B.upd_new N) (G6.s.new N) (((K3.trans J).trans$ a.two.trans k6).trans$ aH.of_same$ jd N)
 obtain⟨rfl,e⟩:=z;rw[e];refine u _ _ ?_;clear u;refine ai λF1 u=>dq (RH p g h S d kd y H3) (λE6 eR f6=>?_) λσ0 H' z=>?_
 ·clear u;refine nE λG' D=>#[_,Z,Z,_,Z,?_];refine bN (λc=>?_) (λc=>D _ _ (oA$ f6 _ _ #[Z,Z]));refine#[_,Z,_,_,Z,Z,_,Z,D _ _ ?_];clear D;refine bN (λc2=>?_) (λc2=>f6 _ _ #[Z,Z]);clear f6;obtain⟨d',rfl⟩:=l1 (Iu c2);have ed:(((d'+1:Nat):Int) - 1)=((d':Nat):Int):=by omega
  refine#[_,Z,_,Z,p,g,2,ys,Z,G.B,G.g,y1,y2,RT,RT,λX T o W dT gT R a=>?_];have O:=G.but R a;refine#[_,Z,_,Z,_,Z,_,Z,_,Z,_,_,Z,Z,p,g,h,S,d',ys,hs,(by show [V.ref p,V.ref g,V.ref h,V.ref S,V.int (((d'+1:Nat):Int) - 1)]=_;rw[ed]),O,RU,(by rw[jT G.B G.s a];omega),λr3 b3 b0 H6 h6 h7 a1 h8 h0 B6 s6 k6=>#[dZ,λt N=>?_]];have G6:=O.but2 B6 s6 k6;have I:ah H6 (af H6 t$ .tup [.str "while",.ref X,.ref r3]):=ae.tm (jd N);rw[eR];refine q t (.loop t X T b3 .nil) _ #[r3,b0,[],Z,jc,(W.mono$ k6.tm O.B O.s).mono I,I _ _ h6,h7.mono I,Z] (by have x1:=jT G.B G.s a;rw[jX G6.s$ jd N];show((b3.size+0+1:Nat):Int)+_<=_;omega) (by rw[jX G6.s$ jd N];exact h8) (pT #[gT,RU] h0) (G6.B.upd_new N) (G6.s.new N) ((K3.trans$ a.two.trans k6).trans$ aH.of_same$ jd N)
 obtain⟨rfl,e⟩:=z;rw[e];refine u _ _ ?_;clear u;refine ai λF1 u=>nE λG' D=>#[_,Z,Z,_,Z,D _ _ ?_];clear D;refine bN (λc=>?_) (λc=>u _ _ ?_)
 ·refine#[_,Z,_,Z,p,g,2,ys,Z,G.B,G.g,y1,y2,RT,RT,λX T o W dT gT R a=>#[bo,λt N=>?_]];exact l0 (.gv X T) _ o t #[Z,W] #[gT,RU] trivial (G.but R a) (K3.trans a.two) ((jT G.B G.s a).trans e3) N
 ·refine#[_,Z,_,Z,_,Z,p,g,3,ys,Z,G.B,G.g,y1,y2,RT,RT,λX T o W dT gT R a=>#[dZ,λt N=>?_]];exact l0 (.st y X T) _ o t #[Z,W] #[hy,gT,RU] trivial (G.but R a) (K3.trans a.two) ((jT G.B G.s a).trans e3) N
theorem mY:ak ["_law_box_here","_law_names_here","_law_heads","_law_spare","_law_deep","_law_body_here","_law_k"] z6z (aa nM):=bL
theorem Zc(F:aJ K "_law_body" "_law_body" nM f fd)(cT:Cl P w K mg base 1 fT f0 z0z aL "_law_take"){L:Nat}(cS:Cl P w K mg base (L+8) fS f1 z6z (iF n) "_law_statement")(mr:mg "range"=none)(m2:mg "tuple"=none):aj P w K mg base aA (L+9) f fd z6z (gg n):=by
 refine F.ok mY ?_ λc0 A o1 s H v Q E hr h=>?_
 ·rintro _ _ _ _ ⟨p,g,h,S,d,ys,hs,rfl,_⟩;rfl
 obtain⟨p,g,h,S,d,ys,hs,rfl,G,hd,h0,q⟩:=h;refine#[_,(je (jx 5 mY.nd$ jE jb)$ je (j9 HM Z (j7 Z mr$ ja (cT.e hr.m$ ja (pv 0)$ ja jf jb) jb) (ju (i:=6) mY.nd Z$ Or.inl Z)$ jg$ jw (jA qM (jr jq (pv 3) jf (λ_ _=>Z)) jf$ aE _) (jg$ jP$ ki Hj Hz Hw jM (pv 5)$ ja (cS.e hr$ ja (pv 0)$ ja (pv 1)$ ja (pv 2)$ ja (pv 3)$ ja (pv 4) jb) jb) jp)$ jg$ jo$ jG jF Z m2 IE$ ja (pv 5) jb),?_];have b0:=aF;refine#[Hg _,λl N=>?_];have s0:ae H (af H l$ .lst []):=jd N;have O:l8 (af H l$ .lst []) p g h S ys hs:=G.but2 (G.B.upd_new N) (G.s.new N) (aH.of_same s0);have l1:af H l (.lst []) l=some (.lst []):=jc;have lp:l≠p:=G.B.ne N;have D:l≠S:=λe=>by obtain⟨k,z⟩:=G.s;rw[<- e,N]at z;cases z
 have k1:aH p S H (af H l$ .lst []):=aH.of_same s0;have R:cr (af H l$ .lst []) S=cr H S:=jX G.s s0;generalize af H l (.lst [])=H1 at O l1 k1 R;refine#[_,Z,p,6,Z,O.B,RT,RT,λm H2 m0 m1 B2 e2=>#[_,Z,RU,RU,?_]];have G2:=O.but B2 (ar.of_eq e2);refine Qq (lo:=0) (λi σ I=>∃(o6:Option V) (v:List V) (b:Bd),σ=[some$ .ref p,some$ .ref g,some$ .ref h,some$ .ref S,some$ .int (d:Int),some$ .ref l,o6]/\I l=some (.lst v)/\dj I b v/\((b.size:Int)+cr I S<=cr H S/\0<=cr I S)/\b.fit hs ys d/\v.length<=i/\ao I p/\cf I S/\aH p S H I)
  #[none,[],.nil,Z,by rw[e2 l lp];exact l1,Z,(by rw[jT O.B O.s$ ar.of_eq e2,R];exact#[by show((0:Nat):Int)+_<=_;omega,h0]),Za,Hg _,B2,G2.s,k1.trans (ar.of_eq e2).two] ?_ ?_
 ·intro i σ H3 hi J;obtain⟨o6,v,b,rfl,a,u,j,x,h1,T,C,U⟩:=J;have G3:=G.but2 T C U;obtain⟨kk,W⟩:=id C;refine#[_,Z,S,_,_,_,Z,Z,aB.of W,Z,_,_,Z,Z,_,Z,?_];refine bN (λc=>?_) (λc=>?_)
  ·refine#[_,Z,.inl #[Z,_,aB.of a],_,Z,_,Z,_,Z,_,Z,_,Z,p,g,h,S,d,ys,hs,Z,G3,hd,(by rw[zK W];exact Iu c),λr b4 H4 h2 h5 h3 h4 B4 s4 k4=>?_];have X:H4 l=some (.lst v):=k4 _ _ lp D a;refine#[l,_,_,Z,Z,X,RU,?_];have tm:ah H4 (af H4 l$ .lst$ v++[.ref r]):=λb' xs e=>by rw[ji$ jN e X (by intro z;cases z)];exact e
   have Y:ah H3 H4:=k4.tm T C;refine#[_,_,b.app b4,Z,jc,(h2.mono tm).app ((u.mono Y).mono tm),?_,Zb x h4,by rw[GU];show v.length+1<=i+1;omega,B4.eq$ ji$ HI lp,?_,λb' o n1 n2 e=>?_]
   ·rw[jW,QO s4 λo e=>by rw[ji$ HI D];exact e];obtain⟨z1,z2⟩:=j;exact#[RU,h3]
   ·obtain⟨z,hz⟩:=s4;exact#[z,by rw[ji$ HI D];exact hz]
   ·rw[ji$ jm e N];exact k4 _ _ n1 n2$ U _ _ n1 n2 e
  ·exact#[_,v,b,Z,a,u,j,x,RU,T,C,U]
 ·intro σ H3 J;obtain⟨o6,v,b,rfl,a,u,j,x,h1,T,C,U⟩:=J;refine#[_,Z,l,v,Z,.inl #[aB.of a,λt M=>?_]];have hm:(m).toNat<=5:=by omega
  refine q t b v _ jc (u.mono$ ae.tm$ jd M) (by rw[jX C$ jd M];exact j.1) (by rw[jX C$ jd M];exact j.2) x (T.upd_new M) (C.new M)$ U.trans$ aH.of_same$ jd M
theorem rK:aj P w K mg base aA 8 f c z6z (iF 0):=by
 have n:∀v H Q E,¬iF 0 v H Q E:=λv H Q E h=>by obtain⟨p,g,h,S,d,y,e,_,_,b,_⟩:=h;exact absurd b$ Mf _
 exact#[λv H Q E h=>absurd h (n v H Q E),λA o s H a u v Q E _ _ _ _ h=>absurd h (n v H Q E)]
theorem D9(F:aJ K "_law_statement" "_law_statement" sY f e)(FB:aJ K "_law_body" "_law_body" nM g a)(c:Cl P w K mg base 1 r k z0z aL "_law_take")(C:Cl P w K mg base 6 s l z9z (cy 4) "_law_term")(h:Cl P w K mg base 7 t o z25z hZ "_law_spot")(b:ay K e z6z [])(M:mg "_law_statement"=some (.ref f))(B:ay K a z6z [])(i:mg "_law_body"=some (.ref g))(j:mg "len"=none)(m:mg "tuple"=none)(d:mg "range"=none):
  ∀n:Nat,aj P w K mg base aA (n+n+8) f e z6z (iF n)/\aj P w K mg base aA (n+n+9) g a z6z (gg n)
 |0=>#[rK,Zc (L:=0) FB c #[rK,b,F.kp,M] d m]
 |n+1=>by
  have I:=D9 F FB c C h b M B i j m d n;have E:n+n+10=n+1+(n+1)+8:=by omega
  have p:n+n+2+9=n+1+(n+1)+9:=by omega
  have H:=A9 (L:=n+n) F c C h #[I.2,B,FB.kp,i] j m;have q:=Zc (L:=n+n+2) FB c #[H,b,F.kp,M] d m;rw[<- E,<- p];exact#[H,q]
theorem Db{x:List V}(h:k<=x.length):aD x none (some (k:Int))=x.take k:=by
 unfold aD;rw[HT.sIx_nat,HT.sIx_none];have e:min k x.length=k:=by omega
 rw[e];simp
noncomputable abbrev Bz:Stmt:=bM 62
theorem vt(h:0<=d)(H:d < 4):∃D:Nat,du [V.int 3,.int 3,.int 3,.int 5] d=some (.int (D:Int))/\D < 6/\Gg D<=111111/\D<=5:=by
 rcases(by omega:d=0∨d=1∨d=2∨d=3) with rfl |rfl |rfl |rfl
 ·exact#[3,Z,RT,RT,RT]
 ·exact#[3,Z,RT,RT,RT]
 ·exact#[3,Z,RT,RT,RT]
 ·exact#[5,Z,RT,RT,RT]
theorem pH{ys:List Str}{k:Int}(h:ys.length=20)(H:14<=k)(a:k<=20):1<=(bf ys (some 8)$ some k).length/\(bf ys (some 8)$ some k).length<=20:=by
 refine#[?_,by have:=qm ys (some 8) (some k);omega];have e:(8:Int)=((8:Nat):Int):=rfl;have E:k=((k.toNat:Nat):Int):=by omega
 unfold bf;rw[e,E,HT.sIx_nat,HT.sIx_nat,HF,IW];omega
theorem vp{ss:List Str}(h:0<=k):(bf ss none$ some k).length<=k.toNat:=by
 have e:k=((k.toNat:Nat):Int):=by omega
 unfold bf;rw[e,HT.sIx_nat,HT.sIx_none,HF];omega
theorem fh{t u:TS}(h:∀E:aW,(∀a b,u D a b->E.nx a b)->t E c H):gj t u D c H:=h { D with nx:=u D } λ_ _ h=>h
def CO(h:List (Str×List Str)):Prop:=∀c∈h,c.1.length<=20/\c.2.length<=6
def Gj(H:Hp)(D:List Df):Prop:=∀d∈D,∃p:List Str,H d.pa=some (.tup$ p.map V.str)/\p.length<=100
theorem Ja{a:Type}{P:a->Prop}{X:List a}{x:a}(h:∀c∈X,P c)(H:P x):∀c∈X++[x],P c:=λc b=>by
 rcases List.mem_append.mp b with h1 |h1
 ·exact h c h1
 ·rw[List.mem_singleton.mp h1];exact H
def ma(H:Hp)(D:List Df)(N:List Nat):Prop:=D.length=N.length/\∀(i:Nat) (d:Df) (n:Nat),D[i]?=some d->N[i]?=some n->∃p:List Str,H d.pa=some (.tup$ p.map V.str)/\p.length=n/\n<=100
theorem ma.mono(h:ma H D N)(k:ah H a):ma a D N:=#[h.1,λi d n b c=>let #[p,e,l]:=h.2 i d n b c;#[p,k _ _ e,l]]
theorem ma.snoc{d:Df}{p:List Str}(h:ma H D N)(e:H d.pa=some (.tup$ p.map V.str))(l:p.length<=100):ma H (D++[d]) (N++[p.length]):=by
 refine#[by rw[GU,GU,h.1];rfl,λi c n a b=>?_];by_cases f:i < D.length
 ·rw[I9 f]at a;rw[I9 (by rw[<- h.1];exact f)]at b;exact h.2 i c n a b
 ·have g:i < (D++[d]).length:=(List.getElem?_eq_some_iff.mp a).1;rw[GU]at g;have E:i=D.length:=by have:i < D.length+1:=g;omega
  subst E;rw[IX$ GV _,ML]at a;rw[h.1,IX$ GV _,ML]at b;cases a;cases b;exact#[p,e,Z,l]
theorem ma.v(h:ma H D n):Gj H D:=λd b=>by
 obtain⟨i,a,e⟩:=List.mem_iff_getElem.mp b;have c:D[i]?=some d:=by rw[<- e];exact GN a
 obtain⟨p,e,l,k⟩:=h.2 i d _ c (GN (by rw[<- h.1];exact a));exact#[p,e,RU]
def uV(D:List Df)(n:List Nat):Prop:=(∀d∈D,mv d/\d.b.Cs ((D.map Df.f).zip n))/\(D.map Df.f).Nodup/\∀y∈D.map Df.f,y.length<=20
inductive nZ(c:List V)(H:Hp)(Q:VK)(a:XK):Prop
 |mk(p:Addr)(T b:Int)(_:c=[.ref p,.int T,.int b])(_:ao H p)(_:1<=T)(_:T<=8)(_:0<=b)(_:b<=40)(_:∀(r:Addr) (ds:List Df) (xs:List V) (H':Hp),H' r=some (.tup xs)->cw H' ds xs->(ds.length:Int)=T->∀ns:List Nat,uV ds ns->ma H' ds ns->ao H' p->ar p H H'->Q (.ref r) H')
theorem cQ:ak ["_law_box_here","_law_total","_law_room","_law_words","_law_most","_law_heads","_law_k","_law_turn","_law_row","_law_some","_law_deep","_law_defs","_law_f","_law_params","_law_spare","_law_body_here"] z32z (aa Bz):=bL
inductive AJ(p k:Addr)(T j:Int)(H:Hp)(b:_L.St)(c:Hp):Prop
 |mk(a:List Str)(d:b=[some (.ref p),some (.int T),some (.int j),some (.ref k),none,none,none,none,none,none,none,none,none,none,none,none])(e:c k=some (.lst (a.map V.str)))(f:a.length=20)(g:(∀y∈a,y.length<=20)/\(a.take 8).Nodup)(h:ao c p)(i:ar p H c)
inductive AI(p t k:Addr)(T s m:Int)(u:List Str)(H:Hp)(i:Nat)(v:_L.St)(a:Hp):Prop
 |mk(o q r:Option V)(l:List (Str×List Str))(n:List V)(b:v=[some (.ref p),some (.int T),some (.int s),some (.ref t),some (.int m),some (.ref k),o,q,r,none,none,none,none,none,none,none])(c:a k=some (.lst n))(d:dw a l n)(e:l.length=i)(f:CO l/\l.map (·.1)=u.take i)(g:a t=some (.lst (u.map V.str)))(h:ao a p)(j:ar p H a)
inductive AK(p G y F h:Addr)(T E m:Int)(j:Nat)(I:List Str)(z:List (Str×List Str))(A:List V)(H:Hp)(i:Nat)(J:_L.St)(g:Hp):Prop
 |mk(B C D b c e f:Option V)(k:List Df)(l:List V)(n:J=[some (.ref p),some (.int T),some (.int E),some (.ref G),some (.int m),some (.ref y),B,C,D,some (.ref F),some (.int (j:Int)),some (.ref h),b,c,e,f])(o:g h=some (.lst l))(q:cw g k l)(r:k.length=i)(s:(∀d∈k,mv d/\d.b.Cs (z.map λc=>(c.1,c.2.length)))/\k.map Df.f=(z.map (·.1)).take i)(t:g y=some (.lst A))(u:dw g z A)(v:g F=some (.lst (I.map V.str)))(w:ao g p)(x:ar p H g)(a:ma g k ((z.map λc=>c.2.length).take i))
inductive AL(v:List (Str×List Str))(D:List Str)(p C u z h B A:Addr)(T y m:Int)(i:Nat)(w x:Option V)(c:Str×List Str)(e:Hp)(j:Nat)(E:_L.St)(d:Hp):Prop
 |mk(a:Option V)(f:Addr)(b:Bd)(g:List V)(k:E=[some (.ref p),some (.int T),some (.int y),some (.ref C),some (.int m),some (.ref u),a,w,x,some (.ref z),some (.int (i:Int)),some (.ref h),some (.str c.1),some (.ref B),some (.ref A),some (.ref f)])(l:d f=some (.tup g))(n:dj d b g)(o:(b.size:Int)+cr d A<=y/\0<=cr d A)(q:b.fit v D i)(r:ao d p)(s:cf d A)(t:aH p A e d)
theorem AS(F:aJ K "_law_any" "_law_any" Bz f fd)(cT:Cl P w K mg base 1 fT j0 z0z aL "_law_take")(cA:Cl P w K mg base 2 fA j1 z20z dY "_law_names")(cB:Cl P w K mg base 21 fB j2 z6z (gg 6) "_law_body")(ml:mg "len"=none)(mr:mg "range"=none)(m0:mg "tuple"=none)(mi:mg "int"=none):aj P w K mg base aA 22 f fd z32z nZ:=by
 refine F.ok cQ ?_ λl4 A o5 s H vs Q E hr h=>?_
 ·rintro _ _ _ _ ⟨p,T,Y,rfl,_⟩;rfl
 obtain⟨p,T,Y,rfl,B,l5,l6,e',l9,q⟩:=h;refine#[_,(je (jx 3 cQ.nd$ cA.e hr.m$ ja (pv 0)$ ja jf jb)$ je (j4$ jw (kJ$ cT.e hr.m$ ja (pv 0)$ ja jf jb) (jg$ kW (jJ kf (pv 3) j3$ jH jf)$ @su _ _ _ _ _ _ _ _ _ (pv 3) jf jf (by intro _;rfl)) jp)$ je (jx 4 cQ.nd$ jr jq (jE$ ja jf$ ja jf jb) (jG Ju Z mi RN$ ja (JS JB (cT.e hr.m$ ja (pv 0)$ ja jf jb) jf$ aE _) jb) (λ_ _=>Z))$ je (jx 5 cQ.nd$ jE jb)$ je (j9 HM Z (j7 Z mr$ ja (pv 1) jb) (ju (i:=6) cQ.nd Z$ Or.inl Z)$ je (jx 7 cQ.nd$ jv jZ jf$ cT.e hr.m$ ja (pv 0)$ ja jf jb)$ je (jx 8 cQ.nd$ jv zI (jJ kf (pv 3) (jH$ pv 7)$ jH jf)$ jJ kf (pv 3) (jH jf)$ jH$ pv 7)$ jg$ jP$ ki Hj Hz Hw jM (pv 5)$ ja (jh$ ja (jr jq (pv 3) (pv 6) (λ_ _=>Z))$ ja (jG jF Z m0 IE$ ja (jJ kf (pv 8) j3$ jH$ cT.e hr.m$ ja (pv 0)$ ja (pv 4) jb) jb) jb) jb)$ je (jx 9 cQ.nd$ jJ kf (pv 3) (jH jf)$ jH$ jv jZ jf$ cT.e hr.m$ ja (pv 0)$ ja jf jb)$ je (jx 10 cQ.nd$ jr jq (jE$ ja jf$ ja jf$ ja jf$ ja jf jb) (cT.e hr.m$ ja (pv 0)$ ja jf jb) (λ_ _=>Z))$ je (jx 11 cQ.nd$ jE jb)$ je (j9 HM Z (zc$ pv 5) (kU (n:=2) Z$ jy (ju (i:=12) cQ.nd Z$ Or.inl Z)$ jy (ju (i:=13) cQ.nd Z$ Or.inl Z) j5)$ je (jx 14 cQ.nd$ jE$ ja (pv 2) jb)$ je (jx 15 cQ.nd$ jh jb)$ je (j9 HM Z (j7 Z mr$ ja jf jb) (ju (i:=6) cQ.nd Z$ Or.inl Z)$ jg$ jx 15 cQ.nd$ jv jV (pv 15)$ cB.e hr$ ja (pv 0)$ ja (pv 9)$ ja (pv 5)$ ja (pv 14)$ ja (pv 10) jb)$ jg$ jP$ ki Hj Hz Hw jM (pv 11)$ ja (jh$ ja (pv 12)$ ja (pv 13)$ ja (pv 15) jb) jb)$ jg$ jo$ jG jF Z m0 IE$ ja (pv 11) jb),?_];have l':=aF;refine fh λE1 m1=>?_;refine#[_,Z,p,20,Z,B,RT,RT,λW ys H1 c2 f4 c3 C B1 k1=>?_];refine m1 _ _ ?_;refine fh λE2 m2=>?_;have wp:W≠p:=B.ne c2;refine dq (AJ p W T Y H) (λE0 _ fm=>?_) λσ0 H2 l=>?_
 ·clear m2;refine nE λG' g'=>#[_,Z,p,2,Z,B1,RT,RT,λd1 H2 m' o' B2 e2=>?_];have h0:H2 W=some (.lst$ ys.map V.str):=by rw[e2 W wp];exact f4
  have k2:=k1.trans (ar.of_eq e2);refine#[Z,_,Z,g' _ _ ?_];clear g';refine bN (λc=>?_) (λc=>fm _ _ #[ys,Z,h0,RU,#[C.1,C.2.sublist$ Lb _ _],B2,k2]);refine#[_,Z,_,Z,W,_,Z,aB.of h0,λsl n0=>?_];have f5:W≠sl:=λe=>by rw[<- e,h0]at n0;cases n0
  have p1:=B2.ne n0;refine#[_,Z,W,sl,_,_,_,_,Z,Z,Z,Z,am h0 n0,jc,f5,RT,RT,by rw[GQ];omega,?_,?_]
  ·have:=zh (ys.map V.str) none (some 2);rw[GQ]at this ⊢;omega
  have e2:aD (ys.map V.str) none (some 2)=(ys.take 2).map V.str:=by rw[show(2:Int)=((2:Nat):Int) from Z,Db (by rw[GQ];omega),Ma]
  refine fm _ _ #[ys.take 8++ys.take 2++ys.drop 10,Z,?_,?_,?_,(B2.upd_new n0).eq$ ji$ HI wp,?_]
  ·rw[jc,e2,Hs,Hs,Ma,Pu,Ma];rfl
  ·rw[GU,GU,HF,HF,IW];omega
  ·refine#[λy hy=>?_,?_]
   ·rcases List.mem_append.mp hy with h |h
    ·rcases List.mem_append.mp h with h |h
     ·exact C.1 y$ HZ h
     ·exact C.1 y$ HZ h
    ·exact C.1 y$ MZ h
   ·rw[Lc,List.take_append_of_le_length (by rw[HF];omega),Pk];exact C.2.sublist$ Lb _ _
  ·exact(k2.upd_new n0).upd_own c2
 obtain⟨ys,rfl,h0,c3,C,B2,k2⟩:=l;refine m2 _ _ ?_;clear m1 m2;refine fh λE3 m3=>?_;refine#[bo,λl1 n'=>?_];refine#[_,Z,p,3,Z,B2.upd_new n',RT,RT,λd2 H3 p2 p3 B3 e3=>?_];have k3:ar p H2 H3:=((ar.refl).upd_new n').trans (ar.of_eq e3);have l0:=B2.ne n';have f7:H3 l1=some (.lst [.int 4,.int 7]):=by rw[e3 l1 l0];exact jc
 refine#[Z,.inr #[_,Z,?_]];have a5:∀c:Bool,∃m:Int,du [V.int 4,V.int 7] (if c then 1 else 0)=some (.int m)/\4<=m/\m<=7:=λc=>by
  cases c
  ·exact#[4,Z,RT,RT]
  ·exact#[7,Z,RT,RT]
 obtain⟨m,hm,m4,m7⟩:=a5 _;refine#[l1,_,_,_,Z,Z,aB.of f7,hm,?_];refine m3 _ _ ?_;refine fh λE4 m4=>?_;have c4:H3 W=some (.lst$ ys.map V.str):=k3 _ _ wp h0;have k0:=k2.trans k3;refine#[Hg _,λhl n1=>?_];refine m4 _ _ ?_;refine fh λE5 m5=>?_;have h4:=B3.ne n1;have n5:H hl=none:=by
  cases z:H hl with
  |none=>rfl
  |some o=>have:=k0 _ _ h4 z;rw[n1]at this;cases this
 have wh:W≠hl:=λe=>by rw[<- e,c4]at n1;cases n1
 refine dN λJ j=>#[_,Z,T,Z,RU,RU,j _ _ ?_];clear j;refine zE (lo:=0) (AI p W hl T Y m ys H)
  #[none,none,none,[],[],Z,jc,Z,Z,#[(λc hc=>nomatch hc),Z],am c4 n1,B3.upd_new n1,k0.upd_own n5] ?_ ?_
 ·intro D' _ i σ H4 hi f0 Gq u l;obtain⟨o6,o7,o8,hs,hv,rfl,a6,h6,c5,h7,a8,B4,k4⟩:=l;refine u ?_;clear u m5 m3 m4;show gj (dU _ _) _ D' _ _;refine fh λF1 f1=>?_;refine#[_,Z,p,6,Z,B4,RT,RT,λD H5 f9 f' B5 e5=>?_];have k5:ar p H4 H5:=ar.of_eq e5;have h8:=k5 _ _ wp a8;have a9:=k5 _ _ h4 a6;have a':=h6.mono (k5.tm B4);refine#[_,_,Z,Z,?_];refine f1 _ _ ?_;show gj (dU _ _) _ D' _ _;refine fh λF2 f2=>?_;refine#[_,Z,_,Z,_,Z,_,Z,W,_,Z,aB.of h8,λs1 b1=>?_];refine#[_,Z,_,Z,_,Z,_,Z,W,_,Z,aB.of$ am h8 b1,λs2 b2=>?_];have L1:=qm ys (some (8+D)) (some 14);have L0:=qm ys (some 8) (some (8+D));have L3:=zh (ys.map V.str) (some (8+D)) (some 14);have L4:=zh (ys.map V.str) (some 8) (some (8+D));rw[GQ]at L3 L4;refine#[s1,s2,_,_,Z,Z,am jc b2,jc,RU,λrl c6=>?_];refine f2 _ _ ?_;have er:aD (ys.map V.str) (some (8+D)) (some 14)++aD (ys.map V.str) (some 8) (some (8+D))=(bf ys (some (8+D)) (some 14)++bf ys (some 8) (some (8+D))).map V.str:=by rw[zA,zA,Hs]
  have s6:ae H5 (af (af (af H5 s1$ .lst$ aD (ys.map V.str) (some (8+D))$ some 14) s2$ .lst$ aD (ys.map V.str) (some 8)$ some (8+D)) rl$ .lst$ aD (ys.map V.str) (some (8+D)) (some 14)++aD (ys.map V.str) (some 8) (some (8+D))):=((jd b1).trans$ jd b2).trans (jd c6);have r6:af (af (af H5 s1$ .lst$ aD (ys.map V.str) (some (8+D))$ some 14) s2$ .lst$ aD (ys.map V.str) (some 8)$ some (8+D)) rl (.lst$ aD (ys.map V.str) (some (8+D)) (some 14)++aD (ys.map V.str) (some 8) (some (8+D))) rl=some (.lst ((bf ys (some (8+D)) (some 14)++bf ys (some 8) (some (8+D))).map V.str)):=by rw[jc,er]
  have B6:ao (af (af (af H5 s1$ .lst$ aD (ys.map V.str) (some (8+D))$ some 14) s2$ .lst$ aD (ys.map V.str) (some 8)$ some (8+D)) rl$ .lst$ aD (ys.map V.str) (some (8+D)) (some 14)++aD (ys.map V.str) (some 8) (some (8+D))) p:=((B5.upd_new b1).upd_new b2).upd_new c6;generalize af (af (af H5 s1$ .lst$ aD (ys.map V.str) (some (8+D))$ some 14) s2$ .lst$ aD (ys.map V.str) (some 8)$ some (8+D)) rl (.lst$ aD (ys.map V.str) (some (8+D)) (some 14)++aD (ys.map V.str) (some 8) (some (8+D)))=H6 at s6 r6 B6;have LR:(bf ys (some (8+D)) (some 14)++bf ys (some 8) (some (8+D))).length<=40:=by rw[GU];omega
  generalize bf ys (some (8+D)) (some 14)++bf ys (some 8) (some (8+D))=r0 at r6 LR;have c9:=s6 _ _ h8;have h':=s6 _ _ a9;have ei:(0:Int)+(i:Int)=(i:Int):=Int.zero_add _;rw[ei];obtain⟨y,b3⟩:∃y,ys[i]?=some y:=#[_,GN (by omega:i < ys.length)];have hy:=Hf b3;have a5:du (ys.map V.str) (i:Int)=some (.str y):=jQ (by rw[Hu,b3];rfl);have rp:rl≠p:=zu B6 r6;refine#[_,Z,.inl #[Z,_,aB.of h'],_,Z,_,Z,W,_,_,_,Z,Z,aB.of c9,a5,_,Z,_,Z,_,Z,p,m,Z,B6,RU,RU,λd7 H7 d0 d4 B7 e7=>?_];have k7:ar p H6 H7:=ar.of_eq e7;refine#[_,Z,rl,_,Z,aB.of$ k7 _ _ rp r6,λs3 c'=>?_];refine#[s3,_,Z,.inl #[aB.of jc,λt nt=>#[bo,λr nr=>?_]]];rw[zA]at nt nr ⊢;have L8:=vp (ss:=r0) d0;generalize bf r0 none (some d7)=ps at*;have s8:ae H7 (af (af (af H7 s3$ .lst$ ps.map V.str) t$ .tup$ ps.map V.str) r$ .tup [.str y,.ref t]):=((jd c').trans$ jd nt).trans (jd nr);have t8:af (af (af H7 s3$ .lst$ ps.map V.str) t$ .tup$ ps.map V.str) r (.tup [.str y,.ref t]) t=some (.tup$ ps.map V.str):=am jc nr;have r8:af (af (af H7 s3$ .lst$ ps.map V.str) t$ .tup$ ps.map V.str) r (.tup [.str y,.ref t]) r=some (.tup [.str y,.ref t]):=jc;have B8:ao (af (af (af H7 s3$ .lst$ ps.map V.str) t$ .tup$ ps.map V.str) r$ .tup [.str y,.ref t]) p:=((B7.upd_new c').upd_new nt).upd_new nr;generalize af (af (af H7 s3$ .lst$ ps.map V.str) t$ .tup$ ps.map V.str) r (.tup [.str y,.ref t])=R at s8 t8 r8 B8;have d6:=s8 _ _ (k7 _ _ h4 h');have g0:=s8 _ _ (k7 _ _ wp c9);have h5:=h6.len;refine#[hl,_,_,Z,Z,d6,RU,?_];have tm:ah R (af R hl$ .lst$ hv++[.ref r]):=λb xs e=>by rw[ji$ jN e d6 (by intro z;cases z)];exact e
  have g1:=((a'.mono$ ae.tm s6).mono$ k7.tm B6).mono (ae.tm s8);refine f0 _ _ #[_,_,_,hs++[(y,ps)],_,Z,jc,(g1.mono tm).snoc #[r,t,Z,tm _ _ r8,tm _ _ t8],by rw[GU,c5];rfl,#[Ja h7.1 #[C.1 y hy,by show ps.length<=6;omega],by rw[Hs,h7.2,Lh,b3];rfl],by rw[ji wh];exact g0,B8.eq$ ji$ HI h4,?_];refine ar.upd_own (λb o n e=>?_) n5;exact s8 _ _$ k7 _ _ n$ s6 _ _$ k5 _ _ n$ k4 _ _ n e
 intro σ H4 l;obtain⟨o6,o7,o8,hs,hv,rfl,a6,h6,c5,⟨h7,d8⟩,a8,B4,k4⟩:=l;refine m5 _ _ ?_;refine fh λE6 m6=>?_;refine#[_,Z,_,Z,_,Z,p,7,Z,B4,RT,RT,λD H5 f9 f' B5 e5=>?_];have k5:ar p H4 H5:=ar.of_eq e5;have h8:=k5 _ _ wp a8;have a9:=k5 _ _ h4 a6;have a':=h6.mono (k5.tm B4);refine#[_,_,Z,Z,_,Z,W,_,Z,aB.of h8,λsm n3=>?_];refine m6 _ _ ?_;refine fh λE7 m7=>?_;obtain⟨z1,z2⟩:=pH (ys:=ys) (k:=14+D) c3 RU RU;have m6:af H5 sm (.lst$ aD (ys.map V.str) (some 8)$ some (14+D)) sm=some (.lst ((bf ys (some 8)$ some (14+D)).map V.str)):=by rw[jc,zA]
 have k6:ar p H (af H5 sm$ .lst$ aD (ys.map V.str) (some 8)$ some (14+D)):=(k4.trans k5).upd_new n3;have h':=am (o:=.lst (aD (ys.map V.str) (some 8)$ some (14+D))) a9 n3;have d9:=a'.mono (ae.tm$ jd (o:=.lst (aD (ys.map V.str) (some 8)$ some (14+D))) n3);have B6:=B5.upd_new (o:=.lst (aD (ys.map V.str) (some 8)$ some (14+D))) n3;generalize af H5 sm (.lst$ aD (ys.map V.str) (some 8)$ some (14+D))=H6 at m6 k6 h' d9 B6;generalize bf ys (some 8) (some (14+D))=zs at m6 z1 z2;have s':=zu B6 m6;refine#[oW,λl2 b4=>?_];refine#[_,Z,p,4,Z,B6.upd_new b4,RT,RT,λd7 H7 d0 d4 B7 e7=>?_];have k7:ar p H6 H7:=((ar.refl).upd_new b4).trans (ar.of_eq e7);have l3:=B6.ne b4;have g2:H7 l2=some (.lst [.int 3,.int 3,.int 3,.int 5]):=by rw[e7 l2 l3];exact jc
 obtain⟨dp,g4,g5,p4,p5⟩:=vt d0 d4;refine#[l2,_,_,_,Z,Z,aB.of g2,g4,?_];refine m7 _ _ ?_;refine fh λE8 m8=>?_;have m7:=k7 _ _ s' m6;have b5:=k7 _ _ h4 h';have g6:=d9.mono (k7.tm B6);have k9:=k6.trans k7;refine#[Hg _,λdl N=>?_];refine m8 _ _ ?_;refine fh λE9 m9=>?_;have d3:=B7.ne N;have n7:H dl=none:=by
  cases z:H dl with
  |none=>rfl
  |some o=>have:=k9 _ _ d3 z;rw[N]at this;cases this
 have d':hl≠dl:=λe=>by rw[<- e,b5]at N;cases N
 have s5:sm≠dl:=λe=>by rw[<- e,m7]at N;cases N
 have p6:=h6.len;refine dN λJ j=>#[_,Z,hl,Z,#[_,aB.of$ am b5 N],j _ _ ?_];clear j;refine zS (K:=K) (a:=hl) (xs:=hv) (AK p W hl sm dl T Y m dp zs hs hv H)
  #[_,_,_,_,_,_,_,[],[],Z,jc,Z,Z,#[(λc hc=>nomatch hc),Z],am b5 N,g6.mono$ ae.tm$ jd N,am m7 N,B7.upd_new N,k9.upd_own n7,#[Z,(λi d n h=>nomatch h)]] ?_ ?_ ?_
 ·intro i σ R _ l;obtain⟨o6,o7,o8,o1,o2,o3,o4,ds,dv,rfl,h5,hD,a0,x,hh,hd,b7,B8,k8,p0⟩:=l;exact aB.of hh
 ·intro D' _ i v σ R hx f0 Gq u l;obtain⟨o6,o7,o8,o1,o2,o3,o4,ds,dv,rfl,h5,hD,a0,x,hh,hd,b7,B8,k8,p0⟩:=l;have p8:i < hv.length:=(List.getElem?_eq_some_iff.mp hx).1;obtain⟨c,hc,q0,t0,rfl,w1,w2⟩:=hd.at i v hx;refine u ?_;clear u m9;have g7:=Hf hc;have e0:=h7 c g7;refine Gx λF6 f6=>#[q0,_,Z,ax.of w1,Z,_,_,Z,_,_,Z,Z,f6 _ _ ?_];clear f6;show gj (dU _ _) _ D' _ _;refine fh λF1 f1=>?_;refine#[_,Z,gH,λM n2=>?_];refine f1 _ _ ?_;show gj (dU _ _) _ D' _ _;refine fh λF2 f2=>?_;refine#[ig,λb0 n4=>?_];refine f2 _ _ ?_;show gj (Cb _ _ _) _ D' _ _;refine fh λF3 f3=>?_;have s9:ae R (af (af R M$ .lst [.int Y]) b0$ .tup []):=(jd n2).trans (jd n4);have s4:cf (af (af R M$ .lst [.int Y]) b0$ .tup []) M:=#[Y,am jc n4];have b9:af (af R M$ .lst [.int Y]) b0 (.tup []) b0=some (.tup []):=jc;have B9:ao (af (af R M$ .lst [.int Y]) b0$ .tup []) p:=(B8.upd_new n2).upd_new n4;have e9:cr (af (af R M$ .lst [.int Y]) b0$ .tup []) M=Y:=zK (am jc n4);generalize af (af R M$ .lst [.int Y]) b0 (.tup [])=H9 at s9 s4 b9 B9 e9;have e4:H M=none:=by
   cases z:H M with
   |none=>rfl
   |some o=>have:=k8 _ _ (B8.ne n2) z;rw[n2]at this;cases this
  have g8:dl≠M:=λe=>by rw[<- e,h5]at n2;cases n2
  have G9:l8 H9 p sm hl M zs hs:=#[B9,s9 _ _ b7,z1,z2,#[hv,s9 _ _ hh,hd.mono$ ae.tm s9],RU,RU,λc hc=>(h7 c hc).2,s4];refine dN λJ j=>#[_,Z,RT,RT,j _ _ ?_];clear j;refine zE (lo:=0) (AL hs zs p W hl sm dl t0 M T Y m dp o7 o8 c H9)
   #[_,b0,.nil,[],Z,b9,Z,(by rw[e9];exact#[by show((0:Nat):Int)+_<=_;omega,e']),Za,B9,s4,aH.refl] ?_ ?_
  ·intro p9 _ j σ G hj fin2 Gq u l;obtain⟨o9,bb,Bb,bs,rfl,b',a1,a2,I,B',U,L⟩:=l;refine u ?_;clear u f1 f2 f3;have G0:=G9.but2 B' U L;refine#[_,Z,_,Z,_,Z,_,Z,_,Z,_,Z,p,sm,hl,M,dp,zs,hs,Z,G0,g5,a2.2,λr b p' H0 X a4 i0 c0 c1 a3 S k'=>?_];have tm:=k'.tm B' U;have lb:=a1.len;have q1:=a4.len;obtain⟨i1,i2⟩:=a2;refine#[bb,r,_,_,Z,Z,tm _ _ b',X,RU,λr2 H' e6 s0=>?_];have i3:ao H' p:=by obtain⟨a,b,h1,h2,h3,h⟩:=a3.ob;exact#[a,b,h1,h2,h3,s0 _ _ h]
   have s7:cf H' M:=by obtain⟨z,hz⟩:=S;exact#[z,s0 _ _ hz]
   refine fin2 _ _ #[_,r2,Bb.app b,_,Z,e6,(a4.mono$ ae.tm s0).app ((a1.mono tm).mono$ ae.tm s0),?_,Zb I c1,i3,s7,L.trans$ k'.trans$ aH.of_same s0];rw[jW,jX S s0];exact#[RU,c0]
  ·intro σ G l;obtain⟨o9,bb,Bb,bs,rfl,b',a1,a2,I,B',U,L⟩:=l;refine f3 _ _ ?_;have O:G dl=some (.lst dv):=L _ _ d3 g8 (s9 _ _ h5);have G0:=G9.but2 B' U L;have t3:ah R G:=λb xs e=>L.tm B9 s4 _ _ (s9 _ _ e);refine#[_,Z,.inl #[Z,_,aB.of O],_,Z,_,Z,_,Z,dZ,λr nr=>?_];have S:ae G (af G r$ .tup [.str c.1,.ref t0,.ref bb]):=jd nr;have i4:=hD.len;have e8:Bb.size<=40:=by obtain⟨i1,i2⟩:=a2;omega
   refine#[dl,_,_,Z,Z,S _ _ O,RU,?_];have X:af G r (.tup [.str c.1,.ref t0,.ref bb]) r=some (.tup [.str c.1,.ref t0,.ref bb]):=jc;have a3:=B'.upd_new (o:=.tup [.str c.1,.ref t0,.ref bb]) nr;generalize af G r (.tup [.str c.1,.ref t0,.ref bb])=H0 at S X a3;have tm:ah H0 (af H0 dl$ .lst$ dv++[.ref r]):=λb xs e=>by rw[ji$ jN e (S _ _ O) (by intro z;cases z)];exact e
   have t2:ah G (af H0 dl$ .lst$ dv++[.ref r]):=λb xs e=>tm _ _ (S _ _ e);have t1:ah R (af H0 dl$ .lst$ dv++[.ref r]):=λb xs e=>t2 _ _ (t3 _ _ e);refine f0 _ _ #[_,_,_,_,_,_,_,ds++[#[c.1,r,t0,bb,Bb]],_,Z,jc,(hD.mono t1).snoc #[bs,Z,tm _ _ X,t2 _ _ b',a1.mono t2],by rw[GU,a0];rfl,#[Ja x.1 #[#[#[zs,z2,I.1.1],IH I.2 RU,Hh e8 RT],I.1.2],by rw[Hs,x.2,Lh,Hu,hc];rfl],?_,hd.mono t1,?_,a3.eq$ ji$ HI d3,?_,(by rw[Lh,Hu,hc];exact(p0.mono t1).snoc (d:=#[c.1,r,t0,bb,Bb]) (t1 _ _ w2) (Hh e0.2 RT))]
   ·obtain⟨q2,e1,e2⟩:=G0.h;rw[ji d'];exact S _ _$ L _ _ G9.hsp.2 G9.hsp.1$ s9 _ _ hh
   ·rw[ji s5];exact S _ _ G0.g
   ·refine ar.upd_own (λb o n e=>?_) n7;exact S _ _$ L _ _ n (jm e e4)$ s9 _ _$ k8 _ _ n e
 ·intro σ R l;obtain⟨o6,o7,o8,o1,o2,o3,o4,ds,dv,rfl,h5,hD,a0,x,hh,hd,b7,B8,k8,p0⟩:=l;refine m9 _ _ ?_;refine#[_,Z,dl,dv,Z,.inl #[aB.of h5,λt nt=>?_]];have nn:(ds.map Df.f).Nodup:=by
   rw[x.2,d8];refine List.Nodup.sublist (Lb _ _) ?_;have e:∀m,m<=8->ys.take m=(ys.take 8).take m:=λm hm=>by rw[Pk,La hm]
   rw[e _ RU];exact C.2.sublist$ Lb _ _
  exact q t ds dv _ jc (hD.mono$ ae.tm$ jd nt) RU (hs.map λc=>c.2.length) #[λd hd=>#[(x.1 d hd).1,by have e:=x.2;rw[IR (by rw[GQ];omega)]at e;rw[e];have z:=(x.1 d hd).2;rw[show(hs.map λc=>(c.1,c.2.length))=(hs.map (·.1)).zip (hs.map λc=>c.2.length) by rw[List.zip_map']]at z;exact z],nn,λy hy=>by rw[x.2,d8]at hy;exact C.1 y$ HZ$ HZ hy] (by have z:=p0.mono (ae.tm$ jd (o:=.tup dv) nt);rw[IR (by rw[GQ];omega)]at z;exact z) (B8.upd_new nt) (k8.upd_new nt)
theorem ig:0<=sizeLine:=by decide
theorem gH:1<=sizeLine:=by decide
theorem bo:2<=sizeLine:=by decide
theorem dZ:3<=sizeLine:=by decide
theorem oW:4<=sizeLine:=by decide
theorem ah.trans(a:ah H h)(b:ah h d):ah H d:=λc x e=>b c x (a c x e)
theorem ah.refl:ah H H:=λ_ _ e=>e
def f8(H:Hp)(y:List Str)(k:Nat)(a:Addr):Prop:=∃T,be H T a/\T.Good y/\T.depth<=k
theorem f8.mono{a:Addr}(h:f8 H y k a)(m:ah H b):f8 b y k a:=let #[T,c,d]:=h;#[T,c.mono m,d]
theorem f8.ok(h:f8 H y k a)(m:k < 6):∃T,be H T a/\de y T:=let #[T,b,c,d]:=h;#[T,b,c,IH d m]
section
variable {Cf:gJ}{H:Hp}{ys:List Str}
theorem Ck(h:H a=some (.tup [.str "num",.int n]))(b:0<=n)(c:n < 1000000000000000000):f8 H ys 0 a:=#[.num n,h,#[b,c],Hg _]
theorem uD(h:H a=some (.tup [.str "var",.str x]))(b:x∈ys):f8 H ys 0 a:=#[.var x,h,b,Hg _]
def Sg(s:Str):Prop:=∃i,i < 6/\s=Fu i
theorem yM(h:H a=some (.tup [.str "op",.str s,.ref b,.ref c]))(d:Sg s)(e:f8 H ys j b)(f:f8 H ys k c)(q:j < n)(r:k < n):f8 H ys n a:=by obtain⟨i,g,rfl⟩:=d;obtain⟨B,l,m,t⟩:=e;obtain⟨C,o,p,u⟩:=f;exact#[.op i B C,#[b,c,h,l,o],#[g,m,p],by show max B.depth C.depth+1<=n;omega]
theorem zn:Sg "+":=#[0,RT,RW]
theorem XC:Sg "-":=#[1,RT,RW]
theorem XD:Sg "*":=#[2,RT,RW]
theorem xA:Sg "/":=#[3,RT,RW]
theorem Q5:Sg "<":=#[4,RT,RW]
theorem D7:Sg "=":=#[5,RT,RW]
theorem wI(h:0<=d)(a:d < 4):∃s,du [V.str "+",.str "+",.str "*",.str "-"] d=some (.str s)/\Sg s:=by
 rcases(by omega:d=0∨d=1∨d=2∨d=3) with rfl |rfl |rfl |rfl
 ·exact#[_,Z,zn]
 ·exact#[_,Z,zn]
 ·exact#[_,Z,XD]
 ·exact#[_,Z,XC]
theorem wH(h:0<=d)(a:d < 3):∃c,du (Str.cps "<=*").toList d=some c/\Sg #[(List.toArray [c])]:=by
 rcases(by omega:d=0∨d=1∨d=2) with rfl |rfl |rfl
 ·exact#[_,Z,Q5]
 ·exact#[_,Z,D7]
 ·exact#[_,Z,XD]
theorem DK{P:Addr->Prop}(e:0<=d)(f:d < 2)(h:P a)(c:P b):∃x,du [V.ref a,.ref b] d=some (.ref x)/\P x:=by
 rcases(by omega:d=0∨d=1) with rfl |rfl
 ·exact#[_,Z,h]
 ·exact#[_,Z,c]
theorem DM{P:Addr->Prop}(g:0<=d)(i:d < 3)(h:P a)(e:P b)(f:P c):∃x,du [V.ref a,.ref b,.ref c] d=some (.ref x)/\P x:=by
 rcases(by omega:d=0∨d=1∨d=2) with rfl |rfl |rfl
 ·exact#[_,Z,h]
 ·exact#[_,Z,e]
 ·exact#[_,Z,f]
theorem DN{P:Addr->Prop}(h:P a)(d:P b)(c:Bool):∃x,du [V.ref a,.ref b] (if c then 1 else 0)=some (.ref x)/\P x:=by
 cases c
 ·exact#[_,Z,h]
 ·exact#[_,Z,d]
def ci(Cf:gJ)(H:Hp)(ys:List Str)(d:Nat)(v:V):Prop:=∃s,gA H v s/\(s.Ok ys/\s.Cs Cf)/\s.dep<=d/\s.size<=1+20*d
def gn(Cf:gJ)(H:Hp)(ys:List Str)(d:Nat)(x:List V):Prop:=∃b,dj H b x/\(b.Ok ys/\b.Cs Cf)/\b.dep<=d/\b.size<=(1+20*d)*x.length
theorem ci.mono(h:ci Cf H ys d v)(m:ah H a):ci Cf a ys d v:=let #[s,b,c]:=h;#[s,b.mono m,c]
theorem gn.mono{xs:List V}(h:gn Cf H ys d xs)(m:ah H a):gn Cf a ys d xs:=let #[s,b,c]:=h;#[s,b.mono m,c]
theorem ci.up(h:ci Cf H ys 0 v):ci Cf H ys d v:=let #[s,a,b,c,e]:=h;#[s,a,b,RU,RU]
theorem Kk:gn Cf H ys d []:=#[.nil,Z,#[trivial,trivial],Hg _,Hg _]
theorem Jq{xs:List V}(h:gn Cf H ys d xs)(g:gn Cf H ys d z):gn Cf H ys d (xs++z):=by obtain⟨a,c,A,f,i⟩:=h;obtain⟨b,e,B,j,k⟩:=g;refine#[a.app b,e.app c,#[Ki A.1 B.1,Kh A.2 B.2],by rw[zk];omega,?_];rw[jW,GU,Nat.mul_add];omega
theorem zw(h:ci Cf H ys d v):gn Cf H ys d [v]:=by obtain⟨s,a,b,c,e⟩:=h;exact#[s,a.bd,b,c,by show s.size<=(1+20*d)*1;omega]
theorem jU(h:ci Cf H ys d v)(g:gn Cf H ys d xs):gn Cf H ys d (v::xs):=Jq (xs:=[v]) (zw h) g
theorem Xm{l:Lf}(h:H p=some (.tup v))(a:u6 H l v)(b:l.Ok ys)(c:l.Cs Cf):ci Cf H ys 0 (.ref p):=#[.lf p l .nil,.lf p l v h a,#[#[b,trivial],c,trivial],GV 0,GV 1]
theorem Ed(h:H p=some (.tup [.str "read",.str x,.ref t]))(a:x∈ys)(b:f8 H ys k t)(c:k < 6:=by decide):ci Cf H ys 0 (.ref p):=by obtain⟨T,d,e⟩:=b.ok c;exact Xm (l:=.rd x t T) h #[Z,d] #[a,e] trivial
theorem Ee(h:H p=some (.tup [.str "set",.str x,.ref t]))(a:x∈ys)(b:f8 H ys k t)(c:k < 6:=by decide):ci Cf H ys 0 (.ref p):=by obtain⟨T,d,e⟩:=b.ok c;exact Xm (l:=.st x t T) h #[Z,d] #[a,e] trivial
theorem Eb(h:H p=some (.tup [.str "give",.ref t]))(a:f8 H ys k t)(b:k < 6:=by decide):ci Cf H ys 0 (.ref p):=by obtain⟨T,c,d⟩:=a.ok b;exact Xm (l:=.gv t T) h #[Z,c] d trivial
theorem Ef(h:H p=some (.tup [.str "write",.ref t,.ref u]))(a:f8 H ys k t)(b:f8 H ys j u)(c:k < 6:=by decide)(d:j < 6:=by decide):ci Cf H ys 0 (.ref p):=by obtain⟨T,e,f⟩:=a.ok c;obtain⟨U,g,i⟩:=b.ok d;exact Xm (l:=.wr t u T U) h #[Z,e,g] #[f,i] trivial
theorem Ea{f:Str}(h:H p=some (.tup [.str "call",.str x,.str f,.ref q]))(b:x∈ys)(a:(f,2)∈Cf)(d:H q=some (.tup [.ref t,.ref u]))(e:f8 H ys k t)(g:f8 H ys j u)(i:k < 6:=by decide)(m:j < 6:=by decide):ci Cf H ys 0 (.ref p):=by
 obtain⟨T,n,o⟩:=e.ok i;obtain⟨U,r,s⟩:=g.ok m;refine Xm (l:=.cl x f q [(t,T),(u,U)]) h #[Z,d,λc hc=>?_] #[b,(by show 2<=6;decide),λc hc=>?_] a
 ·rcases List.mem_cons.mp hc with rfl |hc
  ·exact n
  ·rw[List.mem_singleton.mp hc];exact r
 ·rcases List.mem_cons.mp hc with rfl |hc
  ·exact o
  ·rw[List.mem_singleton.mp hc];exact s
theorem Ec(h:H p=some (.tup [.str "if",.ref t,.ref q,.ref Q]))(e:f8 H ys k t)(f:H q=some (.tup A))(g:H Q=some (.tup B))(G:gn Cf H ys 0 A)(i:gn Cf H ys 0 B)(r:A.length+B.length<=20)(j:k < 6:=by decide):ci Cf H ys 1 (.ref p):=by obtain⟨T,l,m⟩:=e.ok j;obtain⟨a,n,c,s,u⟩:=G;obtain⟨b,o,d,v,x⟩:=i;exact#[.ite p t T a b .nil,.ite p t T a b q Q A B h l f g n o,#[#[m,c.1,d.1,trivial],c.2,d.2,trivial],(by show max (max a.dep b.dep+1) 0<=1;omega),(by show a.size+b.size+0+1<=21;omega)]
theorem uh(h:H p=some (.tup [.str "while",.ref t,.ref q]))(c:f8 H ys k t)(d:H q=some (.tup A))(g:gn Cf H ys 0 A)(l:A.length<=20)(e:k < 6:=by decide):ci Cf H ys 1 (.ref p):=by obtain⟨T,f,i⟩:=c.ok e;obtain⟨a,j,b,m,n⟩:=g;exact#[.loop p t T a .nil,.loop p t T a q A h f d j,#[#[i,b.1,trivial],b.2,trivial],(by show max (a.dep+1) 0<=1;omega),(by show a.size+0+1<=21;omega)]
def oZ(Cf:gJ)(n:Nat)(H:Hp)(r:Addr)(f:Str):Prop:=∃d:Df,xV H d (.ref r)/\(mv d/\d.b.Cs Cf)/\∃p:List Str,H d.pa=some (.tup$ p.map V.str)/\p.length=n/\d.f=f
theorem oZ.mono(h:oZ Cf n H r f)(m:ah H a):oZ Cf n a r f:=let #[d,b,c,p,e,g]:=h;#[d,b.mono m,c,p,m _ _ e,g]
theorem Di{f:Str}{p:List Str}(h:H r=some (.tup [.str f,.ref a,.ref b]))(d:H a=some (.tup$ p.map V.str))(e:p.length=n)(i:H b=some (.tup x))(g:gn Cf H ys 1 x)(l:x.length<=100)(j:ys.length<=20):oZ Cf n H r f:=by obtain⟨c,k,C,m,o⟩:=g;exact#[#[f,r,a,b,c],#[x,Z,h,i,k],#[#[#[ys,j,C.1],(by show c.dep < 8;omega),(by show c.size<=3000;omega)],C.2],p,d,e,Z]
structure Wd(H0 H:Hp)(p wl:Addr)(ys:List Str):Prop where
 B:ao H p
 K:ar p H0 H
 w:H wl=some (.lst$ ys.map V.str)
theorem Wd.np(h:Wd b H p a ys):a≠p:=zu h.B h.w
theorem Wd.same(h:Wd a H p b ys)(s:ae H c):Wd a c p b ys:=#[h.B.same s,h.K.trans$ ar.of_same s,s _ _ h.w]
theorem Wd.but(h:Wd b H p c ys)(B:ao a p)(k:ar p H a):Wd b a p c ys:=#[B,h.K.trans k,k _ _ h.np h.w]
theorem Wd.own{xs:List V}(h:Wd a H p b ys)(n:a l=none)(L:l≠p)(c:l≠b):Wd a (af H l$ .lst z) p b ys:=#[h.B.eq$ ji$ HI L,h.K.upd_own n,by rw[ji$ HI c];exact h.w]
theorem QP(h:H l=some (.lst x)):ah H (af H l$ .lst a):=λb u e=>by rw[ji$ jN e h (by intro z;cases z)];exact e
end
inductive lS(d:List V)(H:Hp)(Q:VK)(c:XK):Prop
 |mk(p a b:Addr)(e:List Str)(k:Nat)(_:d=[.ref p,.ref a,.ref b])(_:ao H p)(_:f8 H e k a)(_:f8 H e k b)(_:∀(r:Addr) (H':Hp),f8 H' e (k+1) r->ao H' p->ar p H H'->Q (.ref r) H')
inductive c8(n:Nat)(b:List V)(H:Hp)(Q:VK)(a:XK):Prop
 |mk(p c:Addr)(f g:Str)(d:List Str)(_:b=[.ref p,.str f,.str g,.ref c])(_:ao H p)(_:H c=some (.lst (d.map V.str)))(_:d.length=6)(_:∀(r:Addr) (H':Hp),oZ [(g,2)] n H' r f->ao H' p->ar p H H'->Q (.ref r) H')
noncomputable abbrev Fq:Stmt:=bM 63
noncomputable abbrev mV:Stmt:=bM 64
noncomputable abbrev gB:Stmt:=bM 65
noncomputable abbrev fb:Stmt:=bM 66
noncomputable abbrev sN:Stmt:=bM 67
theorem Fj{A:List V}(h:A.length=5):∃a b c d e,A=[a,b,c,d,e]:=by
 cases A with
 |nil=>cases h
 |cons a r=>
  cases r with
  |nil=>cases h
  |cons b R=>
   cases R with
   |nil=>cases h
   |cons c f=>
    cases f with
    |nil=>cases h
    |cons d g=>
     cases g with
     |nil=>cases h
     |cons e i=>
      cases i with
      |nil=>exact#[a,b,c,d,e,Z]
      |cons _ _=>cases h
theorem Gm{n:Nat}:mN (n+1) 0=some 0:=by unfold mN;rw[Hm RT,Hm RU];rfl
theorem Gn{n:Nat}:mN (n+2) 1=some 1:=by unfold mN;rw[Hm RT,Hm RU];rfl
theorem iH:du (v::u::y) 1=some u:=jQ (j:=1) Z
structure Fw(p:Addr)(H H':Hp):Prop where
 t:ah H H'
 b:ar p H H'
theorem Fw.refl:Fw p H H:=#[ah.refl,ar.refl]
theorem Fw.trans(a:Fw p H h)(b:Fw p h c):Fw p H c:=#[a.t.trans b.t,a.b.trans b.b]
theorem Fw.new{p:Addr}{H:Hp}{o:HO}(n:H r=none):Fw p H (af H r o):=#[ae.tm$ jd n,ar.of_same$ jd n]
theorem Fw.same(s:ae H h):Fw p H h:=#[ae.tm s,ar.of_same s]
theorem Fw.but(B:ao H p)(c:ar p H h):Fw p H h:=#[c.tm B,c]
def nB(P:Hp->V->Prop):Prop:=∀H h v,ah H h->P H v->P h v
def Ev(a:Hp)(p W:Addr)(y:List Str)(b:Hp)(c:_L.St)(t:TE)(P:Hp->V->Prop):Prop:=∀(H:Hp) (Q:VK),Fw p b H->Wd a H p W y->(∀v h,P h v->Wd a h p W y->Fw p H h->Q v h)->t c H Q
def PT(y:List Str)(k:Nat)(H:Hp)(v:V):Prop:=∃a,v= .ref a/\f8 H y k a
def PB(C:gJ)(y:List Str)(d n:Nat)(H:Hp)(v:V):Prop:=∃a x,v= .ref a/\H a=some (.tup x)/\gn C H y d x/\x.length<=n
def PN(y:List Str)(_:Hp)(v:V):Prop:=∃x,v= .str x/\x∈y
def PG(_:Hp)(v:V):Prop:=∃s,v= .str s/\Sg s
def PP(n:Nat)(H:Hp)(v:V):Prop:=∃(a:Addr) (x:List Str),v= .ref a/\H a=some (.tup$ x.map V.str)/\x.length=n
def u7(y:Str)(_:Hp)(v:V):Prop:=v= .str y
def PD(C:gJ)(n:Nat)(f:Str)(H:Hp)(v:V):Prop:=∃a,v= .ref a/\oZ C n H a f
section
variable {Cf:gJ}{ys:List Str}{H0 Hb:Hp}{p wl:Addr}{σ:_L.St}
theorem aq:nB (PT ys k):=λ_ _ _ m #[a,e,h]=>#[a,e,h.mono m]
theorem dB:nB (PB Cf ys d n):=λ_ _ _ m #[a,x,e,h,H,b]=>#[a,x,e,m _ _ h,H.mono m,b]
theorem dI:nB λH v=>ci Cf H ys d v:=λ_ _ _ m h=>h.mono m
theorem iJ:nB (PD Cf n f):=λ_ _ _ m #[a,e,h]=>#[a,e,h.mono m]
theorem Ev.up{P R:Hp->V->Prop}(h:Ev H0 p wl ys Hb σ t P)(k:∀H v,P H v->R H v):Ev H0 p wl ys Hb σ t R:=λH Q m W q=>h H Q m W λv a x=>q v a (k _ _ x)
theorem jK{P:Hp->V->Prop}(e:σ[i]?=some (some v))(M:nB P)(h:P Hb v):Ev H0 p wl ys Hb σ (aX i) P:=λH Q m W q=>#[v,e,q v H (M _ _ _ m.t h) W .refl]
theorem qg(h:Sg s):Ev H0 p wl ys Hb σ (tC$ .str s) PG:=λH Q m W q=>q _ H #[s,Z,h] W .refl
theorem kK{K:Frag}(e:σ[j]?=some (some$ .ref wl))(a:0<=i)(b:i < (ys.length:Int)):Ev H0 p wl ys Hb σ (dG (iw K) (aX j)$ tC$ .int i) (PN ys):=λH Q m W q=>by obtain⟨y,c,h⟩:=Jn (ys:=ys) a b;exact#[_,e,wl,_,_,_,Z,Z,aB.of W.w,h,q _ H #[y,Z,c] W .refl]
theorem kB{Q:VK}{P:Hp->V->Prop}(W:Wd H0 H p wl ys)(q:∀v h,P h v->Wd H0 h p wl ys->Fw p H h->Q v h)(n:H r=none)(x:ah H (af H r o)->af H r o r=some o->P (af H r o) (.ref r)):Q (.ref r) (af H r o):=
 q _ _ (x (ae.tm$ jd n) jc) (W.same$ jd n) (.new n)
abbrev uS(n:Int):TE:=dF aL [] E0 (al (aX 0)$ al (tC$ .int n) aM)
def PK(n:Int)(_:Hp)(v:V):Prop:=∃d:Int,v= .int d/\0<=d/\d < n
theorem kN(e:σ[0]?=some (some$ .ref p))(h:1<=n)(c:n<=1000):Ev H0 p wl ys Hb σ (uS n) (PK n):=λH Q m W q=>
 #[_,e,p,n,Z,W.B,RU,RU,λd f D a b E=>q _ _ #[d,Z,D,a] (W.but b$ ar.of_eq E) (.but W.B$ ar.of_eq E)]
theorem kC(h:Ev H0 p wl ys Hb σ t (PK n))(g:n<=1000000000000000000):Ev H0 p wl ys Hb σ (bV$ al (tC$ .str "num")$ al t aM) (PT ys 0):=λH Q m W q=>
 h H _ m W λv i #[d,e,D,j] a b=>#[bo,λr N=>kB (P:=PT ys 0) a (λV c x f k=>q V c x f (b.trans k)) N λ_ z=>#[r,Z,Ck (by rw[z,e]) D RU]]
theorem QL(h:0<=n)(a:n < m):Ev H0 p wl ys Hb σ (tC$ .int n) (PK m):=λH Q _ W q=>q _ H #[n,Z,h,a] W .refl
theorem QQ(h:Ev H0 p wl ys Hb σ t (PK n))(c:0<=m):Ev H0 p wl ys Hb σ (dG (sI λi j=>V.int (i+j)) (tC$ .int m) t) (PK$ m+n):=λH Q M W q=>
 h H _ M W λv a #[d,e,D,f] b k=>#[m,d,Z,e,q _ a #[m+d,Z,RU,RU] b k]
theorem J9(h:Ev H0 p wl ys Hb σ t (PN ys)):Ev H0 p wl ys Hb σ (bV$ al (tC$ .str "var")$ al t aM) (PT ys 0):=λH Q m W q=>
 h H _ m W λv i #[d,e,a] b c=>#[bo,λr n=>kB (P:=PT ys 0) b (λV f x g k=>q V f x g (c.trans k)) n λ_ z=>#[r,Z,uD (by rw[z,e]) a]]
theorem qd{n:Nat}(h:Ev H0 p wl ys Hb σ T PG)(f:Ev H0 p wl ys Hb σ g (PT ys j))(i:Ev H0 p wl ys Hb σ l (PT ys k))(o:j < n)(u:k < n):Ev H0 p wl ys Hb σ (bV$ al (tC$ .str "op")$ al T$ al g$ al l aM) (PT ys n):=λH Q m W q=>
 h H _ m W λM v #[s,E,X] y c=>f v _ (m.trans c) y λO A #[a,B,C] D d=>i A _ ((m.trans c).trans d) D λR S #[b,F,G] I e=>#[oW,λr N=>kB (P:=PT ys n) I (λV J x L k=>q V J x L (((c.trans d).trans e).trans k)) N λt z=>
  #[r,Z,yM (by rw[z,E,B,F]) X ((C.mono e.t).mono t) (G.mono t) o u]]
theorem Do(e:σ[0]?=some (some$ .ref p)):Ev H0 p wl ys Hb σ (dG wO (tC$ .str "<=*")$ uS 3) PG:=λH Q m W q=>
 kN e RT RT H _ m W λv h #[d,E,D,a] b k=>by obtain⟨g,i,x⟩:=wH D a;exact#["<=*",d,g,Z,E,RW,i,q _ h #[_,Z,x] b k]
theorem YL{K:Frag}(e:σ[0]?=some (some$ .ref p))(r:Ev H0 p wl ys Hb σ T (PT ys k))(s:Ev H0 p wl ys Hb σ u (PT ys k)):Ev H0 p wl ys Hb σ (dG (iw K) (lW$ al T$ al u aM)$ uS 2) (PT ys k):=λH Q m W q=>
 r H _ m W λV y #[a,E,X] z c=>s y _ (m.trans c) z λA C #[b,D,F] h f=>#[bo,λl n=>kN e RT RT _ _ (((m.trans c).trans f).trans$ .new n) (h.same$ jd n) λv G #[d,I,J,L] M j=>by
  obtain⟨g,i,x⟩:=DK (P:=f8 C ys k) J L (X.mono f.t) F;rw[<- E,<- D]at i;have t:=(Fw.new (p:=p) (o:=HO.lst [V,A]) n).trans j;exact#[l,_,d,_,Z,I,aB.of$ j.b _ _ (h.B.ne n) jc,i,q _ G #[g,Z,x.mono t.t] M ((c.trans f).trans t)]]
theorem ye{K:Frag}(e:σ[0]?=some (some$ .ref p))(u:Ev H0 p wl ys Hb σ T (PT ys k))(y:Ev H0 p wl ys Hb σ z (PT ys k))(A:Ev H0 p wl ys Hb σ C (PT ys k)):Ev H0 p wl ys Hb σ (dG (iw K) (lW$ al T$ al z$ al C aM)$ uS 3) (PT ys k):=λH Q m W q=>
 u H _ m W λV D #[a,E,X] F f=>y D _ (m.trans f) F λG I #[b,J,L] M h=>A I _ ((m.trans f).trans h) M λN O #[c,R,S] r j=>#[dZ,λl n=>kN e RT RT _ _ ((((m.trans f).trans h).trans j).trans$ .new n) (r.same$ jd n) λv U #[d,Y,d0,d1] W4 s=>by
  obtain⟨g,i,x⟩:=DM (P:=f8 O ys k) d0 d1 (X.mono (h.trans j).t) (L.mono j.t) S;rw[<- E,<- J,<- R]at i;have t:=(Fw.new (p:=p) (o:=HO.lst [V,G,N]) n).trans s;exact#[l,_,d,_,Z,Y,aB.of$ s.b _ _ (r.B.ne n) jc,i,q _ U #[g,Z,x.mono t.t] W4 (((f.trans h).trans j).trans t)]]
theorem Dm{K:Frag}(e:σ[0]?=some (some$ .ref p))(r:1<=n)(s:n<=1000)(u:Ev H0 p wl ys Hb σ T (PT ys k))(y:Ev H0 p wl ys Hb σ z (PT ys k)):Ev H0 p wl ys Hb σ (dG (iw K) (lW$ al T$ al z aM)$ EE (λX H Q=>(∃i,X=[V.int i]/\Q (V.int i) H)∨∃k,X=[V.bl k]/\Q (V.int (if k=true then 1 else 0)) H)$ al (dG DP (uS n)$ tC$ .int 0) aM) (PT ys k):=λH Q m W q=>
 u H _ m W λA C #[a,E,D] F c=>y C _ (m.trans c) F λG I #[b,J,L] h f=>#[bo,λl N=>kN e r s _ _ (((m.trans c).trans f).trans$ .new N) (h.same$ jd N) λv M #[d,O,S,U] R j=>by
  subst O;refine#[Z,.inr #[_,Z,?_]];obtain⟨g,i,x⟩:=DN (P:=f8 I ys k) (D.mono f.t) L _;rw[<- E,<- J]at i;have t:=(Fw.new (p:=p) (o:=HO.lst [A,G]) N).trans j;exact#[l,_,_,_,Z,Z,aB.of$ j.b _ _ (h.B.ne N) jc,i,q _ M #[g,Z,x.mono t.t] R ((c.trans f).trans t)]]
theorem Ka(e:σ[0]?=some (some$ .ref p))(h:Ev H0 p wl ys Hb σ T (PT ys k))(g:Ev H0 p wl ys Hb σ i (PT ys k)):Ev H0 p wl ys Hb σ (dF lS [] E0$ al (aX 0)$ al T$ al i aM) (PT ys$ k+1):=λH Q m W q=>
 #[_,e,h H _ m W λv j #[a,E,x] l d=>g j _ (m.trans d) l λV y #[b,n,X] c f=>#[p,a,b,ys,k,by rw[E,n];rfl,c.B,x.mono f.t,X,λr o s u C=>q _ o #[r,Z,s] (c.but u C) ((d.trans f).trans$ .but c.B C)]]
theorem vv{w:Str}{T a:TE}{A B R:Hp->V->Prop}(M:nB A)(d:nB B)(e:Ev H0 p wl ys Hb σ T A)(f:Ev H0 p wl ys Hb σ a B)(h:∀H r u v,H r=some (.tup [.str w,u,v])->A H u->B H v->R H (.ref r)):Ev H0 p wl ys Hb σ (bV$ al (tC$ .str w)$ al T$ al a aM) R:=λH Q m W q=>
 e H _ m W λC g X i b=>f g _ (m.trans b) i λD E j l c=>#[dZ,λr n=>kB (P:=R) l (λo s x y k=>q o s x y ((b.trans c).trans k)) n λt z=>h _ _ _ _ z (M _ _ _ t$ M _ _ _ c.t X) (d _ _ _ t j)]
theorem Fd{w:Str}{T:TE}{A R:Hp->V->Prop}(M:nB A)(a:Ev H0 p wl ys Hb σ T A)(h:∀H r u,H r=some (.tup [.str w,u])->A H u->R H (.ref r)):Ev H0 p wl ys Hb σ (bV$ al (tC$ .str w)$ al T aM) R:=λH Q m W q=>
 a H _ m W λf g X b c=>#[bo,λr n=>kB (P:=R) b (λv d x e k=>q v d x e (c.trans k)) n λt z=>h _ _ _ z (M _ _ _ t X)]
theorem Dj{w:Str}{T d e:TE}{A B C R:Hp->V->Prop}(M:nB A)(f:nB B)(g:nB C)(i:Ev H0 p wl ys Hb σ T A)(j:Ev H0 p wl ys Hb σ d B)(l:Ev H0 p wl ys Hb σ e C)(h:∀H r u v x,H r=some (.tup [.str w,u,v,x])->A H u->B H v->C H x->R H (.ref r)):Ev H0 p wl ys Hb σ (bV$ al (tC$ .str w)$ al T$ al d$ al e aM) R:=λH Q m W q=>
 i H _ m W λL n X o a=>j n _ (m.trans a) o λO s y D b=>l s _ ((m.trans a).trans b) D λS U E F c=>#[oW,λr N=>kB (P:=R) F (λG I x J k=>q G I x J (((a.trans b).trans c).trans k)) N λt z=>h _ _ _ _ _ z (M _ _ _ t$ M _ _ _ (b.trans c).t X) (f _ _ _ t$ f _ _ _ c.t y) (g _ _ _ t E)]
theorem AA:nB (PN ys):=λ_ _ _ _ h=>h
theorem Kb{t T:TE}{k:Nat}(h:Ev H0 p wl ys Hb σ t (PN ys))(b:Ev H0 p wl ys Hb σ T (PT ys k))(c:k < 6):Ev H0 p wl ys Hb σ (bV$ al (tC$ .str "read")$ al t$ al T aM) (λH v=>ci Cf H ys 0 v):=vv AA aq h b λH r u v z #[x,e,d] #[a,E,f]=>Ed (by rw[z,e,E]) d f c
theorem JC{t T:TE}{k:Nat}(h:Ev H0 p wl ys Hb σ t (PN ys))(b:Ev H0 p wl ys Hb σ T (PT ys k))(c:k < 6):Ev H0 p wl ys Hb σ (bV$ al (tC$ .str "set")$ al t$ al T aM) (λH v=>ci Cf H ys 0 v):=vv AA aq h b λH r u v z #[x,e,d] #[a,E,f]=>Ee (by rw[z,e,E]) d f c
theorem Kc{t T:TE}{j k:Nat}(h:Ev H0 p wl ys Hb σ t (PT ys j))(b:Ev H0 p wl ys Hb σ T (PT ys k))(c:j < 6)(d:k < 6):Ev H0 p wl ys Hb σ (bV$ al (tC$ .str "write")$ al t$ al T aM) (λH v=>ci Cf H ys 0 v):=vv aq aq h b λH r u v z #[x,e,f] #[a,E,g]=>Ef (by rw[z,e,E]) f g c d
theorem Xn{t:TE}{k:Nat}(h:Ev H0 p wl ys Hb σ t (PT ys k))(b:k < 6):Ev H0 p wl ys Hb σ (bV$ al (tC$ .str "give")$ al t aM) (λH v=>ci Cf H ys 0 v):=Fd aq h λH r v z #[a,e,c]=>Eb (by rw[z,e]) c b
theorem pR{n o T c:TE}{j k:Nat}(C:Ev H0 p wl ys Hb σ n (PN ys)){f:Str}(D:Ev H0 p wl ys Hb σ o (u7 f))(d:(f,2)∈Cf)(F:Ev H0 p wl ys Hb σ T (PT ys j))(G:Ev H0 p wl ys Hb σ c (PT ys k))(I:j < 6)(J:k < 6):Ev H0 p wl ys Hb σ (bV$ al (tC$ .str "call")$ al n$ al o$ al (bV$ al T$ al c aM) aM) (λH v=>ci Cf H ys 0 v):=by
 let R:Hp->V->Prop:=λH v=>∃q a b,v= .ref q/\H q=some (.tup [.ref a,.ref b])/\f8 H ys j a/\f8 H ys k b
 have M:nB R:=λ_ _ _ m #[q,a,b,e,g,L,i]=>#[q,a,b,e,m _ _ g,L.mono m,i.mono m];have N:Ev H0 p wl ys Hb σ (bV$ al T$ al c aM) R:=λH Q m W q=>
  F H _ m W λv2 O #[a,E,X] S s=>G O _ (m.trans s) S λv3 H3 #[b,l,U] Y A=>#[bo,λr nr=>kB (P:=R) Y (λv' H' x W' k=>q v' H' x W' ((s.trans A).trans k)) nr λt z=>#[r,a,b,Z,by rw[z,E,l],(X.mono A.t).mono t,U.mono t]]
 exact Dj AA (B:=u7 f) (λ_ _ _ _ h=>h) M C D N λH r u v x z #[y,e1,g] (E:v= .str f) #[q,a,b,l,i,h4,h5]=>Ea (f:=f) (by rw[z,e1,E,l]) g d i h4 h5 I J
theorem yd{t T b:TE}{k n m:Nat}(h:Ev H0 p wl ys Hb σ t (PT ys k))(c:Ev H0 p wl ys Hb σ T (PB Cf ys 0 n))(d:Ev H0 p wl ys Hb σ b (PB Cf ys 0 m))(e:k < 6)(s:n+m<=20):Ev H0 p wl ys Hb σ (bV$ al (tC$ .str "if")$ al t$ al T$ al b aM) (λH v=>ci Cf H ys 1 v):=
 Dj aq dB dB h c d λH r u v x z #[a,E,f] #[Q,X,g,i,j,y] #[A,B,l,o,q,C]=>Ec (by rw[z,E,g,l]) f i o j q RU e
theorem yi{t T:TE}{k n:Nat}(h:Ev H0 p wl ys Hb σ t (PT ys k))(b:Ev H0 p wl ys Hb σ T (PB Cf ys 0 n))(c:k < 6)(i:n<=20):Ev H0 p wl ys Hb σ (bV$ al (tC$ .str "while")$ al t$ al T aM) (λH v=>ci Cf H ys 1 v):=
 vv aq dB h b λH r u v z #[a,e,d] #[q,x,E,f,g,j]=>uh (by rw[z,e,E]) d f g RU c
theorem yc{d:Nat}:Ev H0 p wl ys Hb σ (bV aM) (PB Cf ys d 0):=λH Q m W q=>#[ig,λr n=>kB (P:=PB Cf ys d 0) W q n λt z=>#[r,[],Z,z,Kk,GV 0]]
theorem Kd(h:Ev H0 p wl ys Hb σ T (λH v=>ci Cf H ys d v)):Ev H0 p wl ys Hb σ (bV$ al T aM) (PB Cf ys d 1):=λH Q m W q=>
 h H _ m W λf g X a b=>#[gH,λr n=>kB (P:=PB Cf ys d 1) a (λV c x e k=>q V c x e (b.trans k)) n λt z=>#[r,_,Z,z,zw$ X.mono t,GV 1]]
theorem YM(h:Ev H0 p wl ys Hb σ T (λH v=>ci Cf H ys d v))(c:Ev H0 p wl ys Hb σ e (λH v=>ci Cf H ys d v)):Ev H0 p wl ys Hb σ (bV$ al T$ al e aM) (PB Cf ys d 2):=λH Q m W q=>
 h H _ m W λs f X g a=>c f _ (m.trans a) g λu y i j b=>#[bo,λr n=>kB (P:=PB Cf ys d 2) j (λV l x o k=>q V l x o ((a.trans b).trans k)) n λt z=>#[r,_,Z,z,jU ((X.mono b.t).mono t)$ zw$ i.mono t,GV 2]]
theorem Dk(h:Ev H0 p wl ys Hb σ T (λH v=>ci Cf H ys d v))(e:Ev H0 p wl ys Hb σ f (λH v=>ci Cf H ys d v))(g:Ev H0 p wl ys Hb σ i (λH v=>ci Cf H ys d v)):Ev H0 p wl ys Hb σ (bV$ al T$ al f$ al i aM) (PB Cf ys d 3):=λH Q m W q=>
 h H _ m W λC j X l a=>e j _ (m.trans a) l λD n o s b=>g n _ ((m.trans a).trans b) s λE F u y c=>#[dZ,λr N=>kB (P:=PB Cf ys d 3) y (λV A x B k=>q V A x B (((a.trans b).trans c).trans k)) N λt z=>#[r,_,Z,z,jU ((X.mono (b.trans c).t).mono t)$ jU ((o.mono c.t).mono t)$ zw$ u.mono t,GV 3]]
theorem qH(h:Ev H0 p wl ys Hb σ T (PB Cf ys d n))(e:Ev H0 p wl ys Hb σ f (PB Cf ys d m))(B:n+m<=100):Ev H0 p wl ys Hb σ (dG sH T f) (PB Cf ys d$ n+m):=λH Q M W q=>
 h H _ M W λV g #[a,x,E,i,X,L] j c=>e g _ (M.trans c) j λC D #[b,z,l,o,u,F] v k=>#[a,b,x,z,E,l,k.t _ _ i,o,Hh (show x.length+z.length<=100 by omega) RT,λr y A s=>q _ y #[r,_,Z,A,Jq ((X.mono k.t).mono$ ae.tm s)$ u.mono$ ae.tm s,by rw[GU];omega] (v.same s) ((c.trans k).trans$ .same s)]
theorem Qo(e:σ[i]?=some (some$ .str x)):Ev H0 p wl ys Hb σ (aX i) (u7 x):=jK e (λ_ _ _ _ h=>h) Z
theorem YN(h:Ev H0 p wl ys Hb σ T (u7 f))(g:Ev H0 p wl ys Hb σ i (PP m))(j:Ev H0 p wl ys Hb σ l (PB Cf ys 1 n))(O:n<=100)(o:ys.length<=20):Ev H0 p wl ys Hb σ (bV$ al T$ al i$ al l aM) (PD Cf m f):=λH Q M W q=>
 h H _ M W λv s (E:v= .str f) u c=>g s _ (M.trans c) u λR y #[a,S,A,B,L] C d=>j y _ ((M.trans c).trans d) C λU Y #[b,xs,D,F,X,l4] G e=>#[dZ,λr N=>kB (P:=PD Cf m f) G (λV I x J k=>q V I x J (((c.trans d).trans e).trans k)) N λt z=>
  #[r,Z,Di (f:=f) (by rw[z,E,A,D]) (t _ _$ e.t _ _ B) L (t _ _ F) (X.mono t) RU o]]
theorem yf(h:Ev H0 p wl ys Hb σ T (PN ys)):Ev H0 p wl ys Hb σ (bV$ al T aM) (PP 1):=λH Q m W q=>
 h H _ m W λV f #[X,e,_] a b=>#[gH,λr n=>kB (P:=PP 1) a (λv c x d k=>q v c x d (b.trans k)) n λt z=>#[r,[X],Z,by rw[z,e];rfl,Z]]
theorem yg(h:Ev H0 p wl ys Hb σ T (PN ys))(b:Ev H0 p wl ys Hb σ c (PN ys)):Ev H0 p wl ys Hb σ (bV$ al T$ al c aM) (PP 2):=λH Q m W q=>
 h H _ m W λV d #[X,e,_] f a=>b d _ (m.trans a) f λs u #[g,E,_] i j=>#[bo,λr n=>kB (P:=PP 2) i (λv l x o k=>q v l x o ((a.trans j).trans k)) n λt z=>#[r,[X,g],Z,by rw[z,e,E];rfl,Z]]
theorem ci.lift(h:ci Cf H ys 0 v):ci Cf H ys 1 v:=h.up
theorem PB.lift(h:PB Cf ys 0 n H v):PB Cf ys 1 n H v:=let #[a,x,e,c,#[b,B,d,g,i],f]:=h;#[a,x,e,c,#[b,B,d,RU,RU],f]
theorem PB.more(h:PB Cf ys d n H v)(k:n<=m):PB Cf ys d m H v:=let #[a,x,e,b,c,f]:=h;#[a,x,e,b,c,Hh f k]
theorem qN{a b:TS}(W:Wd H0 H p wl ys)(e:σ[0]?=some (some$ .ref p))(g:1<=n)(i:n<=1000)(j:∀h,Wd H0 h p wl ys->Fw p H h->a D σ h)(l:∀h,Wd H0 h p wl ys->Fw p H h->b D σ h):lv (ii$ dG DP (uS n)$ tC$ .int 0) a b D σ H:=
 kN (Hb:=H) e g i H _ .refl W λv c #[d,E,m,o] f k=>by subst E;exact#[Z,_,Z,bN (λ_=>j c f k) (λ_=>l c f k)]
theorem jS{D:aW}{P:Hp->V->Prop}(W:Wd H0 H p wl ys)(h:Ev H0 p wl ys H σ t P)(q:∀v a,P a v->Wd H0 a p wl ys->Fw p H a->D.nx (σ.set i$ some v) a):dU t (bp i) D σ H:=h H _ .refl W q
theorem QR{D:aW}{P:Hp->V->Prop}(W:Wd H0 H p wl ys)(h:Ev H0 p wl ys H σ t P)(q:∀v a,P a v->Wd H0 a p wl ys->D.rt v a):iz t D σ H:=h H _ .refl W λv a x b _=>q v a x b
theorem xw{K:Frag}{D:aW}(W:Wd H0 H p wl ys)(d:Ev H0 p wl ys H σ T (PT ys 0))(e:Ev H0 p wl ys H σ f (PT ys 0))(g:Ev H0 p wl ys H σ l (PT ys 0))
  (q:∀u v w h,PT ys 0 h u->PT ys 0 h v->PT ys 0 h w->Wd H0 h p wl ys->Fw p H h->D.nx (((σ.set k$ some w).set j$ some v).set i$ some u) h):yG K (bV$ al T$ al f$ al l aM) i j k D σ H:=
 d H _ .refl W λV m x o a=>e m _ a o λs y X z b=>g y _ (a.trans b) z λA E B C c=>#[dZ,λr n=>#[r,_,_,_,Z,ax.of jc,q V s A _ (aq _ _ _ (ae.tm$ jd n)$ aq _ _ _ (b.trans c).t x) (aq _ _ _ (ae.tm$ jd n)$ aq _ _ _ c.t X) (aq _ _ _ (ae.tm$ jd n) B) (C.same$ jd n) (((a.trans b).trans c).trans$ .new n)]]
structure Ow(H0 H:Hp)(p wl l:Addr)(xs:List V):Prop where
 hl:H l=some (.lst xs)
 np:l≠p
 lw:l≠wl
 l0:H0 l=none
theorem Ow.fw(o:Ow H0 H p wl l x)(k:Fw p H h):Ow H0 h p wl l x:=#[k.b _ _ o.np o.hl,o.np,o.lw,o.l0]
theorem Ow.new(W:Wd H0 H p wl ys)(n:H l=none):Ow H0 (af H l$ .lst x) p wl l x:=#[jc,W.B.ne n,(λe=>by have z:=W.w;rw[<- e,n]at z;cases z),W.K.none W.B n]
theorem DI{D:aW}(W:Wd H0 H p wl ys)(b:Ev H0 p wl ys H σ t (λH v=>ci Cf H ys 0 v))(q:∀l v h,Ow H0 h p wl l [v]->ci Cf h ys 0 v->Wd H0 h p wl ys->Fw p H h->D.nx (σ.set i$ some$ .ref l) h):dU (lW$ al t aM) (bp i) D σ H:=
 b H _ .refl W λV c x a k=>#[gH,λl n=>q l V _ (.new a n) (x.mono$ ae.tm$ jd n) (a.same$ jd n) (k.trans$ .new n)]
theorem DJ{D:aW}(W:Wd H0 H p wl ys)(c:Ev H0 p wl ys H σ T (λH v=>ci Cf H ys 0 v))(d:Ev H0 p wl ys H σ e (λH v=>ci Cf H ys 0 v))(q:∀l u v h,Ow H0 h p wl l [u,v]->ci Cf h ys 0 u->ci Cf h ys 0 v->Wd H0 h p wl ys->Fw p H h->D.nx (σ.set i$ some$ .ref l) h):dU (lW$ al T$ al e aM) (bp i) D σ H:=
 c H _ .refl W λV f x g k=>d f _ k g λj m X a b=>#[bo,λl n=>q l V j _ (.new a n) ((x.mono b.t).mono$ ae.tm$ jd n) (X.mono$ ae.tm$ jd n) (a.same$ jd n) ((k.trans b).trans$ .new n)]
theorem Jr{K:Frag}{D:aW}(W:Wd H0 H p wl ys)(a:σ[i]?=some (some$ .ref l))(o:Ow H0 H p wl l xs)(b:xs.length<=100)(c:Ev H0 p wl ys H σ T (λH v=>ci Cf H ys 0 v))
  (q:∀v h,ci Cf h ys 0 v->Ow H0 h p wl l (xs++[v])->Wd H0 h p wl ys->ah H h->D.nx σ h):ot (Fz K "list" iM (aX i)$ al T aM) D σ H:=
 #[_,a,.inl #[Z,_,aB.of o.hl],c H _ .refl W λv e x d k=>#[l,xs,v,Z,Z,(o.fw k).hl,IH b RT,q v _ (x.mono$ QP (o.fw k).hl) #[jc,o.np,o.lw,o.l0] (d.own (xs:=xs) o.l0 o.np o.lw) (k.t.trans$ QP (o.fw k).hl)]]
theorem xH{K:Frag}{D:aW}(W:Wd H0 H p wl ys)(h:σ[i]?=some (some$ .ref l))(o:Ow H0 H p wl l (u::v::z))
  (q:∀a,Ow H0 a p wl l (v::u::z)->Wd H0 a p wl ys->ah H a->D.nx σ a):dU (bV$ al (dG (iw K) (aX i)$ tC$ .int 1)$ al (dG (iw K) (aX i)$ tC$ .int 0) aM) (pX K 2$ dE (An (aX i) (tC$ .int 0) nL)$ dE (An (aX i) (tC$ .int 1) nL) vC) D σ H:=
 #[_,h,l,_,_,_,Z,Z,aB.of o.hl,iH,_,h,l,_,_,_,Z,Z,aB.of o.hl,dH,bo,λt N=>#[t,_,Z,ax.of jc,Z,_,_,Z,_,h,l,_,0,0,Z,Z,am o.hl N,Gm (n:=z.length+1),_,_,Z,_,h,l,_,1,1,Z,Z,jc,Gn (n:=z.length),Z,
  q _ #[jc,o.np,o.lw,o.l0] (((W.same$ jd N).own (xs:=u::v::z) o.l0 o.np o.lw).own (xs:=u::v::z) o.l0 o.np o.lw) (((ae.tm$ jd N).trans$ QP$ am o.hl N).trans$ QP jc)]]
theorem yh{K:Frag}{n:Nat}(e:σ[i]?=some (some$ .ref l))(o:Ow H0 Hb p wl l x)(h:gn Cf Hb ys 0 x)(a:x.length<=n):Ev H0 p wl ys Hb σ (EE (λx H Q=>∃p ys,x=[V.ref p]/\((aB K H p ys/\∀(l:Addr),H l=none->Q (V.ref l) (af H l$ HO.tup ys))∨ax K H p ys/\Q (V.ref p) H))$ al (aX i) aM) (PB Cf ys 0 n):=λH Q m W q=>
 #[_,e,l,x,Z,.inl #[aB.of (o.fw m).hl,λr N=>kB (P:=PB Cf ys 0 n) W q N λt z=>#[r,x,Z,z,(h.mono m.t).mono t,a]]]
theorem y9{D:aW}(W:Wd H0 H p wl ys)(u:σ[i]?=some (some$ .ref l))(y:σ[j]?=some (some$ .ref m))(o:Ow H0 H p wl l x)(O:Ow H0 H p wl m z)(C:x.length+z.length<=100)(E:gn Cf H ys 0 x)(F:gn Cf H ys 0 z)
  (G:Ev H0 p wl ys H σ T (λH v=>ci Cf H ys 0 v)) (I:Ev H0 p wl ys H σ J (λH v=>ci Cf H ys 0 v)) (q:∀r U h,Ow H0 h p wl r U->gn Cf h ys 0 U->U.length<=x.length+z.length+2->Wd H0 h p wl ys->Fw p H h->D.nx (σ.set i$ some$ .ref r) h):
  dU (dG wN (dG wN (aX i)$ aX j)$ lW$ al T$ al J aM) (bp i) D σ H:=
 #[_,u,_,y,l,m,_,_,Z,Z,o.hl,O.hl,Hh C RT,λc n=>G _ _ (.new n) (W.same$ jd n) λV L X M k=>I L _ ((Fw.new n).trans k) M λe R Q A s=>#[bo,λd N=>#[c,d,_,_,Z,Z,am ((k.trans s).b _ _ (W.B.ne n) jc) N,jc,by
  have:=aF;show(x++z).length+2<=sizeLine;rw[GU];omega,λr a=>q r _ _ (.new (A.same$ jd N) a) (by
   have f:=(((Fw.new n).trans k).trans s).trans ((Fw.new (p:=p) (o:=HO.lst [V,e]) N).trans$ Fw.new (o:=HO.lst ((x++z)++[V,e])) a);have g:=(Fw.new (p:=p) (o:=HO.lst [V,e]) N).trans (Fw.new (o:=HO.lst ((x++z)++[V,e])) a);exact Jq (Jq (E.mono f.t)$ F.mono f.t)$ jU ((X.mono s.t).mono g.t)$ zw$ Q.mono g.t) (by rw[GU,GU];exact GV _) ((A.same$ jd N).same$ jd a) ((((Fw.new n).trans k).trans s).trans ((Fw.new N).trans$ Fw.new a))]]]
theorem Zd{K:Frag}{D:aW}(W:Wd H0 H p wl ys)(k:σ[3]?=some (some$ .ref wl))(l:ys.length=6)
  (q:∀a b c d e g,PT ys 0 g a->PT ys 0 g b->PT ys 0 g c->PT ys 0 g d->PT ys 0 g e->Wd H0 g p wl ys->D.nx (((((σ.set 4$ some a).set 5$ some b).set 6$ some c).set 7$ some d).set 8$ some e) g):
  dU (uj (yl K$ EF (wP K) (aX 3) lB$ lX$ tC$ V.int 5) 1 [] (bp 0) lV$ bV$ al (tC$ V.str "var")$ al (aX 0) aM) (Fe K 5$ dE (bp 4)$ dE (bp 5)$ dE (bp 6)$ dE (bp 7)$ dE (bp 8) vC) D σ H:=by
 have B:=aF;refine#[_,k,_,Z,wl,_,Z,aB.of W.w,λs n=>?_];have E:aD (ys.map V.str) none (some 5)=(ys.take 5).map V.str:=by rw[show(5:Int)=((5:Nat):Int) from Z,Db (by rw[GQ];omega),Ma]
 have t:af H s (.lst$ aD (ys.map V.str) none$ some 5) s=some (.lst ((ys.take 5).map V.str)):=by rw[E];exact jc
 have S:=jd (o:=HO.lst (aD (ys.map V.str) none$ some 5)) n;generalize af H s (.lst$ aD (ys.map V.str) none$ some 5)=A at t S;refine#[s,Z,#[_,aB.of t],?_];refine QF (K:=K) (a:=s) (xs:=(ys.take 5).map V.str) (by rw[GQ,HF];omega) (λi j g=>j.length=i/\(∀v∈j,PT ys 0 g v)/\ae A g) #[Z,(λ_ h=>absurd h HG),ae.refl _] (λi j g h=>#[aB.of$ h.2.2 _ _ t,Ni h.1]) (λi x j g C h=>?_) (λj F h L N=>?_)
 ·obtain⟨y,l,rfl⟩:=List.mem_map.mp (Hf C);exact#[_,Z,bo,λr u=>#[by rw[GU,h.1];rfl,Ja (λa z=>aq _ _ _ (ae.tm$ jd u) (h.2.1 a z)) #[r,Z,uD jc$ HZ l],h.2.2.trans$ jd u]]
 ·have e:=h.1;rw[GQ,HF]at e;obtain⟨a,b,c,d,f,rfl⟩:=Fj (show j.length=5 by omega);have m:=ae.tm (jd (o:=HO.lst [a,b,c,d,f]) N);exact#[L,_,Z,aB.of jc,Z,_,_,Z,_,_,Z,_,_,Z,_,_,Z,_,_,Z,Z,q a b c d f _ (aq _ _ _ m$ h.2.1 a RV) (aq _ _ _ m$ h.2.1 b RV) (aq _ _ _ m$ h.2.1 c RV) (aq _ _ _ m$ h.2.1 d RV) (aq _ _ _ m$ h.2.1 f RV) (((W.same S).same h.2.2).same$ jd N)]
end
theorem Fs:ak z16z z16z (aa Fq):=bL
theorem DE(F:aJ K "_law_op" "_law_op" Fq f t)(C:Cl P w K mg base 1 T u z0z aL "_law_take"):aj P w K mg base aA 2 f t z16z lS:=by
 refine F.ok Fs ?_ λv A O s H V Q E x h=>?_
 ·rintro _ _ _ _ ⟨p,a,b,y,k,rfl,_⟩;rfl
 obtain⟨p,a,b,y,k,rfl,B,z,D,q⟩:=h;refine#[_,(jg$ jo$ jh$ ja jk$ ja (jr jq (jE$ ja jk$ ja jk$ ja jk$ ja jk jb) (C.e x.m$ ja (pv 0)$ ja jf jb) (λ_ _=>Z))$ ja (pv 1)$ ja (pv 2) jb),?_];refine#[oW,λl n=>#[_,Z,p,4,Z,B.upd_new n,RT,RT,λd G I J L j=>?_]];obtain⟨s,c,M⟩:=wI I J;have g:ar p H G:=((ar.refl).upd_new n).trans (ar.of_eq j);refine#[l,_,_,_,Z,Z,aB.of (by rw[j l$ B.ne n];exact jc),c,_,Z,_,Z,oW,λr N=>?_];have S:=jd (o:=HO.tup [.str "op",.str s,.ref a,.ref b]) N;exact q r _ (yM jc M ((z.mono$ g.tm B).mono$ ae.tm S) ((D.mono$ g.tm B).mono$ ae.tm S) (IB _)$ IB _) (L.upd_new N)$ g.trans$ ar.of_same S
theorem bP:ak ["_law_box_here","_law_f","_law_g","_law_w","_law_x","_law_i","_law_y","_law_spot_here","_law_body_here","_law_deeper","_law_test","_law_early","_law_last"] z33z (aa mV):=bL
theorem rR(F:aJ K "_law_inner" "_law_inner" mV f fd)(I:Cl P w K mg base 1 fT b7 z0z aL "_law_take")(cO:Cl P w K mg base 2 fO b9 z16z lS "_law_op"):aj P w K mg base aA 3 f fd z33z (c8 2):=by
 refine F.ok bP ?_ λc0 A o1 s H vs Q E l h=>?_
 ·rintro _ _ _ _ ⟨p,T,f0,g,Y,rfl,_⟩;rfl
 obtain⟨p,T,f0,g,Y,rfl,B,hw,h2,q⟩:=h;refine#[_,(je (@wJ _ _ _ _ _ _ _ _ (4) (5) (6) Z bP.nd Z Z Z (Or.inl Z) (Or.inl Z) (Or.inl Z) (jh$ ja (jh$ ja jk$ ja (jr jq (pv 3) jf (λ_ _=>Z)) jb)$ ja (jh$ ja jk$ ja (jr jq (pv 3) jf (λ_ _=>Z)) jb)$ ja (jh$ ja jk$ ja (jr jq (pv 3) jf (λ_ _=>Z)) jb) jb) (by first |exact .inl Z |exact .inr Z) (by first |exact .inl Z |exact .inr Z) (by first |exact .inl Z |exact .inr Z) RX RX)$ je (jx 7 bP.nd$ jh$ ja jk$ ja jk$ ja (jr jq (jE$ ja (pv 4)$ ja (pv 5) jb) (I.e l.m$ ja (pv 0)$ ja jf jb) (λ_ _=>Z))$ ja (jh$ ja jk$ ja (I.e l.m$ ja (pv 0)$ ja jf jb) jb) jb)$ je (jx 8 bP.nd$ jh$ ja (jh$ ja jk$ ja (jr jq (pv 3) jf (λ_ _=>Z))$ ja (pv 7) jb) jb)$ je (j4$ jw (kJ$ I.e l.m$ ja (pv 0)$ ja jf jb) (je (jx 7 bP.nd$ jh$ ja jk$ ja jk$ ja (pv 5)$ ja (jh$ ja jk$ ja (jv jZ jf$ I.e l.m$ ja (pv 0)$ ja jf jb) jb) jb)$ jg$ jx 8 bP.nd$ jv jV (pv 8)$ jh$ ja (jh$ ja jk$ ja (pv 7)$ ja (cO.e l.m$ ja (pv 0)$ ja (pv 4)$ ja (pv 6) jb) jb) jb) jp)$ je (j4$ jw (kJ$ I.e l.m$ ja (pv 0)$ ja jf jb) (je (jx 9 bP.nd$ jh$ ja jk$ ja (jr jq (pv 3) jf (λ_ _=>Z))$ ja (pv 2)$ ja (jh$ ja (jh$ ja jk$ ja jk$ ja (pv 5)$ ja (jh$ ja jk$ ja jf jb) jb)$ ja (pv 6) jb) jb)$ jg$ jx 8 bP.nd$ jv jV (pv 8)$ jh$ ja (jh$ ja jk$ ja (pv 5)$ ja (jh$ ja (pv 9) jb)$ ja (jh jb) jb) jb) jp)$ je (jx 10 bP.nd$ jh$ ja jk$ ja (jr Kg jk (I.e l.m$ ja (pv 0)$ ja jf jb) (λ_ _=>Z))$ ja (pv 6)$ ja (jh$ ja jk$ ja (I.e l.m$ ja (pv 0)$ ja jf jb) jb) jb)$ je (jx 11 bP.nd$ jh$ ja jk$ ja (cO.e l.m$ ja (pv 0)$ ja (pv 4)$ ja (pv 6) jb) jb)$ je (jx 12 bP.nd$ jh$ ja jk$ ja (cO.e l.m$ ja (pv 0)$ ja (pv 6)$ ja (pv 5) jb) jb)$ je (jx 8 bP.nd$ jv jV (pv 8)$ jh$ ja (jh$ ja jk$ ja (pv 10)$ ja (jh$ ja (pv 11) jb)$ ja (jh jb) jb)$ ja (pv 12) jb)$ jg$ jo$ jh$ ja (pv 1)$ ja (jh$ ja (jr jq (pv 3) jf (λ_ _=>Z))$ ja (jr jq (pv 3) jf (λ_ _=>Z)) jb)$ ja (pv 8) jb),?_];have W0:Wd H H p T Y:=#[B,ar.refl,hw];refine ai λF1 f1=>xw W0 (J9$ kK Z RT RU) (J9$ kK Z RT RU) (J9$ kK Z RT RU) λvx vi vy J xx X U W1 k1=>f1 _ _ ?_;refine ai λF2 f2=>jS W1 (qd (n:=1) (qg zn) (YL Z (jK Z aq xx)$ jK Z aq X) (kC (kN Z RT RT) RT) RT RT) λv2 H2 x2 W2 k2=>f2 _ _ ?_;refine ai λF3 f3=>jS W2 (Kd$ Kb (Cf:=[(g,2)]) (kK Z RT RU) (jK Z aq x2) RT) λv3 H3 x3 W3 k3=>f3 _ _ ?_;refine ai λF4 f4=>dq (λL u=>∃(o:Option V) (b:V),L=[some$ V.ref p,some$ V.str f0,some$ V.str g,some$ V.ref T,some$ vx,some$ vi,some$ vy,o,some b,none,none,none,none]/\PB [(g,2)] Y 1 2 u b/\Wd H u p T Y/\ah H3 u) (λE4 _ f5=>qN W3 Z RT RT (λH6 W6 k6=>?_) (λH6 W6 k6=>?_)) λσ0 H5 h0=>?_
 ·clear f4;have C:ah J H6:=((k2.t.trans k3.t).trans k6.t);refine ai λF7 f7=>jS W6 (qd (n:=1) (qg zn) (jK Z aq$ aq _ _ _ C X) (kC (QQ (kN Z RT RT) RT) RT) RT RT) λv7 H7 x7 W7 k7=>f7 _ _ ?_;have D:ah H3 H7:=(k6.t.trans k7.t);have G:ah J H7:=(C.trans k7.t);refine jS W7 (qH (jK Z dB$ dB _ _ _ D x3) (Kd$ Kc (Cf:=[(g,2)]) (jK Z aq x7) (Ka Z (jK Z aq$ aq _ _ _ G xx)$ jK Z aq$ aq _ _ _ G U) RT RT) RT) λv8 H8 x8 W8 k8=>f5 _ _ ?_;have m0:ah H3 H8:=(D.trans k8.t);exact#[_,_,Z,(PB.lift x8),W8,m0]
 ·clear f4;exact f5 _ _ #[_,_,Z,(PB.more (PB.lift$ dB _ _ _ k6.t x3) RT),W6,k6.t]
 obtain⟨o5,b5,rfl,x5,W5,k5⟩:=h0;refine f4 _ _ ?_;clear f4;refine ai λF9 f9=>dq (λL u=>∃(o:Option V) (b:V),L=[some$ V.ref p,some$ V.str f0,some$ V.str g,some$ V.ref T,some$ vx,some$ vi,some$ vy,o5,some b,o,none,none,none]/\PB [(g,2)] Y 1 3 u b/\Wd H u p T Y/\ah H5 u) (λE9 _ f6=>qN W5 Z RT RT (λH0 W k=>?_) (λH0 W k=>?_)) λσ1 H4 h1=>?_
 ·clear f9;have M:ah J H0:=(((k2.t.trans k3.t).trans k5).trans k.t);refine ai λF0 f'=>jS W (pR (Cf:=[(g,2)]) (kK Z RT RU) (Qo Z) Hq (qd (n:=1) (qg XC) (jK Z aq$ aq _ _ _ M X) (kC (QL RT (by decide:(1:Int) < 2)) RT) RT RT) (jK Z aq$ aq _ _ _ M U) RT RT) λv1 H9 x0 W4 k0=>f' _ _ ?_;have c:ah H5 H9:=(k.t.trans k0.t);have N:ah J H9:=(M.trans k0.t);refine jS W4 (qH (jK Z dB$ dB _ _ _ c x5) (Kd$ yd (jK Z aq$ aq _ _ _ N X) (Kd$ jK Z dI x0) (yc (Cf:=[(g,2)]) (d:=0)) RT RT) RT) λv4 a2 x1 W9 k9=>f6 _ _ ?_;have O:ah H5 a2:=(c.trans k9.t);exact#[_,_,Z,x1,W9,O]
 ·clear f9;exact f6 _ _ #[_,_,Z,(PB.more (dB _ _ _ k.t x5) RT),W,k.t]
 obtain⟨o2,b',rfl,x4,a3,k'⟩:=h1;refine f9 _ _ ?_;clear f9;have i:ah J H4:=(((k2.t.trans k3.t).trans k5).trans k');refine ai λF5 a4=>jS a3 (qd (n:=1) (Do Z) (jK Z aq$ aq _ _ _ i U) (kC (kN Z RT RT) RT) RT RT) λv5 a0 x9 a5 k4=>a4 _ _ ?_;have a:ah J a0:=(i.trans k4.t);refine ai λF6 a6=>jS a5 (Xn (Cf:=[(g,2)]) (Ka Z (jK Z aq$ aq _ _ _ a xx)$ jK Z aq$ aq _ _ _ a U) RT) λv9 a8 x' a9 R=>a6 _ _ ?_;have j:ah J a8:=(a.trans R.t);refine ai λc1 a'=>jS a9 (Xn (Cf:=[(g,2)]) (Ka Z (jK Z aq$ aq _ _ _ j U)$ jK Z aq$ aq _ _ _ j X) RT) λv' a1 b0 b1 S=>a' _ _ ?_;have y:ah H4 a1:=((k4.t.trans R.t).trans S.t);have z:ah a0 a1:=(R.t.trans S.t);refine ai λc2 b2=>jS b1 (qH (jK Z dB$ dB _ _ _ y x4) (YM (yd (jK Z aq$ aq _ _ _ z x9) (Kd$ jK Z dI$ dI _ _ _ S.t x') (yc (Cf:=[(g,2)]) (d:=0)) RT RT)$ Ev.up (jK Z dI b0) λ_ _=>ci.lift) RT) λc3 c4 b3 b4 c5=>b2 _ _ ?_;refine QR b4 (YN (Qo Z) (yg (kK Z RT RU)$ kK Z RT RU) (jK Z dB b3) RT RU) λv u x W'=>?_;obtain⟨r,rfl,x⟩:=x;exact q r u x W'.B W'.K
theorem bn:ak z36z z18z (aa gB):=bL
noncomputable def Qk:Scope:=#[.function,[(".0",.local),("_law_one",.local)],false,false,[]]
theorem YA:(["_law_one"]:List Str).Nodup:=by decide+kernel
theorem YB:aZ z36z (aa gB) Qk ["_law_one"] 1 []:=nC
theorem Z3(F:aJ K "_law_looped" "_law_looped" gB f fd)(C:Cl P w K mg base 1 fT d3 z0z aL "_law_take")(cO:Cl P w K mg base 2 fO d4 z16z lS "_law_op")(mi:mg "int"=none)(m6:mg "tuple"=none):aj P w K mg base aA 3 f fd z18z (c8 1):=by
 refine F.ok bn ?_ λd5 A a8 s H vs Q E l h=>?_
 ·rintro _ _ _ _ ⟨p,W,f0,g,Y,rfl,_⟩;rfl
 obtain⟨p,W,f0,g,Y,rfl,B,hw,h2,q⟩:=h;refine#[_,(je (kW (@kE _ _ _ _ _ _ _ (["_law_one"]) (1) ([]) _ _ _ _ Z (zc$ jJ kf (pv 3) j3$ jH jf) YB (λ_ _ _ _ _=>(ju (i:=0) YA Z$ Or.inl Z)) (λ_ _ _ _ _=>(@zi _)) (λ_ _ _ _ _=>(jh$ ja jk$ ja (pv 0) jb)) (by intro _;rfl))$ @Y4 _ _ _ _ (5) _ Z (jy (ju (i:=4) bn.nd Z$ Or.inl Z)$ jy (ju (i:=5) bn.nd Z$ Or.inl Z)$ jy (ju (i:=6) bn.nd Z$ Or.inl Z)$ jy (ju (i:=7) bn.nd Z$ Or.inl Z)$ jy (ju (i:=8) bn.nd Z$ Or.inl Z) j5) RX RX)$ je (jx 9 bn.nd$ jE$ ja (jh$ ja jk$ ja (jr jq (pv 3) jf (λ_ _=>Z))$ ja (jh$ ja jk$ ja jk$ ja (pv 5)$ ja (jh$ ja jk$ ja (C.e l.m$ ja (pv 0)$ ja jf jb) jb) jb) jb) jb)$ je (jP$ ki Hj Hz Hw jM (pv 9)$ ja (jh$ ja jk$ ja (jr jq (pv 3) jf (λ_ _=>Z))$ ja (pv 2)$ ja (jh$ ja (pv 7)$ ja (jr jq (jE$ ja (pv 5)$ ja (pv 6) jb) (jG Ju Z mi RN$ ja (JS JB (C.e l.m$ ja (pv 0)$ ja jf jb) jf$ aE _) jb) (λ_ _=>Z)) jb) jb) jb)$ je (j4$ jw (kJ$ C.e l.m$ ja (pv 0)$ ja jf jb) (je (jx 10 bn.nd$ jh$ ja jk$ ja jk$ ja (pv 5)$ ja (jh$ ja jk$ ja (jv jZ jf$ C.e l.m$ ja (pv 0)$ ja jf jb) jb) jb)$ jg$ jP$ ki Hj Hz Hw jM (pv 9)$ ja (jh$ ja jk$ ja (pv 10)$ ja (jr jq (jE$ ja (pv 6)$ ja (pv 8)$ ja (pv 7) jb) (C.e l.m$ ja (pv 0)$ ja jf jb) (λ_ _=>Z)) jb) jb) jp)$ je (jP$ ki Hj Hz Hw jM (pv 9)$ ja (jh$ ja jk$ ja (jr jq (pv 3) jf (λ_ _=>Z))$ ja (cO.e l.m$ ja (pv 0)$ ja (jr jq (jE$ ja (pv 6)$ ja (pv 6)$ ja (pv 7) jb) (C.e l.m$ ja (pv 0)$ ja jf jb) (λ_ _=>Z))$ ja (pv 8) jb) jb) jb)$ je (j4$ jw (kJ$ C.e l.m$ ja (pv 0)$ ja jf jb) (jg$ kW (jh$ ja (jr jq (pv 9) jf (λ_ _=>Z))$ ja (jr jq (pv 9) jf (λ_ _=>Z)) jb)$ kU (n:=2) Z$ jy (qh (pv 9) jf zf)$ jy (qh (pv 9) jf zf) j5) jp)$ je (jP$ ki Hj Hz Hw jM (pv 9)$ ja (jh$ ja jk$ ja (jr jq (pv 3) jf (λ_ _=>Z))$ ja (jh$ ja jk$ ja jk$ ja (pv 5)$ ja (jh$ ja jk$ ja jf jb) jb) jb) jb)$ je (jx 11 bn.nd$ jh$ ja (jh$ ja jk$ ja (jr jq (pv 3) jf (λ_ _=>Z))$ ja (jh$ ja jk$ ja (C.e l.m$ ja (pv 0)$ ja jf jb) jb) jb)$ ja (jh$ ja jk$ ja (jr jq (pv 3) jf (λ_ _=>Z))$ ja (jh$ ja jk$ ja (C.e l.m$ ja (pv 0)$ ja jf jb) jb) jb) jb)$ je (j4$ jw (kJ$ C.e l.m$ ja (pv 0)$ ja jf jb) (je (jx 11 bn.nd$ jv jV (pv 11)$ jh$ ja (jh$ ja jk$ ja (jr jq (pv 3) jf (λ_ _=>Z))$ ja (jh$ ja jk$ ja (jv jZ jf$ C.e l.m$ ja (pv 0)$ ja jf jb) jb) jb) jb)$ jg$ jx 11 bn.nd$ jv jV (pv 11)$ jh$ ja (jh$ ja jk$ ja (jr jq (pv 3) jf (λ_ _=>Z))$ ja (jh$ ja jk$ ja jk$ ja (pv 4)$ ja (jh$ ja jk$ ja jf jb) jb) jb) jb) jp)$ je (jx 12 bn.nd$ jh$ ja jk$ ja (jh$ ja jk$ ja jk$ ja (pv 5)$ ja (pv 4) jb)$ ja (jG jF Z m6 IE$ ja (pv 9) jb) jb)$ jg$ jo$ jh$ ja (pv 1)$ ja (jh$ ja (jr jq (pv 3) jf (λ_ _=>Z)) jb)$ ja (jv jV (pv 11)$ jh$ ja (pv 12)$ ja (jh$ ja jk$ ja (jh$ ja jk$ ja jf jb)$ ja (pv 6) jb)$ ja (jh$ ja jk$ ja (pv 6) jb) jb) jb),?_];have W0:Wd H H p W Y:=#[B,ar.refl,hw];refine ai λF1 f1=>Zd W0 Z h2 λvn vi vs vx vy U xn xi xs xx xy W1=>f1 _ _ ?_;refine ai λF2 f2=>DI W1 (Kb (Cf:=[(g,2)]) (kK Z RT RU) (qd (n:=1) (qg zn) (jK Z aq xi) (kC (kN Z RT RT) RT) RT RT) RT) λlb u2 H2 o2 x2 W2 k2=>f2 _ _ ?_;refine ai λF3 f3=>Jr W2 Z o2 (show 1<=100 by decide) (pR (Cf:=[(g,2)]) (kK Z RT RU) (Qo Z) Hq (jK Z aq$ aq _ _ _ k2.t xx) (Dm Z RT RT (jK Z aq$ aq _ _ _ k2.t xi)$ jK Z aq$ aq _ _ _ k2.t xs) RT RT) λu3 H3 x3 o3 W3 k3=>f3 _ _ ?_;refine ai λF4 f4=>dq (λu c=>∃(o:Option V) (G:List V),u=[some$ V.ref p,some$ V.str f0,some$ V.str g,some$ V.ref W,some$ vn,some$ vi,some$ vs,some$ vx,some$ vy,some$ V.ref lb,o,none,none]/\Ow H c p W lb (u2::u3::G)/\gn [(g,2)] c Y 0 G/\G.length<=1/\Wd H c p W Y/\ah H3 c) (λE4 _ f5=>qN W3 Z RT RT (λH6 W6 k6=>?_) (λH6 W6 k6=>?_)) λσ2 H5 h3=>?_
 ·clear f4;have o6:=o3.fw k6;have R:ah U H6:=((k2.t.trans k3).trans k6.t);refine ai λF7 f7=>jS W6 (qd (n:=1) (qg zn) (jK Z aq$ aq _ _ _ R xi) (kC (QQ (kN Z RT RT) RT) RT) RT RT) λv7 H7 x7 W7 k7=>f7 _ _ ?_;have o7:=o6.fw k7;have y:ah U H7:=(R.trans k7.t);refine Jr W7 Z o7 (show 2<=100 by decide) (Kc (Cf:=[(g,2)]) (jK Z aq x7) (ye Z (jK Z aq$ aq _ _ _ y xs) (jK Z aq$ aq _ _ _ y xy)$ jK Z aq$ aq _ _ _ y xx) RT RT) λu8 H8 x8 o8 W8 k8=>f5 _ _ ?_;have m5:ah H3 H8:=((k6.t.trans k7.t).trans k8);exact#[_,[u8],Z,o8,zw x8,GV 1,W8,m5]
 ·clear f4;have o6:=o3.fw k6;exact f5 _ _ #[_,[],Z,o6,Kk,RT,W6,k6.t]
 obtain⟨w5,G,rfl,o5,zx,zl,W5,k5⟩:=h3;refine f4 _ _ ?_;clear f4;have M:ah U H5:=((k2.t.trans k3).trans k5);refine ai λF9 f9=>Jr W5 Z o5 (show G.length+1+1<=100 by omega) (JC (Cf:=[(g,2)]) (kK Z RT RU) (Ka Z (ye Z (jK Z aq$ aq _ _ _ M xs) (jK Z aq$ aq _ _ _ M xs)$ jK Z aq$ aq _ _ _ M xx)$ jK Z aq$ aq _ _ _ M xy) RT) λu9 H9 x9 o9 W9 k9=>f9 _ _ ?_;have zy:gn [(g,2)] H9 Y 0 (G++[u9]):=Jq (zx.mono k9) (zw x9);have zm:(G++[u9]).length<=2:=by rw[GU];exact IG zl
 refine ai λF0 I=>dq (λu c=>∃(X:List V),u=[some$ V.ref p,some$ V.str f0,some$ V.str g,some$ V.ref W,some$ vn,some$ vi,some$ vs,some$ vx,some$ vy,some$ V.ref lb,w5,none,none]/\Ow H c p W lb X/\gn [(g,2)] c Y 0 X/\X.length<=4/\Wd H c p W Y/\ah H9 c) (λE1 _ S=>qN W9 Z RT RT (λH0 W4 k=>?_) (λH0 W4 k=>?_)) λσ0 a9 h0=>?_
 ·clear I;have o1:=o9.fw k;refine xH W4 Z o1 λH4 a' b1 k0=>S _ _ ?_;have m0:ah H3 H4:=(((k5.trans k9).trans k.t).trans k0);have m1:ah H2 H4:=((((k3.trans k5).trans k9).trans k.t).trans k0);have z:ah H9 H4:=(k.t.trans k0);exact#[_,Z,a',jU ((dI _ _ _ m0 x3))$ jU ((dI _ _ _ m1 x2))$ zy.mono z,(show(G++[u9]).length+1+1<=4 by omega),b1,z]
 ·clear I;have o1:=o9.fw k;have m2:ah H2 H0:=(((k3.trans k5).trans k9).trans k.t);have m3:ah H3 H0:=((k5.trans k9).trans k.t);exact S _ _ #[_,Z,o1,jU ((dI _ _ _ m2 x2))$ jU ((dI _ _ _ m3 x3))$ zy.mono k.t,(show(G++[u9]).length+1+1<=4 by omega),W4,k.t]
 obtain⟨X,rfl,b2,ux,ul,b3,b4⟩:=h0;refine I _ _ ?_;clear I;have d:ah U a9:=((M.trans k9).trans b4);refine ai λF5 f6=>Jr b3 Z b2 RU (JC (Cf:=[(g,2)]) (kK Z RT RU) (qd (n:=1) (qg zn) (jK Z aq$ aq _ _ _ d xi) (kC (QL RT (by decide:(1:Int) < 2)) RT) RT RT) RT) λu0 a1 x1 b5 b7 k1=>f6 _ _ ?_;have b0:gn [(g,2)] a1 Y 0 (X++[u0]):=Jq (ux.mono k1) (zw x1);have bl:(X++[u0]).length<=5:=by rw[GU];exact IG ul
 refine ai λF6 f'=>jS b7 (YM (JC (Cf:=[(g,2)]) (kK Z RT RU) (kC (kN Z RT RT) RT) RT)$ JC (Cf:=[(g,2)]) (kK Z RT RU) (kC (kN Z RT RT) RT) RT) λv1 a2 x0 b9 J=>f' _ _ ?_;have o':=b5.fw J;refine ai λd6 L=>dq (λu c=>∃(b:V),u=[some$ V.ref p,some$ V.str f0,some$ V.str g,some$ V.ref W,some$ vn,some$ vi,some$ vs,some$ vx,some$ vy,some$ V.ref lb,w5,some b,none]/\Ow H c p W lb (X++[u0])/\PB [(g,2)] Y 0 4 c b/\Wd H c p W Y/\ah a2 c) (λE2 _ T=>qN b9 Z RT RT (λb' a0 a=>?_) (λb' a0 a=>?_)) λσ1 a3 h1=>?_
 ·clear L;have o4:=o'.fw a;refine ai λd7 c0=>jS a0 (qH (jK Z dB$ dB _ _ _ a.t x0) (Kd$ Kb (Cf:=[(g,2)]) (kK Z RT RU) (kC (QQ (kN Z RT RT) RT) RT) RT) RT) λv2 c1 x4 c2 k4=>c0 _ _ ?_;have c3:=o4.fw k4;have m4:ah U c1:=((((d.trans k1).trans J.t).trans a.t).trans k4.t);refine jS c2 (qH (jK Z dB x4) (Kd$ JC (Cf:=[(g,2)]) (kK Z RT RU) (qd (n:=1) (qg xA) (jK Z aq$ aq _ _ _ m4 xn) (kC (QL RT (by decide:(2:Int) < 3)) RT) RT RT) RT) RT) λv3 c4 x5 c5 a4=>T _ _ ?_;have c6:=c3.fw a4;have N:ah a2 c4:=((a.t.trans k4.t).trans a4.t);exact#[_,Z,c6,x5,c5,N]
 ·clear L;have o4:=o'.fw a;exact T _ _ #[_,Z,o4,(PB.more (dB _ _ _ a.t x0) RT),a0,a.t]
 obtain⟨d8,rfl,a5,x',c9,a6⟩:=h1;refine L _ _ ?_;clear L;have j:ah U a3:=(((d.trans k1).trans J.t).trans a6);have O:ah a1 a3:=(J.t.trans a6);refine ai λd9 c'=>jS c9 (yi (qd (n:=1) (qg Q5) (jK Z aq$ aq _ _ _ j xi) (jK Z aq$ aq _ _ _ j xn) RT RT) (yh (n:=5) Z a5 (b0.mono O) bl) RT RT) λv4 d0 d1 d2 k'=>c' _ _ ?_;have d':=a5.fw k';have D:ah U d0:=(j.trans k'.t);refine QR d2 (YN (Qo Z) (yf$ kK Z RT RU) (qH (Ev.up (jK Z dB$ dB _ _ _ k'.t x') λ_ _=>PB.lift) (Dk (jK Z dI d1) (Ev.up (Kc (Cf:=[(g,2)]) (kC (QL RT (by decide:(30:Int) < 31)) RT) (jK Z aq$ aq _ _ _ D xs) RT RT) λ_ _=>ci.lift)$ Ev.up (Xn (Cf:=[(g,2)]) (jK Z aq$ aq _ _ _ D xs) RT) λ_ _=>ci.lift) RT) RT RU) λv c x W'=>?_;obtain⟨r,rfl,x⟩:=x;exact q r c x W'.B W'.K
theorem EX(b:0<=d)(c:d < 2)(h:ci C H y 0 u)(a:ci C H y 0 v):gn C H y 0 (aD [u,v] none$ some (1+d))/\(aD [u,v] none$ some (1+d)).length<=2:=by
 rcases(by omega:d=0∨d=1) with rfl |rfl
 ·exact#[zw h,by show 1<=2;decide]
 ·exact#[jU h$ zw a,by show 2<=2;decide]
def P2(C:gJ)(y:List Str)(H:Hp)(w:V):Prop:=∃a u v,w= .ref a/\H a=some (.tup [u,v])/\ci C H y 0 u/\ci C H y 0 v
theorem yr:nB (P2 C y):=λ_ _ _ m #[a,u,v,e,h,H,b]=>#[a,u,v,e,m _ _ h,H.mono m,b.mono m]
section
variable {Cf:gJ}{ys:List Str}{H0 Hb:Hp}{p wl:Addr}{σ:_L.St}
theorem Ak(h:Ev H0 p wl ys Hb σ T (λH v=>ci Cf H ys 0 v))(c:Ev H0 p wl ys Hb σ d (λH v=>ci Cf H ys 0 v)):Ev H0 p wl ys Hb σ (bV$ al T$ al d aM) (P2 Cf ys):=λH Q m W q=>
 h H _ m W λo e X f a=>c e _ (m.trans a) f λs u g i b=>#[bo,λr n=>kB (P:=P2 Cf ys) i (λV j x l k=>q V j x l ((a.trans b).trans k)) n λt z=>#[r,_,_,Z,z,(X.mono b.t).mono t,g.mono t]]
theorem Aj(e:σ[i]?=some (some v))(E:σ[0]?=some (some$ .ref p))(h:P2 Cf ys Hb v):Ev H0 p wl ys Hb σ (EF Bv (aX i) lB$ lX$ dG (sI λi j=>V.int (i+j)) (tC$ .int 1)$ uS 2) (PB Cf ys 0 2):=λH Q m W q=>
 #[v,e,kN E RT RT H _ m W λw y #[d,b,D,c] f k=>#[1,d,Z,b,_,Z,by
  obtain⟨a,u,A,rfl,g,l,n⟩:=yr _ _ _ (m.trans k).t h;have z:=EX D c l n;exact#[a,_,Z,g,λr o x s=>q _ o #[r,_,Z,x,z.1.mono$ ae.tm s,z.2] (f.same s) (k.trans$ .same s)]]]
end
theorem aQ:ak z37z z18z (aa fb):=bL
noncomputable def KZ:Scope:=#[.function,[(".0",.local),("_law_one",.local)],false,false,[]]
theorem XZ:(["_law_one"]:List Str).Nodup:=by decide+kernel
theorem X0:aZ z37z (aa fb) KZ ["_law_one"] 1 []:=nC
theorem YC(F:aJ K "_law_ticking" "_law_ticking" fb f fd)(C:Cl P w K mg base 1 fT b2 z0z aL "_law_take")(cO:Cl P w K mg base 2 fO b3 z16z lS "_law_op")(mi:mg "int"=none)(m1:mg "tuple"=none):aj P w K mg base aA 3 f fd z18z (c8 1):=by
 refine F.ok aQ ?_ λc0 A o5 s H vs Q E c h=>?_
 ·rintro _ _ _ _ ⟨p,W,f0,g,ys,rfl,_⟩;rfl
 obtain⟨p,W,f0,g,ys,rfl,B,hw,h1,q⟩:=h;refine#[_,(je (kW (@kE _ _ _ _ _ _ _ (["_law_one"]) (1) ([]) _ _ _ _ Z (zc$ jJ kf (pv 3) j3$ jH jf) X0 (λ_ _ _ _ _=>(ju (i:=0) XZ Z$ Or.inl Z)) (λ_ _ _ _ _=>(@zi _)) (λ_ _ _ _ _=>(jh$ ja jk$ ja (pv 0) jb)) (by intro _;rfl))$ @Y4 _ _ _ _ (5) _ Z (jy (ju (i:=4) aQ.nd Z$ Or.inl Z)$ jy (ju (i:=5) aQ.nd Z$ Or.inl Z)$ jy (ju (i:=6) aQ.nd Z$ Or.inl Z)$ jy (ju (i:=7) aQ.nd Z$ Or.inl Z)$ jy (ju (i:=8) aQ.nd Z$ Or.inl Z) j5) RX RX)$ je (jx 9 aQ.nd$ jh$ ja jk$ ja (jv jZ jf$ C.e c.m$ ja (pv 0)$ ja jf jb) jb)$ je (jx 10 aQ.nd$ jE$ ja (jh$ ja jk$ ja (jr jq (pv 3) jf (λ_ _=>Z))$ ja (pv 9) jb)$ ja (jh$ ja jk$ ja (jr jq (pv 3) jf (λ_ _=>Z))$ ja (jr jq (jE$ ja (pv 5)$ ja (jh$ ja jk$ ja (C.e c.m$ ja (pv 0)$ ja jf jb) jb) jb) (C.e c.m$ ja (pv 0)$ ja jf jb) (λ_ _=>Z)) jb) jb)$ je (jP$ ki Hj Hz Hw jM (pv 10)$ ja (jh$ ja jk$ ja (jr jq (pv 3) jf (λ_ _=>Z))$ ja (pv 2)$ ja (jh$ ja (jr jq (jE$ ja (pv 7)$ ja (jh$ ja jk$ ja jf jb) jb) (C.e c.m$ ja (pv 0)$ ja jf jb) (λ_ _=>Z))$ ja (jr jq (jE$ ja (pv 5)$ ja (jh$ ja jk$ ja jf jb) jb) (C.e c.m$ ja (pv 0)$ ja jf jb) (λ_ _=>Z)) jb) jb) jb)$ je (j4$ jw (kJ$ C.e c.m$ ja (pv 0)$ ja jf jb) (jg$ jP$ ki Hj Hz Hw jM (pv 10)$ ja (jh$ ja jk$ ja (jh$ ja jk$ ja jk$ ja (pv 5)$ ja (jh$ ja jk$ ja (C.e c.m$ ja (pv 0)$ ja jf jb) jb) jb)$ ja (pv 8) jb) jb) jp)$ je (jx 11 aQ.nd$ jh$ ja jk$ ja jf jb)$ je (jx 12 aQ.nd$ jE$ ja (jh$ ja jk$ ja (jr jq (pv 3) jf (λ_ _=>Z))$ ja (pv 11) jb)$ ja (jh$ ja jk$ ja (pv 11)$ ja (cO.e c.m$ ja (pv 0)$ ja (pv 6)$ ja (pv 8) jb) jb) jb)$ je (j4$ jw (kJ$ C.e c.m$ ja (pv 0)$ ja jf jb) (jg$ jx 12 aQ.nd$ jE$ ja (jh$ ja jk$ ja (jr jq (pv 3) jf (λ_ _=>Z))$ ja (cO.e c.m$ ja (pv 0)$ ja (pv 6)$ ja (pv 8) jb) jb) jb) jp)$ je (jx 10 aQ.nd$ jv zI (jv zI (pv 10)$ pv 12)$ jE$ ja (jh$ ja jk$ ja (pv 9)$ ja (jh$ ja jk$ ja jk$ ja (pv 5)$ ja (jh$ ja jk$ ja jf jb) jb) jb)$ ja (jh$ ja jk$ ja (jr jq (pv 3) jf (λ_ _=>Z))$ ja (jh$ ja jk$ ja jk$ ja (pv 5)$ ja (pv 4) jb) jb) jb)$ je (jx 13 aQ.nd$ jh$ ja (jh$ ja jk$ ja (jr jq (pv 3) jf (λ_ _=>Z))$ ja (jh$ ja jk$ ja jf jb) jb)$ ja (jh$ ja jk$ ja (pv 9)$ ja (jh$ ja jk$ ja (C.e c.m$ ja (pv 0)$ ja jf jb) jb) jb) jb)$ je (jx 14 aQ.nd$ jh$ ja jk$ ja (jh$ ja jk$ ja (jr jq (pv 3) jf (λ_ _=>Z)) jb)$ ja (jG jF Z m1 IE$ ja (pv 10) jb) jb)$ jg$ jo$ jh$ ja (pv 1)$ ja (jh$ ja (jr jq (pv 3) jf (λ_ _=>Z)) jb)$ ja (jv jV (jJ zj (pv 13) j3$ jH$ jv jZ jf$ C.e c.m$ ja (pv 0)$ ja jf jb)$ jh$ ja (pv 14)$ ja (jh$ ja jk$ ja (pv 6) jb) jb) jb),?_];have W0:Wd H H p W ys:=#[B,ar.refl,hw];refine ai λF1 f1=>Zd W0 Z h1 λvn vi vs vx vy H1 xn xi xs xx xy W1=>f1 _ _ ?_;refine ai λF2 f2=>jS W1 (kC (QQ (kN Z RT RT) RT) RT) λv2 H2 x2 W2 k2=>f2 _ _ ?_;refine ai λF3 f3=>DJ W2 (Kb (Cf:=[(g,2)]) (kK Z RT RU) (jK Z aq x2) RT) (Kb (Cf:=[(g,2)]) (kK Z RT RU) (YL Z (jK Z aq$ aq _ _ _ k2.t xi)$ kC (kN Z RT RT) RT) RT) λlb u3 w3 H3 o3 x3 y3 W3 k3=>f3 _ _ ?_;have a:ah H1 H3:=(k2.t.trans k3.t);refine ai λF4 f4=>Jr W3 Z o3 (show 2<=100 by decide) (pR (Cf:=[(g,2)]) (kK Z RT RU) (Qo Z) Hq (YL Z (jK Z aq$ aq _ _ _ a xx)$ kC (QL RT (by decide:(3:Int) < 4)) RT) (YL Z (jK Z aq$ aq _ _ _ a xi)$ kC (QL RT (by decide:(2:Int) < 3)) RT) RT RT) λu4 H4 x4 o4 W4 k4=>f4 _ _ ?_;refine ai λF5 f5=>dq (λN d=>∃(us:List V),N=[some$ V.ref p,some$ V.str f0,some$ V.str g,some$ V.ref W,some$ vn,some$ vi,some$ vs,some$ vx,some$ vy,some$ v2,some$ V.ref lb,none,none,none,none]/\Ow H d p W lb us/\gn [(g,2)] d ys 0 us/\us.length<=4/\Wd H d p W ys/\ah H4 d) (λE5 _ f6=>qN W4 Z RT RT (λH7 W7 u=>?_) (λH7 W7 u=>?_)) λσ1 H6 h2=>?_
 ·clear f5;have o7:=o4.fw u;have D:ah H1 H7:=((a.trans k4).trans u.t);refine Jr W7 Z o7 (show 3<=100 by decide) (Kc (Cf:=[(g,2)]) (qd (n:=1) (qg zn) (jK Z aq$ aq _ _ _ D xi) (kC (kN Z RT RT) RT) RT RT) (jK Z aq$ aq _ _ _ D xy) RT RT) λu8 H8 x8 o8 W8 k8=>f6 _ _ ?_;have G:ah H4 H8:=(u.t.trans k8);have I:ah H3 H8:=((k4.trans u.t).trans k8);exact#[_,Z,o8,(jU ((dI _ _ _ I x3))$ jU ((dI _ _ _ I y3))$ jU ((dI _ _ _ G x4))$ jU (x8) Kk),(show 4<=4 by decide),W8,G]
 ·clear f5;have o7:=o4.fw u;have J:ah H3 H7:=(k4.trans u.t);exact f6 _ _ #[_,Z,o7,(jU ((dI _ _ _ J x3))$ jU ((dI _ _ _ J y3))$ jU ((dI _ _ _ u.t x4)) Kk),(show 3<=4 by decide),W7,u.t]
 obtain⟨us,rfl,o6,ux,ul,W6,k6⟩:=h2;refine f5 _ _ ?_;clear f5;refine ai λF9 f9=>jS W6 (kC (QL RT (by decide:(30:Int) < 31)) RT) λv9 H9 x9 W9 k9=>f9 _ _ ?_;have o9:=o6.fw k9;have b:ah H1 H9:=(((a.trans k4).trans k6).trans k9.t);refine ai λF0 f7=>DJ W9 (Kb (Cf:=[(g,2)]) (kK Z RT RU) (jK Z aq x9) RT) (Kc (Cf:=[(g,2)]) (jK Z aq x9) (Ka Z (jK Z aq$ aq _ _ _ b xs)$ jK Z aq$ aq _ _ _ b xy) RT RT) λlm u0 w0 H0 z0 x0 y0 W5 j=>f7 _ _ ?_;have o1:=o9.fw j;refine ai λF6 y=>dq (λN d=>∃(m:Addr) (zs:List V),N=[some$ V.ref p,some$ V.str f0,some$ V.str g,some$ V.ref W,some$ vn,some$ vi,some$ vs,some$ vx,some$ vy,some$ v2,some$ V.ref lb,some$ v9,some$ .ref m,none,none]/\Ow H d p W lb us/\Ow H d p W m zs/\gn [(g,2)] d ys 0 zs/\zs.length<=2/\Wd H d p W ys/\ah H0 d) (λE1 _ L=>qN W5 Z RT RT (λH5 O k=>?_) (λH5 O k=>?_)) λσ0 R h0=>?_
 ·clear y;have S:=o1.fw k;have z1:=z0.fw k;have l:ah H1 H5:=((b.trans j.t).trans k.t);refine DI O (JC (Cf:=[(g,2)]) (kK Z RT RU) (Ka Z (jK Z aq$ aq _ _ _ l xs)$ jK Z aq$ aq _ _ _ l xy) RT) λlq u1 a0 z2 x1 a1 k1=>L _ _ ?_;have o':=S.fw k1;have z:ah H0 a0:=(k.t.trans k1.t);exact#[_,_,Z,o',z2,zw x1,(show 1<=2 by decide),a1,z]
 ·clear y;have S:=o1.fw k;have z1:=z0.fw k;exact L _ _ #[_,_,Z,S,z1,(jU ((dI _ _ _ k.t x0))$ jU ((dI _ _ _ k.t y0)) Kk),(show 2<=2 by decide),O,k.t]
 obtain⟨lm,zs,rfl,a2,z3,zx,zl,a3,T⟩:=h0;refine y _ _ ?_;clear y;have o:ah H2 R:=(((((k3.t.trans k4).trans k6).trans k9.t).trans j.t).trans T);have M:ah H1 R:=((b.trans j.t).trans T);have U:ah H6 R:=((k9.t.trans j.t).trans T);refine ai λF7 f'=>y9 a3 Z Z a2 z3 RU (ux.mono U) zx (Kc (Cf:=[(g,2)]) (jK Z aq$ aq _ _ _ o x2) (qd (n:=1) (qg zn) (jK Z aq$ aq _ _ _ M xi) (kC (QL RT (by decide:(1:Int) < 2)) RT) RT RT) RT RT) (JC (Cf:=[(g,2)]) (kK Z RT RU) (qd (n:=1) (qg Q5) (jK Z aq$ aq _ _ _ M xi) (jK Z aq$ aq _ _ _ M xn) RT RT) RT) λlc cs a4 a5 cx cl a6 k5=>f' _ _ ?_;have cm:cs.length<=8:=by omega
 have X:ah H2 a4:=(o.trans k5.t);refine ai λb4 a8=>jS a6 (Ak (JC (Cf:=[(g,2)]) (kK Z RT RU) (kC (QL RT (by decide:(1:Int) < 2)) RT) RT)$ Kc (Cf:=[(g,2)]) (jK Z aq$ aq _ _ _ X x2) (kC (kN Z RT RT) RT) RT RT) λv1 b5 x5 a9 Y=>a8 _ _ ?_;have o2:=a5.fw Y;refine ai λb7 a'=>jS a9 (yi (J9$ kK Z RT RU) (yh (n:=8) Z o2 (cx.mono Y.t) cm) RT RT) λv3 b0 x7 b1 k0=>a' _ _ ?_;have b9:=o2.fw k0;have m0:ah H1 b0:=(((M.trans k5.t).trans Y.t).trans k0.t);refine QR b1 (YN (Qo Z) (yf$ kK Z RT RU) (qH (Ev.up (Aj Z Z$ yr _ _ _ k0.t x5) λ_ _=>PB.lift) (YM (jK Z dI x7)$ Ev.up (Xn (Cf:=[(g,2)]) (jK Z aq$ aq _ _ _ m0 xs) RT) λ_ _=>ci.lift) RT) RT RU) λv d x W'=>?_;obtain⟨r,rfl,x⟩:=x;exact q r d x W'.B W'.K
theorem EY{y:List Str}{lo:Nat}(h:y.length=14)(H:lo<=8):(bf y (some (lo:Int))$ some ((lo+6:Nat):Int)).length=6:=by unfold bf;rw[HT.sIx_nat,HT.sIx_nat,HF,IW,h,La$ Hh H RT,La$ Nat.add_le_add_right H 6,Nat.add_sub_cancel_left];exact La$ Nat.le_sub_of_add_le$ Hh (Oz H 6) RT
theorem Go{k:Nat}(h:k < n):mN n (k:Int)=some k:=by unfold mN;rw[Hm RU,Hm RU,Ie]
theorem oZ.more(h:oZ C n H r f)(k:∀y∈C,y∈D):oZ D n H r f:=let #[d,b,a,c]:=h;#[d,b,#[a.1,kA k a.2],c]
theorem Fc(r:oZ [(l,N),(m,j),(o,k)] N H a l)(s:oZ [(l,N),(m,j),(o,k)] j H b m)(t:oZ [(l,N),(m,j),(o,k)] k H c o)(p:N<=100/\j<=100/\k<=100):∃D,cw H D [.ref a,.ref b,.ref c]/\D.length=3/\((∀d∈D,mv d/\d.b.Cs [(l,N),(m,j),(o,k)])/\D.map Df.f=[l,m,o])/\ma H D [N,j,k]:=by
 obtain⟨d,u,v,O,y,z,E⟩:=r;obtain⟨e,A,B,Q,C,F,G⟩:=s;obtain⟨f,I,J,R,g3,L,M⟩:=t;refine#[[d,e,f],#[_,_,Z,u,_,_,Z,A,_,_,Z,I,Z],Z,#[λx q=>?_,by rw[<- E,<- G,<- M];rfl],Z,λi x n h g=>?_]
 ·simp only[II,HG,Mh]at q;rcases q with rfl |rfl |rfl
  ·exact v
  ·exact B
  ·exact J
 ·match i,h,g with
  |0,h,g=>cases h;cases g;exact#[_,y,z,p.1]
  |1,h,g=>cases h;cases g;exact#[_,C,F,p.2.1]
  |2,h,g=>cases h;cases g;exact#[_,g3,L,p.2.2]
inductive i6(b:List V)(H:Hp)(Q:VK)(a:XK):Prop
 |mk(p:Addr)(_:b=[.ref p])(_:ao H p)(_:∀(r:Addr) (ds:List Df) (xs:List V) (H':Hp),H' r=some (.tup xs)->cw H' ds xs->ds.length=3->∀ns,uV ds ns->ma H' ds ns->(∃r,ns=1::r)->ao H' p->ar p H H'->Q (.ref r) H')
def CU(L:List Str)(_:Hp)(v:V):Prop:=∃x,v= .str x/\x∈L
section
variable {ys:List Str}{H0 Hb:Hp}{p wl:Addr}{σ:_L.St}
theorem Dn{K:Frag}(e:σ[0]?=some (some$ .ref p))(r:Ev H0 p wl ys Hb σ t (u7 a))(s:Ev H0 p wl ys Hb σ T (u7 b))(u:Ev H0 p wl ys Hb σ x (u7 c)):Ev H0 p wl ys Hb σ (dG (iw K) (lW$ al t$ al T$ al x aM)$ uS 3) (CU [a,b,c]):=λH Q m W q=>
 r H _ m W λy z (E:y= .str a) A k=>s z _ (m.trans k) A λC D (F:C= .str b) G f=>u D _ ((m.trans k).trans f) G λI R (J:I= .str c) h j=>#[dZ,λl n=>kN e RT RT _ _ ((((m.trans k).trans f).trans j).trans$ .new n) (h.same$ jd n) λv L #[d,M,S,U] N o=>by
  obtain⟨g,i,O⟩:∃g,du [V.str a,.str b,.str c] d=some (.str g)/\g∈[a,b,c]:=by
   rcases(by omega:d=0∨d=1∨d=2) with rfl |rfl |rfl
   ·exact#[a,Z,RV]
   ·exact#[b,Z,RV]
   ·exact#[c,Z,RV]
  rw[<- E,<- F,<- J]at i;exact#[l,_,d,_,Z,M,aB.of$ o.b _ _ (h.B.ne n) jc,i,q _ L #[g,Z,O] N (((k.trans f).trans j).trans ((Fw.new n).trans o))]]
theorem pS{K:Frag}{lo:Nat}(e:σ[0]?=some (some$ .ref p))(E:σ[1]?=some (some$ .ref wl))(d:Ev H0 p wl ys Hb σ t (u7 f))(l:Ev H0 p wl ys Hb σ T (CU L))(h:ys.length=14)(o:lo<=8)(s:i=(lo:Int))(u:j=((lo+6:Nat):Int)):
  Ev H0 p wl ys Hb σ (dF (c8 n) [] E0$ al (aX 0)$ al t$ al T$ al (EF (wP K) (aX 1) (lX$ tC$ .int i)$ lX$ tC$ .int j) aM) (PD (L.map λy=>(y,2)) n f):=λH Q m W q=>
 #[_,e,d H _ m W λv x (z:v= .str f) A k=>l x _ (m.trans k) A λV M #[g,D,c] b F=>#[_,E,_,Z,_,Z,wl,_,Z,aB.of b.w,λr N=>#[p,r,f,g,bf ys (some i)$ some j,by rw[z,D];rfl,b.B.upd_new N,by rw[jc,zA],by rw[s,u];exact EY h o,λa G X I C=>
  q _ G #[a,Z,X.more λy J=>by rw[List.mem_singleton.mp J];exact List.mem_map.mpr #[g,c,Z]] ((b.same$ jd N).but I C) ((k.trans F).trans ((Fw.new N).trans$ .but (b.B.upd_new N) C))]]]
theorem qO{K:Frag}{k:Nat}(e:σ[j]?=some (some$ .ref wl))(a:i=(k:Int))(h:ys[k]?=some y):Ev H0 p wl ys Hb σ (dG (iw K) (aX j)$ tC$ .int i) (u7 y):=λH Q m W q=>
 #[_,e,wl,_,_,_,Z,Z,aB.of W.w,(by rw[a];exact jQ (by rw[Hu,h];rfl)),q _ H Z W .refl]
theorem Dl{n1 n2 n3:Nat}(s:n1<=100/\n2<=100/\n3<=100)(u:Ev H0 p wl ys Hb σ T (PD [(e,n1),(h,n2),(i,n3)] n1 e))(y:Ev H0 p wl ys Hb σ z (PD [(e,n1),(h,n2),(i,n3)] n2 h))(A:Ev H0 p wl ys Hb σ B (PD [(e,n1),(h,n2),(i,n3)] n3 i)):Ev H0 p wl ys Hb σ (bV$ al T$ al z$ al B aM) (λH v=>∃r D x,v= .ref r/\H r=some (.tup x)/\cw H D x/\D.length=3/\((∀d∈D,mv d/\d.b.Cs [(e,n1),(h,n2),(i,n3)])/\D.map Df.f=[e,h,i])/\ma H D [n1,n2,n3]):=λH Q m W q=>
 u H _ m W λV C X E k=>y C _ (m.trans k) E λF G I J j=>A G _ ((m.trans k).trans j) J λL H4 M N l=>#[dZ,λr n=>q _ _ (by
  have t:=ae.tm (jd (o:=HO.tup [V,F,L]) n);obtain⟨a,O,R⟩:=iJ _ _ _ t (iJ _ _ _ (j.trans l).t X);obtain⟨b,S,U⟩:=iJ _ _ _ t (iJ _ _ _ l.t I);obtain⟨c,Y,h3⟩:=iJ _ _ _ t M;obtain⟨D,g⟩:=Fc R U h3 s;exact#[r,D,_,Z,by rw[jc,O,S,Y],g]) (N.same$ jd n) (((k.trans j).trans l).trans$ .new n)]
end
theorem eN:ak ["_law_box_here","_law_w","_law_body_here","_law_deeper","_law_further","_law_first"] z1z (aa sN):=bL
theorem vX(F:aJ K "_law_busy" "_law_busy" sN f fd)(T:Cl P w K mg base 1 fT f0 z0z aL "_law_take")(cO:Cl P w K mg base 2 fO f1 z16z lS "_law_op")(cA:Cl P w K mg base 2 fA f7 z20z dY "_law_names")(cL:Cl P w K mg base 3 fL f9 z18z (c8 1) "_law_looped")(cK:Cl P w K mg base 3 fK f' z18z (c8 1) "_law_ticking")(cI:Cl P w K mg base 3 fI a0 z33z (c8 2) "_law_inner"):aj P w K mg base aA 4 f fd z1z i6:=by
 refine F.ok eN ?_ λc0 A U s H vs Q E i h=>?_
 ·rintro _ _ _ _ ⟨p,rfl,_⟩;rfl
 obtain⟨p,rfl,B,q⟩:=h;refine#[_,(je (jx 1 eN.nd$ cA.e i.m$ ja (pv 0)$ ja jf jb)$ je (j4$ jw (kJ$ T.e i.m$ ja (pv 0)$ ja jf jb) (jg$ kW (jr jq (pv 1) jf (λ_ _=>Z))$ qh (pv 1) jf zf) jp)$ je (jx 2 eN.nd$ jh$ ja (jh$ ja jk$ ja (jr jq (pv 1) jf (λ_ _=>Z))$ ja (jh$ ja jk$ ja (jr jq (pv 1) jf (λ_ _=>Z)) jb) jb)$ ja (jh$ ja jk$ ja (cO.e i.m$ ja (pv 0)$ ja (jh$ ja jk$ ja (jr jq (pv 1) jf (λ_ _=>Z)) jb)$ ja (jh$ ja jk$ ja (jr jq (pv 1) jf (λ_ _=>Z)) jb) jb) jb) jb)$ je (jx 3 eN.nd$ jh$ ja (jr jq (pv 1) jf (λ_ _=>Z))$ ja (jh$ ja (jr jq (pv 1) jf (λ_ _=>Z))$ ja (jr jq (pv 1) jf (λ_ _=>Z)) jb)$ ja (pv 2) jb)$ je (jx 4 eN.nd$ jr jq (jE$ ja (jr jq (pv 1) jf (λ_ _=>Z))$ ja (jr jq (pv 1) jf (λ_ _=>Z))$ ja (jr jq (pv 1) jf (λ_ _=>Z)) jb) (T.e i.m$ ja (pv 0)$ ja jf jb) (λ_ _=>Z))$ je (jx 5 eN.nd$ cL.e i.m$ ja (pv 0)$ ja (jr jq (pv 1) jf (λ_ _=>Z))$ ja (jr jq (pv 1) jf (λ_ _=>Z))$ ja (jJ kf (pv 1) (jH jf)$ jH jf) jb)$ je (j4$ jw (kJ$ T.e i.m$ ja (pv 0)$ ja jf jb) (jg$ jx 5 eN.nd$ cK.e i.m$ ja (pv 0)$ ja (jr jq (pv 1) jf (λ_ _=>Z))$ ja (jr jq (pv 1) jf (λ_ _=>Z))$ ja (jJ kf (pv 1) (jH jf)$ jH jf) jb) jp)$ jg$ jo$ jh$ ja (pv 5)$ ja (cI.e i.m$ ja (pv 0)$ ja (jr jq (pv 1) jf (λ_ _=>Z))$ ja (pv 4)$ ja (jJ kf (pv 1) (jH jf)$ jH jf) jb)$ ja (pv 3) jb),?_];refine ai λFa o=>#[_,Z,p,14,Z,B,RT,RT,λj ys Ha X u c d Ba ka=>o _ _ ?_];clear o;have wp:j≠p:=zu Ba u;refine ai λFa o=>dq (λn g=>∃Y:List Str,n=[some$ V.ref p,some$ V.ref j,none,none,none,none]/\g j=some (.lst$ Y.map V.str)/\(Y.length=14/\(Y.take 3).Nodup/\∀y∈Y.take 3,y.length<=20)/\ao g p/\ar p H g) (λE0 _ fm=>qN (W:=#[Ba,ka,u]) Z RT RT (λHb l kb=>?_) (λHb l kb=>fm _ _ #[_,Z,l.w,#[RU,d.2.sublist$ Lb _ _,λy hy=>d.1 y (HZ hy)],l.B,l.K])) λσ1 H0 h3=>?_
 ·clear o;obtain⟨v1,h6,z⟩:=Jn (ys:=ys) (k:=1) RT RU;refine#[_,Z,j,_,_,_,Z,Z,aB.of l.w,z,_,Z,j,_,8,8,Z,Z,l.w,Go (k:=8) (by rw[GQ];omega),fm _ _ #[ys.set 8 v1,Z,?_,#[by rw[MO];omega,by rw[List.take_set_of_le RT];exact#[d.2.sublist$ Lb _ _,λy hy=>d.1 y (HZ hy)]],l.B.eq$ ji$ HI wp,l.K.upd_own X]];rw[jc,PQ]
 obtain⟨ys,rfl,h4,⟨c,C,D⟩,B1,k1⟩:=h3;obtain⟨y0,h0⟩:∃y,ys[0]?=some y:=#[_,GN (by omega:0 < ys.length)];obtain⟨G,I⟩:∃y,ys[1]?=some y:=#[_,GN (by omega:1 < ys.length)];obtain⟨y2,N⟩:∃y,ys[2]?=some y:=#[_,GN (by omega:2 < ys.length)];have e3:ys.take 3=[y0,G,y2]:=by rw[Lh,Lh,Lh,h0,I,N];rfl
 rw[e3]at C D;refine o _ _ ?_;clear o;have W1:Wd H H0 p j ys:=#[B1,k1,h4];generalize H0=H1 at W1;refine ai λF2 f2=>jS W1 (YM (Kb (Cf:=[]) (kK Z RT RU) (J9$ kK Z RT RU) RT)$ Xn (Cf:=[]) (Ka Z (J9$ kK Z RT RU)$ J9$ kK Z RT RU) RT) λv2 H2 x2 W2 k2=>f2 _ _ ?_;refine ai λF3 f3=>jS W2 (YN (Cf:=[]) (qO (k:=2) Z Z N) (yg (kK Z RT RU)$ kK Z RT RU) (Ev.up (jK Z dB x2) λ_ _=>PB.lift) RT RU) λv3 H3 x3 W3 k3=>f3 _ _ ?_;refine ai λF4 f4=>jS W3 (Dn Z (qO (k:=1) Z Z I) (qO (k:=2) Z Z N)$ qO (k:=2) Z Z N) λv4 H4 x4 W4 k4=>f4 _ _ ?_;refine ai λF5 f5=>jS W4 (pS (lo:=6) Z Z (qO (k:=0) Z Z h0) (Ev.up (R:=CU [G]) (qO (k:=1) Z Z I) λ_ _ e=>#[_,e,Hq]) c RT Z Z) λv5 H5 x5 W5 k5=>f5 _ _ ?_;refine ai λF6 O=>dq (λn g=>∃(b:V),n=[some$ V.ref p,some$ V.ref j,some$ v2,some$ v3,some$ v4,some b]/\PD [(G,2)] 1 y0 g b/\Wd H g p j ys/\ah H5 g) (λE6 _ J=>qN W5 Z RT RT (λH8 W8 S=>?_) (λH8 W8 S=>?_)) λσ2 H7 h5=>?_
 ·clear O;refine jS W8 (pS (lo:=6) Z Z (qO (k:=0) Z Z h0) (Ev.up (R:=CU [G]) (qO (k:=1) Z Z I) λ_ _ e=>#[_,e,Hq]) c RT Z Z) λv9 H9 x9 W9 k9=>J _ _ ?_;have M:ah H5 H9:=(S.t.trans k9.t);exact#[_,Z,x9,W9,M]
 ·clear O;exact J _ _ #[_,Z,(iJ _ _ _ S.t x5),W8,S.t]
 obtain⟨b7,rfl,x7,W7,k7⟩:=h5;refine O _ _ ?_;clear O;have L:ah H3 H7:=((k4.t.trans k5.t).trans k7);refine QR W7 (Dl (n1:=1) (n2:=2) (n3:=2) #[RT,RT,RT] (Ev.up (jK Z iJ x7) (λ_ _ #[a,e,h]=>#[a,e,h.more RV])) (Ev.up (pS (lo:=7) Z Z (qO (k:=1) Z Z I) (jK (P:=CU [G,y2,y2]) Z (λ_ _ _ _ h=>h) x4) c RT Z Z) (λ_ _ #[a,e,h]=>#[a,e,h.more RV])) (Ev.up (jK Z iJ$ iJ _ _ _ L x3) (λ_ _ #[a,e,h]=>#[a,e,h.more RV]))) λv g x W'=>?_;obtain⟨r,ds,xs,rfl,g0,g1,g2,g3,g4⟩:=x;exact q r ds xs g g0 g1 g2 [1,2,2] #[by rw[g3.2];exact g3.1,by rw[g3.2];exact#[C,D]] g4 #[_,Z] W'.B W'.K
noncomputable abbrev nO:Stmt:=bM 68
theorem Cd(h:0<=d)(H:d < 4):∃m:Int,du [V.int 3,.int 3,.int 3,.int 8] d=some (.int m)/\3<=m/\m<=8:=by
 rcases(by omega:d=0∨d=1∨d=2∨d=3) with rfl |rfl |rfl |rfl
 ·exact#[3,Z,RT,RT]
 ·exact#[3,Z,RT,RT]
 ·exact#[3,Z,RT,RT]
 ·exact#[8,Z,RT,RT]
theorem Ah(h:cw H D v)(f:0<=k)(g:k < (v.length:Int)):∃d,du v k=some (.ref d.p)/\d∈D/\xV H d (.ref d.p):=by
 have a:k.toNat < v.length:=by omega
 have E:k=((k.toNat:Nat):Int):=by omega
 obtain⟨d,c,b⟩:=h.at k.toNat _ (GN a);have e:v[k.toNat]= .ref d.p:=b.elim λ_ z=>z.1;refine#[d,?_,Hf c,by rw[<- e];exact b];rw[E];exact jQ (by rw[<- e];exact GN a)
def CJ(H:Hp)(D:List Df)(v a:V):Prop:=∃(d:Df) (p:List Str) (t:Addr) (I:List Int),d∈D/\v= .str d.f/\H d.pa=some (.tup$ p.map V.str)/\a= .ref t/\H t=some (.tup$ I.map V.int)/\I.length=p.length/\I.length<=100/\∀i∈I,0<=i/\i < 1000000000000000000
inductive i7(b:List V)(H:Hp)(Q:VK)(a:XK):Prop
 |mk(p:Addr)(_:b=[.ref p])(_:ao H p)(_:∀(t r:Addr) (v2 v3:V) (ds:List Df) (xs:List V) (H':Hp),H' t=some (.tup [.ref r,v2,v3])->H' r=some (.tup xs)->cw H' ds xs->1<=ds.length->ds.length<=8->∀ns,uV ds ns->ma H' ds ns->CJ H' ds v2 v3->ao H' p->ar p H H'->Q (.ref t) H')
theorem eO:ak z38z z1z (aa nO):=bL
noncomputable def X1:Scope:=#[.function,[(".0",.local),("_law_one",.local),("_law_number",.globalImplicit),("_law_box_here",.free)],false,false,[]]
theorem rG:(["_law_one","_law_box_here"]:List Str).Nodup:=by decide+kernel
theorem pE:aZ z38z (aa nO) X1 ["_law_one","_law_box_here"] 1 [0]:=nC
theorem vY(F:aJ K "_law_case" "_law_case" nO f fd)(M:Cl P w K mg base 1 fT f0 z0z aL "_law_take")(cN:Cl P w K mg base 2 fN f3 z1z eG "_law_number")(cY:Cl P w K mg base 4 fY f4 z1z i6 "_law_busy")(cZ:Cl P w K mg base 22 fZ f5 z32z nZ "_law_any")(ml:mg "len"=none)(m0:mg "tuple"=none):aj P w K mg base aA 23 f fd z1z i7:=by
 refine F.ok eO ?_ λc0 A o1 s H vs Q E y h=>?_
 ·rintro _ _ _ _ ⟨p,rfl,_⟩;rfl
 obtain⟨p,rfl,B,q⟩:=h;refine#[_,(je (jw (jA qM (M.e y.m$ ja (pv 0)$ ja jf jb) jf$ aE _) (je (jx 1 eO.nd$ cY.e y.m$ ja (pv 0) jb)$ jg$ jo$ jh$ ja (pv 1)$ ja (jz$ jr jR (pv 1) jf (λ_ _=>Z))$ ja (jh$ ja (M.e y.m$ ja (pv 0)$ ja jf jb) jb) jb) jp)$ je (jx 2 eO.nd$ jr jq (jE$ ja jf$ ja jf$ ja jf$ ja jf jb) (M.e y.m$ ja (pv 0)$ ja jf jb) (λ_ _=>Z))$ je (jx 1 eO.nd$ cZ.e y.m$ ja (pv 0)$ ja (jv jZ jf$ M.e y.m$ ja (pv 0)$ ja (pv 2) jb)$ ja jf jb)$ je (kW (jr jR (pv 1) (M.e y.m$ ja (pv 0)$ ja (jI jD Z ml HR$ ja (pv 1) jb) jb) (λ_ _=>Z))$ kU (n:=3) Z$ jy (ju (i:=3) eO.nd Z$ Or.inl Z)$ jy (ju (i:=4) eO.nd Z$ Or.inl Z)$ jy (ju (i:=5) eO.nd Z$ Or.inl Z) j5)$ jg$ jo$ jh$ ja (pv 1)$ ja (pv 3)$ ja (jG jF Z m0 IE$ ja (@kE _ _ _ _ _ _ _ (["_law_one","_law_box_here"]) (1) ([0]) _ _ _ _ Z (qi$ pv 4) pE (λ_ _ _ _ _=>(ju (i:=0) rG Z$ Or.inl Z)) (λ_ _ _ _ _=>(@zi _)) (λ_ _ _ _ _=>(cN.e y.m$ ja (pv 1) jb)) (by intro _;rfl)) jb) jb),?_];have b0:=aF;refine ai λF1 a=>nE λG1 g1=>#[_,Z,p,3,Z,B,RT,RT,λd1 H1 d' a0 B1 e1=>#[_,_,Z,Z,_,Z,g1 _ _ ?_]];clear g1;have k1:ar p H H1:=ar.of_eq e1;refine bN (λc=>?_) (λc=>a _ _ ?_)
 ·clear a;refine ai λF2 f2=>#[_,Z,p,Z,B1,λr ds xs H2 N C hl ns D b O B2 k2=>f2 _ _ ?_];clear f2;have ln:=C.len;obtain⟨nr,rfl⟩:=O;cases ds with
  |nil=>cases hl
  |cons d r0=>
  obtain⟨p0,R,S,_⟩:=b.2 0 d 1 Z Z;have h0:=C;obtain⟨u0,rr,rfl,⟨bs,rfl,hp,_⟩,_⟩:=h0;have g:du (V.ref d.p::rr) 0=some (.ref d.p):=dH;refine#[_,Z,js N g #[d.p,_,_,_,Z,Z,ax.of hp,dH,_,Z,p,6,Z,B2,RT,RT,λd3 H3 d0 d4 B3 e3=>?_]];have c3:ar p H2 H3:=ar.of_eq e3;refine#[gH,λu nu=>#[dZ,λt U=>?_]];have s4:ae H3 (af (af H3 u$ .tup [.int d3]) t$ .tup [.ref r,.str d.f,.ref u]):=(jd nu).trans (jd U);have T:=(c3.tm B2).trans (ae.tm s4);exact q t r _ _ _ _ _ jc (T _ _ N) (C.mono T) RU RU _ D (b.mono T) #[d,p0,u,[d3],Hq,Z,T _ _ R,Z,am jc U,by rw[S];rfl,(by show 1<=100;decide),λi hi=>by rw[List.mem_singleton.mp hi];omega] (B3.same s4) ((k1.trans k2).trans$ c3.trans$ ar.of_same s4)
 clear a;refine ai λF1 a=>#[oW,λl W=>#[_,Z,p,4,Z,B1.upd_new W,RT,RT,λd2 H2 d6 d7 B2 e2=>?_]];have k2:ar p H1 H2:=((ar.refl).upd_new W).trans (ar.of_eq e2);obtain⟨m,g,m3,m8⟩:=Cd d6 d7;refine#[l,_,_,_,Z,Z,aB.of (by rw[e2 l$ B1.ne W];exact jc),g,a _ _ ?_];clear a;refine ai λF1 a=>#[_,Z,_,Z,_,Z,p,m,Z,B2,RU,RU,λd3 H3 d0 d4 B3 e3=>#[_,_,Z,Z,p,1+d3,12,Z,B3,RU,RU,RT,RT,λr ds xs H4 G C hl ns D b B4 k4=>a _ _ ?_]];clear a;have ln:=C.len;have K4:ar p H H4:=(k1.trans k2).trans ((ar.of_eq e3).trans k4);refine ai λF1 a=>#[_,Z,_,Z,_,Z,r,_,Z,.inr$ ax.of G,p,_,Z,B4,RU,RU,λd5 H5 d8 d9 B5 e5=>?_];have c5:ar p H4 H5:=ar.of_eq e5;have o:=c5.tm B4;obtain⟨d,g,hd,bs,e,hp,_⟩:=Ah (C.mono o) d8 d9;refine#[r,_,_,_,Z,Z,ax.of$ o _ _ G,g,d.p,_,Z,ax.of hp,Z,_,_,Z,_,_,Z,_,_,Z,Z,a _ _ ?_];clear a;obtain⟨pv,X,h4⟩:=b.v d hd;have z:=o _ _ X;refine#[_,Z,_,Z,_,Z,d.pa,Z,#[_,ax.of z],?_];refine qx (K:=K) (xs:=pv.map V.str) (by rw[GQ];omega) (λi L J=>(∃I:List Int,L=I.map V.int/\I.length=i/\∀j∈I,0<=j/\j < 1000000000000000000)/\ao J p/\ar p H5 J) #[#[[],Z,Z,(λ_ h=>nomatch h)],B5,ar.refl] (λi L J k=>?_) (λi x L J hx k=>?_) (λL J k l W=>?_)
 ·exact#[ax.of$ k.2.2.tm B5 _ _ z,let #[I,e,l,_]:=k.1;by rw[e,GQ,l];exact GV _]
 ·exact#[_,Z,p,Z,k.2.1,λe H7 e0 e1 B7 e7=>#[let #[I,h1,l,h2]:=k.1;#[I++[e],by rw[h1,Hs];rfl,by rw[GU,l];rfl,Ja h2 #[e0,e1]],B7,k.2.2.trans$ ar.of_eq e7]]
 ·refine#[l,_,Z,.inl #[aB.of jc,λl2 n0=>#[dZ,λt U=>?_]]];have s7:ae J (af (af (af J l$ .lst L) l2$ .tup L) t$ .tup [.ref r,.str d.f,.ref l2]):=((jd W).trans$ jd n0).trans (jd U);have T:=o.trans ((k.2.2.tm B5).trans$ ae.tm s7);obtain⟨I,hz,Y,h3⟩:=k.1;rw[GQ]at Y;exact q t r _ _ ds xs _ jc (T _ _ G) (C.mono T) RU RU ns D (b.mono T) #[d,pv,l2,I,hd,Z,T _ _ X,Z,by rw[<- hz];exact am jc U,Y,RU,h3] (k.2.1.same s7) (K4.trans$ c5.trans$ k.2.2.trans$ ar.of_same s7)
noncomputable abbrev iR:Stmt:=bM 15
noncomputable abbrev iX:Stmt:=bM 16
abbrev cq:=List (bJ×V)
def gp(x:Int):Prop:=0<=x/\x < 1000000000000000000
def GT(k:cq):Prop:=∀p∈k,∃i,p.2= .int i/\gp i
theorem GT.nil:GT []:=λ_ h=>absurd h HG
theorem GT.put(h:GT a)(k:bJ)(H:gp i):GT (bq a k$ .int i):=by
 intro p hp;unfold bq at hp;split at hp
 ·obtain⟨q,b,rfl⟩:=List.mem_map.mp hp;by_cases e:q.1=k
  ·rw[Hm e];exact#[i,Z,H]
  ·rw[Ho e];exact h q b
 ·rcases List.mem_append.mp hp with hp |hp
  ·exact h p hp
  ·rw[List.mem_singleton.mp hp];exact#[i,Z,H]
theorem GT.val(h:GT a)(e:bG a k=some v):∃i,v= .int i/\gp i:=by unfold bG at e;obtain⟨p,H,rfl⟩:=Option.map_eq_some_iff.mp e;exact h p$ List.mem_of_find?_eq_some H
noncomputable def look(a:cq)(k:bJ)(z:Int):Int:=match bG a k with
 |some (.int i)=>i
 |_=>z
theorem Ku(h:GT a)(k:bJ)(z:Int):(bG a k).getD (.int z)= .int (look a k z):=by
 unfold look;cases e:bG a k with
 |none=>rfl
 |some v=>obtain⟨i,rfl,_⟩:=h.val e;rfl
theorem Z4(h:GT a)(e:bG a k=some v)(z:Int):v= .int (look a k z):=by unfold look;obtain⟨i,rfl,_⟩:=h.val e;rw[e]
theorem Z5(e:bG a k=none)(z:Int):look a k z=z:=by unfold look;rw[e]
theorem JY(h:GT a)(H:gp z):gp (look a k z):=by
 unfold look;cases e:bG a k with
 |none=>exact H
 |some v=>obtain⟨i,rfl,b⟩:=h.val e;exact b
theorem JZ:gp 0:=#[RT,RT]
noncomputable def jn(i:Nat)(x y:Int):Int:=match i with
 |0=>(x+y) % 1000000000000000000
 |1=>(x - y) % 1000000000000000000
 |2=>x*y % 1000000000000000000
 |3=>if y=0 then 0 else x / y
 |4=>if x < y then 1 else 0
 |_=>if x=y then 1 else 0
noncomputable def Tm.ev(k:cq):Tm->Int
 | .num n=>n
 | .var x=>look k (.inr x) 0
 | .op i a b=>jn i (a.ev k) (b.ev k)
theorem Dt(H:gp x)(c:gp y):gp (jn i x y):=by
 have a:(1000000000000000000:Int)≠0:=by decide
 have b:(0:Int) < 1000000000000000000:=by decide
 match i with
 |0=>exact#[Ij _ a,HS _ b]
 |1=>exact#[Ij _ a,HS _ b]
 |2=>exact#[Ij _ a,HS _ b]
 |3=>
  show gp (if y=0 then 0 else x / y);by_cases h:y=0
  ·rw[Hm h];exact#[RT,RT]
  ·rw[Ho h];have e:=c.1;have d:0 < y:=by omega
   refine#[Pn H.1 RU,Int.lt_of_le_of_lt ?_ H.2];exact Int.ediv_le_self _ H.1
 |4=>show gp (if x < y then 1 else 0);split<;>exact#[RT,RT]
 |n+5=>show gp (if x=y then 1 else 0);split<;>exact#[RT,RT]
theorem JD(g:GT k):∀{t:Tm},t.Good y->gp (t.ev k)
 | .num _,h=>h
 | .var x,_=>JY g JZ
 | .op _ _ _,h=>Dt (JD g h.2.1) (JD g h.2.2)
inductive hG(b:List V)(H:Hp)(Q:VK)(a:XK):Prop
 |mk(i:Nat)(x y:Int)(_:b=[.str (Fu i),.int x,.int y])(_:i < 6)(_:gp x)(_:gp y)(_:Q (.int (jn i x y)) H)
def F'(K:Frag)(H:Hp)(T:Tm)(a:Addr):Prop:=be H T a∨(T= .num 0/\ax K H a [.str "num",.int 0])
inductive cg(K:Frag)(n:Nat)(e:List V)(H:Hp)(Q:VK)(b:XK):Prop
 |mk(a d:Addr)(T:Tm)(f:List Str)(c:cq)(_:e=[.ref a,.ref d])(_:F' K H T a)(_:T.depth < n)(_:T.Good f)(_:H d=some (.dK c))(_:GT c)(_:Q (.int (T.ev c)) H)
theorem tI:ak z22z z22z (aa iR):=bL
theorem Z6(F:aJ K "joined" "joined" iR f b)(m:mg "TOP"=some (.int 1000000000000000000 t)):aj P w K mg base aA 1 f b z22z hG:=by
 refine F.ok tI (λd H Q E h=>?_) (λe A o s H d Q E r h=>?_)
 ·obtain⟨i,x,y,rfl,_⟩:=h;rfl
 obtain⟨i,x,y,rfl,u,g,j,q⟩:=h;refine#[_,(je (jw (kh$ pv 0) (jg$ jo$ jv kX (jv jZ (pv 1)$ pv 2)$ qt (v:=.int 1000000000000000000) Z m #[_,Z]) jp)$ je (jw (kh$ pv 0) (jg$ jo$ jv kX (jv kM (pv 1)$ pv 2)$ qt (v:=.int 1000000000000000000) Z m #[_,Z]) jp)$ je (jw (kh$ pv 0) (jg$ jo$ jv kX (jv zq (pv 1)$ pv 2)$ qt (v:=.int 1000000000000000000) Z m #[_,Z]) jp)$ je (jw (kh$ pv 0) (jg$ jo$ ze (kJ$ pv 2) jf$ jv Ko (pv 1)$ pv 2) jp)$ je (jw (kh$ pv 0) (jg$ jo$ ze (jA qL (pv 1) (pv 2)$ aE _) jf jf) jp)$ jg$ jo$ ze (jA JB (pv 1) (pv 2)$ aE _) jf jf),?_];obtain⟨k,l⟩:=g;obtain⟨n,p⟩:=j;rcases(by omega:i=0∨i=1∨i=2∨i=3∨i=4∨i=5) with rfl |rfl |rfl |rfl |rfl |rfl
 ·refine#[_,Z,Z,_,Z,bQ RW ?_];exact#[_,Z,_,Z,_,_,Z,Z,_,_,Z,Z,(by show(0:Int) < 1000000000000000000;decide),q]
 ·refine#[_,Z,Z,_,Z,aO RW ?_];refine#[_,Z,Z,_,Z,bQ RW ?_];exact#[_,Z,_,Z,_,_,Z,Z,_,_,Z,Z,(by show(0:Int) < 1000000000000000000;decide),q]
 ·refine#[_,Z,Z,_,Z,aO RW ?_];refine#[_,Z,Z,_,Z,aO RW ?_];refine#[_,Z,Z,_,Z,bQ RW ?_];exact#[_,Z,_,Z,_,_,Z,Z,.inl #[RU,RU],_,_,Z,Z,(by show(0:Int) < 1000000000000000000;decide),q]
 ·refine#[_,Z,Z,_,Z,aO RW ?_];refine#[_,Z,Z,_,Z,aO RW ?_];refine#[_,Z,Z,_,Z,aO RW ?_];refine#[_,Z,Z,_,Z,bQ RW ?_];have a:Q (.int (if y=0 then 0 else x / y)) H:=q;refine#[_,Z,Z,_,Z,?_];refine bN (λc=>?_) (λc=>?_)
  ·have C:V.int y=V.int 0:=Iu c;injection C with C;rw[Hm C]at a;exact a
  ·have C:y≠0:=λz=>c (by rw[z];rfl);rw[Ho C]at a;exact#[_,Z,_,Z,_,_,Z,Z,#[RU,RU],a]
 ·refine#[_,Z,Z,_,Z,aO RW ?_];refine#[_,Z,Z,_,Z,aO RW ?_];refine#[_,Z,Z,_,Z,aO RW ?_];refine#[_,Z,Z,_,Z,aO RW ?_];refine#[_,Z,Z,_,Z,bQ RW ?_];have a:Q (.int (if x < y then 1 else 0)) H:=q;refine#[_,Z,_,Z,_,_,Z,Z,_,Z,?_];refine bN (λc=>?_) (λc=>?_)
  ·rw[Hm$ Iu c]at a;exact a
  ·rw[Ho$ MQ$ Bool.eq_false_iff.mpr c]at a;exact a
 ·refine#[_,Z,Z,_,Z,aO RW ?_];refine#[_,Z,Z,_,Z,aO RW ?_];refine#[_,Z,Z,_,Z,aO RW ?_];refine#[_,Z,Z,_,Z,aO RW ?_];refine#[_,Z,Z,_,Z,aO RW ?_];have a:Q (.int (if x=y then 1 else 0)) H:=q;refine#[_,Z,_,Z,Z,_,Z,?_];refine bN (λc=>?_) (λc=>?_)
  ·have C:V.int x=V.int y:=Iu c;injection C with C;rw[Hm C]at a;exact a
  ·have C:x≠y:=λz=>c (by rw[z];exact Hl Z);rw[Ho C]at a;exact a
theorem xu:ak z10z z10z (aa iX):=bL
theorem rZ(F:aJ K "worth" "worth" iX f p)(C:Cl P w K mg base (n+1) f p z10z (cg K n) "worth")(v:Cl P w K mg base 1 R B z22z hG "joined"):aj P w K mg base aA (n+2) f p z10z (cg K$ n+1):=by
 refine F.ok xu (λV H Q E h=>?_) (λD A o s H V Q E j h=>?_)
 ·obtain⟨a,d,T,y,c,rfl,_⟩:=h;rfl
 obtain⟨a,d,T,y,c,rfl,t,I,g,l,G,q⟩:=h;refine#[_,(je (jw (kh$ jz$ pv 0) (jg$ jo$ jz$ pv 0) jp)$ je (jw (kh$ jz$ pv 0) (jg$ jo$ @Kr _ _ _ _ _ _ _ _ _ (zF j) (pv 1) (jz$ pv 0) jf #[RX,RX,RX,RX]) jp)$ jg$ jo$ v.e j.m$ ja (jz$ pv 0)$ ja (C.e j$ ja (jz$ pv 0)$ ja (pv 1) jb)$ ja (C.e j$ ja (jz$ pv 0)$ ja (pv 1) jb) jb),?_];cases T with
 |num m=>
  have b:ax K H a [.str "num",.int m]:=t.elim (λh=>ax.of h) λz=>by cases z.1;exact z.2
  refine#[_,Z,a,_,_,_,Z,Z,b,Z,Z,_,Z,bQ RW ?_];exact#[_,Z,a,_,_,_,Z,Z,b,Z,q]
 |var x=>
  have b:H a=some (.tup [.str "var",.str x]):=t.resolve_right λz=>by cases z.1
  refine(js b Z #[Z,_,Z,aO RW ?_]);refine(js b Z #[Z,_,Z,bQ RW ?_]);refine#[_,Z,d,Z,.inl #[c,.inl l],js b Z #[_,dM.k (k:=Sum.inr x) l,?_]];rw[Ku G];exact q
 |op i r u=>
  obtain⟨J,L,b,M,N⟩:=t.resolve_right λz=>by cases z.1
  have O:max r.depth u.depth+1 < n+1:=I;refine(js b Z #[Z,_,Z,aO RW ?_]);refine(js b Z #[Z,_,Z,aO RW ?_]);refine(js b Z ?_);refine(js b Z #[_,Z,J,d,r,y,c,Z,.inl M,RU,g.2.1,l,G,?_]);refine(js b Z #[_,Z,L,d,u,y,c,Z,.inl N,RU,g.2.2,l,G,?_]);exact#[i,_,_,Z,g.1,JD G g.2.1,JD G g.2.2,q]
theorem rL:aj P w K mg base aA 1 f e z10z (cg K 0):=by
 have n:∀v H Q E,¬cg K 0 v H Q E:=λv H Q E h=>by obtain⟨a,d,T,y,k,_,_,c,_⟩:=h;exact absurd c$ Mf _
 exact#[λv H Q E h=>absurd h (n v H Q E),λA o s H b u v Q E _ _ _ _ h=>absurd h (n v H Q E)]
theorem uL(F:aJ K "worth" "worth" iX f a)(b:ay K a z10z [])(m:mg "worth"=some (.ref f))(c:Cl P w K mg base 1 e d z22z hG "joined"):
  ∀n:Nat,aj P w K mg base aA (n+1) f a z10z (cg K n)
 |0=>rL
 |n+1=>rZ F #[(uL F b m c n),b,F.kp,m] c
def TV(H:Hp)(y:List Str)(t:Addr)(T:Tm):Prop:=be H T t/\de y T
theorem TV.mono(k:ah H a)(h:TV H y t T):TV a y t T:=#[h.1.mono k,h.2]
inductive Gl where
 |give (t:Addr) (T:Tm) |nought |go (n:Nat)
structure WD where
 sets:List (Str×Addr×Tm)
 goal:Gl
noncomputable def Gl.gol(N:Addr):Gl->Es
 | .give t _=>.give t
 | .nought=>.give N
 | .go n=>.go (n:Int)
noncomputable def WD.wy(n:Addr)(w:WD):Wy:=#[w.sets.map λs=>(s.1,s.2.1),w.goal.gol n]
def CN(H:Hp)(y:List Str)(m:Nat):Gl->Prop
 | .give t T=>TV H y t T
 | .nought=>True
 | .go n=>n < m
structure yU(H:Hp)(ys:List Str)(m N:Nat)(w:WD):Prop where
 sets:∀s∈w.sets,TV H ys s.2.1 s.2.2
 len:w.sets.length<=N
 goal:CN H ys m w.goal
def lG(H:Hp)(y:List Str)(n:Addr)(m N:Nat)(w:Wy):Prop:=∃d:WD,d.wy n=w/\yU H y m N d
def FQ(F:gJ)(H:Hp)(y:List Str):Dd->Prop
 | .st p=>∃(l:Lf) (v:List V),H p=some (.tup v)/\u6 H l v/\l.Ok y/\l.isCut=true/\l.Cs F
 | .ask t=>∃T,TV H y t T
noncomputable def Dd.ways:Dd->Nat
 | .st _=>1
 | .ask _=>2
structure uU(F:gJ)(H:Hp)(ys:List Str)(nA:Addr)(m N:Nat)(c:Ct):Prop where
 mem:∀x,c.M x->x∈ys
 deed:FQ F H ys c.d
 ways:∀w∈c.ws,lG H ys nA m N w
 len:c.ws.length=c.d.ways
structure uQ(H:Hp)(ys:List Str)(nA:Addr)(m N:Nat)(pc:Pc):Prop where
 mem:∀x,pc.M x->x∈ys
 way:lG H ys nA m N pc.w
section
variable {F:gJ}{H H':Hp}{ys:List Str}{nA:Addr}{m N N':Nat}
theorem CN.mono(k:ah H H')(h:CN H ys m g):CN H' ys m g:=by
 cases g with
 |give t T=>exact TV.mono k h
 |nought=>trivial
 |go n=>exact h
theorem yU.mono(k:ah H H'){w:WD}(h:yU H ys m N w):yU H' ys m N w:=#[λs a=>(h.sets s a).mono k,h.len,h.goal.mono k]
theorem lG.up(a:N<=N'){w:Wy}(h:lG H ys nA m N w):lG H ys nA m N' w:=let #[d,e,v]:=h;#[d,e,v.sets,Hh v.len a,v.goal]
theorem uU.up(a:N<=N')(h:uU F H ys nA m N c):uU F H ys nA m N' c:=#[h.mem,h.deed,λw b=>(h.ways w b).up a,h.len]
theorem uQ.up(a:N<=N')(h:uQ H ys nA m N p):uQ H ys nA m N' p:=#[h.mem,h.way.up a]
theorem X3{n:Nat}(a:k=(n:Int))(b:n < m):lG H ys nA m N #[[],.go k]:=#[#[[],.go n],by rw[a];rfl,(λ_ h=>absurd h HG),Hg _,b]
theorem Ke:∀(b:Bd) {X:List V} {g:Pc} {fs:List Ct} {N:Nat},dj H b X->b.Ok ys->b.Cs F->uQ H ys nA m N g->(∀c∈fs,uU F H ys nA m N c)->fs.length+b.cuts<=m->
  uQ H ys nA m (N+b.size) (pB (m:Int) b g fs).1/\∀c∈(pB (m:Int) b g fs).2,uU F H ys nA m (N+b.size) c
 | .nil,_,_,_,_,_,_,_,o,y,_=>#[o,y]
 | .lf p l r,X,g,fs,N,C,i,k,o,y,D=>by
  obtain⟨vs,zs,_,h1,I,h3⟩:=C;have E:fs.length+(l.cut+r.cuts)<=m:=D;obtain⟨R,A⟩:=Ke r h3 i.2 k.2 o y RU;have hl:=kj (m:Int) r g fs;have S:N+r.size<=N+(r.size+1):=by omega
  have j:=Lf.use_in i.1 R.mem;have J:l.isCut=true->l.cut=1->uQ H ys nA m (N+(r.size+1)) #[l.use (pB (m:Int) r g fs).1.M,#[[],.go ((m:Int) - ((pB (m:Int) r g fs).2.length:Int) - 1)]]/\∀c∈(pB (m:Int) r g fs).2++[#[l.use (pB (m:Int) r g fs).1.M,.st p,[(pB (m:Int) r g fs).1.w]]],uU F H ys nA m (N+(r.size+1)) c:=λG h0=>
   #[#[j,X3 (n:=m - (fs.length+r.cuts) - 1) (by rw[hl];omega) RU],λc L=>by
    rcases List.mem_append.mp L with z |z
    ·exact(A c z).up S
    ·rw[List.mem_singleton.mp z];exact#[j,#[l,vs,h1,I,i.1,G,k.1],λw hw=>by rw[List.mem_singleton.mp hw];exact R.way.up S,Z]]
  show uQ H ys nA m (N+(r.size+1)) (pL (m:Int) p l$ pB (m:Int) r g fs).1/\∀c∈(pL (m:Int) p l$ pB (m:Int) r g fs).2,uU F H ys nA m (N+(r.size+1)) c;cases l with
  |gv t T=>exact#[#[j,#[#[[],.give t T],Z,(λ_ h=>absurd h HG),Hg _,I.2,i.1]],λc G=>(A c G).up S]
  |st x t T=>
   refine#[#[j,?_],λc G=>(A c G).up S];show lG H ys nA m _ (gX x t (pB (m:Int) r g fs).1);unfold gX;split
   ·obtain⟨d,e,v⟩:=R.way;refine#[#[(x,t,T)::d.sets,d.goal],by rw[<- e];rfl,λs hs=>?_,IG v.len,v.goal];rcases List.mem_cons.mp hs with rfl |hs
    ·exact#[I.2,i.1.2]
    ·exact v.sets s hs
   ·exact R.way.up S
  |rd x t T |wr t u T U |cl x f q ts=>exact J Z Z
 | .ite p t T a c r,X,g,fs,N,C,i,k,o,y,D=>by
  obtain⟨qa,qb,as,bs,zs,_,g1,O,g2,g3,Q,g5,W⟩:=C;have E:fs.length+(1+a.cuts+c.cuts+r.cuts)<=m:=D;obtain⟨R,A⟩:=Ke r W i.2.2.2 k.2.2 o y RU;have B:=kj (m:Int) r g fs;obtain⟨c1,c2⟩:=Ke c g5 i.2.2.1 k.2.1 R A RU;have h4:=kj (m:Int) c (pB (m:Int) r g fs).1 (pB (m:Int) r g fs).2;obtain⟨Y,a2⟩:=Ke a Q i.2.1 k.1 (R.up$ LA _ _) c2 RU;have S:N+r.size+c.size+a.size<=N+(a.size+c.size+r.size+1):=by omega
  have j:∀x,(Bd.ite p t T a c .nil).use (pB (m:Int) r g fs).1.M x->x∈ys:=Bd.use_in #[i.1,i.2.1,i.2.2.1,trivial] R.mem;have hk:(m:Int) - ((pB (m:Int) r g fs).2.length:Int) - ((Bd.ite p t T a c .nil).cuts:Int)=((m - (fs.length+r.cuts) - (1+a.cuts+c.cuts):Nat):Int):=by show(m:Int) - _ - ((1+a.cuts+c.cuts+0:Nat):Int)=_;rw[B];omega
  unfold pB;dsimp only;refine#[#[j,X3 hk RU],λe he=>?_];rcases List.mem_append.mp he with z |z
  ·exact(a2 e z).up S
  ·rw[List.mem_singleton.mp z];refine#[j,#[T,O,i.1],λw hw=>?_,Z];rcases List.mem_cons.mp hw with rfl |hw
   ·exact Y.way.up S
   ·rw[List.mem_singleton.mp hw];exact c1.way.up (by show _<=N+(a.size+c.size+r.size+1);omega)
 | .loop p t T a r,X,g,fs,N,C,i,k,o,y,D=>by
  obtain⟨qa,as,zs,_,g1,O,g2,Q,W⟩:=C;have E:fs.length+(1+a.cuts+r.cuts)<=m:=D;obtain⟨R,A⟩:=Ke r W i.2.2 k.2 o y RU;have B:=kj (m:Int) r g fs;have j:∀x,(Bd.loop p t T a .nil).use (pB (m:Int) r g fs).1.M x->x∈ys:=Bd.use_in #[i.1,i.2.1,trivial] R.mem;have hk:(m:Int) - ((pB (m:Int) r g fs).2.length:Int) - ((Bd.loop p t T a .nil).cuts:Int)=((m - (fs.length+r.cuts) - (1+a.cuts):Nat):Int):=by show(m:Int) - _ - ((1+a.cuts+0:Nat):Int)=_;rw[B];omega
  have pl:uQ H ys nA m (N+r.size) #[(Bd.loop p t T a .nil).use (pB (m:Int) r g fs).1.M,#[[],.go ((m:Int) - ((pB (m:Int) r g fs).2.length:Int) - ((Bd.loop p t T a .nil).cuts:Int))]]:=#[j,X3 hk RU];obtain⟨Y,a2⟩:=Ke a Q i.2.1 k.1 pl A RU;have S:N+r.size+a.size<=N+(a.size+r.size+1):=by omega
  unfold pB;dsimp only;refine#[pl.up (by show _<=N+(a.size+r.size+1);omega),λe he=>?_];rcases List.mem_append.mp he with z |z
  ·exact(a2 e z).up S
  ·rw[List.mem_singleton.mp z];refine#[j,#[T,O,i.1],λw hw=>?_,Z];rcases List.mem_cons.mp hw with rfl |hw
   ·exact Y.way.up S
   ·rw[List.mem_singleton.mp hw];exact R.way.up (by show _<=N+(a.size+r.size+1);omega)
end
noncomputable def b8(n:Addr)(d:Df):List Ct:=(gN n d).2.reverse
theorem Ze(n:Addr)(d:Df):(b8 n d).length=d.b.cuts:=by unfold b8;rw[Ov];exact(kj _ _ _ _).trans (MK _)
theorem yx{nA:Addr}{d:Df}(f:dj H d.b B)(g:d.b.Ok y):uQ H y nA d.b.cuts d.b.size (gN nA d).1/\∀c∈b8 nA d,uU d.b.calls H y nA d.b.cuts d.b.size c:=by have p:uQ H y nA d.b.cuts 0 (Fn nA):=#[λx i=>absurd i HG,#[[],.nought],Z,(λ_ h=>absurd h HG),GV _,trivial];obtain⟨a,e⟩:=Ke (m:=d.b.cuts) d.b f g (zB d.b) p (fs:=[]) (λ_ h=>absurd h HG) (by show 0+_<=_;omega);rw[MK]at a e;exact#[a,λc j=>e c (List.mem_reverse.mp j)]
theorem QJ{M:Str->Prop}{y:List Str}(h:∀x,M x->x∈y):(canon M).length<=y.length:=by
 by_cases e:∃s,Nm s M
 ·obtain⟨s,H⟩:=e;rw[<- H.canon];exact H.len h
 ·unfold canon;rw[dif_neg e];exact Hg _
noncomputable def eM:List (Str×Addr×Tm)->cq->cq
 | [],k=>k
 |s::r,k=>eM r (bq k (.inr s.1) (.int (s.2.2.ev k)))
noncomputable def eW(N:Addr)(d:Df)(n:Nat):List Str:=match (b8 N d)[n]? with
 |some c=>canon c.M
 |none=>[]
noncomputable def rB(N:Nat->List Str)(k:cq):Gl->Tr
 | .give _ T=>ba [bh "give",aV (T.ev k)]
 | .nought=>ba [bh "give",aV 0]
 | .go n=>ba [bh "go",aV (n:Int),ba ((N n).map λx=>aV (look k (.inr x) 0))]
theorem qU{H:Hp}{ys:List Str}:∀{ss:List (Str×Addr×Tm)} {k:cq},(∀s∈ss,TV H ys s.2.1 s.2.2)->GT k->GT (eM ss k)
 | [],_,_,g=>g
 |s::r,k,h,g=>qU (H:=H) (ys:=ys) (ss:=r) (λS a=>h S (HD _ a)) (g.put _ (JD g (h s Hq).2.1))
theorem Z7{S:List (Str×Addr×Tm)}:∀{i:Nat} {s:Str×Addr×Tm} {k:cq},S[i]?=some s->eM (S.take$ i+1) k=bq (eM (S.take i) k) (.inr s.1) (.int$ s.2.2.ev$ eM (S.take i) k):=by
 induction S with
 |nil=>intro i s k h;simp at h
 |cons a r I=>
  intro i s k h;cases i with
  |zero=>cases h;rfl
  |succ i=>exact I (by simpa using h)
theorem zP{kvs:cq}{k:bJ}{v:V}:(bq kvs k v).length<=kvs.length+1:=by
 unfold bq;split
 ·rw[GQ];exact IL _
 ·rw[GU];exact GV _
theorem XE:∀{ss:List (Str×Addr×Tm)} {k:cq},(eM ss k).length<=k.length+ss.length
 | [],_=>GV _
 |s::r,k=>by have h:=XE (ss:=r) (k:=bq k (.inr s.1) (.int$ s.2.2.ev k));have H:=zP (kvs:=k) (k:=.inr s.1) (v:=.int (s.2.2.ev k));show(eM r _).length<=k.length+(r.length+1);omega
noncomputable def cV(n:List Str)(i:List Int):cq:=c7 [] ((n.map Sum.inr).zip$ i.map V.int)
theorem XF:∀{m:cq} {k:cq},GT k->GT m->GT (c7 k m)
 | [],_,g,_=>g
 |p::r,k,g,h=>by
  obtain⟨i,e,H⟩:=h p Hq;have E:bq k p.1 p.2=bq k p.1 (.int i):=by rw[e]
  show GT (c7 (bq k p.1 p.2) r);rw[E];exact XF (g.put _ H) λq a=>h q (HD _ a)
theorem Kl(h:∀i∈I,gp i):GT (cV n I):=by refine XF GT.nil λp H=>?_;obtain⟨i,a,e⟩:=List.mem_map.mp (MN H).2;exact#[i,e.symm,h i a]
theorem Zf{ns:List Str}{is:List Int}:(cV ns is).length<=ns.length:=by have h:=qC ((ns.map Sum.inr).zip$ is.map V.int) [];rw[Nt,GQ]at h;show(c7 [] _).length<=_;have H:(c7 [] ((ns.map Sum.inr).zip$ is.map V.int)).length<=0+min ns.length (is.map V.int).length:=h;omega
noncomputable abbrev mQ:Stmt:=bM 42
noncomputable abbrev iQ:Stmt:=bM 43
noncomputable abbrev gQ:Stmt:=bM 46
noncomputable abbrev iP:Stmt:=bM 47
noncomputable abbrev gO:Stmt:=bM 48
noncomputable abbrev iU:Stmt:=bM 49
structure me(H:Hp)(nA:Addr)(d:Df)(ys:List Str)(v:V):Prop where
 tr:aS H (eY nA d) v []
 bd:∃bs,dj H d.b bs
 ok:d.b.Ok ys
 y20:ys.length<=20
 sz:d.b.size<=3000
structure CM(H:Hp)(nA:Addr)(d:Df)(ys:List Str)(c:Ct)(ka na wa:Addr)(dv:V)(wvs:List V):Prop where
 at':H ka=some (.tup [.ref na,dv,.ref wa])
 nms:H na=some (.tup ((canon c.M).map V.str))
 deed:aS H (EC c.d) dv []
 wat:H wa=some (.tup wvs)
 ways:aS H (aC$ c.ws.map gw) .non wvs
 v:uU d.b.calls H ys nA d.b.cuts d.b.size c
theorem Zg:∀{S:List Str} {v:List V},aS H (aC$ S.map bh) .non v->v=S.map V.str
 | [],v,h=>h
 |s::S,v,h=>by obtain⟨_,_,y,Y,rfl,⟨rfl,_⟩,a⟩:=h;rw[Zg a];rfl
section
variable {H H':Hp}{nA:Addr}{d:Df}{ys:List Str}{v:V}
theorem me.mono(k:ah H H')(h:me H nA d ys v):me H' nA d ys v:=#[h.tr.mono k,let #[b,a]:=h.bd;#[b,a.mono k],h.ok,h.y20,h.sz]
theorem me.parts(h:me H nA d ys v):∃(a c:Addr) (W:V) (C:List V),v= .ref a/\H a=some (.tup [.str d.f,.ref d.pa,W,.ref c])/\aS H (gw (gN nA d).1.w) W []/\H c=some (.tup C)/\aS H (aC ((b8 nA d).map C8)) .non C:=by obtain⟨_,a,x,rfl,i,_,_,n,Y,rfl,⟨rfl,_⟩,_,_,o,j,rfl,⟨rfl,_⟩,_,_,W,k,rfl,l,_,_,p,y,rfl,m,e⟩:=h.tr;have e:y=[]:=e;subst e;obtain⟨_,c,C,rfl,b,g⟩:=m;exact#[a,c,W,C,Z,i,l,b,g]
theorem me.cut{C:List V}(h:me H nA d ys v)(a:aS H (aC ((b8 nA d).map C8)) .non C){n:Nat}{c:Ct}(g:(b8 nA d)[n]?=some c):∃k N i D W,C[n]?=some (.ref k)/\CM H nA d ys c k N i D W:=by
 have L:=zG a;rw[GQ]at L;have u:n < C.length:=by rw[L];exact(List.getElem?_eq_some_iff.mp g).1
 have j:C[n]?=some C[n]:=GN u;obtain⟨T,b,t⟩:=Jp a n _ j;rw[Hu,g]at b;cases b;obtain⟨B,y⟩:=h.bd;have z:=(yx (nA:=nA) y h.ok).2 c (Hf g);generalize C[n]=x at j t;obtain⟨_,k,E,rfl,l,_,_,F,G,rfl,m,_,_,D,I,rfl,o,_,_,J,A,rfl,p,e⟩:=t;have e:A=[]:=e;subst e;obtain⟨_,N,M,rfl,f,q⟩:=m;obtain⟨_,i,W,rfl,r,s⟩:=p;rw[Zg q]at f;exact#[k,N,i,D,W,j,l,f,o,r,s,z]
theorem me.way(h:me H nA d ys v):lG H ys nA d.b.cuts d.b.size (gN nA d).1.w:=let #[B,a]:=h.bd;(yx (nA:=nA) a h.ok).1.way
theorem rJ(h:(b8 nA d)[n]?=some c):eW nA d n=canon c.M:=by unfold eW;rw[h]
end
structure EU(H:Hp)(nA:Addr)(w:WD)(wa sa ga:Addr)(ss:List V)(wd:Str)(u:V):Prop where
 at':H wa=some (.tup [.ref sa,.ref ga])
 sat:H sa=some (.tup ss)
 sets:∀(i:Nat) (x:V),ss[i]?=some x->∃(s:Str×Addr×Tm) (p:Addr),w.sets[i]?=some s/\x= .ref p/\H p=some (.tup [.str s.1,.ref s.2.1])
 len:ss.length=w.sets.length
 gat:H ga=some (.tup [.str wd,u])
 goal:match w.goal with
  | .give t _=>wd="give"/\u= .ref t
  | .nought=>wd="give"/\u= .ref nA
  | .go n=>wd="go"/\u= .int (n:Int)
theorem xO{w:WD}(h:aS H (gw$ w.wy N) v []):∃(l S G:Addr) (A:List V) (W:Str) (u:V),v= .ref l/\EU H N w l S G A W u:=by
 obtain⟨_,r,X,rfl,C,_,_,y0,D,rfl,⟨_,s,c,rfl,E,m⟩,_,_,Y,y,rfl,b,e⟩:=h;have e:y=[]:=e;subst e;have L:=zG m;have st:∀(i:Nat) (x:V),c[i]?=some x->∃(s:Str×Addr×Tm) (p:Addr),w.sets[i]?=some s/\x= .ref p/\H p=some (.tup [.str s.1,.ref s.2.1]):=λi x F=>by obtain⟨tr,o,I⟩:=Jp m i x F;rw[Hu]at o;obtain⟨q,J,rfl⟩:=Option.map_eq_some_iff.mp o;have a:(w.sets.map λs=>(s.1,s.2.1))[i]?=some q:=J;rw[Hu]at a;obtain⟨z,M,rfl⟩:=Option.map_eq_some_iff.mp a;obtain⟨_,p,X,rfl,O,_,_,Q,R,rfl,⟨rfl,_⟩,_,_,U,B,rfl,⟨rfl,_⟩,e⟩:=I;have e:B=[]:=e;subst e;exact#[z,p,M,Z,O]
 have ln:c.length=w.sets.length:=by rw[L,GQ];exact GQ ..
 have f:∀g:Gl,w.goal=g->aS H (vF$ g.gol N) Y []->∃(G:Addr) (W:Str) (u:V),Y= .ref G/\H G=some (.tup [.str W,u])/\match g with
  | .give t _=>W="give"/\u= .ref t
  | .nought=>W="give"/\u= .ref N
  | .go n=>W="go"/\u= .int (n:Int):=λg _ b=>by
  cases g with
  |give t T |nought |go n=>obtain⟨_,gl,X,rfl,d,_,_,Q,R,rfl,⟨rfl,_⟩,_,_,U,B,rfl,⟨rfl,_⟩,e⟩:=b;have e:B=[]:=e;subst e;exact#[gl,_,_,Z,d,Z,Z]
 obtain⟨G,W,u,rfl,j,k⟩:=f w.goal Z b;exact#[r,s,G,c,W,u,Z,C,E,st,ln,j,k]
inductive gY(b:Addr)(e:List V)(H:Hp)(Q:VK)(a:XK):Prop
 |mk(v:V)(n:Nat)(d:Df)(f:List Str)(c:Ct)(_:e=[v,.int (n:Int)])(_:me H b d f v)(_:(b8 b d)[n]?=some c)(_:∀(ka na wa:Addr) (dv:V) (wvs:List V),CM H b d f c ka na wa dv wvs->Q (.ref ka) H)
inductive g9(f:Addr)(g:List V)(H:Hp)(Q:VK)(a:XK):Prop
 |mk(v:V)(n:Nat)(b:Addr)(d:Df)(h:List Str)(c:Ct)(e:List Int)(_:g=[v,.int (n:Int),.ref b])(_:me H f d h v)(_:(b8 f d)[n]?=some c)(_:H b=some (.tup (e.map V.int)))(_:e.length=(canon c.M).length)(_:∀dd:Addr,H dd=none->Q (.ref dd) (af H dd (.dK (cV (canon c.M) e))))
theorem Zh:∀(s:List Str),(s.map (Sum.inr:Str->bJ)).map kV=s.map V.str:=λs=>by rw[LU];rfl
theorem xq:ak ["part","n"] ["part","n"] (aa mQ):=bL
theorem rO{f:Addr}{g:FuncData}{N:Addr}(F:aJ K "cut_at" "cut_at" mQ f g):aj P w K mg base aA 1 f g ["part","n"] (gY N):=by
 refine F.ok xq ?_ λl A o s H V Q E B h=>?_
 ·rintro _ _ _ _ ⟨v,n,d,y,c,rfl,_⟩;rfl
 obtain⟨v,n,d,y,c,rfl,i,m,q⟩:=h;refine#[_,(jg$ jo$ jr jR (jz$ pv 0) (pv 1) (λ_ _=>Z)),?_];obtain⟨a,p,I,J,rfl,r,L,b,e⟩:=i.parts;obtain⟨t,u,x,D,W,z,C⟩:=i.cut e m;exact#[_,Z,a,_,_,_,Z,Z,ax.of r,jQ (j:=3) Z,_,Z,p,_,_,_,Z,Z,ax.of b,jQ z,q t u x D W C]
theorem tH:ak z12z z12z (aa iQ):=bL
theorem Z8(F:aJ K "held_at" "held_at" iQ f g)(i:Cl P w K mg base 1 J j ["part","n"] (gY N) "cut_at")(m:mg "dict"=none)(a:mg "zip"=none):aj P w K mg base aA 2 f g z12z (g9 N):=by
 refine F.ok tH ?_ λp A o s H V Q E r h=>?_
 ·rintro _ _ _ _ ⟨v,n,b,d,y,c,I,rfl,_⟩;rfl
 obtain⟨v,n,b,d,y,c,I,rfl,t,u,x,z,q⟩:=h;refine#[_,(jg$ jo$ @Y6 _ _ _ _ _ _ _ _ Z m Z a Z (ja (jr jR (i.e r$ ja (pv 0)$ ja (pv 1) jb) jf (λ_ _=>Z))$ ja (pv 2) jb) RX RX RX RX),?_];refine#[_,Z,_,Z,v,n,d,y,c,Z,t,u,λB D O R W C=>#[B,_,_,_,Z,Z,ax.of C.at',dH,_,Z,D,b,(canon c.M).map Sum.inr,_,Z,by rw[Zh];exact ax.of C.nms,ax.of x,by rw[GQ,GQ,z],λl G=>q l G]]
inductive Wh where
 |rd (a i:Int) |wr (a b:Int) |ask (b:Int) |cl (f:Str) (is:List Int) (i:Int)
def yV(H:Hp)(u:V):Wh->Prop
 | .rd a i=>∃p,u= .ref p/\H p=some (.tup [.str "read",.int a,.int i])
 | .wr a b=>∃p,u= .ref p/\H p=some (.tup [.str "write",.int a,.int b])
 | .ask b=>∃p,u= .ref p/\H p=some (.tup [.str "ask",.int b])
 | .cl f I i=>∃p c g e,u= .ref p/\H p=some (.tup [.str "call",.ref c])/\H c=some (.tup [.str f,.ref g,e,.int i])/\H g=some (.tup (I.map V.int))
theorem yV.mono{H d:Hp}(k:ah H d){u:V}{w:Wh}(h:yV H u w):yV d u w:=by
 cases w with
 |rd a i |wr a b |ask b=>obtain⟨p,e,h⟩:=h;exact#[p,e,k _ _ h]
 |cl f I i=>obtain⟨p,c,g,e,E,j,l,m⟩:=h;exact#[p,c,g,e,E,k _ _ j,k _ _ l,k _ _ m]
inductive DD where
 |st (p:Addr) (l:Lf) |ask (t:Addr) (T:Tm)
noncomputable def DD.dd:DD->Dd
 | .st p _=>.st p
 | .ask t _=>.ask t
def yO(H:Hp)(y:List Str):DD->Prop
 | .st p l=>∃v,H p=some (.tup v)/\u6 H l v/\l.Ok y/\l.isCut=true
 | .ask t T=>TV H y t T
theorem yO.mono(k:ah H a)(h:yO H y d):yO a y d:=by
 cases d with
 |st p l=>obtain⟨v,b,c,e⟩:=h;exact#[v,k _ _ b,c.mono k,e]
 |ask t T=>exact TV.mono k h
def DD.Cs(F:gJ):DD->Prop
 | .st _ l=>l.Cs F
 | .ask _ _=>True
theorem De{F:gJ}(h:FQ F H y d):∃e:DD,e.dd=d/\yO H y e/\e.Cs F:=by
 cases d with
 |st p=>obtain⟨l,v,a,b,c,f,g⟩:=h;exact#[.st p l,Z,#[v,a,b,c,f],g]
 |ask t=>obtain⟨T,h⟩:=h;exact#[.ask t T,Z,h,trivial]
def Er:DD->Wh->Prop
 | .st _ (.rd _ _ _),.rd _ i=>gp i
 | .st _ (.wr _ _ _ _),.wr _ _=>True
 | .st _ (.cl _ _ _ _),.cl _ _ i=>gp i
 | .ask _ _,.ask b=>b=0∨b=1
 |_,_=>False
noncomputable def vf(d:DD)(w:Wh)(k:cq):cq:=match d,w with
 | .st _ (.rd x _ _),.rd _ i=>bq k (.inr x) (.int i)
 | .st _ (.cl x _ _ _),.cl _ _ i=>bq k (.inr x) (.int i)
 |_,_=>k
noncomputable def Wh.side:Wh->Nat
 | .ask b=>if b=0 then 1 else 0
 |_=>0
def pV(Q:VK)(H:Hp):Wh->Prop
 | .rd _ i=>Q (.int i) H
 | .cl _ _ i=>Q (.int i) H
 |_=>False
inductive dX(b:List V)(H:Hp)(Q:VK)(a:XK):Prop
 |mk(u:V)(w:Wh)(_:b=[u])(_:yV H u w)(_:pV Q H w)
inductive lQ(c:Addr)(e:List V)(H:Hp)(Q:VK)(a:XK):Prop
 |mk(v f:V)(b:Addr)(d:Df)(g:List Str)(w:WD)(k:cq)(_:e=[v,f,.ref b])(_:me H c d g v)(_:aS H (gw (w.wy c)) f [])(_:yU H g d.b.cuts d.b.size w)(_:H b=some (.dK k))(_:GT k)(_:k.length<=200)(_:∀(u:V) (H':Hp),aS H' (rB (eW c d) (eM w.sets k) w.goal) u []->ar b H H'->Q u H')
inductive EI(c:Addr)(a:_L.St)(j:List (Str×Addr×Tm))(k:cq)(H:Hp)(i:Nat)(l:_L.St)(b:Hp):Prop
 |mk(g h:Option V)(d:l=a++[g,h,none,none])(e:b c=some (.dK (eM (j.take i) k)))(f:ar c H b)
theorem J1{H:Hp}:∀{is:List Int},aS H (aC$ is.map aV) .non (is.map V.int)
 | []=>rfl
 |i::is=>jl Z kc (J1 (is:=is))
theorem oQ:ak ["what"] ["what"] (aa gQ):=bL
theorem rQ(F:aJ K "found_in" "found_in" gQ f n):aj P w K mg base aA 1 f n ["what"] dX:=by
 refine F.ok oQ ?_ λC A o s H v Q E t h=>?_
 ·rintro _ _ _ _ ⟨u,W,rfl,_⟩;rfl
 obtain⟨u,W,rfl,d,q⟩:=h;refine#[_,(jg$ jo$ ze (kh$ jz$ pv 0) (jz$ jr jR (pv 0) jf (λ_ _=>Z))$ jr jR (pv 0) (Qn Jl jf) (λ_ _=>Z)),?_];cases W with
 |rd a i=>obtain⟨p,rfl,l⟩:=d;exact(js l dH #[Z,_,Z,aO RW #[_,Z,_,Z,p,_,_,_,Z,Z,ax.of l,Z,q]])
 |cl f I i=>obtain⟨p,c,g,e,rfl,m,r,_⟩:=d;exact(js m dH #[Z,_,Z,bQ RW$ js m iH #[c,_,_,_,Z,Z,ax.of r,jQ (j:=3) Z,q]])
 |wr a b |ask b=>exact q.elim
theorem ff:ak ["part","way","numbers","name","term","goal","held"] ["part","way","numbers"] (aa iP):=bL
noncomputable def YD:Scope:=#[.function,[(".0",.local),("name",.local),("numbers",.free)],false,false,[]]
theorem vN:(["name","numbers"]:List Str).Nodup:=by decide+kernel
theorem vk:aZ ["part","way","numbers","name","term","goal","held"] (aa iP) YD ["name","numbers"] 1 [2]:=nC
theorem rP(F:aJ K "end_of" "end_of" iP f fd)(cC:Cl P w K mg base 1 fC f2 ["part","n"] (gY U) "cut_at")(cW:Cl P w K mg base 7 fW f3 z10z (cg K 6) "worth")(m0:mg "tuple"=none)(no:my K U):aj P w K mg base aA 8 f fd ["part","way","numbers"] (lQ U):=by
 refine F.ok ff ?_ λc0 A o1 s H vs Q E Y h=>?_
 ·rintro _ _ _ _ ⟨v,w1,D,d,ys,O,k,rfl,_⟩;rfl
 obtain⟨v,w1,D,d,ys,O,k,rfl,hp,hw,wv,hd,gk,hk,q⟩:=h;refine#[_,(je (j9 HM Z (qi$ jz$ pv 1) (kU (n:=2) Z$ jy (ju (i:=3) ff.nd Z$ Or.inl Z)$ jy (ju (i:=4) ff.nd Z$ Or.inl Z) j5)$ jg$ qQ (zF Y) (pv 2) (pv 3) (cW.e Y.m$ ja (pv 4)$ ja (pv 2) jb) Z)$ je (jx 5 ff.nd$ jz$ pv 1)$ je (jw (kh$ jz$ pv 5) (jg$ jo$ jh$ ja jk$ ja (cW.e Y.m$ ja (jz$ pv 5)$ ja (pv 2) jb) jb) jp)$ je (@YZ _ _ _ _ _ _ _ _ _ _ (6) (["name","numbers"]) (1) ([2]) _ _ _ _ ff.nd Z (Or.inl Z) Z (qi$ jr jR (cC.e Y.m$ ja (pv 0)$ ja (jz$ pv 5) jb) jf (λ_ _=>Z)) vk (λ_ _ _ _ _=>(ju (i:=0) vN Z$ Or.inl Z)) (λ_ _ _ _ _=>(@zi _)) (λ_ _ _ _ _=>(@Kr _ _ _ _ _ _ _ _ _ (zF Y) (pv 1) (pv 0) jf #[RX,RX,RX,RX])) RX (by first |exact .inl Z |exact .inr Z) (by intro _;rfl))$ jg$ jo$ jh$ ja jk$ ja (jz$ pv 5)$ ja (jG jF Z m0 IE$ ja (pv 6) jb) jb),?_];have b0:=aF;obtain⟨wa,sa,ga,ss,wd,u,rfl,W⟩:=xO hw;have R:∀g,ar D H g->ah H g:=λg k b xs e=>k b _ (jN e hd (by intro z;cases z)) e;have h2:=hp.sz;have h3:=wv.len;refine ai λF1 C=>dN λJ j=>(js W.at' dH #[sa,Z,#[_,ax.of W.sat],j _ _ ?_]);clear j;refine Ks (K:=K) (xs:=ss) (EI D [some v,some$ .ref wa,some$ .ref D] O.sets k H) #[_,_,Z,hd,ar.refl] (λi σ g _ h=>?_) ?_ (λσ g h=>C _ _ ?_)
 ·obtain⟨_,_,_,_,I⟩:=h;exact ax.of$ R _ I _ _ W.sat
 ·intro E _ i x σ H1 hx f0 Gq kq h;obtain⟨o3,o4,rfl,L,I⟩:=h;clear C;obtain⟨s,p,hs,rfl,h0⟩:=W.sets i x hx;have S:=R _ I;have tv:=(wv.sets s$ Hf hs).mono S;have g1:GT (eM (O.sets.take i) k):=qU (H:=H) (ys:=ys) (λs hs=>wv.sets s (HZ hs)) gk;have l1:=XE (ss:=O.sets.take i) (k:=k);rw[HF]at l1;refine kq ?_;clear kq;refine#[p,_,Z,ax.of$ S _ _ h0,Z,_,_,Z,_,_,Z,Z,?_];refine#[_,Z,_,Z,s.2.1,D,s.2.2,ys,_,Z,.inl tv.1,tv.2.2,tv.2.1,L,g1,_,Z,_,Z,D,_,Z,.inl #[_,.inr s.1,L,Z,RU,Z],f0 _ _ #[_,_,Z,?_,λc o X e=>by rw[ji X];exact I c o X e]];rw[Z7 hs];exact jc
 ·obtain⟨o3,o4,rfl,L,I⟩:=h;rw[W.len,HY]at L;have S:=R _ I;have g1:GT (eM O.sets k):=qU (H:=H) (ys:=ys) wv.sets gk;have B:=wv.goal;have a:=W.goal;generalize eM O.sets k=N at L g1 q;refine ai λF1 C=>(js (S _ _ W.at') iH$ C _ _ ?_);clear C;have G:=S _ _ W.gat;refine ai λF1 C=>rf λG1 k3 k0=>(js G dH #[Z,_,Z,?_]);have give:∀(t:Addr) (T:Tm),wd="give"->u= .ref t->F' K g T t->de ys T->(∀(u':V) (H9:Hp),aS H9 (ba [bh "give",aV$ T.ev N]) u' []->ar D H H9->Q u' H9)->G1 (decide$ V.str wd=V.str "give") g:=by intro t T e1 e2 x1 x2 x3;subst e1;subst e2;rw[Hl Z];refine k3 _$ js G iH #[_,Z,t,D,T,ys,N,Z,x1,x2.2,x2.1,L,g1,bo,λr nr=>?_];exact x3 _ _ (jC jc$ jl Z jO$ jl Z kc jB) λc o X e=>jd nr _ _ (I c o X e)
  cases hg:O.goal with
  |give t T=>rw[hg]at B a q;exact give t T a.1 a.2 (.inl$ B.1.mono S) B.2 q
  |nought=>rw[hg]at a q;exact give U (.num 0) a.1 a.2 (.inr #[Z,no _]) #[#[RT,RT],RT] q
  |go n=>
   rw[hg]at B a q;clear give k3;obtain⟨e1,e2⟩:=a;subst e1;subst e2;have hn:n < (b8 U d).length:=by rw[Ze];exact B
   obtain⟨c,hc⟩:∃c,(b8 U d)[n]?=some c:=#[_,GN hn];have e0:decide (V.str "go"=V.str "give")=false:=by decide+kernel
   rw[e0];refine k0 _$ C _ _ ?_;clear k0 C;refine ai λF1 C=>#[_,Z,js G iH #[v,n,d,ys,c,Z,hp.mono S,hc,λka na w2 dv w3 ca=>#[ka,_,_,_,Z,Z,ax.of ca.at',dH,na,Z,#[_,ax.of ca.nms],?_]]];have cl:=Hh (QJ ca.v.mem) hp.y20;have q:∀(u:V) (g:Hp),aS g (ba [bh "go",aV (n:Int),ba ((eW U d n).map λx=>aV (look N (.inr x) 0))]) u []->ar D H g->Q u g:=q;rw[rJ hc]at q;refine qx (K:=K) (xs:=(canon c.M).map V.str) (by rw[GQ];omega) (λi zs Hx=>zs=((canon c.M).take i).map (λx=>V.int (look N (.inr x) 0))/\Hx=g) #[Z,Z] (λi zs Hx h=>?_) (λi x zs Hx hx h=>?_) (λzs Hx h l nl=>C _ _ ?_)
   ·obtain⟨rfl,rfl⟩:=h;exact#[ax.of ca.nms,by rw[GQ,HF];omega]
   ·obtain⟨rfl,rfl⟩:=h;rw[Hu]at hx;obtain⟨y,hy,rfl⟩:=Option.map_eq_some_iff.mp hx;refine#[_,Z,D,Z,.inl #[N,.inl L],_,Z,_,dM.k (k:=Sum.inr y) L,?_,Z];rw[Ku g1,ID,hy,Hs];rfl
   ·obtain⟨rfl,rfl⟩:=h;rw[GQ,HY];refine(js (jd nl _ _ G) iH #[_,Z,l,_,Z,.inl #[aB.of jc,λtl n0=>#[dZ,λr nr=>?_]]]);refine q _ _ (jC jc$ jl Z jO$ jl Z kc$ jl Z (jC (am jc nr) ?_) jB) λc' o X e=>jd nr _ _ (jd n0 _ _$ jd nl _ _$ I c' o X e);have:=J1 (H:=af (af (af Hx l$ .lst ((canon c.M).map (λx=>V.int (look N (.inr x) 0)))) tl$ .tup ((canon c.M).map (λx=>V.int (look N (.inr x) 0)))) r (.tup [.str "go",.int (n:Int),.ref tl])) (is:=(canon c.M).map λx=>look N (.inr x) 0);rw[LU,LU]at this;exact this
structure lE(H:Hp)(nA:Addr)(d:Df)(ys:List Str)(v:V)(sa:Addr)(n:Nat)(hv:Addr)(uw:V)(c:Ct)(is:List Int)(wh:Wh)(e:DD)(wd:WD):Prop where
 prt:me H nA d ys v
 at':H sa=some (.tup [.int (n:Int),.ref hv,uw])
 cut:(b8 nA d)[n]?=some c
 hat:H hv=some (.tup$ is.map V.int)
 hl:is.length=(canon c.M).length
 hin:∀i∈is,gp i
 whv:yV H uw wh
 ed:e.dd=c.d
 dv:yO H ys e
 fit:Er e wh
 way:c.ws[wh.side]?=some (wd.wy nA)
 wdv:yU H ys d.b.cuts d.b.size wd
theorem lE.mono(k:ah H a)(h:lE H N d y v s n b u c i f e g):lE a N d y v s n b u c i f e g:=
 #[h.prt.mono k,k _ _ h.at',h.cut,k _ _ h.hat,h.hl,h.hin,h.whv.mono k,h.ed,h.dv.mono k,h.fit,h.way,h.wdv.mono k]
noncomputable def Fm(n:Addr)(d:Df)(c:Ct)(i:List Int)(a:Wh)(e:DD)(W:WD):Tr:=rB (eW n d) (eM W.sets$ vf e a$ cV (canon c.M) i) W.goal
inductive fj(e:Addr)(g:List V)(H:Hp)(Q:VK)(a:XK):Prop
 |mk(v:V)(b:Addr)(d:Df)(h f:List Str)(c:List Int)(w:WD)(_:g=[v,.ref b])(_:me H e d h v)(_:H d.pa=some (.tup (f.map V.str)))(_:f.length<=100)(_:H b=some (.tup (c.map V.int)))(_:c.length=f.length)(_:∀i∈c,gp i)(_:w.wy e=(gN e d).1.w)(_:yU H h d.b.cuts d.b.size w)(_:∀(u:V) (H':Hp),aS H' (rB (eW e d) (eM w.sets (cV f c)) w.goal) u []->ae H H'->Q u H')
inductive t6(g:Addr)(j:List V)(H:Hp)(Q:VK)(a:XK):Prop
 |mk(v i:V)(h b:Addr)(n:Nat)(d:Df)(m:List Str)(c:Ct)(f:List Int)(l:Wh)(e:DD)(k:WD)(_:j=[v,.ref h])(_:lE H g d m v h n b i c f l e k)(_:∀(u:V) (H':Hp),aS H' (Fm g d c f l e k) u []->ae H H'->Q u H')
theorem pi(h:Er e a)(g:GT k):GT (vf e a k):=by
 unfold vf;split
 ·exact g.put _ h
 ·exact g.put _ h
 ·exact g
theorem vg{e:DD}{wh:Wh}{k:cq}:(vf e wh k).length<=k.length+1:=by
 unfold vf;split
 ·exact zP
 ·exact zP
 ·exact IL _
theorem oO:ak ["part","args"] ["part","args"] (aa gO):=bL
theorem YE(F:aJ K "first_of" "first_of" gO f I)(J:Cl P w K mg base 8 fE L ["part","way","numbers"] (lQ T) "end_of")(M:mg "dict"=none)(b:mg "zip"=none):aj P w K mg base aA 9 f I ["part","args"] (fj T):=by
 refine F.ok oO ?_ λR A O s H vs Q E U h=>?_
 ·rintro _ _ _ _ ⟨v,x,d,y,p,is,z,rfl,_⟩;rfl
 obtain⟨v,x,d,y,p,is,z,rfl,C,g,V,i,n,r,t,W,q⟩:=h;refine#[_,(jg$ jo$ J.e U.m$ ja (pv 0)$ ja (jz$ pv 0)$ ja (@Y6 _ _ _ _ _ _ _ _ Z M Z b Z (ja (jz$ pv 0)$ ja (pv 1) jb) RX RX RX RX) jb),?_];obtain⟨a,ca,X,cs,rfl,D,G,Y,h0⟩:=C.parts;rw[<- t]at G;refine#[_,Z,_,Z,a,_,_,_,Z,Z,ax.of D,jQ (j:=2) Z,js D iH #[_,Z,d.pa,x,p.map Sum.inr,_,Z,by rw[Zh];exact ax.of g,ax.of i,by rw[GQ,GQ,n],λl N=>?_]];have S:ae H (af H l$ .dK$ cV p is):=jd N;have zl:=Zf (ns:=p) (is:=is);exact#[.ref a,X,l,d,y,z,cV p is,Z,C.mono$ ae.tm S,G.mono$ ae.tm S,W.mono$ ae.tm S,jc,Kl r,RU,λu H' tu k=>q u H' tu λc o e=>k c o (jm e N) (S _ _ e)]
theorem dR:ak ["part","step","cut","numbers","what","way"] ["part","step"] (aa iU):=bL
theorem Z9{f:Addr}{fd:FuncData}{nA fC fD fF fE:Addr}{f0 f3 f4 f5:FuncData}(F:aJ K "onward" "onward" iU f fd)(cC:Cl P w K mg base 1 fC f0 ["part","n"] (gY nA) "cut_at")(cD:Cl P w K mg base 2 fD f3 z12z (g9 nA) "held_at")(cF:Cl P w K mg base 1 fF f4 ["what"] dX "found_in")(cE:Cl P w K mg base 8 fE f5 ["part","way","numbers"] (lQ nA) "end_of"):aj P w K mg base aA 9 f fd ["part","step"] (t6 nA):=by
 refine F.ok dR ?_ λc0 A o2 s H vs Q E hr h=>?_
 ·rintro _ _ _ _ ⟨v,O,sa,hv,n,d,ys,c,is,wh,e,wd,rfl,_⟩;rfl
 obtain⟨v,O,sa,hv,n,d,ys,c,is,wh,e,wd,rfl,C,q⟩:=h;refine#[_,(je (jx 2 dR.nd$ cC.e hr.m$ ja (pv 0)$ ja (jz$ pv 1) jb)$ je (jx 3 dR.nd$ cD.e hr.m$ ja (pv 0)$ ja (jz$ pv 1)$ ja (jz$ pv 1) jb)$ je (jx 4 dR.nd$ jz$ pv 1)$ je (jw (jA zp (jz$ pv 4) (jh$ ja jk$ ja jk jb) Z) (jg$ qQ (zF hr) (pv 3) (jz$ jr jR (pv 2) jf (λ_ _=>Z)) (cF.e hr.m$ ja (pv 4) jb) Z) jp)$ je (jx 5 dR.nd$ ze (jA (Bi$ zF hr) (pv 4) (jh$ ja jk$ ja jf jb)$ aE _) (jz$ jr jR (pv 2) jf (λ_ _=>Z))$ jz$ jr jR (pv 2) jf (λ_ _=>Z))$ jg$ jo$ cE.e hr.m$ ja (pv 0)$ ja (pv 5)$ ja (pv 3) jb),?_];have b0:=aF;obtain⟨a,ca,wv,cs,rfl,ha,hw,a0,a1⟩:=C.prt.parts;have h0:=C.at';refine ai λF1 L=>#[_,Z,js h0 dH #[_,n,d,ys,c,Z,C.prt,C.cut,λka na wa dv w0 cu=>L _ _ ?_]];clear L;refine ai λF1 L=>#[_,Z,js h0 dH$ js h0 iH #[_,n,hv,d,ys,c,is,Z,C.prt,C.cut,C.hat,C.hl,λD n0=>L _ _ ?_]];clear L;have s1:ae H (af H D$ .dK$ cV (canon c.M) is):=jd n0;have d1:af H D (.dK$ cV (canon c.M) is) D=some (.dK$ cV (canon c.M) is):=jc;generalize af H D (.dK$ cV (canon c.M) is)=H1 at s1 d1;have R:=C.mono (ae.tm s1);have g0:GT (cV (canon c.M) is):=Kl C.hin;have z0:=Zf (ns:=canon c.M) (is:=is);have z1:=QJ cu.v.mem;have z2:=C.prt.y20;generalize h7:cV (canon c.M) is=k0 at d1 g0 z0;refine ai λF1 L=>#[_,Z,sa,_,_,_,Z,Z,ax.of R.at',jQ (j:=2) Z,L _ _ ?_];clear L;have o1:Fm nA d c is wh e wd=rB (eW nA d) (eM wd.sets$ vf e wh k0) wd.goal:=by unfold Fm;rw[h7]
 rw[o1]at q;have h1:=zG cu.ways;rw[GQ]at h1;have I:∃x,w0[wh.side]?=some x/\aS H (gw$ wd.wy nA) x []:=by
  have hj:wh.side < w0.length:=by rw[h1];exact(List.getElem?_eq_some_iff.mp C.way).1
  obtain⟨tr,ht,tx⟩:=Jp cu.ways wh.side _ (GN hj);rw[Hu,C.way]at ht;cases ht;exact#[_,GN hj,tx]
 obtain⟨wx,I,t0⟩:=I;have h4:=cu.at';have h8:=cu.wat;refine ai λF1 L=>?_;have r0:∀(H3:Hp),H3 D=some (.dK$ vf e wh k0)->ar D H1 H3->F1 [some$ .ref a,some$ .ref sa,some$ .ref ka,some$ .ref D,some O,none] H3:=by
  intro H3 h3 k3;refine L _ _ ?_;clear L;have s3:ae H H3:=λc o x=>k3 c o (jm x n0) (s1 _ _ x);have l3:=vg (e:=e) (wh:=wh) (k:=k0);refine ai λF2 f2=>?_;have f6:∀H4,ae H3 H4->F2 [some$ .ref a,some$ .ref sa,some$ .ref ka,some$ .ref D,some O,some wx] H4:=λH4 s4=>f2 _ _ (by
   have S:=s3.trans s4;exact#[_,Z,_,Z,_,Z,.ref a,wx,D,d,ys,wd,_,Z,C.prt.mono$ ae.tm S,t0.mono$ ae.tm S,C.wdv.mono$ ae.tm S,s4 _ _ h3,pi C.fit g0,RU,λu X tu k=>q u X tu λc o x=>k c o (jm x n0) (S _ _ x)])
  clear f2;have wk:=C.whv.mono (ae.tm s3);have G:∀(H4:Hp) (j:Nat),ae H3 H4->w0[j]?=some wx->dG (eZ K) (dG (eZ K) (aX 2)$ tC$ .int 2) (tC$ .int (j:Int)) [some$ .ref a,some$ .ref sa,some$ .ref ka,some$ .ref D,some O,none] H4 λx H5=>F2 ([some$ .ref a,some$ .ref sa,some$ .ref ka,some$ .ref D,some O,none].set 5 (some x)) H5:=λH4 j s4 hj=>
   #[_,Z,ka,_,_,_,Z,Z,ax.of ((s3.trans s4) _ _ h4),jQ (j:=2) Z,wa,_,_,_,Z,Z,ax.of ((s3.trans s4) _ _ h8),jQ hj,f6 H4 s4]
  cases wh with
  |rd a' i |wr a' b=>obtain⟨p,rfl,B⟩:=wk;exact#[_,Z,bo,λt N=>#[p,t,_,_,Z,Z,ax.of$ jd N _ _ B,ax.of jc,.inl #[Z,Z,_,Z,aO (by unfold mK;exact Mj _)$ G _ 0 (jd N) I]]]
  |ask b=>
   obtain⟨p,rfl,B⟩:=wk;have hb:b=0∨b=1:=by
    have:=C.fit;cases e with
    |st p l=>cases l<;>exact this.elim
    |ask t T=>exact this
   rcases hb with rfl |rfl
   ·exact#[_,Z,bo,λt N=>#[p,t,_,_,Z,Z,ax.of$ jd N _ _ B,ax.of jc,.inl #[Z,Z,_,Z,bQ RW$ G _ 1 (jd N) I]]]
   ·exact#[_,Z,bo,λt N=>#[p,t,_,_,Z,Z,ax.of$ jd N _ _ B,ax.of jc,.inl #[Z,Z,_,Z,aO RW$ G _ 0 (jd N) I]]]
  |cl f' i0 i=>obtain⟨p,c',g,e',rfl,B,h',_⟩:=wk;exact#[_,Z,bo,λt N=>#[p,t,_,_,Z,Z,ax.of$ jd N _ _ B,ax.of jc,.inr #[_,c',_,_,_,Z,ax.of$ jd N _ _ h',Z,_,Z,aO Z$ G _ 0 (jd N) I]]]
 have wk:=R.whv;have dk:=R.dv;have fk:=R.fit;have h5:=s1 _ _ h4;have d0:=cu.deed;rw[<- C.ed]at d0;have skip:∀(p:Addr) (W:Str) (r:List V),O= .ref p->H1 p=some (.tup (.str W::r))->nF (.str W) [.str "read",.str "call"]=false->vf e wh k0=k0->lv (ii$ dG (DS K false) (dG (eZ K) (aX 4)$ tC$ .int 0)$ bV$ al (tC$ .str "read")$ al (tC$ .str "call") aM) (sO (aX 3) (dG (eZ K) (dG (eZ K) (aX 2)$ tC$ .int 1)$ tC$ .int 1)$ dF dX [] E0$ al (aX 4) aM) uq { nx:=F1,rt:=Q } [some$ .ref a,some$ .ref sa,some$ .ref ka,some$ .ref D,some O,none] H1:=by intro p W r J B e2 e3;subst J;refine rf λG1 k1 k2=>(js B dH #[bo,λt N=>#[t,_,Z,.inr$ ax.of jc,Z,Z,_,Z,?_]]);show G1 (nF (.str W) [.str "read",.str "call"]) _;rw[e2];exact k2 _$ r0 _ (by rw[e3];exact am d1 N) λc o _ x=>jd N _ _ x
 have p0:∀(p p':Addr) (W:Str) (r:List V) (i:Int) (x:Str) (y:V) (r':List V),O= .ref p->H1 p=some (.tup (.str W::r))->nF (.str W) [.str "read",.str "call"]=true->dv= .ref p'->H1 p'=some (.tup (y:: .str x::r'))->(∀X:Hp,ae H1 X->yV X O wh)->(∀(Q':VK) (X:Hp),Q' (.int i) X->pV Q' X wh)->vf e wh k0=bq k0 (.inr x) (.int i)->lv (ii$ dG (DS K false) (dG (eZ K) (aX 4)$ tC$ .int 0)$ bV$ al (tC$ .str "read")$ al (tC$ .str "call") aM) (sO (aX 3) (dG (eZ K) (dG (eZ K) (aX 2)$ tC$ .int 1)$ tC$ .int 1)$ dF dX [] E0$ al (aX 4) aM) uq { nx:=F1,rt:=Q } [some$ .ref a,some$ .ref sa,some$ .ref ka,some$ .ref D,some O,none] H1:=by intro p p' W r i x y r' J B e2 e4 Y e5 e6 e3;subst J;subst e4;refine rf λG1 k1 k2=>(js B dH #[bo,λt N=>#[t,_,Z,.inr$ ax.of jc,Z,Z,_,Z,?_]]);show G1 (nF (.str W) [.str "read",.str "call"]) _;rw[e2];refine k1 _ #[_,Z,.ref p,wh,Z,e5 _$ jd N,e6 _ _ ?_];exact#[_,Z,js (jd N _ _ h5) iH #[p',_,_,_,Z,Z,ax.of$ jd N _ _ Y,iH,D,_,Z,.inl #[k0,.inr x,am d1 N,Z,RU,Z],r0 _ (by rw[e3];exact jc) λc o nc z=>by rw[ji nc];exact jd N _ _ z]]
 cases e with
 |ask t T=>
  cases wh with
  |ask b=>obtain⟨p,J,B⟩:=wk;exact skip p _ _ J B RW Z
  |_=>exact fk.elim
 |st p' l=>
  obtain⟨vs,Y,h6,_⟩:=dk;have ed:dv= .ref p':=d0.1;cases l with
  |rd x t T=>
   cases wh with
   |rd b i=>obtain⟨p,J,B⟩:=wk;obtain⟨rfl,_⟩:=h6;exact p0 p p' _ _ i x _ _ J B RW ed Y (λX s'=>#[p,J,s' _ _ B]) (λ_ _ h=>h) Z
   |_=>exact fk.elim
  |wr t u T U=>
   cases wh with
   |wr b i=>obtain⟨p,J,B⟩:=wk;exact skip p _ _ J B RW Z
   |_=>exact fk.elim
  |cl x f' q' ts=>
   cases wh with
   |cl f2 i1 i=>obtain⟨p,c2,g2,e2,J,B,h2,h3⟩:=wk;obtain⟨rfl,_⟩:=h6;exact p0 p p' _ _ i x _ _ J B RW ed Y (λX s'=>#[p,c2,g2,e2,J,s' _ _ B,s' _ _ h2,s' _ _ h3]) (λ_ _ h=>h) Z
   |_=>exact fk.elim
  |st x t T |gv t T=>cases wh<;>exact fk.elim
noncomputable abbrev gE:Stmt:=bM 44
noncomputable abbrev iN:Stmt:=bM 45
noncomputable def Gc(k:cq):DD->Tr
 | .st _ (.rd _ _ T)=>ba [bh "read",aV (T.ev k)]
 | .st _ (.wr _ _ T U)=>ba [bh "write",aV (T.ev k),aV (U.ev k)]
 | .st _ (.cl _ f _ t)=>ba [bh "call",bh f,ba (t.map λc=>aV (c.2.ev k))]
 | .ask _ T=>ba [bh "ask",aV (if T.ev k=0 then 0 else 1)]
 |_=>.nil
inductive fi(g:Addr)(h:List V)(H:Hp)(Q:VK)(a:XK):Prop
 |mk(v:V)(n:Nat)(b:Addr)(d:Df)(j:List Str)(c:Ct)(f:List Int)(e:DD)(_:h=[v,.int (n:Int),.ref b])(_:me H g d j v)(_:(b8 g d)[n]?=some c)(_:H b=some (.tup (f.map V.int)))(_:f.length=(canon c.M).length)(_:∀i∈f,gp i)(_:e.dd=c.d)(_:yO H j e)(_:∀(u:V) (H':Hp),aS H' (Gc (cV (canon c.M) f) e) u []->ae H H'->Q u H')
inductive fV(f:List V)(H:Hp)(Q:VK)(b:XK):Prop
 |mk(a d:Addr)(e:List (Addr×Tm))(g:List Str)(k:cq)(_:f=[.ref a,.ref d])(_:H a=some (.tup (e.map λc=>V.ref c.1)))(_:e.length<=6)(_:∀c∈e,be H c.2 c.1/\de g c.2)(_:H d=some (.dK k))(_:GT k)(_:∀(r:Addr) (H':Hp),H' r=some (.tup (e.map λc=>V.int (c.2.ev k)))->ae H H'->Q (.ref r) H')
theorem tQ:ak ["terms","numbers"] ["terms","numbers"] (aa gE):=bL
noncomputable def YF:Scope:=#[.function,[(".0",.local),("term",.local),("worth",.globalImplicit),("numbers",.free)],false,false,[]]
theorem vP:(["term","numbers"]:List Str).Nodup:=by decide+kernel
theorem vo:aZ ["terms","numbers"] (aa gE) YF ["term","numbers"] 1 [1]:=nC
theorem oI(F:aJ K "worths" "worths" gE f v)(C:Cl P w K mg base 7 U B z10z (cg K 6) "worth")(M:mg "tuple"=none):aj P w K mg base aA 8 f v ["terms","numbers"] fV:=by
 refine F.ok tQ ?_ λG A o s H R Q E I h=>?_
 ·rintro _ _ _ _ ⟨a,D,t,g,k,rfl,_⟩;rfl
 obtain⟨a,D,t,g,k,rfl,p,W,b,J,L,q⟩:=h;refine#[_,(jg$ jo$ jG jF Z M IE$ ja (@kE _ _ _ _ _ _ _ (["term","numbers"]) (1) ([1]) _ _ _ _ Z (qi$ pv 0) vo (λ_ _ _ _ _=>(ju (i:=0) vP Z$ Or.inl Z)) (λ_ _ _ _ _=>(@zi _)) (λ_ _ _ _ _=>(C.e I.m$ ja (pv 0)$ ja (pv 1) jb)) (by intro _;rfl)) jb),?_];have N:=aF;refine#[_,Z,a,Z,#[_,ax.of p],?_];refine qx (K:=K) (xs:=t.map λc=>V.ref c.1) (by rw[GQ];omega) (λi z d=>z=(t.take i).map (λc=>V.int (c.2.ev k))/\d=H) #[Z,Z] (λi z d h=>?_) (λi x z d r h=>?_) (λz d h l O=>?_)
 ·obtain⟨rfl,rfl⟩:=h;exact#[ax.of p,by rw[GQ,HF];omega]
 ·obtain⟨rfl,rfl⟩:=h;rw[Hu]at r;obtain⟨y,u,rfl⟩:=Option.map_eq_some_iff.mp r;have Y:=Hf u;refine#[_,Z,_,Z,y.1,D,y.2,g,k,Z,.inl (b y Y).1,(b y Y).2.2,(b y Y).2.1,J,L,?_,Z];rw[ID,u,Hs];rfl
 ·obtain⟨rfl,rfl⟩:=h;rw[GQ,HY];exact#[l,_,Z,.inl #[aB.of jc,λT n=>q T _ jc ((jd O).trans$ jd n)]]
theorem fe:ak ["part","n","held","numbers","deed","word"] z12z (aa iN):=bL
theorem oE(F:aJ K "deed_at" "deed_at" iN f fd)(cH:Cl P w K mg base 2 fH f0 z12z (g9 nA) "held_at")(cC:Cl P w K mg base 1 fC f2 ["part","n"] (gY nA) "cut_at")(cW:Cl P w K mg base 7 fW f3 z10z (cg K 6) "worth")(cS:Cl P w K mg base 8 fS f4 ["terms","numbers"] fV "worths"):aj P w K mg base aA 9 f fd z12z (fi nA):=by
 refine F.ok fe ?_ λc0 A o1 s H vs Q E L h=>?_
 ·rintro _ _ _ _ ⟨v,n,hv,d,Y,c,is,e,rfl,_⟩;rfl
 obtain⟨v,n,hv,d,Y,c,is,e,rfl,hp,hc,hh,hl,h0,h1,h2,q⟩:=h;refine#[_,(je (jx 3 fe.nd$ cH.e L.m$ ja (pv 0)$ ja (pv 1)$ ja (pv 2) jb)$ je (jx 4 fe.nd$ jr jR (cC.e L.m$ ja (pv 0)$ ja (pv 1) jb) jf (λ_ _=>Z))$ je (jx 5 fe.nd$ jz$ pv 4)$ je (jw (kh$ pv 5) (jg$ jo$ jh$ ja (pv 5)$ ja (ze (jA JB (cW.e L.m$ ja (jz$ pv 4)$ ja (pv 3) jb) jf$ aE _) jf jf) jb) jp)$ je (jw (kh$ pv 5) (jg$ jo$ jh$ ja (pv 5)$ ja (jz$ pv 4)$ ja (cS.e L.m$ ja (jz$ pv 4)$ ja (pv 3) jb) jb) jp)$ je (jw (kh$ pv 5) (jg$ jo$ jh$ ja (pv 5)$ ja (cW.e L.m$ ja (jz$ pv 4)$ ja (pv 3) jb) jb) jp)$ jg$ jo$ jv jV (jh$ ja (pv 5) jb)$ cS.e L.m$ ja (jJ zj (pv 4) (jH jf) j3)$ ja (pv 3) jb),?_];have b0:=aF;obtain⟨a,ca,p0,cs,rfl,ha,_,h7,h8⟩:=hp.parts;refine ai λi b=>#[_,Z,_,Z,_,Z,.ref a,n,hv,d,Y,c,is,Z,hp,hc,hh,hl,λC n0=>b _ _ ?_];clear b;have S:ae H (af H C$ .dK$ cV (canon c.M) is):=jd n0;have O:af H C (.dK$ cV (canon c.M) is) C=some (.dK$ cV (canon c.M) is):=jc;show gj _ _ _ _ (af H C$ .dK$ cV (canon c.M) is);generalize af H C (.dK$ cV (canon c.M) is)=H1 at S O;have V:GT (cV (canon c.M) is):=Kl h0;generalize cV (canon c.M) is=k at O V q;have dk:=h2.mono (ae.tm S);refine ai λi b=>#[_,Z,_,Z,.ref a,n,d,Y,c,Z,hp.mono$ ae.tm S,hc,λka na wa dv w0 cu=>#[ka,_,_,_,Z,Z,ax.of cu.at',iH,b _ _ ?_]];clear b;have D:=cu.deed;rw[<- h1]at D;cases e with
 |ask t T=>
  obtain⟨_,p,xs,rfl,g,_,_,y0,z0,rfl,⟨rfl,_⟩,_,_,y1,z1,rfl,⟨rfl,_⟩,e⟩:=D;have e:z1=[]:=e;subst e;refine ai λi b=>(js g dH$ b _ _ ?_);clear b;refine ai λi b=>#[_,Z,Z,_,Z,bQ RW #[_,Z,js g iH #[_,Z,t,C,T,Y,k,Z,.inl dk.1,dk.2.2,dk.2.1,O,V,Z,_,Z,?_]]];by_cases z:T.ev k=0
  ·refine bQ (by rw[z];decide+kernel) #[bo,λr G=>q _ _ (jC jc$ jl Z jO$ jl Z #[?_,Z] jB) (S.trans$ jd G)];rw[Hm z]
  ·refine aO (by rw[G8];intro e;injection e with e;exact z e) #[bo,λr G=>q _ _ (jC jc$ jl Z jO$ jl Z #[?_,Z] jB) (S.trans$ jd G)];rw[Ho z]
 |st p l=>
  have ed:dv= .ref p:=D.1;subst ed;obtain⟨vs,g,I,B,h3⟩:=dk;cases l with
  |rd x t T=>obtain⟨rfl,ht⟩:=I;refine ai λi b=>(js g dH$ b _ _ ?_);clear b;refine ai λi b=>#[_,Z,Z,_,Z,aO RW$ b _ _ ?_];clear b;refine ai λi b=>#[_,Z,Z,_,Z,aO RW$ b _ _ ?_];clear b;refine ai λi b=>#[_,Z,Z,_,Z,bQ RW #[_,Z,_,Z,p,_,_,_,Z,Z,ax.of g,jQ (j:=2) Z,_,Z,t,C,T,Y,k,Z,.inl ht,B.2.2,B.2.1,O,V,bo,λr G=>?_]];exact q _ _ (jC jc$ jl Z jO$ jl Z kc jB)$ S.trans$ jd G
  |wr t u T U=>
   obtain⟨rfl,ht,hu⟩:=I;refine ai λi b=>(js g dH$ b _ _ ?_);clear b;refine ai λi b=>#[_,Z,Z,_,Z,aO RW$ b _ _ ?_];clear b;refine ai λi b=>#[_,Z,Z,_,Z,aO RW$ b _ _ ?_];clear b;refine ai λi b=>#[_,Z,Z,_,Z,aO RW$ b _ _ ?_];clear b;refine#[_,Z,gH,λr1 N=>#[_,Z,1,Z,p,_,Z,jd N _ _ g,λr2 H2 J R=>#[_,Z,r2,C,[(t,T),(u,U)],Y,k,Z,J,(by show 2<=6;decide),?_,R _ _$ jd N _ _ O,V,λr3 H3 h4 s3=>#[r1,r3,_,_,Z,Z,s3 _ _$ R _ _ jc,h4,dZ,λr4 H4 h5 s4=>?_]]]]
   ·intro y W;have X:=(jd (o:=.tup [.str "write"]) N).trans R;simp only[II,HG,Mh]at W;rcases W with rfl |rfl
    ·exact#[ht.same X,B.1]
    ·exact#[hu.same X,B.2]
   ·exact q _ _ (jC h5$ jl Z jO$ jl Z kc$ jl Z kc jB)$ S.trans ((jd N).trans$ R.trans$ s3.trans s4)
  |cl x f' qa ts=>obtain⟨rfl,hq,h6⟩:=I;refine ai λi b=>(js g dH$ b _ _ ?_);clear b;refine ai λi b=>#[_,Z,Z,_,Z,aO RW$ b _ _ ?_];clear b;have l6:ts.length<=6:=B.2.1;refine ai λi b=>#[_,Z,Z,_,Z,bQ RW #[_,Z,_,Z,p,_,_,_,Z,Z,ax.of g,jQ (j:=2) Z,_,Z,p,_,_,_,Z,Z,ax.of g,jQ (j:=3) Z,_,Z,qa,C,ts,Y,k,Z,hq,l6,λy W=>#[h6 y W,B.2.2 y W],O,V,λr2 H2 J R=>#[dZ,λr G=>?_]]];refine q _ _ (jC jc$ jl Z jO$ jl Z jO$ jl Z (jC (am J G) ?_) jB)$ S.trans$ R.trans$ jd G;have:=J1 (H:=af H2 r (.tup [.str "call",.str f',.ref r2])) (is:=ts.map λc=>c.2.ev k);rw[LU,LU]at this;exact this
  |st x t T |gv t T=>cases h3
noncomputable abbrev iS:Stmt:=bM 36
noncomputable abbrev mO:Stmt:=bM 37
noncomputable abbrev iO:Stmt:=bM 38
noncomputable abbrev sZ:Stmt:=b6 (bM 39) 0
noncomputable abbrev mX:Stmt:=b6 (bM 39) 1
noncomputable abbrev tj:Stmt:=b6 (bM 39) 2
noncomputable abbrev iV:Stmt:=bM 41
def Cy(H:Hp)(x:V)(g:Str):Prop:=∃p r,x= .ref p/\H p=some (.tup (.str g::r))
inductive i9(c:List V)(H:Hp)(Q:VK)(b:XK):Prop
 |mk(a:Addr)(f:Str)(d:List V)(i:Nat)(v:V)(_:c=[.ref a,.str f])(_:H a=some (.tup d))(_:d[i]?=some v)(_:Cy H v f)(_:∀j x,j < i->d[j]?=some x->∃g,Cy H x g/\g≠f)(_:Q v H)
inductive gF(e:List V)(H:Hp)(Q:VK)(b:XK):Prop
 |mk(a g:Addr)(f:Str)(h k:List V)(i:Nat)(v:V)(p c:Addr)(r d:List V)(_:e=[.ref a,.str f,.ref g])(_:H a=some (.tup h))(_:h[i]?=some v)(_:v= .ref p)(_:H p=some (.tup (.str f:: .ref c::r)))(_:H c=some (.tup d))(_:H g=some (.tup k))(_:k.length=d.length)(_:∀j x,j < i->h[j]?=some x->∃g,Cy H x g/\g≠f)(_:Q v H)
noncomputable def gI(c l p:Addr)(m:Int)(t:Nat):List (Str×V):=[("cells",.ref c),("most",.int m),("left",.ref l),("turns",.int (t:Int)),("parts",.ref p)]
structure Rn(H:Hp)(C r dx cA lA pA:Addr)(m:Int)(t:Nat)(L Cs:cq):Prop where
 ins:H r=some (.ins C dx$ gI cA lA pA m t)
 lf:H lA=some (.dK L)
 ce:H cA=some (.dK Cs)
 iL:GT L
 iC:GT Cs
 cl:cA≠lA
structure RK(K:Frag)(C:Addr):Prop where
 cl:oY K C
 n1:bK K C "cells"
 n2:bK K C "most"
 n3:bK K C "left"
 n4:bK K C "turns"
 n5:bK K C "parts"
inductive fo(C:Addr)(h:List V)(H:Hp)(Q:VK)(a:XK):Prop
 |mk(r e d f g:Addr)(m c:Int)(t:Nat)(L b:cq)(_:h=[.ref r,.int c])(_:Rn H C r e d f g m t L b)(_:Q (.int (look L (.inl c) (look b (.inl c) 0))) H)
inductive lh(C:Addr)(d:List V)(H:Hp)(Q:VK)(a:XK):Prop
 |mk(r c b:Addr)(m:Int)(_:d=[.ref r,.ref b,.int m])(_:H r=some (.ins C c []))(_:∀lA,H lA=none->Q .non (af (af H lA (.dK [])) r (.ins C c [("cells",.ref b),("most",.int m),("left",.ref lA),("turns",.int 0)])))
structure XM(K:Frag)(mg:Str->Option Value)(x:Str)(L:Addr):Prop where
 ex:excIn K L mH "ValueError.__new__"=true
 kp:keepIn K (.ref L)=true
 xc:io K L
 ty:typeIn K (.ref L)=some (.type "type")
 m:mg x=some (.ref L)
def NX(o:HO):Prop:=∀a,o≠ .ext a
def Kp(H h:Hp):Prop:=∀b o,NX o->H b=some o->h b=some o
theorem Kp.of_same(s:ae H h):Kp H h:=λb o _ e=>s _ _ e
theorem Kp.trans(a:Kp H h)(b:Kp h d):Kp H d:=λc o n e=>b c o n (a c o n e)
def nH(E:XK):XK:=λC d H=>∀x T t c,C= .ref c->H x=some (dW c d T x)->H T=some (dJ T)->H t=none->E (.ref c) d (af (af H t$ dJ t) x$ dW c d t x)
theorem kY{P:Program}{w:World}{K:Frag}{mg:Str->Option Value}{base:Heap}:di (dD P w) (eU (dD P w) P w K mg base N q s f g A o a H E) (nH E):=
 wD λx C d T t i b c e h=>h x T t C Z b c e
theorem qV{H h:Hp}(e:h b=some o)(n:NX o)(a:h x=some (dW C d T x))(c:h t=none):af (af h t$ dJ t) x (dW C d t x) b=some o:=by
 have N:b≠x:=λz=>by rw[z,a]at e;injection e with e;exact n _ e.symm
 rw[ji N,ji$ jm e c];exact e
def Fl(E:XK)(L:Addr)(R:Hp->Prop):Prop:=∀(_:Unit) H,R H->E (.ref L) none H
inductive h9(C L:Addr)(e:List V)(H:Hp)(Q:VK)(E:XK):Prop
 |mk(r b a c d:Addr)(m:Int)(t:Nat)(_:e=[.ref r])(_:H r=some (.ins C b (gI a c d m t)))(_:(t:Int) < m->Q .non (af H r (.ins C b (gI a c d m (t+1)))))(_:m<=(t:Int)->Fl E L (Kp H))
inductive dS(D:Addr)(a:List V)(H:Hp)(Q:VK)(E:XK):Prop
 |mk(d:Int)(_:a=[.int d])(_:d < 15->Q (.int (d+1)) H)(_:15<=d->Fl E D (Kp H))
theorem zg{H:Hp}(a:H x=none)(N:af H x (xW L none x) T=none):ae H (af (af (af H x$ xW L none x) T$ dJ T) x$ dW L d T x):=by intro b o e;have n:b≠x:=jm e a;rw[ji n,ji (λz=>by rw[<- z,ji n,e]at N;cases N),ji n];exact e
theorem lO:ak ["ones","f","one"] ["ones","f"] (aa iS):=bL
theorem oG(F:aJ K "named" "named" iS f D):aj P w K mg base aA 1 f D ["ones","f"] i9:=by
 refine F.ok lO ?_ λG A o s H W Q E X h=>?_
 ·rintro _ _ _ _ ⟨a,f,xs,i,v,rfl,_⟩;rfl
 obtain⟨a,f,xs,i,v,rfl,t,u,L,d,q⟩:=h;refine#[_,(je (j9 HM Z (qi$ pv 0) (ju (i:=2) lO.nd Z$ Or.inl Z)$ jg$ jw (jA JB (jz$ pv 2) (pv 1)$ aE _) (jg$ jo$ pv 2) jp)$ @sC _ _),?_];have M:i < xs.length:=(List.getElem?_eq_some_iff.mp u).1;refine ai λY f1=>dN λJ j=>#[_,Z,a,Z,#[_,ax.of t],j _ _ ?_];clear j;refine Ks (K:=K) (xs:=xs) (λk c e=>(∃O,c=[some$ .ref a,some$ .str f,O])/\e=H/\k<=i) #[#[_,Z],Z,Hg _] (λk c e _ h=>by rw[h.2.1];exact ax.of t) ?_ (λc e h=>?_)
 ·intro l R k x c H2 m N I b h;obtain⟨⟨O,rfl⟩,rfl,y⟩:=h;refine b ?_;clear b;by_cases S:k=i
  ·subst S;rw[u]at m;cases m;obtain⟨p,r,rfl,n⟩:=id L;show lv _ _ _ l _ _;refine rf λT B C=>(js n dH #[_,Z,Z,_,Z,?_]);rw[Hl (Z:V.str f=V.str f)];refine B _ ?_;show iz _ l _ _;unfold iz;rw[R];exact#[_,Z,q]
  ·obtain⟨g,⟨p,r,rfl,n⟩,U⟩:=d k x RU m;show lv _ _ _ l _ _;refine rf λT B C=>(js n dH #[_,Z,Z,_,Z,?_]);rw[G8 (λz=>U (by injection z))];exact C _$ N _ _ #[#[_,Z],Z,RU]
 ·obtain⟨_,_,y⟩:=h;exact absurd y RU
theorem tN:ak ["parts","f"] ["parts","f"] (aa iV):=bL
theorem oH(F:aJ K "part_of" "part_of" iV f c)(C:Cl P w K mg base 1 r d ["ones","f"] i9 "named"):aj P w K mg base aA 2 f c ["parts","f"] i9:=by
 refine F.ok tN ?_ λg A o s H V Q E j h=>?_
 ·rintro _ _ _ _ ⟨a,f,x,i,v,rfl,_⟩;rfl
 obtain⟨a,f,x,i,v,rfl,l,n,p,b,q⟩:=h;refine#[_,(jg$ jo$ C.e j.m$ ja (pv 0)$ ja (pv 1) jb),?_];exact#[_,Z,_,Z,a,f,x,i,v,Z,l,n,p,b,q]
theorem nU:ak ["ones","f","args","one"] ["ones","f","args"] (aa mO):=bL
theorem rM(F:aJ K "begun" "begun" mO f j)(C:Cl P w K mg base 1 N l ["ones","f"] i9 "named")(M:mg "len"=none):aj P w K mg base aA 2 f j ["ones","f","args"] gF:=by
 refine F.ok nU ?_ λn A o s H V Q E t h=>?_
 ·rintro _ _ _ _ ⟨a,g,f,x,y,i,v,p,c,r,u,rfl,_⟩;rfl
 obtain⟨a,g,f,x,y,i,v,p,c,r,u,rfl,z,B,rfl,d,D,G,I,J,q⟩:=h;refine#[_,(je (jx 3 nU.nd$ C.e t.m$ ja (pv 0)$ ja (pv 1) jb)$ je (jw (jA YK (jI jD Z M HR$ ja (pv 2) jb) (jI jD Z M HR$ ja (jz$ pv 3) jb)$ aE _) (@sC _ _) jp)$ jg$ jo$ pv 3),?_];refine ai λL b=>#[_,Z,_,Z,a,f,x,i,.ref p,Z,z,B,#[p,_,Z,d],J,b _ _ ?_];clear b;refine ai λL b=>#[_,Z,g,_,Z,.inr$ ax.of G,js d iH #[c,_,Z,.inr$ ax.of D,Z,_,Z,aO (by rw[I];simp)$ b _ _ #[_,Z,q]]]
theorem tG:ak ["deep"] ["deep"] (aa iO):=bL
theorem oF(F:aJ K "deeper" "deeper" iO f a)(M:mg "DEEPEST"=some (.int 15 t))(X:XM K mg "TooDeep" D):aj P w K mg base (dD P w) 1 f a ["deep"] (dS D):=by
 refine F.ok1 tG ?_ λC A o s H V Q E g h=>?_
 ·rintro _ _ _ _ ⟨d,rfl,_⟩;rfl
 obtain⟨d,rfl,q,e⟩:=h;refine#[_,(je (jw (jA sf (pv 0) (qt (v:=.int 15) Z M #[t,Z])$ aE _) (jg$ @ql _ _ _ _ _ Z zR$ @zQ _ _ _ _ _ X.ex X.kp Z X.m RT) jp)$ jg$ jo$ jv jZ (pv 0) jf),?_];refine ai λi b=>#[_,Z,_,_,Z,Z,_,Z,?_];by_cases c:(15:Int)<=d
 ·refine bQ (Hl c) λx n=>?_;exact#[x,D,none,Z,jc,X.xc,X.ty,λT N=>e c () _ (Kp.of_same$ zg n N)]
 ·exact aO (G8 c)$ b _ _ #[_,Z,_,_,Z,Z,q RU]
theorem BN:ak z23z z23z (aa sZ):=bL
theorem wo(F:aJ K "__init__" "Turns.__init__" sZ f v)(c:RK K C):aj P w K mg base aA 1 f v z23z (lh C):=by
 refine F.ok BN ?_ λx A o s H V Q E B h=>?_
 ·rintro _ _ _ _ ⟨r,D,y,m,rfl,_⟩;rfl
 obtain⟨r,D,y,m,rfl,g,q⟩:=h;refine#[_,(je (@qG _ _ _ _ _ _ _ _ (pv 0) (pv 1) Z)$ je (@qG _ _ _ _ _ _ _ _ (pv 0) (pv 2) Z)$ je (@qG _ _ _ _ _ _ _ _ (pv 0) Kq Z)$ jg$ @qG _ _ _ _ _ _ _ _ (pv 0) jf Z),?_];refine ai λj a=>#[_,Z,_,Z,r,C,D,_,Z,g,c.cl,c.n1,RT,a _ _ ?_];clear a;refine ai λj a=>#[_,Z,_,Z,r,C,D,_,Z,jc,c.cl,c.n2,(by show 1 < 1000;decide),a _ _ ?_];clear a;refine ai λj a=>λl n=>#[_,Z,r,C,D,_,Z,am jc n,c.cl,c.n3,(by show 2 < 1000;decide),a _ _ ?_];clear a;refine#[_,Z,r,C,D,_,Z,jc,c.cl,c.n4,(by show 3 < 1000;decide),?_];have N:l≠r:=λe=>by rw[e,jc]at n;cases n
 have z:H l=none:=by rw[ji N,ji N]at n;exact n
 have e:∀p t u O:HO,af (af (af (af (af H r p) r t) l$ .dK []) r u) r O=af (af H l$ .dK []) r O:=λp t u O=>by
  funext b;by_cases d:b=r
  ·rw[d,jc,jc]
  ·rw[ji d,ji d,ji d];by_cases i:b=l
   ·rw[i,jc,jc]
   ·rw[ji i,ji d,ji d,ji i]
 rw[e];exact q l z
theorem xt:ak ["self"] ["self"] (aa mX):=bL
theorem rW(F:aJ K "take_turn" "Turns.take_turn" mX f g)(b:RK K C)(X:XM K mg "TooLong" L):aj P w K mg base (dD P w) 1 f g ["self"] (h9 C L):=by
 refine F.ok1 xt ?_ λi A o s H v Q E y h=>?_
 ·rintro _ _ _ _ ⟨r,d,j,l,p,m,t,rfl,_⟩;rfl
 obtain⟨r,d,j,l,p,m,t,rfl,a,q,e⟩:=h;refine#[_,(je (jw (jA sf (zr (pv 0) Z) (zr (pv 0) Z)$ aE _) (jg$ @ql _ _ _ _ _ Z zR$ @zQ _ _ _ _ _ X.ex X.kp Z X.m RT) jp)$ jg$ @Zy _ _ _ _ _ _ _ _ _ _ (pv 0) jf As),?_];refine ai λz n=>#[_,Z,r,C,d,_,_,Z,a,b.cl,b.n4,Z,_,Z,r,C,d,_,_,Z,a,b.cl,b.n2,Z,_,_,Z,Z,_,Z,?_];by_cases c:m<=(t:Int)
 ·refine bQ (Hl c) λx N=>?_;exact#[x,L,none,Z,jc,X.xc,X.ty,λT u=>e c () _ (Kp.of_same$ zg N u)]
 ·exact aO (G8 c)$ n _ _ #[_,Z,r,C,d,_,_,Z,a,b.cl,b.n4,Z,_,_,Z,Z,d,_,a,(by show 5 < 1000;decide),q RU]
theorem BO:ak ["self","cell"] ["self","cell"] (aa tj):=bL
theorem wq(F:aJ K "number_in" "Turns.number_in" tj f p)(b:RK K C):aj P w K mg base aA 1 f p ["self","cell"] (fo C):=by
 refine F.ok BO ?_ λu A o s H V Q E g h=>?_
 ·rintro _ _ _ _ ⟨r,d,i,l,x,m,c,t,L,j,rfl,_⟩;rfl
 obtain⟨r,d,i,l,x,m,c,t,L,j,rfl,a,q⟩:=h;refine#[_,(jg$ jo$ ze (sE$ @Bn _ _ _ _ _ (zF g) (pv 1)$ zr (pv 0) Z) (wF (zF g) (zr (pv 0) Z) (pv 1) (λ_ _=>Z))$ @Kr _ _ _ _ _ _ _ _ _ (zF g) (zr (pv 0) Z) (pv 1) jf #[RX,RX,RX,RX]),?_];refine#[_,Z,_,Z,r,C,d,_,_,Z,a.ins,b.cl,b.n3,Z,l,_,Z,dM.k (k:=.inl c) a.lf,_,Z,?_];cases e:bG L (.inl c) with
 |some v=>refine bQ Z #[_,Z,r,C,d,_,_,Z,a.ins,b.cl,b.n3,Z,_,Z,l,v,Z,by rw[<- e];exact dM.k (k:=.inl c) a.lf,?_];rw[Z4 a.iL e$ look j (.inl c) 0];exact q
 |none=>refine aO Z #[_,Z,r,C,d,_,_,Z,a.ins,b.cl,b.n1,Z,i,Z,.inl #[_,.inl a.ce],_,Z,_,dM.k (k:=.inl c) a.ce,?_];rw[Ku a.iC];rw[Z5 e]at q;exact q
noncomputable abbrev sM:Stmt:=b6 (bM 51) 0
noncomputable abbrev wR:Stmt:=b6 (bM 51) 1
noncomputable abbrev wS:Stmt:=b6 (bM 51) 2
noncomputable abbrev BG:Stmt:=bM 52
inductive Sk where
 |nil |st (n:Int) (hs:List Int) (w r:Sk) |ask (b:Int) |rd (c i:Int) |wr (c i:Int) |cl (f:Str) (is:List Int) (s:Sk) (a:Int)
noncomputable def Sk.dep:Sk->Nat
 | .st _ _ w r=>max w.dep r.dep
 | .cl _ _ s _=>s.dep+1
 |_=>0
noncomputable def Sk.size:Sk->Nat
 | .st _ _ w r=>w.size+r.size+1
 | .cl _ _ s _=>s.size
 |_=>0
def Sk.ok:Bool->Sk->Prop
 |true,.nil=>True
 |true,.st _ _ w r=>w.ok false/\r.ok true
 |false,.cl _ _ s _=>s.ok true
 |false,.ask _=>True
 |false,.rd _ _=>True
 |false,.wr _ _=>True
 |_,_=>False
def em(H:Hp):Sk->V->List V->Prop
 | .nil,_,x=>x=[]
 | .st n d w r,_,x=>∃p h u y,x= .ref p::y/\H p=some (.tup [.int n,.ref h,u])/\H h=some (.tup (d.map V.int))/\em H w u []/\em H r .non y
 | .ask b,u,_=>∃p,u= .ref p/\H p=some (.tup [.str "ask",.int b])
 | .rd c i,u,_=>∃p,u= .ref p/\H p=some (.tup [.str "read",.int c,.int i])
 | .wr c i,u,_=>∃p,u= .ref p/\H p=some (.tup [.str "write",.int c,.int i])
 | .cl f I s a,u,_=>∃p c g e S,u= .ref p/\H p=some (.tup [.str "call",.ref c])/\H c=some (.tup [.str f,.ref g,.ref e,.int a])/\H g=some (.tup (I.map V.int))/\H e=some (.tup S)/\em H s .non S
theorem em.mono(k:ah H i):∀{s:Sk} {u:V} {xs:List V},em H s u xs->em i s u xs
 | .nil,_,_,h=>h
 | .st _ _ _ _,_,_,z=>by obtain⟨p,h,u,y,e,a,b,d,f⟩:=z;exact #[p,h,u,y,e,k _ _ a,k _ _ b,em.mono k d,em.mono k f]
 | .ask _,_,_,z=>by obtain⟨p,e,h⟩:=z;exact #[p,e,k _ _ h]
 | .rd _ _,_,_,z=>by obtain⟨p,e,h⟩:=z;exact #[p,e,k _ _ h]
 | .wr _ _,_,_,z=>by obtain⟨p,e,h⟩:=z;exact #[p,e,k _ _ h]
 | .cl _ _ _ _,_,_,z=>by obtain⟨p,c,g,e,S,E,a,b,d,f,j⟩:=z;exact #[p,c,g,e,S,E,k _ _ a,k _ _ b,k _ _ d,k _ _ f,em.mono k j]
noncomputable def Sk.put(n:Int)(h:List Int)(W:Sk):Sk->Sk
 | .st a b c r=>.st a b c (Sk.put n h W r)
 |_=>.st n h W .nil
theorem sG{H:Hp}{n:Int}{a:List Int}{w:Sk}{p h:Addr}{u:V}(b:H p=some (.tup [.int n,.ref h,u]))(c:H h=some (.tup$ a.map V.int))(d:em H w u []):∀{s:Sk} {x:List V},s.ok true->em H s .non x->em H (Sk.put n a w s) .non (x++[.ref p])
 | .nil,_,_,e=>by have e:_=[]:=e;rw[e];exact#[p,h,u,[],Z,b,c,d,Z]
 | .st _ _ _ r,_,o,z=>by obtain⟨f,g,U,y,e,i,j,k,l⟩:=z;rw[e];exact#[f,g,U,y++[.ref p],Z,i,j,k,sG b c d o.2 l]
theorem Q6{w:Sk}(h:w.ok false):∀{s:Sk},s.ok true->(Sk.put n H w s).ok true
 | .nil,_=>#[h,trivial]
 | .st _ _ _ _,o=>#[o.1,Q6 h o.2]
theorem Kv{n:Int}{hs:List Int}{w:Sk}:∀{s:Sk},s.ok true->(Sk.put n hs w s).size=s.size+(w.size+1)
 | .nil,_=>by show w.size+0+1=0+(w.size+1);omega
 | .st _ _ c r,o=>by have:=Kv (n:=n) (hs:=hs) (w:=w) (s:=r) o.2;show c.size+(Sk.put n hs w r).size+1=c.size+r.size+1+(w.size+1);omega
theorem Q7{n:Int}{hs:List Int}{w:Sk}{j:Nat}(H:w.dep<=j):∀{s:Sk},s.ok true->s.dep<=j->(Sk.put n hs w s).dep<=j
 | .nil,_,_=>by show max w.dep 0<=j;omega
 | .st _ _ c r,o,h=>by have h:max c.dep r.dep<=j:=h;have:=Q7 (n:=n) (hs:=hs) H (s:=r) o.2 RU;show max c.dep (Sk.put n hs w r).dep<=j;omega
theorem X4:∀{s:Sk} {x:List V},s.ok true->em H s .non x->x.length<=s.size
 | .nil,_,_,e=>by have e:_=[]:=e;rw[e];exact GV 0
 | .st _ _ w r,_,o,z=>by obtain⟨_,_,_,y,e,_,_,_,h⟩:=z;have:=X4 o.2 h;rw[e];show y.length+1<=w.size+r.size+1;omega
def l7(H:Hp)(f:Str)(i:List Int)(s:Sk)(a:Int)(u:V):Prop:=∃c g e S,u= .ref c/\H c=some (.tup [.str f,.ref g,.ref e,.int a])/\H g=some (.tup$ i.map V.int)/\H e=some (.tup S)/\em H s .non S
noncomputable def Sk.wh:Sk->Wh
 | .ask b=>.ask b
 | .rd c i=>.rd c i
 | .wr c i=>.wr c i
 | .cl f I _ a=>.cl f I a
 |_=>.ask 0
theorem FN{s:Sk}(o:s.ok false)(h:em H s u []):yV H u s.wh:=by
 cases s with
 |nil |st=>exact o.elim
 |ask b |rd c i |wr c i=>exact h
 |cl f I s a=>obtain⟨p,c,g,e,S,E,d,j,k,_⟩:=h;exact#[p,c,g,.ref e,E,d,j,k]
structure Ps(H:Hp)(nA pA:Addr)(ds:List Df)(ns:List Nat)(xs:List V):Prop where
 at':H pA=some (.tup xs)
 tr:aS H (aC$ ds.map$ eY nA) .non xs
 dv:∃zs,cw H ds zs
 ok:uV ds ns
 pa:ma H ds ns
theorem Ps.mono{xs:List V}(h:Ps H n p d N xs)(k:ah H a):Ps a n p d N xs:=#[k _ _ h.at',h.tr.mono k,let #[b,z]:=h.dv;#[b,z.mono k],h.ok,h.pa.mono k]
theorem Zi(h:aS H (eY n d) v []):Cy H v d.f:=by obtain⟨_,a,x,rfl,b,_,_,Y,y,rfl,⟨rfl,_⟩,_⟩:=h;exact#[a,_,Z,b]
theorem yb:∀{D:List Df} {z:List V},cw H D z->∀{i:Nat} {d:Df},D[i]?=some d->∃B,dj H d.b B
 |_::_,_,q,0,d,a=>by obtain⟨u,r,e,⟨B,_,_,_,h⟩,c⟩:=q;cases a;exact#[B,h]
 |_::_,_,#[u,r,e,_,c],i+1,d,a=>yb c (by simpa using a)
section
variable {H:Hp}{nA pA:Addr}{ds:List Df}{ns:List Nat}{xs:List V}
theorem Ps.part(h:Ps H nA pA ds ns xs){i:Nat}{d:Df}{v:V}(a:ds[i]?=some d)(c:xs[i]?=some v):∃y,me H nA d y v:=by obtain⟨T,b,t⟩:=Jp h.tr i v c;rw[Hu,a]at b;cases b;obtain⟨z,e⟩:=h.dv;obtain⟨⟨y,Y,o⟩,_,s⟩:=(h.ok.1 d$ Hf a).1;exact#[y,t,yb e a,o,Y,s]
theorem Ps.cs(h:Ps H nA pA ds ns xs){i:Nat}{d:Df}(a:ds[i]?=some d):∀f∈d.b.calls,f∈(ds.map Df.f).zip ns:=zC (h.ok.1 d$ Hf a).2
theorem Ps.at(h:Ps H nA pA ds ns xs){i:Nat}{d:Df}(b:ds[i]?=some d):∃v,xs[i]?=some v/\aS H (eY nA d) v []/\Cy H v d.f/\∀j x,j < i->xs[j]?=some x->∃g,Cy H x g/\g≠d.f:=by
 have L:=zG h.tr;rw[GQ]at L;have r:i < ds.length:=(List.getElem?_eq_some_iff.mp b).1;have t:∀(j:Nat) (x:V),xs[j]?=some x->∃c,ds[j]?=some c/\aS H (eY nA c) x []:=λj x k=>by obtain⟨s,m,t⟩:=Jp h.tr j x k;rw[Hu]at m;obtain⟨c,a,rfl⟩:=Option.map_eq_some_iff.mp m;exact#[c,a,t]
 have n:xs[i]?=some (xs[i]'RU):=GN RU;obtain⟨c,a,T⟩:=t _ _ n;rw[b]at a;cases a;refine#[_,n,T,Zi T,λj x u k=>?_];obtain⟨c,a,q⟩:=t j x k;refine#[c.f,Zi q,λe=>?_];have o:(ds.map Df.f)[j]?=some c.f:=by rw[Hu,a];rfl
 have p:(ds.map Df.f)[i]?=some d.f:=by rw[Hu,b];rfl
 rw[<- e]at p;have l:j < (ds.map Df.f).length:=(List.getElem?_eq_some_iff.mp o).1;have:=(List.getElem?_inj l h.ok.2.1).mp (o.trans p.symm);omega
theorem Ps.find(h:Ps H nA pA ds ns xs)(a:(f,n)∈(ds.map Df.f).zip ns):∃(i:Nat) (d:Df),ds[i]?=some d/\ns[i]?=some n/\d.f=f:=by
 obtain⟨i,b,e⟩:=List.mem_iff_getElem.mp a;have E:((ds.map Df.f).zip ns)[i]?=some (f,n):=by rw[<- e];exact GN b
 rw[NO]at E;rw[Hu]at E;obtain⟨d,c,g⟩:=Option.map_eq_some_iff.mp E.1;exact#[i,d,c,E.2,g]
end
theorem Rn.tm(h:Rn H C r d c l p m t L f)(k:aH r l H a):ah H a:=λb x e=>k b _ (jN e h.ins (by intro z;cases z)) (jN e h.lf (by intro z;cases z)) e
theorem Rn.same(h:Rn H C r d c l p m t L a)(s:ae H b):Rn b C r d c l p m t L a:=#[s _ _ h.ins,s _ _ h.lf,s _ _ h.ce,h.iL,h.iC,h.cl]
theorem Rn.rl(h:Rn H C r d c l p m t L a):r≠l/\r≠c:=#[jN h.ins h.lf (by intro z;cases z),jN h.ins h.ce (by intro z;cases z)]
def Cw(r l:Addr)(H h:Hp):Prop:=∀b o,b≠r->b≠l->NX o->H b=some o->h b=some o
theorem Fl.next(h:Fl E L (Cw r l H)):Fl (nH E) L (Cw r l H):=λd i k x T t c e a j f=>by cases e;exact h d _ λb o N g n e=>qV (H:=H) (k b o N g n e) n a f
theorem Fl.nextK(h:Fl E L (Kp H)):Fl (nH E) L (Kp H):=λd g k x T t c e a i f=>by cases e;exact h d _ λb o n e=>qV (H:=H) (k b o n e) n a f
theorem Fl.mono{R S:Hp->Prop}(h:Fl E L R)(k:∀H,S H->R H):Fl E L S:=λd H s=>h d H (k H s)
inductive i'(C:Addr)(e:List V)(H:Hp)(Q:VK)(a:XK):Prop
 |mk(r c d b:Addr)(m:Int)(_:e=[.ref r,.ref d,.ref b,.int m])(_:H r=some (.ins C c []))(_:∀lA,H lA=none->Q .non (af (af H lA (.dK [])) r (.ins C c (gI b lA d m 0))))
def o0(E:XK)(T t:Addr)(R:Hp->Prop):Prop:=Fl E T R/\Fl E t R
theorem o0.mono{R S:Hp->Prop}(h:o0 E T t R)(k:∀H,S H->R H):o0 E T t S:=#[h.1.mono k,h.2.mono k]
theorem o0.next(h:o0 E T t (Cw r l H)):o0 (nH E) T t (Cw r l H):=#[h.1.next,h.2.next]
inductive dC(C f e o:Addr)(j:Nat)(s:List V)(H:Hp)(Q:VK)(E:XK):Prop
 |mk(r l h n q g:Addr)(b t i:Nat)(L c:cq)(v:V)(d:Df)(k:List Df)(p:List Nat)(w:List V)(m:List Int)(_:s=[.ref r,v,.ref g,.int (b:Int)])(_:b+j=16)(_:1<=j)(_:Rn H C r l h n q 60 t L c)(_:L.length<=t)(_:t<=60)(_:Ps H o q k p w)(_:k[i]?=some d)(_:p[i]?=some m.length)(_:w[i]?=some v)(_:H g=some (.tup (m.map V.int)))(_:∀z∈m,gp z)(_:∀(u:V) (sk:Sk) (a:Int) (L':cq) (H':Hp),l7 H' d.f m sk a u->sk.ok true->sk.dep+1<=j->gp a->Rn H' C r l h n q 60 (t+sk.size) L' c->L'.length<=t+sk.size->t+sk.size<=60->aH r n H H'->Q u H')(_:o0 E f e (Cw r n H))
inductive nk(C d c l:Addr)(j:Nat)(o:List V)(H:Hp)(Q:VK)(E:XK):Prop
 |mk(r h f i n:Addr)(a t:Nat)(L b k:cq)(u:V)(e:DD)(q:List Str)(g:List Df)(m:List Nat)(p:List V)(_:o=[.ref r,u,.int (a:Int)])(_:a+j=15)(_:Rn H C r h f i n 60 t L b)(_:L.length<=t)(_:t<=60)(_:Ps H l n g m p)(_:aS H (Gc k e) u [])(_:yO H q e)(_:GT k)(_:e.Cs ((g.map Df.f).zip m))(_:∀(w:Sk) (v:V) (L':cq) (H':Hp),em H' w v []->w.ok false->Er e w.wh->w.dep<=j->Rn H' C r h f i n 60 (t+1+w.size) L' b->L'.length<=t+1+w.size->t+1+w.size<=60->aH r i H H'->Q v H')(_:o0 E d c (Cw r i H))
theorem BM:ak z24z z24z (aa sM):=bL
theorem we(F:aJ K "__init__" "BookRun.__init__" sM f t)(j:RK K C)(GT:aj P w K mg base aA 1 u c z23z (lh C))(B:ay K c z23z [])(M:mg "Turns"=some (.ref T))(v:yN K T "__init__" u):aj P w K mg base aA 2 f t z24z (i' C):=by
 refine F.ok BM ?_ λx A o s H V Q E y h=>?_
 ·rintro _ _ _ _ ⟨r,d,z,k,m,rfl,_⟩;rfl
 obtain⟨r,d,z,k,m,rfl,g,q⟩:=h;refine#[_,(je (jP$ @wE _ _ _ _ _ _ _ _ _ _ _ _ _ _ _ _ _ _ _ _ Z M v GT y.m B .nil bH (ja (pv 0)$ ja (pv 2)$ ja (pv 3) jb) RT RX RX RX)$ jg$ @qG _ _ _ _ _ _ _ _ (pv 0) (pv 1) Z),?_];refine ai λD n=>#[_,Z,_,Z,_,Z,r,d,k,m,Z,g,λL N=>n _ _ ?_];clear n;refine#[_,Z,_,Z,r,C,d,_,Z,jc,j.cl,j.n5,(by show 4 < 1000;decide),?_];have e:∀(i:Hp) (p O:HO),af (af i r p) r O=af i r O:=λi p O=>by
  funext b;by_cases a:b=r
  ·rw[a,jc,jc]
  ·rw[ji a,ji a,ji a]
 rw[e];exact q L N
theorem J2(h:aS H (ba t) u []):∃a x,u= .ref a/\H a=some (.tup x)/\aS H (aC t) .non x:=let #[_,a,x,e,b,c]:=h;#[a,x,e,b,c]
theorem zW(h:aS H (aC (t::T)) .non x):∃y Y,x=y::Y/\aS H t y []/\aS H (aC T) .non Y:=let #[_,_,y,Y,e,a,b]:=h;#[y,Y,e,a,b]
theorem Zj(h:aS H (bh x) y []):y= .str x:=h.1
theorem J3(h:aS H (aV n) y []):y= .int n:=h.1
theorem Kw:∀{I:List Int} {v:List V},aS H (aC$ I.map aV) .non v->v=I.map V.int
 | [],v,h=>h
 |i::I,v,h=>by obtain⟨y,Y,rfl,a,b⟩:=zW h;rw[J3 a,Kw b];rfl
theorem Q8{H:Hp}{w:Str}{t:List Tr}{u:V}(h:aS H (ba (bh w::t)) u []):∃a x,u= .ref a/\H a=some (.tup (.str w::x))/\aS H (aC t) .non x:=by obtain⟨a,x,rfl,b,h⟩:=J2 h;obtain⟨y,Y,rfl,c,d⟩:=zW h;rw[Zj c]at b;exact#[a,Y,Z,b,d]
theorem QS{H:Hp}{w:Str}{i:Int}{u:V}(h:aS H (ba [bh w,aV i]) u []):∃a,u= .ref a/\H a=some (.tup [.str w,.int i]):=by obtain⟨a,x,rfl,b,h⟩:=Q8 h;obtain⟨y,Y,rfl,c,d⟩:=zW h;have e:Y=[]:=d;rw[J3 c,e]at b;exact#[a,Z,b]
theorem uH{H:Hp}{w:Str}{i:Int}{t:Tr}{u:V}(h:aS H (ba [bh w,aV i,t]) u []):∃a y,u= .ref a/\H a=some (.tup [.str w,.int i,y])/\aS H t y []:=by obtain⟨a,x,rfl,b,h⟩:=Q8 h;obtain⟨y,Y,rfl,c,d⟩:=zW h;obtain⟨z,f,rfl,g,j⟩:=zW d;have e:f=[]:=j;rw[J3 c,e]at b;exact#[a,z,Z,b,g]
theorem D0:ak z19z z19z (aa wS):=bL
theorem AX(F:aJ K "what_of" "BookRun.what_of" wS f fd)(ck:RK K C)(GT:aj P w K mg base (dD P w) 1 fT f0 ["self"] (h9 C TL))(bT:ay K f0 ["self"] [])(m0:bY K C "take_turn" fT)(GI:aj P w K mg base aA 1 fI f2 ["self","cell"] (fo C))(bI:ay K f2 ["self","cell"] [])(m1:bY K C "number_in" fI)(GD:aj P w K mg base (dD P w) 1 fD f3 ["deep"] (dS TD))(bD:ay K f3 ["deep"] [])(kD:keepIn K (.ref fD)=true)(mD:mg "deeper"=some (.ref fD))(cP:Cl P w K mg base 2 fP f6 ["parts","f"] i9 "part_of")(GC:aj P w K mg base (dD P w) (2*j+12) fC f4 z13z (dC C TL TD nA j))(bC:ay K f4 z13z [])(m2:bY K C "chain_of" fC):aj P w K mg base (dD P w) (2*j+13) f fd z19z (nk C TL TD nA j):=by
 refine F.ok1 D0 ?_ λc5 A o2 s H vs Q E hr h=>?_
 ·rintro _ _ _ _ ⟨r,D,W,I,O,M,t,L,Cs,k,u,e,ys,ds,ns,X,rfl,_⟩;rfl
 obtain⟨r,D,W,I,O,M,t,L,Cs,k,u,e,ys,ds,ns,X,rfl,h4,J,h5,ht,hP,B,h0,hk,h1,q,t0⟩:=h;refine#[_,(je (jP$ si (pv 0) ck.cl m0 GT hr.m bT .nil kY)$ je (jw (kh$ jz$ pv 1) (jg$ jo$ jh$ ja jk$ ja (jz$ pv 1)$ ja (kO (pv 0) ck.cl m1 GI hr.m bI .nil bH$ ja (jz$ pv 1) jb) jb) jp)$ je (jw (kh$ jz$ pv 1) (jg$ jo$ jh$ ja jk$ ja (kO (pv 0) ck.cl m2 GC hr.m bC .nil kY$ ja (cP.e hr.m$ ja (zr (pv 0) Z)$ ja (jz$ pv 1) jb)$ ja (jz$ pv 1)$ ja (ke GD hr.m Z mD kD bD .nil kY$ ja (pv 2) jb) jb) jb) jp)$ je (jw (kh$ jz$ pv 1) (jg$ qQ (zF hr) (zr (pv 0) Z) (jz$ pv 1) (jz$ pv 1) Z) jp)$ jg$ jo$ pv 1),?_];have b0:=aF;refine ai λY n=>#[_,Z,r,D,_,Z,J.ins,Z,r,D,W,I,O,60,t,Z,J.ins,λlt=>n _ _ ?_,λge=>(t0.1.mono λH' kk=>λb o _ _ nx e=>kk b o nx e).nextK];clear n;have t1:ah H (af H r$ .ins C D$ gI W I O 60$ t+1):=λb X e=>by rw[ji$ jN e J.ins (by intro z;cases z)];exact e
 have R:Rn (af H r$ .ins C D$ gI W I O 60$ t+1) C r D W I O 60 (t+1) L Cs:=#[jc,by rw[ji J.rl.1.symm];exact J.lf,by rw[ji J.rl.2.symm];exact J.ce,J.iL,J.iC,J.cl];have k1:aH r I H (af H r$ .ins C D$ gI W I O 60$ t+1):=λb o n1 n2 e=>by rw[ji n1];exact e
 generalize af H r (.ins C D$ gI W I O 60$ t+1)=H1 at t1 R k1;have B:=B.mono t1;have lt':t+1<=60:=by omega
 have f5:∀(w:Sk) (X:List V) (S:Hp) (v:Addr),S v=none->em (af S v$ .tup X) w (.ref v) []->w.ok false->Er e w.wh->w.size=0->w.dep<=j->H1=S->Q (.ref v) (af S v$ .tup X):=λw X S v nv hw ok ft sz dp e2=>by subst e2;exact q w _ L _ hw ok ft dp (by rw[sz];exact R.same$ jd nv) RU RU$ k1.trans$ aH.of_same$ jd nv
 cases e with
 |ask ta T=>
  obtain⟨p,rfl,G⟩:=QS B;refine ai λY n=>(js G Z #[Z,_,Z,aO RW$ n _ _ ?_]);clear n;refine ai λY n=>(js G Z #[Z,_,Z,aO RW$ n _ _ ?_]);clear n;refine ai λY n=>(js G Z #[Z,_,Z,aO RW$ n _ _ ?_]);clear n;refine#[_,Z,q (.ask (if T.ev k=0 then 0 else 1)) _ L _ #[p,Z,G] trivial ?_ (Hg _) R (by show L.length<=t+1+0;omega) lt' k1];show(if T.ev k=0 then (0:Int) else 1)=0∨(if T.ev k=0 then (0:Int) else 1)=1;split
  ·exact .inl Z
  ·exact .inr Z
 |st p0 l=>
  obtain⟨vs,_,h6,o1,c0⟩:=h0;cases l with
  |gv ta T |st x ta T=>cases c0
  |rd x ta T=>obtain⟨p,rfl,G⟩:=QS B;refine ai λY n=>(js G Z #[Z,_,Z,bQ RW$ js G Z #[_,Z,r,D,_,Z,R.ins,Z,js G Z #[r,D,W,I,O,60,_,_,_,_,Z,R,dZ,λv nv=>?_]]]);exact f5 (.rd (T.ev k)$ look L (.inl$ T.ev k)$ look Cs (.inl$ T.ev k) 0) _ _ v nv #[v,Z,jc] trivial (JY R.iL$ JY R.iC JZ) Z (Hg _) Z
  |wr ta ub T U=>
   obtain⟨p,y,rfl,G,hy⟩:=uH B;rw[J3 hy]at G;refine ai λY n=>(js G Z #[Z,_,Z,aO RW$ n _ _ ?_]);clear n;refine ai λY n=>(js G Z #[Z,_,Z,aO RW$ n _ _ ?_]);clear n;refine ai λY n=>(js G Z #[Z,_,Z,bQ RW$ js G Z #[_,Z,r,C,D,_,_,Z,R.ins,ck.cl,ck.n3,Z,js G Z #[I,_,Z,mq.k (k:=.inl (T.ev k)) R.lf RU,n _ _ ?_]]]);clear n;have pl:=zP (kvs:=L) (k:=.inl (T.ev k)) (v:=.int (U.ev k));have t3:ah H1 (af H1 I$ .dK$ bq L (.inl$ T.ev k)$ .int$ U.ev k):=λb X e=>by rw[ji$ jN e R.lf (by intro z;cases z)];exact e
   refine#[_,Z,q (.wr (T.ev k)$ U.ev k) _ (bq L (.inl$ T.ev k)$ .int$ U.ev k) _ #[p,Z,t3 _ _ G] trivial trivial (Hg _) #[by rw[ji J.rl.1];exact R.ins,jc,by rw[ji J.cl];exact R.ce,R.iL.put _$ JD hk o1.2.1,R.iC,R.cl] (by show _<=t+1+0;omega) lt' λb o n1 n2 e=>?_];rw[ji n2];exact k1 b o n1 n2 e
  |cl x f q' ts=>
   obtain⟨p,y3,rfl,G,hy⟩:=Q8 B;obtain⟨y1,y4,rfl,e1,hy⟩:=zW hy;obtain⟨y2,y0,rfl,e2,hy⟩:=zW hy;have e3:y0=[]:=hy;subst e3;rw[Zj e1]at G;obtain⟨ag,a0,rfl,ha,N⟩:=J2 e2;have N:aS H1 (aC ((ts.map λc=>c.2.ev k).map aV)) .non a0:=by rw[LU];exact N
   rw[Kw N]at ha;obtain⟨i,d,hd,hn,rfl⟩:=hP.find h1;have P1:=hP.mono t1;obtain⟨v,hv,_,h2,h3⟩:=P1.at hd;refine ai λY n=>(js G Z #[Z,_,Z,aO RW$ n _ _ ?_]);clear n;refine ai λY n=>(js G Z #[Z,_,Z,bQ RW ?_]);clear n;refine#[_,Z,r,D,_,Z,R.ins,Z,_,Z,r,C,D,_,_,Z,R.ins,ck.cl,ck.n5,Z,js G Z #[O,d.f,X,i,v,Z,P1.at',hv,h2,h3,js G Z #[_,Z,(M:Int),Z,λdl=>?_,λdg=>(t0.2.mono λS kk=>λb o n1 n2 nx e=>kk b o nx (k1 b o n1 n2 e)).nextK]]];refine#[r,D,W,I,O,ag,M+1,t+1,i,L,Cs,v,d,ds,ns,X,ts.map λc=>c.2.ev k,Z,RU,RU,R,RU,lt',P1,hd,by rw[GQ];exact hn,hv,ha,λz hz=>?_,λu sk a L' S hc ok dp ia R2 l2 t2 k2=>?_,o0.next$ t0.mono λS kk=>λb o n1 n2 nx e=>kk b o n1 n2 nx (k1 b o n1 n2 e)]
   ·obtain⟨c,hc,rfl⟩:=List.mem_map.mp hz;exact JD hk (o1.2.2 c hc).1
   ·obtain⟨c,g,ee,ss,rfl,c1,c2,c3,c4⟩:=hc;refine#[bo,λv2 nv=>?_];have s2:ae S (af S v2$ .tup [.str "call",.ref c]):=jd nv;refine q (.cl d.f (ts.map λc=>c.2.ev k) sk a) _ L' _ #[v2,c,g,ee,ss,Z,jc,s2 _ _ c1,s2 _ _ c2,s2 _ _ c3,c4.mono$ ae.tm s2] ok ia (by show sk.dep+1<=j;omega) (R2.same s2) l2 t2 ((k1.trans k2).trans$ aH.of_same s2)
theorem yY:du (s++[x]) (-1)=some x:=by
 have l:(s++[x]).length=s.length+1:=by rw[GU];rfl
 unfold du mN;rw[l,Ho RU,Hm RU];have e:(-1+((s.length+1:Nat):Int)).toNat=s.length:=by omega
 show(s++[x])[(-1+((s.length+1:Nat):Int)).toNat]?=_;rw[e];simp
inductive FS(H:Hp)(nA:Addr)(d:Df)(u:V):Prop
 |give (p:Addr) (a:Int) (e:u= .ref p) (h:H p=some (.tup [.str "give",.int a])) (i:gp a)
 |go (p hv:Addr) (n:Nat) (c:Ct) (is:List Int) (e:u= .ref p) (h:H p=some (.tup [.str "go",.int (n:Int),.ref hv])) (h2:H hv=some (.tup (is.map V.int))) (hc:(b8 nA d)[n]?=some c) (hl:is.length=(canon c.M).length) (hi:∀i∈is,gp i)
theorem rC{H:Hp}(h:aS f (rB (eW N d) k g) u [])(j:GT k)(l:CN H Y d.b.cuts g):FS f N d u:=by
 cases g with
 |give t T=>obtain⟨p,e,h⟩:=QS h;exact .give p _ e h (JD j l.2.1)
 |nought=>obtain⟨p,e,h⟩:=QS h;exact .give p 0 e h JZ
 |go n=>
  obtain⟨p,y,e,h,q⟩:=uH h;obtain⟨a,X,rfl,m,c⟩:=J2 q;have r:n < (b8 N d).length:=by rw[Ze];exact l
  have o:(b8 N d)[n]?=some (b8 N d)[n]:=GN r;have c:aS f (aC (((eW N d n).map λx=>look k (.inr x) 0).map aV)) .non X:=by rw[LU];exact c
  rw[Kw c]at m;refine .go p a n _ _ e h m o (by rw[GQ,rJ o]) λi s=>?_;obtain⟨x,_,rfl⟩:=List.mem_map.mp s;exact JY j JZ
inductive CI(C r h g y B f E z:Addr)(a t j:Nat)(c:cq)(v:V)(d:Df)(H:Hp)(x:Nat)(G:_L.St)(e:Hp):Prop
 |mk(A:Option V)(u:V)(D:Sk)(F:List V)(L:cq)(i:G=[some (.ref r),some v,some (.ref f),some (.int (a:Int)),some (.ref E),some u,A])(k:e E=some (.lst F))(l:em e D .non F)(m:D.ok true)(n:D.dep+1<=j)(o:FS e z d u)(p:Rn e C r h g y B 60 (t+D.size) L c)(q:L.length<=t+D.size)(s:t+D.size<=60)(w:aH r y H e)(b:x+t+D.size=61)
theorem lM:ak ["self","part","args","deep","steps","goal","what"] z13z (aa wR):=bL
theorem AU(F:aJ K "chain_of" "BookRun.chain_of" wR f fd)(ck:RK K C)(cF:Cl P w K mg base 9 fF f2 ["part","args"] (fj nA) "first_of")(cD:Cl P w K mg base 9 fD f3 z12z (fi nA) "deed_at")(cO:Cl P w K mg base 9 fO f4 ["part","step"] (t6 nA) "onward")(GW:aj P w K mg base (dD P w) (2*j+13) fW f0 z19z (nk C TL TD nA j))(bW:ay K f0 z19z [])(m0:bY K C "what_of" fW)(m1:mg "tuple"=none):aj P w K mg base (dD P w) (2*j+14) f fd z13z (dC C TL TD nA$ j+1):=by
 refine F.ok1 lM ?_ λc0 A o2 s H vs Q E hr h=>?_
 ·rintro _ _ _ _ ⟨r,dx,cA,lA,pA,ag,G,t,i,L,Cs,v,d,ds,ns,xs,is,rfl,_⟩;rfl
 obtain⟨r,dx,cA,lA,pA,ag,G,t,i,L,Cs,v,d,ds,ns,xs,is,rfl,a6,_,hR,h7,ht,hP,hd,hn,hv,ha,h2,q,t2⟩:=h;refine#[_,(je (jx 4 lM.nd$ jE jb)$ je (jx 5 lM.nd$ cF.e hr.m$ ja (pv 1)$ ja (pv 2) jb)$ je (Xp PassesOwn.leaving (kh$ jz$ pv 5)$ je (jx 6 lM.nd$ kO (pv 0) ck.cl m0 GW hr.m bW .nil kY$ ja (cD.e hr.m$ ja (pv 1)$ ja (jz$ pv 5)$ ja (jz$ pv 5) jb)$ ja (pv 3) jb)$ je (jP$ ki PySem.F.plainAttrs_list PySem.F.slot_list_append PySem.F.type_list_append jM (pv 4)$ ja (jh$ ja (jz$ pv 5)$ ja (jz$ pv 5)$ ja (pv 6) jb) jb)$ jg$ jx 5 lM.nd$ cO.e hr.m$ ja (pv 1)$ ja (jr jq (pv 4) (Qn Jl jf) (λ_ _=>Z)) jb)$ jg$ jo$ jh$ ja (jz$ pv 1)$ ja (pv 2)$ ja (jG jF Z m1 boot_tuple$ ja (pv 4) jb)$ ja (jz$ pv 5) jb),?_];have b0:=aF;obtain⟨ys,O⟩:=hP.part hd hv;obtain⟨ps,h8,h',a1⟩:=hP.pa.2 i d _ hd hn;refine ai λF1 y=>#[ig,λS N=>y _ _ ?_];clear y;have s1:ae H (af H S$ .lst []):=jd N;have l1:af H S (.lst []) S=some (.lst []):=jc;generalize af H S (.lst [])=H1 at s1 l1 ⊢;obtain⟨wd,e1,h0⟩:=O.way;refine ai λF1 y=>#[_,Z,_,Z,v,ag,d,ys,ps,is,wd,Z,O.mono$ ae.tm s1,s1 _ _ h8,RU,s1 _ _ ha,h'.symm,h2,e1,h0.mono$ ae.tm s1,λu H2 hu s2=>y _ _ ?_];clear y;have S2:=s1.trans s2;have gz:GT (cV ps is):=Kl h2;have g0:=rC (H:=H) hu (qU h0.sets gz) h0.goal;have s0:S≠r:=Ne.symm (jm hR.ins N);have s3:S≠lA:=Ne.symm (jm hR.lf N);have s9:cA≠S:=jm hR.ce N;refine ai λF1 y=>?_;refine uK (CI C r dx cA lA pA ag S nA G t (j+1) Cs v d H) (61 - t) #[none,u,.nil,[],L,Z,s2 _ _ l1,Z,trivial,by show 0+1<=j+1;omega,g0,hR.same S2,h7,ht,aH.of_same S2,by show 61 - t+t+0=61;omega] ?_;intro kk σ H3 E' rt fE F kT cF.k Gq kq hW;obtain⟨o6,u,sk,D,L1,rfl,w1,w2,w3,w4,w5,w6,w7,w8,w9,a8⟩:=hW;have R:=hR.tm w9;have P3:=hP.mono R;cases w5 with
 |give p a e h5 ia=>subst e;refine kq$ js h5 Z #[Z,_,Z,?_];rw[show decide (V.str (Str.ofString "give")=V.str (Str.ofString "go"))=false by decide+kernel];refine cF.k _$ y _ _ ?_;obtain⟨pa,ca,wv,cs,e,h3,_⟩:=(O.mono R).parts;subst e;refine(js h3 Z #[_,Z,_,Z,S,D,Z,.inl #[aB.of w1,λl2 n0=>?_]]);have Y:ae H3 (af H3 l2$ .tup D):=jd n0;refine(js (Y _ _ h5) Z #[oW,λv2 nv=>?_]);have s5:=Y.trans (jd (o:=.tup [.str d.f,.ref ag,.ref l2,.int a]) nv);have S5:aH r lA H (af (af H3 l2$ .tup D) v2$ .tup [.str d.f,.ref ag,.ref l2,.int a]):=w9.trans (aH.of_same s5);exact q _ sk a L1 _ #[v2,ag,l2,D,Z,jc,hR.tm S5 _ _ ha,am jc nv,w2.mono$ ae.tm s5] w3 w4 ia (w6.same s5) w7 w8 S5
 |go p x n c hs e h5 h6 hc hl hi=>
  subst e;refine kq$ js h5 Z #[Z,_,Z,?_];rw[show decide (V.str (Str.ofString "go")=V.str (Str.ofString "go"))=true by decide+kernel];refine kT _ ?_;clear kT cF.k y;have U:=O.mono R;obtain⟨pa,ca,wv,cs,e3,h3,_,_,a2⟩:=U.parts;obtain⟨ka,na,wa,dv,a9,_,I⟩:=U.cut a2 hc;obtain⟨e,ed,d0,e2⟩:=De I.v.deed;have gk:GT (cV (canon c.M) hs):=Kl hi;refine ai λF1 y=>#[_,Z,r,dx,_,Z,w6.ins,Z,_,Z,js h5 Z$ js h5 Z #[v,n,x,d,ys,c,hs,e,Z,U,hc,h6,hl,hi,ed,d0,λud H4 a3 Y=>?_]];have t3:=R.trans (ae.tm Y);refine#[_,Z,r,dx,cA,lA,pA,G,t+sk.size,L1,Cs,cV (canon c.M) hs,ud,e,ys,ds,ns,xs,Z,RU,w6.same Y,w7,w8,hP.mono t3,a3,d0.mono$ ae.tm Y,gk,?_,λw uw L' W hw o1 ft d1 R5 l5 t5 k5=>y _ _ ?_,?_]
  ·cases e with
   |ask=>trivial
   |st p0 l=>cases l<;>first |trivial |exact hP.cs hd _ e2
  ·clear y;have K5:aH r lA H3 W:=(aH.of_same Y).trans k5;have t0:ah H3 W:=w6.tm K5;have g5:=t0 _ _ h5;have w0:W S=some (.lst D):=K5 _ _ s0 s3 w1;have l0:=X4 w3 w2;refine ai λF1 y=>#[_,Z,.inl #[Z,_,aB.of w0],js g5 Z$ js g5 Z #[_,Z,dZ,λB n3=>?_]];have s6:ae W (af W B$ .tup [.int (n:Int),.ref x,uw]):=jd n3;have e6:af W B (.tup [.int (n:Int),.ref x,uw]) B=some (.tup [.int (n:Int),.ref x,uw]):=jc;refine#[S,_,_,Z,Z,s6 _ _ w0,RU,y _ _ ?_];clear y;generalize af W B (.tup [.int (n:Int),.ref x,uw])=H6 at s6 e6;have b7:ar S H6 (af H6 S$ .lst$ D++[.ref B]):=λb o nb e=>by rw[ji nb];exact e
   have X:ah H6 (af H6 S$ .lst$ D++[.ref B]):=λb xs e=>b7 _ _ (jN e (s6 _ _ w0) (by intro z;cases z)) e;have w':af H6 S (.lst$ D++[.ref B]) S=some (.lst$ D++[.ref B]):=jc;generalize af H6 S (.lst$ D++[.ref B])=H7 at b7 X w';have J:ah W H7:=λb xs e=>X _ _ (s6 _ _ e);have g:ah H3 H7:=t0.trans J;have h1:w.wh.side < c.ws.length:=by
    rw[I.v.len,<- ed];cases e with
    |ask ta T=>show _ < 2;unfold Wh.side;split<;>(try split)<;>omega
    |st p0 l=>show _ < 1;cases w<;>first |exact Nat.one_pos |exact o1.elim | (cases l<;>exact ft.elim)
   obtain⟨a0,e0,h4⟩:=I.v.ways (c.ws[w.wh.side]) (List.getElem_mem _);have sv:lE H7 nA d ys v B n x uw c hs w.wh e a0:=#[U.mono g,X _ _ e6,hc,g _ _ h6,hl,hi,(FN o1 hw).mono J,ed,d0.mono g,ft,by rw[e0];exact List.getElem?_eq_getElem h1,h4.mono g];have a4:du (D++[V.ref B]) (-1)=some (.ref B):=yY;refine#[_,Z,_,Z,_,Z,S,_,_,_,Z,Z,aB.of w',a4,v,uw,B,x,n,d,ys,c,hs,w.wh,e,a0,Z,sv,λu2 H8 a5 s8=>?_];have t1:=ae.tm s8;have t4:=g.trans t1;have g1:=rC (H:=H7) a5 (qU sv.wdv.sets$ pi ft gk) sv.wdv.goal;have s7:=Kv (n:=(n:Int)) (hs:=hs) (w:=w) w3;have R7:Rn H7 C r dx cA lA pA 60 (t+sk.size+1+w.size) L' Cs:=#[b7 _ _ (Ne.symm s0)$ s6 _ _ R5.ins,b7 _ _ (Ne.symm s3)$ s6 _ _ R5.lf,b7 _ _ s9$ s6 _ _ R5.ce,R5.iL,R5.iC,R5.cl];have ez:t+sk.size+1+w.size=t+(Sk.put (n:Int) hs w sk).size:=by rw[s7];omega
   rw[ez]at R7 l5 t5;refine fE (kk - (w.size+1)) _ _ RU #[_,u2,Sk.put (n:Int) hs w sk,D++[.ref B],L',Z,s8 _ _ w',(sG (X _ _ e6) (g _ _ h6) (hw.mono J) w3$ w2.mono g).mono t1,Q6 o1 w3,?_,g1,R7.same s8,l5,t5,?_,by rw[s7];omega]
   ·have:=Q7 (n:=(n:Int)) (hs:=hs) (w:=w) (j:=j) d1 w3 RU;omega
   ·intro b o n1 n2 e;exact s8 _ _$ b7 _ _ (jm e N)$ s6 _ _$ K5 _ _ n1 n2$ w9 _ _ n1 n2 e
  ·exact o0.next$ t2.mono λW kk=>λb o n1 n2 nx e=>kk b o n1 n2 nx (Y _ _$ w9 _ _ n1 n2 e)
inductive oi(e c k:Addr)(n:List V)(H:Hp)(Q:VK)(E:XK):Prop
 |mk(m f g:Addr)(i:Nat)(b:cq)(d:Df)(h:List Df)(l:List Nat)(o:List V)(j:List Int)(_:n=[.ref m,.str d.f,.ref f,.ref g,.int 60])(_:Ps H k m h l o)(_:h[i]?=some d)(_:l[i]?=some j.length)(_:H f=some (.tup (j.map V.int)))(_:∀z∈j,gp z)(_:H g=some (.dK b))(_:GT b)(_:∀(u:V) (sk:Sk) (a:Int) (H':Hp),l7 H' d.f j sk a u->sk.ok true->sk.dep<=15->sk.size<=60->ae H H'->Q u H')(_:o0 E e c (Kp H))
theorem wC(h:aS H (eY n d) v []):∃p r,v= .ref p/\H p=some (.tup (.str d.f:: .ref d.pa::r)):=by obtain⟨_,a,x,rfl,b,_,_,c,y,rfl,⟨rfl,_⟩,_,_,e,Y,rfl,⟨rfl,_⟩,_⟩:=h;exact#[a,_,Z,b]
theorem AF:aj P w K mg base (dD P w) k f c z13z (dC C T b N 0):=by
 have n:∀{V H Q E},¬dC C T b N 0 V H Q E:=by rintro V H Q E ⟨r,e,g,l,p,j,D,t,i,L,m,v,d,q,u,x,I,_,_,z,_⟩;omega
 exact#[λV H Q E h=>(n h).elim,λA o s H a U V Q E y B F G h=>(n h).elim]
theorem C0(d:RK K C)(F:aJ K "chain_of" "BookRun.chain_of" wR k f)(B:ay K f z13z [])(m:bY K C "chain_of" k)(l:aJ K "what_of" "BookRun.what_of" wS D e)(o:ay K e z19z [])(M:bY K C "what_of" D)(p:Cl P w K mg base 9 Q E ["part","args"] (fj n) "first_of")(q:Cl P w K mg base 9 U H z12z (fi n) "deed_at")(r:Cl P w K mg base 9 Y I ["part","step"] (t6 n) "onward")(GT:aj P w K mg base (dD P w) 1 J g ["self"] (h9 C T))(s:ay K g ["self"] [])(a:bY K C "take_turn" J)(G:aj P w K mg base aA 1 L h ["self","cell"] (fo C))(t:ay K h ["self","cell"] [])(b:bY K C "number_in" L)(u:aj P w K mg base (dD P w) 1 v i ["deep"] (dS N))(x:ay K i ["deep"] [])(y:keepIn K (.ref v)=true)(z:mg "deeper"=some (.ref v))(A:Cl P w K mg base 2 fP O ["parts","f"] i9 "part_of")(c:mg "tuple"=none):∀j,aj P w K mg base (dD P w) (2*j+12) k f z13z (dC C T N n j)
 |0=>AF
 |j+1=>AU F d p q r (AX l d GT s a G t b u x y z A (C0 d F B m l o M p q r GT s a G t b u x y z A c j) B m) o M c
theorem yB:ak ["parts","f","args","cells","most","part"] z26z (aa BG):=bL
theorem A6(F:aJ K "run" "run" BG f fd)(ck:RK K C)(mk:Mk K C fI)(GI:aj P w K mg base aA 2 fI x z24z (i' C))(bI:ay K x z24z [])(mC:mg "BookRun"=some (.ref C))(cB:Cl P w K mg base 2 fB f0 ["ones","f","args"] gF "begun")(GA:aj P w K mg base (dD P w) 44 fA y z13z (dC C TL TD nA 16))(bA:ay K y z13z [])(M:bY K C "chain_of" fA):aj P w K mg base (dD P w) 45 f fd z26z (oi TL TD nA):=by
 refine F.ok1 yB ?_ λc0 A O s H vs Q E B h=>?_
 ·rintro _ _ _ _ ⟨g,G,j,i,I,d,ds,ns,X,is,rfl,_⟩;rfl
 obtain⟨g,G,j,i,I,d,ds,ns,X,is,rfl,t,J,hn,ha,L,k,R,q,T⟩:=h;refine#[_,(je (jx 5 yB.nd$ cB.e B.m$ ja (pv 0)$ ja (pv 1)$ ja (pv 2) jb)$ jg$ jo$ kO (YW mk GI B.m Z mC bI .nil bH$ ja (pv 0)$ ja (pv 3)$ ja (pv 4) jb) ck.cl M GA B.m bA .nil kY$ ja (pv 5)$ ja (pv 2)$ ja jf jb),?_];obtain⟨v,hv,tv,h0,U⟩:=t.at J;obtain⟨p,pr,rfl,hp⟩:=wC tv;obtain⟨ps,V,h1,_⟩:=t.pa.2 i d _ J hn;refine ai λF1 f1=>#[_,Z,_,Z,_,Z,g,G,d.f,X,_,i,.ref p,p,d.pa,pr,_,Z,t.at',hv,Z,hp,V,ha,by rw[GQ,GQ];omega,U,f1 _ _ ?_];clear f1;refine#[_,Z,_,Z,_,Z,λr D N nd ne=>?_];have s0:ae H (af (af H D$ .own r) r$ .ins C D []):=λc o e=>by rw[ji$ jm e N,ji$ jm e nd];exact e
 refine#[r,D,g,j,60,Z,jc,λl W=>#[Z,?_]];have Y:l≠r:=λe=>by rw[e,jc]at W;cases W
 have n:H l=none:=by
  cases z:H l with
  |none=>rfl
  |some o=>have:=s0 _ _ z;rw[W]at this;cases this
 have S:ae H (af (af (af (af H D$ .own r) r$ .ins C D []) l$ .dK []) r$ .ins C D$ gI j l g 60 0):=λc o e=>by rw[ji$ jm e N,ji$ jm e n];exact s0 _ _ e
 have R1:Rn (af (af (af (af H D$ .own r) r$ .ins C D []) l$ .dK []) r$ .ins C D$ gI j l g 60 0) C r D j l g 60 0 [] I:=#[jc,by rw[ji Y];exact jc,S _ _ k,GT.nil,R,jm k n];generalize af (af (af (af H D$ .own r) r$ .ins C D []) l$ .dK []) r (.ins C D$ gI j l g 60 0)=H1 at S R1;have t0:=ae.tm S;refine#[r,D,_,Z,R1.ins,Z,_,Z,_,Z,r,D,j,l,g,G,0,0,i,[],I,.ref p,d,ds,ns,X,is,Z,Z,RT,R1,GV _,RT,t.mono t0,J,hn,hv,S _ _ ha,L,λu sk a L' H2 hc ok dp ia R2 l2 t2 k2=>?_,o0.next$ T.mono λH' kk=>λb o nx e=>kk b o (jm e N) (jm e n) nx (S _ _ e)];exact q u sk a H2 hc ok RU RU λc o e=>k2 c o (jm e N) (jm e n) (S _ _ e)
noncomputable abbrev mP:Stmt:=bM 69
noncomputable abbrev wX:Stmt:=bM 71
noncomputable abbrev oN:Stmt:=bM 72
noncomputable abbrev BD:Stmt:=bM 73
inductive gG(b:List V)(H:Hp)(Q:VK)(a:XK):Prop
 |mk(p:Addr)(_:b=[.ref p])(_:ao H p)(_:∀(l:Addr) (C:cq) (H':Hp),H l=none->H' l=some (.dK C)->GT C->C.length<=13->ao H' p->ar p H H'->Q (.ref l) H')
inductive CL(p l:Addr)(H:Hp)(i:Nat)(k:_L.St)(a:Hp):Prop
 |mk(h j:Option V)(C:cq)(b:k=[some (.ref p),some (.ref l),h,j])(c:a l=some (.dK C))(d:GT C)(e:C.length<=i)(f:ao a p)(g:ar p H a)
theorem wM(a:cq)(k:bJ)(v:V):(bq a k v).length<=a.length+1:=zP
structure Gb(H:Hp)(p g sp:Addr)(ys:List Str):Prop where
 B:ao H p
 g:H g=some (.lst$ ys.map V.str)
 y1:1<=ys.length
 y2:ys.length<=20
 s:cf H sp
theorem Gb.gsp{H:Hp}{p g S:Addr}{y:List Str}(G:Gb H p g S y):g≠S:=by
 obtain⟨k,e⟩:=G.s;refine jN G.g e λz=>?_;injection z with z;have h:=G.y1
 match y,h,z with
 |a::r,_,z=>injection z with b _;cases b
theorem Gb.but2{H h:Hp}{p g S:Addr}{y:List Str}(G:Gb H p g S y)(B:ao h p)(s:cf h S)(k:aH p S H h):Gb h p g S y:=#[B,k _ _ (zu G.B G.g) G.gsp G.g,G.y1,G.y2,s]
theorem Gb.but{H h:Hp}{p g S:Addr}{y:List Str}(G:Gb H p g S y)(B:ao h p)(k:ar p H h):Gb h p g S y:=G.but2 B (G.s.but G.B k) k.two
theorem Gb.same{H h:Hp}{p g S:Addr}{y:List Str}(G:Gb H p g S y)(s:ae H h):Gb h p g S y:=G.but2 (G.B.same s) (let #[k,e]:=G.s;#[k,s _ _ e]) (aH.of_same s)
inductive tY(n:Nat)(c:List V)(H:Hp)(Q:VK)(a:XK):Prop
 |mk(p g b:Addr)(d:Nat)(e:List Str)(_:c=[.ref p,.ref g,.int (d:Int),.ref b])(_:Gb H p g b e)(_:d < n)(_:0 < cr H b)(_:cr H b<=60)(_:∀(w:Sk) (u:V) (H':Hp),em H' w u []->w.ok false->w.dep<=d->(w.size:Int)+1+cr H' b=cr H b->0<=cr H' b->ao H' p->cf H' b->aH p b H H'->Q u H')
inductive gr(n:Nat)(e:List V)(H:Hp)(Q:VK)(b:XK):Prop
 |mk(p g c:Addr)(d:Nat)(h:List Str)(_:e=[.ref p,.ref g,.int (d:Int),.ref c])(_:Gb H p g c h)(_:d < n)(_:0<=cr H c)(_:cr H c<=60)(_:∀(f:Str) (is:List Int) (s:Sk) (a:Int) (u:V) (H':Hp),l7 H' f is s a u->s.ok true->s.dep<=d->(s.size:Int)+cr H' c=cr H c->0<=cr H' c->ao H' p->cf H' c->aH p c H H'->Q u H')
inductive oe(c:List V)(H:Hp)(Q:VK)(b:XK):Prop
 |mk(p:Addr)(_:c=[.ref p])(_:ao H p)(_:∀(f:Str) (is:List Int) (s:Sk) (a:Int) (u:V) (H':Hp),l7 H' f is s a u->s.ok true->s.dep<=15->s.size<=60->ao H' p->ar p H H'->Q u H')
inductive LI(p g x w c:Addr)(d:Nat)(f:Str)(t:List Int)(H:Hp)(i:Nat)(z:_L.St)(b:Hp):Prop
 |mk(u v:Option V)(s:Sk)(y:List V)(e:z=[some (.ref p),some (.ref g),some (.int (d:Int)),some (.ref x),u,some (.ref c),some (.ref w),some (.str f),v])(h:b w=some (.lst y))(j:em b s .non y)(k:s.ok true)(l:s.dep<=d)(m:(s.size:Int)+cr b x=cr H x)(n:0<=cr b x)(o:ao b p)(q:cf b x)(r:aH p x H b)(a:b c=some (.tup (t.map V.int)))
theorem fc:ak ["_law_box_here","_law_cells_here","_law_k","_law_cell"] z1z (aa mP):=bL
theorem rN(F:aJ K "_law_cells" "_law_cells" mP f fd)(r:Cl P w K mg base 1 fT f0 z0z aL "_law_take")(cU:Cl P w K mg base 2 fU f2 z1z eG "_law_number")(mr:mg "range"=none):aj P w K mg base aA 3 f fd z1z gG:=by
 refine F.ok fc ?_ λc0 A O s H vs Q E g h=>?_
 ·rintro _ _ _ _ ⟨p,rfl,_⟩;rfl
 obtain⟨p,rfl,B,q⟩:=h;refine#[_,(je (jx 1 fc.nd Kq)$ je (j9 HM Z (j7 Z mr$ ja (r.e g.m$ ja (pv 0)$ ja jf jb) jb) (ju (i:=2) fc.nd Z$ Or.inl Z)$ je (jx 3 fc.nd$ r.e g.m$ ja (pv 0)$ ja jf jb)$ je (jw (kJ$ r.e g.m$ ja (pv 0)$ ja jf jb) (jg$ jx 3 fc.nd$ jv kM (jv kM (jv Kf jf jf) jf)$ r.e g.m$ ja (pv 0)$ ja jf jb) jp)$ jg$ qQ (zF g) (pv 1) (pv 3) (cU.e g.m$ ja (pv 0) jb) Z)$ jg$ jo$ pv 1),?_];have b0:=aF;have t0:=uA;refine ai λt a=>λl N=>a _ _ ?_;clear a;have S:ae H (af H l$ .dK []):=jd N;have I:af H l (.dK []) l=some (.dK []):=jc;generalize af H l (.dK [])=H1 at S I;have L:l≠p:=B.ne N;have B1:=B.same S;refine ai λt a=>dN λJ j=>#[_,Z,p,14,Z,B1,RT,RT,λd H2 d0 d1 B2 M=>#[_,Z,RU,RU,j _ _ ?_]];clear j;refine zE (lo:=0) (CL p l H) #[none,none,[],Z,by rw[M l L];exact I,_K.GT.nil,GV _,B2,(ar.of_same S).trans$ ar.of_eq M] ?_ (λσ H' h=>a _ _ ?_)
 ·clear a;intro E0 _ i σ H3 hi fE Gq o h;obtain⟨o2,o3,C,rfl,x,G,lC,y,D⟩:=h;refine o ?_;clear o;show gj (dU _ _) _ E0 _ _;refine ai λt a=>#[_,Z,p,14,Z,y,RT,RT,λc4 H4 d2 d3 B4 R=>a _ _ ?_];clear a;refine ai λt a=>?_;have c:∀(u:Int) (v:Hp),ao v p->(∀b,b≠p->v b=H3 b)->t [some$ .ref p,some$ .ref l,some$ .int (0+(i:Int)),some$ .int u] v:=λu v BH T=>a _ _ (by
   refine#[_,Z,p,Z,BH,λm H7 m0 m1 B7 U=>?_];have h7:H7 l=some (.dK C):=by rw[U l L,T l L];exact x
   have pl:=wM C (.inl u) (.int m);exact#[_,Z,_,Z,l,_,Z,mq.k (k:=.inl u) h7 RU,fE _ _ #[_,_,_,Z,jc,G.put _ #[m0,m1],RU,B7.eq$ ji$ HI L,(D.trans ((ar.of_eq T).trans$ ar.of_eq U)).upd_own N]])
  refine rf λG1 yT yF=>#[_,Z,p,8,Z,B4,RT,RT,λd5 H5 d4 d7 W X=>#[Z,_,Z,?_]];by_cases Y:d5=0
  ·rw[Y,Hl (Z:V.int 0=V.int 0)];refine yT _ #[_,_,Z,Z,#[RT,RT,RT],_,_,Z,Z,_,Z,p,4,Z,W,RT,RT,λd6 H6 d8 d9 B6 e6=>#[_,_,Z,Z,c _ H6 B6 λb n=>(e6 b n).trans ((X b n).trans$ R b n)]]
  ·rw[G8 (λz=>Y (by injection z))];exact yF _$ c _ H5 W λb n=>(X b n).trans (R b n)
 ·obtain⟨o2,o3,C,rfl,x,G,lC,y,D⟩:=h;exact#[_,Z,q l C H' N x G RU y D]
theorem yz:ak ["_law_box_here","_law_names_here","_law_deep","_law_spare","_law_kind"] z8z (aa wX):=bL
theorem A2(F:aJ K "_law_what" "_law_what" wX f fd)(cT:Cl P w K mg base 1 fT f0 z0z aL "_law_take")(cN:Cl P w K mg base 2 fN f2 z1z eG "_law_number")(cC:Cl P w K mg base (2*n+4) fC f3 z8z (gr n) "_law_chain"):aj P w K mg base aA (2*n+5) f fd z8z (tY$ n+1):=by
 refine F.ok yz ?_ λc2 A o1 s H vs Q E I h=>?_
 ·rintro _ _ _ _ ⟨p,g,S,d,ys,rfl,_⟩;rfl
 obtain⟨p,g,S,d,ys,rfl,W,hd,h0,h5,q⟩:=h;refine#[_,(je (jx 4 yz.nd$ cT.e I.m$ ja (pv 0)$ ja jf jb)$ je (kW (jv kM (jr jq (pv 3) jf (λ_ _=>Z)) jf)$ qh (pv 3) jf zf)$ je (jw (kJ$ pv 4) (jg$ jo$ jh$ ja jk$ ja (cT.e I.m$ ja (pv 0)$ ja jf jb) jb) jp)$ je (jw (PW.pt$ Qm (kJ$ pv 4)$ Jj$ PW.pt$ Jk (kJ$ pv 4)$ qu$ PW.pt$ Qm (kJ$ pv 2)$ Jj$ jA qL (jr jq (pv 3) jf (λ_ _=>Z)) jf$ aE _) (jg$ jo$ jh$ ja jk$ ja (cT.e I.m$ ja (pv 0)$ ja jf jb)$ ja (cN.e I.m$ ja (pv 0) jb) jb) jp)$ je (jw (jA qL (pv 4) jf$ aE _) (jg$ jo$ jh$ ja jk$ ja (cT.e I.m$ ja (pv 0)$ ja jf jb)$ ja (cN.e I.m$ ja (pv 0) jb) jb) jp)$ jg$ jo$ jh$ ja jk$ ja (cC.e I.m$ ja (pv 0)$ ja (pv 1)$ ja (jv kM (pv 2) jf)$ ja (pv 3) jb) jb),?_];have b0:=aF;refine ai λt b=>#[_,Z,p,5,Z,W.B,RT,RT,λd1 X d0 d2 B1 q1=>b _ _ ?_];clear b;have G1:=W.but B1 (ar.of_eq q1);obtain⟨k,hk⟩:=G1.s;have ek:cr H S=k:=(jT W.B W.s$ ar.of_eq q1).symm.trans (zK hk);refine ai λt b=>#[_,Z,S,_,_,_,Z,Z,aB.of hk,Z,_,_,Z,Z,_,Z,S,_,_,0,Z,Z,hk,Z,b _ _ ?_];clear b;have s1:=G1.s.ne B1;have B3:ao (af X S$ .lst ([.int k].set 0 (.int$ k - 1))) p:=B1.eq (ji$ HI s1);have l:af X S (.lst ([.int k].set 0 (.int$ k - 1))) S=some (.lst [.int$ k - 1]):=jc;have K3:aH p S H (af X S$ .lst ([.int k].set 0 (.int$ k - 1))):=(ar.of_eq q1).two.trans aH.at;have G:=W.but2 B3 #[k - 1,l] K3;have e3:cr (af X S$ .lst ([.int k].set 0 (.int$ k - 1))) S=k - 1:=zK l;generalize af X S (.lst ([.int k].set 0 (.int$ k - 1)))=H3 at B3 l K3 G e3;have r:∀(w:Sk) (xs:List V) (i:Hp) (v:Addr),ao i p->ar p H3 i->i v=none->em (af i v$ .tup xs) w (.ref v) []->w.ok false->w.dep=0->w.size=0->Q (.ref v) (af i v$ .tup xs):=λw xs i v j Y N hw ok dp sz=>by have G4:=G.but j Y;have x1:=jX G4.s (jd (o:=.tup xs) N);have x2:=jT G.B G.s Y;exact q w _ _ hw ok RU (by rw[x1,x2,e3,ek,sz];show(0:Int)+1+_=_;omega) RU (j.upd_new N) (G4.s.new N) ((K3.trans Y.two).trans$ aH.of_same$ jd N)
 by_cases c0:d1=0
 ·exact ai λt b=>#[_,Z,Z,_,Z,bQ (Hl (by rw[c0])) #[_,Z,p,2,Z,G.B,RT,RT,λD i x y j C=>#[bo,λv N=>r (.ask D) _ _ v j (ar.of_eq C) N #[v,Z,jc] trivial Z Z]]]
 refine ai λt b=>#[_,Z,Z,_,Z,aO (G8 λz=>c0 (by injection z))$ b _ _ ?_];clear b;by_cases c1:d1=1
 ·exact ai λt b=>#[_,Z,Z,_,Z,bQ (Hl (by rw[c1]))$ oB #[_,Z,p,6,Z,G.B,RT,RT,λD i x y j C=>#[_,Z,p,Z,j,λJ H5 L M O R=>#[dZ,λv N=>r (.wr D J) _ _ v O ((ar.of_eq C).trans$ ar.of_eq R) N #[v,Z,jc] trivial Z Z]]]]
 by_cases c4:d1=4
 ·by_cases cd:(d:Int)=0
  ·exact ai λt b=>#[_,Z,Z,_,Z,aO (G8 λz=>c1 (by injection z)) #[_,Z,Z,_,Z,bQ (Hl (by rw[c4])) #[_,Z,Z,_,Z,bQ (Hl (by rw[cd]))$ oB #[_,Z,p,6,Z,G.B,RT,RT,λD i x y j C=>#[_,Z,p,Z,j,λJ H5 L M O R=>#[dZ,λv N=>r (.wr D J) _ _ v O ((ar.of_eq C).trans$ ar.of_eq R) N #[v,Z,jc] trivial Z Z]]]]]]
  by_cases ck:k - 1 < 1
  ·exact ai λt b=>#[_,Z,Z,_,Z,aO (G8 λz=>c1 (by injection z)) #[_,Z,Z,_,Z,bQ (Hl (by rw[c4])) #[_,Z,Z,_,Z,aO (G8 λz=>cd (by injection z)) #[_,Z,S,_,_,_,Z,Z,aB.of l,Z,_,_,Z,Z,_,Z,bQ (Hl ck) #[_,Z,p,6,Z,G.B,RT,RT,λD i x y j C=>#[_,Z,p,Z,j,λJ H5 L M O R=>#[dZ,λv N=>r (.wr D J) _ _ v O ((ar.of_eq C).trans$ ar.of_eq R) N #[v,Z,jc] trivial Z Z]]]]]]]
  refine ai λt b=>#[_,Z,Z,_,Z,aO (G8 λz=>c1 (by injection z)) #[_,Z,Z,_,Z,bQ (Hl (by rw[c4])) #[_,Z,Z,_,Z,aO (G8 λz=>cd (by injection z)) #[_,Z,S,_,_,_,Z,Z,aB.of l,Z,_,_,Z,Z,_,Z,aO (G8 ck)$ b _ _ ?_]]]];clear b;refine ai λt b=>#[_,Z,_,_,Z,Z,_,Z,aO (G8 RU)$ b _ _ ?_];clear b;obtain⟨T,rfl⟩:∃T,d=T+1:=#[d - 1,RU];have ed:(((T+1:Nat):Int) - 1)=((T:Nat):Int):=by omega
  refine#[_,Z,_,Z,_,Z,_,_,Z,Z,_,Z,p,g,S,T,ys,(by show [V.ref p,V.ref g,V.int (((T+1:Nat):Int) - 1),V.ref S]=_;rw[ed]),G,RU,RU,RU,λf is s a u i hc ok dp sz s0 j s4 Y=>#[bo,λv N=>?_]];obtain⟨c,g',e,ss,rfl,h1,h2,h3,h4⟩:=hc;have U:ae i (af i v$ .tup [.str "call",.ref c]):=jd N;have x1:=jX s4 U;exact q (.cl f is s a) _ _ #[v,c,g',e,ss,Z,jc,U _ _ h1,U _ _ h2,U _ _ h3,h4.mono$ ae.tm U] ok (by show s.dep+1<=_;omega) (by rw[x1];show(s.size:Int)+1+_=_;omega) (by rw[x1];exact s0) (j.upd_new N) (s4.new N) ((K3.trans Y).trans$ aH.of_same U)
 ·refine ai λt b=>#[_,Z,Z,_,Z,aO (G8 λz=>c1 (by injection z)) #[_,Z,Z,_,Z,aO (G8 λz=>c4 (by injection z))$ oA$ b _ _ ?_]];clear b;exact ai λt b=>#[_,Z,_,_,Z,Z,_,Z,bQ (Hl RU) #[_,Z,p,6,Z,G.B,RT,RT,λD i x y j C=>#[_,Z,p,Z,j,λJ H5 L M O R=>#[dZ,λv N=>r (.rd D J) _ _ v O ((ar.of_eq C).trans$ ar.of_eq R) N #[v,Z,jc] trivial Z Z]]]]
theorem iD:ak z34z z8z (aa oN):=bL
noncomputable def oR:Scope:=#[.function,[(".0",.local),("_law_k",.local),("_law_number",.globalImplicit),("_law_box_here",.free)],false,false,[]]
theorem AC:(["_law_k","_law_box_here"]:List Str).Nodup:=by decide+kernel
theorem Ab:aZ z34z (aa oN) oR ["_law_k","_law_box_here"] 1 [0]:=nC
noncomputable def oU:Scope:=#[.function,[(".0",.local),("_law_j",.local),("_law_number",.globalImplicit),("_law_box_here",.free)],false,false,[]]
theorem AD:(["_law_j","_law_box_here"]:List Str).Nodup:=by decide+kernel
theorem Ac:aZ z34z (aa oN) oU ["_law_j","_law_box_here"] 1 [0]:=nC
theorem A1(F:aJ K "_law_chain" "_law_chain" oN f fd)(cT:Cl P w K mg base 1 fT f0 z0z aL "_law_take")(cN:Cl P w K mg base 2 fN f2 z1z eG "_law_number")(cW:Cl P w K mg base (2*n+3) fW f3 z8z (tY n) "_law_what")(ml:mg "len"=none)(mr:mg "range"=none)(m0:mg "tuple"=none):aj P w K mg base aA (2*n+4) f fd z8z (gr n):=by
 refine F.ok iD ?_ λc0 A o1 s H vs Q E U h=>?_
 ·rintro _ _ _ _ ⟨p,g,x,d,ys,rfl,_⟩;rfl
 obtain⟨p,g,x,d,ys,rfl,G0,hd,h4,h7,q⟩:=h;refine#[_,(je (jx 5 iD.nd$ jG jF Z m0 IE$ ja (@kE _ _ _ _ _ _ _ (["_law_k","_law_box_here"]) (1) ([0]) _ _ _ _ Z (j7 Z mr$ ja (cT.e U.m$ ja (pv 0)$ ja jf jb) jb) Ab (λ_ _ _ _ _=>(ju (i:=0) AC Z$ Or.inl Z)) (λ_ _ _ _ _=>(@zi _)) (λ_ _ _ _ _=>(cN.e U.m$ ja (pv 1) jb)) (by intro _;rfl)) jb)$ je (jx 6 iD.nd$ jE jb)$ je (jx 7 iD.nd$ jr jq (pv 1) (cT.e U.m$ ja (pv 0)$ ja (jI jD Z ml HR$ ja (pv 1) jb) jb) (λ_ _=>Z))$ je (j9 HM Z (j7 Z mr$ ja (cT.e U.m$ ja (pv 0)$ ja jf jb) jb) (ju (i:=4) iD.nd Z$ Or.inl Z)$ jg$ jw (jA qM (jr jq (pv 3) jf (λ_ _=>Z)) jf$ aE _) (je (jx 8 iD.nd$ jG jF Z m0 IE$ ja (@kE _ _ _ _ _ _ _ (["_law_j","_law_box_here"]) (1) ([0]) _ _ _ _ Z (j7 Z mr$ ja (cT.e U.m$ ja (pv 0)$ ja jf jb) jb) Ac (λ_ _ _ _ _=>(ju (i:=0) AD Z$ Or.inl Z)) (λ_ _ _ _ _=>(@zi _)) (λ_ _ _ _ _=>(cN.e U.m$ ja (pv 1) jb)) (by intro _;rfl)) jb)$ jg$ jP$ ki Hj Hz Hw jM (pv 6)$ ja (jh$ ja (cT.e U.m$ ja (pv 0)$ ja jf jb)$ ja (pv 8)$ ja (cW.e U.m$ ja (pv 0)$ ja (pv 1)$ ja (pv 2)$ ja (pv 3) jb) jb) jb) jp)$ jg$ jo$ jh$ ja (pv 7)$ ja (pv 5)$ ja (jG jF Z m0 IE$ ja (pv 6) jb)$ ja (cN.e U.m$ ja (pv 0) jb) jb),?_];have b0:=aF;have k7:=h4;refine ai λF1 y=>#[_,Z,p,3,Z,G0.B,RT,RT,λd1 H1 d' D B1 q1=>#[_,Z,RU,RU,?_]];refine qp (lo:=0) (n:=(d1).toNat) (λi X Y=>(∃I:List Int,X=I.map V.int/\I.length=i)/\ao Y p/\ar p H1 Y) #[#[[],Z,Z],B1,ar.refl] RU (λi X Y h=>by obtain⟨⟨I,e,l⟩,_⟩:=h;rw[e,GQ,l];exact GV _) (λi X Y hi h=>?_) ?_
 ·exact#[_,Z,p,Z,h.2.1,λe H7 e0 e1 B7 e7=>#[let #[I,h1,l]:=h.1;#[I++[e],by rw[h1,Hs];rfl,by rw[GU,l];rfl],B7,h.2.2.trans$ ar.of_eq e7]]
 rintro X H2 ⟨⟨I,rfl,_⟩,B2,k2⟩ l1 n4;refine#[l1,_,Z,.inl #[aB.of jc,λag n5=>y _ _ ?_]];clear y;have s3:ae H2 (af (af H2 l1$ .lst$ I.map V.int) ag$ .tup$ I.map V.int):=(jd n4).trans (jd n5);have a3:af (af H2 l1$ .lst$ I.map V.int) ag (.tup$ I.map V.int) ag=some (.tup$ I.map V.int):=jc;generalize af (af H2 l1$ .lst$ I.map V.int) ag (.tup$ I.map V.int)=H3 at s3 a3;have k3:ar p H H3:=((ar.of_eq q1).trans k2).trans (ar.of_same s3);have G3:=G0.but (B2.same s3) k3;refine ai λF1 y=>#[ig,λS n0=>y _ _ ?_];clear y;have s4:ae H3 (af H3 S$ .lst []):=jd n0;have l4:af H3 S (.lst []) S=some (.lst []):=jc;generalize af H3 S (.lst [])=H4 at s4 l4;have G4:=G3.same s4;have h0:(((ys.map V.str).length:Nat):Int)=(ys.length:Int):=by rw[GQ]
 have h8:=G0.y1;have h':=G0.y2;refine ai λF1 y=>#[_,Z,_,Z,_,Z,g,_,Z,.inl$ aB.of G4.g,p,_,Z,G4.B,by rw[h0];omega,by rw[h0];omega,λd5 H5 d2 d0 B5 q5=>?_];have k5:ar p H4 H5:=ar.of_eq q5;have G5:=G4.but B5 k5;rw[h0]at d0;obtain⟨f,hf,h5⟩:=Jn (ys:=ys) d2 d0;refine#[g,_,_,_,Z,Z,aB.of G5.g,h5,y _ _ ?_];clear y;have C:S≠p:=(B2.same s3).ne n0;have n3:H S=none:=by
  cases z:H S with
  |none=>rfl
  |some o=>have:=k3 _ _ C z;rw[n0]at this;cases this
 have N:S≠x:=HI (by obtain⟨k,e⟩:=G3.s;exact jm e n0);have a5:H5 ag=some (.tup$ I.map V.int):=k5 _ _ (by intro z;have:=s4 _ _ a3;rw[z]at this;obtain⟨_,_,_,_,_,hp⟩:=G4.B.ob;rw[hp]at this;cases this) (s4 _ _ a3);have l5:=k5 _ _ C l4;have K5:ar p H H5:=k3.trans ((ar.of_same s4).trans k5);have e5:cr H5 x=cr H x:=jT G0.B G0.s K5;refine ai λF1 y=>dN λJ j=>#[_,Z,p,9,Z,B5,RT,RT,λd6 H6 a9 a' B6 q6=>#[_,Z,RU,RU,j _ _ ?_]];clear j;have k6:ar p H5 H6:=ar.of_eq q6;have e6:cr H6 x=cr H x:=(jT B5 G5.s k6).trans e5;have G6:=G5.but B6 k6;refine zE (lo:=0) (LI p g x S ag d f I H) #[none,none,.nil,[],Z,k6 _ _ C l5,Z,trivial,Hg _,by show(0:Int)+_=_;omega,RU,B6,G6.s,(K5.trans k6).two,k6.tm B5 _ _ a5] ?_ (λσ H' h=>y _ _ ?_)
 ·intro E _ i σ H7 hi fE Gq kq h;clear y;obtain⟨o4,o8,s,M,rfl,w1,w2,w3,w4,w5,w6,W,w8,w9,wa⟩:=h;refine kq ?_;clear kq;have G7:=G0.but2 W w8 w9;obtain⟨k,hk⟩:=w8;have ek:=zK hk;have l3:=X4 w3 w2;refine#[_,Z,x,_,_,_,Z,Z,aB.of hk,Z,_,_,Z,Z,_,Z,?_];by_cases c:(0:Int) < k
  ·refine bQ (Hl c) ?_;refine ai λF1 y=>#[_,Z,p,3,Z,W,RT,RT,λd8 H8 b1 b2 B8 q8=>#[_,Z,RU,RU,?_]];refine qp (lo:=0) (n:=(d8).toNat) (λi X Y=>(∃I:List Int,X=I.map V.int/\I.length=i)/\ao Y p/\ar p H8 Y) #[#[[],Z,Z],B8,ar.refl] RU (λi X Y h=>by obtain⟨⟨I,e,l⟩,_⟩:=h;rw[e,GQ,l];exact GV _) (λi X Y hi h=>?_) ?_
   ·exact#[_,Z,p,Z,h.2.1,λe H7 e0 e1 B7 e7=>#[let #[I,h1,l]:=h.1;#[I++[e],by rw[h1,Hs];rfl,by rw[GU,l];rfl],B7,h.2.2.trans$ ar.of_eq e7]]
   rintro X O ⟨⟨hs,rfl,_⟩,B9,k9⟩ l9 n7;refine#[l9,_,Z,.inl #[aB.of jc,λhv n'=>y _ _ ?_]];clear y;have s1:ae O (af (af O l9$ .lst$ hs.map V.int) hv$ .tup$ hs.map V.int):=(jd n7).trans (jd n');have a1:af (af O l9$ .lst$ hs.map V.int) hv (.tup$ hs.map V.int) hv=some (.tup$ hs.map V.int):=jc;generalize af (af O l9$ .lst$ hs.map V.int) hv (.tup$ hs.map V.int)=a2 at s1 a1;have k0:ar p H7 a2:=((ar.of_eq q8).trans k9).trans (ar.of_same s1);have G1:=G7.but (B9.same s1) k0;have a4:=k0 _ _ C w1;refine#[_,Z,.inl #[Z,_,aB.of a4],_,Z,p,9,Z,G1.B,RT,RT,λD a0 d4 d7 B3 q0=>?_];have k1:ar p a2 a0:=ar.of_eq q0;have G2:=G1.but B3 k1;have K2:ar p H7 a0:=k0.trans k1;have x1:cr a0 x=cr H7 x:=jT W G7.s K2;refine#[_,Z,_,Z,_,Z,_,Z,_,Z,p,g,x,d,ys,Z,G2,hd,RU,RU,λw u r hw o2 d3 s9 s6 B4 s0 k4=>#[dZ,λR a6=>?_]];have K1:aH p x H7 r:=K2.two.trans k4;have w0:=K1 _ _ C N w1;have t1:ah H7 r:=K1.tm W #[k,hk];have h6:r hv=some (.tup$ hs.map V.int):=k4.tm G2.B G2.s _ _ (k1.tm G1.B _ _ a1);have t:ae r (af r R$ .tup [.int D,.ref hv,u]):=jd a6;have e2:af r R (.tup [.int D,.ref hv,u]) R=some (.tup [.int D,.ref hv,u]):=jc;refine#[S,_,_,Z,Z,t _ _ w0,RU,fE _ _ ?_];generalize af r R (.tup [.int D,.ref hv,u])=G at t e2;have L:ar S G (af G S$ .lst$ M++[.ref R]):=λb o nb e=>by rw[ji nb];exact e
   have T:ah G (af G S$ .lst$ M++[.ref R]):=λb xs e=>L _ _ (jN e (t _ _ w0) (by intro z;cases z)) e;have w':af G S (.lst$ M++[.ref R]) S=some (.lst$ M++[.ref R]):=jc;generalize af G S (.lst$ M++[.ref R])=H0 at L T w';have t0:ah r H0:=λb xs e=>T _ _ (t _ _ e);have t2:ah H7 H0:=t1.trans t0;have s2:cf H0 x:=let #[z,e]:=s0;#[z,L _ _ (HI N)$ t _ _ e]
   have x0:cr H0 x=cr r x:=QO s0 λo e=>L _ _ (HI N) (t _ _ e);have s7:=Kv (n:=D) (hs:=hs) (w:=w) w3;refine#[_,_,Sk.put D hs w s,M++[.ref R],Z,w',sG (T _ _ e2) (t0 _ _ h6) (hw.mono t0) w3$ w2.mono t2,Q6 o2 w3,Q7 d3 w3 w4,by rw[s7,x0];omega,by rw[x0];exact s6,?_,s2,?_,t2 _ _ wa]
   ·obtain⟨a,b,h1,h2,h3,h⟩:=B4.ob;exact#[a,b,h1,h2,h3,L _ _ (HI C)$ t _ _ h]
   ·intro b o n1 n2 e;exact L _ _ (jm e n3)$ t _ _$ K1 _ _ n1 n2$ w9 _ _ n1 n2 e
  ·exact aO (G8 c)$ fE _ _ #[_,_,s,M,Z,w1,w2,w3,w4,w5,w6,W,#[k,hk],w9,wa]
 ·obtain⟨o4,o8,s,M,rfl,w1,w2,w3,w4,w5,w6,W,w8,w9,wa⟩:=h;refine#[_,Z,_,Z,_,Z,S,M,Z,.inl #[aB.of w1,λl2 a8=>?_]];have s8:ae H' (af H' l2$ .tup M):=jd a8;refine#[_,Z,p,Z,W.same s8,λd9 O b3 b4 B9 q9=>#[oW,λv nv=>?_]];have k9:ar p H' O:=(ar.of_same s8).trans (ar.of_eq q9);have t9:ah H' O:=k9.tm W;have sv:ae O (af O v$ .tup [.str f,.ref ag,.ref l2,.int d9]):=jd nv;have tv:ah H' (af O v$ .tup [.str f,.ref ag,.ref l2,.int d9]):=t9.trans (ae.tm sv);have l0:O l2=some (.tup M):=(ar.of_eq q9).tm (W.same s8) _ _ jc;have x9:=jT W w8 k9;have s5:=w8.but W k9;have xv:=jX s5 sv;exact q f I s d9 _ _ #[v,ag,l2,M,Z,jc,tv _ _ wa,sv _ _ l0,w2.mono tv] w3 w4 (by rw[xv,x9];exact w5) (by rw[xv,x9];exact w6) (B9.upd_new nv) (s5.new nv) (w9.trans$ k9.two.trans$ aH.of_same sv)
theorem oJ(h:0<=d)(H:d < 3):∃m:Nat,du [V.int 2,.int 4,.int 15] d=some (.int (m:Int))/\m<=15:=by
 rcases(by omega:d=0∨d=1∨d=2) with rfl |rfl |rfl
 ·exact#[2,Z,RT]
 ·exact#[4,Z,RT]
 ·exact#[15,Z,RT]
theorem oK(h:0<=d)(H:d < 3):∃m:Int,du [V.int 12,.int 30,.int 60] d=some (.int m)/\0<=m/\m<=60:=by
 rcases(by omega:d=0∨d=1∨d=2) with rfl |rfl |rfl
 ·exact#[12,Z,RT,RT]
 ·exact#[30,Z,RT,RT]
 ·exact#[60,Z,RT,RT]
theorem AG:aj P w K mg base aA k f b z8z (gr 0):=by
 have n:∀v H Q E,¬gr 0 v H Q E:=λv H Q E h=>by obtain⟨p,g,S,d,y,_,_,z,_⟩:=h;omega
 exact#[λv H Q E h=>absurd h (n v H Q E),λA o s H a u v Q E _ _ _ _ h=>absurd h (n v H Q E)]
theorem Du(F:aJ K "_law_chain" "_law_chain" oN d f)(B:ay K f z8z [])(M:mg "_law_chain"=some (.ref d))(a:aJ K "_law_what" "_law_what" wX k b)(e:ay K b z8z [])(g:mg "_law_what"=some (.ref k))(c:Cl P w K mg base 1 p l z0z aL "_law_take")(C:Cl P w K mg base 2 q o z1z eG "_law_number")(i:mg "len"=none)(j:mg "range"=none)(m:mg "tuple"=none):∀n,aj P w K mg base aA (2*n+4) d f z8z (gr n)
 |0=>AG
 |n+1=>by have h:=Du F B M a e g c C i j m n;have H:=A2 a c C #[h,B,F.kp,M];exact A1 F c C #[H,e,a.kp,g] i j m
theorem tJ:ak z9z z1z (aa BD):=bL
theorem A0(F:aJ K "_law_book" "_law_book" BD f fd)(U:Cl P w K mg base 1 fT f0 z0z aL "_law_take")(cA:Cl P w K mg base 2 fA f2 z20z dY "_law_names")(cC:Cl P w K mg base 36 fC f3 z8z (gr 16) "_law_chain"):aj P w K mg base aA 37 f fd z1z oe:=by
 refine F.ok tJ ?_ λc0 A O s H vs Q E t h=>?_
 ·rintro _ _ _ _ ⟨p,rfl,_⟩;rfl
 obtain⟨p,rfl,hB,q⟩:=h;refine#[_,(je (jx 1 tJ.nd$ cA.e t.m$ ja (pv 0)$ ja jf jb)$ je (jx 2 tJ.nd$ jr jq (jE$ ja jf$ ja jf$ ja jf jb) (U.e t.m$ ja (pv 0)$ ja jf jb) (λ_ _=>Z))$ jg$ jo$ cC.e t.m$ ja (pv 0)$ ja (pv 1)$ ja (pv 2)$ ja (jE$ ja (jr jq (jE$ ja jf$ ja jf$ ja jf jb) (U.e t.m$ ja (pv 0)$ ja jf jb) (λ_ _=>Z)) jb) jb),?_];have b0:=aF;refine ai λF1 i=>#[_,Z,p,14,Z,hB,RT,RT,λg Y H1 ng W hl h0 B X=>i _ _ ?_];clear i;refine ai λF1 i=>#[dZ,λl v=>#[_,Z,p,3,Z,B.upd_new v,RT,RT,λd2 H2 D x y q2=>?_]];obtain⟨m,C,m1⟩:=oJ D x;have G:ar p H1 H2:=(ar.refl.upd_new v).trans (ar.of_eq q2);refine#[l,_,_,_,Z,Z,aB.of (by rw[q2 l$ B.ne v];exact jc),C,i _ _ ?_];clear i;have j:=G _ _ (zu B W) W;refine#[_,Z,_,Z,_,Z,dZ,λl3 c=>#[_,Z,p,3,Z,y.upd_new c,RT,RT,λd4 d I J B4 q4=>?_]];obtain⟨M,k,m0,m6⟩:=oK I J;have L:ar p H2 d:=(ar.refl.upd_new c).trans (ar.of_eq q4);refine#[l3,_,_,_,Z,Z,aB.of (by rw[q4 l3$ y.ne c];exact jc),k,gH,λS N=>?_];have R:=L _ _ (zu y j) j;have k5:ar p d (af d S$ .lst [.int M]):=ar.refl.upd_new N;have G5:Gb (af d S$ .lst [.int M]) p g S Y:=#[B4.upd_new N,am R N,RU,RU,M,jc];have e5:cr (af d S$ .lst [.int M]) S=M:=zK jc;have K5:ar p H (af d S$ .lst [.int M]):=(X.trans G).trans (L.trans k5);have T:S≠p:=B4.ne N;have r:H S=none:=by
  cases z:H S with
  |none=>rfl
  |some o=>have:=(X.trans G).trans L _ _ T z;rw[N]at this;cases this
 generalize af d S (.lst [.int M])=H5 at G5 e5 K5;refine#[p,g,S,m,Y,Z,G5,RU,RU,RU,λf is s a u H6 hc ok dp sz s0 B6 s6 k6=>q f is s a u H6 hc ok RU RU B6 λb o n e=>k6 _ _ n (jm e r) (K5 _ _ n e)]
noncomputable abbrev xk:Stmt:=bM 8
noncomputable abbrev xo:Stmt:=bM 9
abbrev aI:=List Int
abbrev gK:=Int×List Int×Sk
abbrev RA(a:Type):=Hp->V->a->Prop
def df{a:Type}(R:RA a)(H:Hp):List a->List V->Prop
 | [],v=>v=[]
 |w::W,v=>∃x r,v=x::r/\R H x w/\df R H W r
def CW{a:Type}(R:RA a):Prop:=∀(H h:Hp) (x:V) (w:a),ah H h->R H x w->R h x w
section
variable {α:Type}{R:RA α}
theorem df.mono(a:CW R)(k:ah H b):∀{W:List α} {v:List V},df R H W v->df R b W v
 | [],_,h=>h
 |_::_,_,z=>by obtain⟨x,r,e,c,d⟩:=z;exact #[x,r,e,a _ _ _ _ k c,df.mono a k d]
theorem df.app(a:df R H b y):∀{W:List α} {v:List V},df R H W v->df R H (W++b) (v++y)
 | [],_,h=>by have e:_=[]:=h;rw[e];exact a
 |_::_,_,z=>by obtain⟨x,r,e,c,d⟩:=z;exact #[x,r++y,by rw[e];rfl,c,df.app a d]
theorem df.len:∀{W:List α} {v:List V},df R H W v->v.length=W.length
 | [],_,h=>by have e:_=[]:=h;rw[e];rfl
 |_::_,_,z=>by obtain⟨x,r,e,b,a⟩:=z;rw[e];exact Iq (·+1) (df.len a)
theorem df.at:∀{W:List α} {v:List V},df R H W v->∀{i:Nat} {x:V},v[i]?=some x->∃w,W[i]?=some w/\R H x w
 | [],_,h,i,x,a=>by have e:_=[]:=h;rw[e]at a;simp at a
 |w::_,_,q,0,x,a=>by obtain⟨y,r,e,b,c⟩:=q;rw[e]at a;cases a;exact#[w,Z,b]
 |w::W,_,q,i+1,x,a=>by obtain⟨y,r,e,b,c⟩:=q;rw[e]at a;exact df.at c (i:=i) (by simpa using a)
theorem df.one{w:α}(h:R H x w):df R H [w] [x]:=#[x,[],Z,h,Z]
end
def CA:RA aI:=λH x p=>∃a,x= .ref a/\H a=some (.tup$ p.map V.int)
theorem nG:CW CA:=λ_ _ _ _ k #[a,e,h]=>#[a,e,k _ _ h]
def CB:RA (aI×Sk):=λH x w=>∃q p u,x= .ref q/\H q=some (.tup [.ref p,u])/\H p=some (.tup$ w.1.map V.int)/\em H w.2 u []
theorem lH:CW CB:=λ_ _ _ _ k #[q,p,u,e,h,H,a]=>#[q,p,u,e,k _ _ h,k _ _ H,a.mono k]
noncomputable def Sk.steps:Sk->List gK
 | .st n h w r=>(n,h,w)::r.steps
 |_=>[]
noncomputable def Sk.ws:Sk->aI->Nat->List (aI×Sk)
 | .st _ _ w r,p,k=>((p++[(k:Int)],w)::w.ws (p++[(k:Int)]) 0)++r.ws p (k+1)
 | .cl _ _ s _,p,_=>s.ws p 0
 |_,_,_=>[]
noncomputable def mn:List gK->aI->Nat->List (aI×Sk)
 | [],_,_=>[]
 |s::r,p,k=>((p++[(k:Int)],s.2.2)::s.2.2.ws (p++[(k:Int)]) 0)++mn r p (k+1)
theorem QT:∀{s:Sk},s.ok true->∀p k,s.ws p k=mn s.steps p k
 | .nil,_,_,_=>rfl
 | .st _ _ w r,o,p,k=>by show _++r.ws p (k+1)=_++mn r.steps p (k+1);rw[QT o.2]
theorem J4:∀(a b:List gK) (p:aI) (k:Nat),mn (a++b) p k=mn a p k++mn b p (k+a.length)
 | [],_,_,_=>rfl
 |s::a,b,p,k=>by show _++mn (a++b) p (k+1)=(_++mn a p (k+1))++mn b p (k+(a.length+1));rw[J4 a b,Lc,show k+1+a.length=k+(a.length+1) by omega]
theorem Km:∀{b:Bool} {s:Sk},s.ok b->∀(p:aI) (k:Nat),(s.ws p k).length=s.size
 |true,.nil,_,_,_=>rfl
 |true,.st _ _ w r,o,p,k=>by have h:=Km (b:=false) (s:=w) o.1 (p++[(k:Int)]) 0;have H:=Km (b:=true) (s:=r) o.2 p (k+1);show(((p++[(k:Int)],w)::w.ws (p++[(k:Int)]) 0)++r.ws p (k+1)).length=w.size+r.size+1;rw[GU,Hv,h,H];omega
 |false,.cl _ _ s _,o,p,_=>Km (b:=true) (s:=s) o p 0
 |false,.ask _,_,_,_=>rfl
 |false,.rd _ _,_,_,_=>rfl
 |false,.wr _ _,_,_,_=>rfl
theorem Cn(a:List gK)(i:Nat)(p:aI)(k:Nat):(mn (a.take i) p k).length<=(mn a p k).length:=by have:=Iq List.length (J4 (a.take i) (a.drop i) p k);rw[Ln,GU]at this;omega
theorem QU:∀{s:Sk} {S:List V},s.ok true->em H s .non S->∀{i:Nat} {x:V},S[i]?=some x->∃n b w p h u,s.steps[i]?=some (n,b,w)/\w.ok false/\w.dep<=s.dep/\w.size+1<=s.size/\x= .ref p/\H p=some (.tup [.int n,.ref h,u])/\H h=some (.tup$ b.map V.int)/\em H w u []
 | .nil,_,_,e,i,x,a=>by have e:_=[]:=e;rw[e]at a;simp at a
 | .st n b w r,_,o,q,0,x,a=>by obtain⟨p,h,u,y,e,d,f,g,j⟩:=q;rw[e]at a;cases a;exact#[n,b,w,p,h,u,Z,o.1,Mg _ _,by show w.size+1<=w.size+r.size+1;omega,Z,d,f,g]
 | .st n b w r,_,o,q,i+1,x,a=>by obtain⟨p,h,u,y,e,d,f,g,j⟩:=q;rw[e]at a;obtain⟨N,c,W,k,l,U,t,T,m,z,v⟩:=QU o.2 j (i:=i) (x:=x) (by simpa using a);exact#[N,c,W,k,l,U,t,T,Hh m$ L9 _ _,by show W.size+1<=w.size+r.size+1;omega,v]
theorem qv:∀{s:Sk} {S:List V},s.ok true->em H s .non S->S.length=s.steps.length
 | .nil,_,_,e=>by have e:_=[]:=e;rw[e];rfl
 | .st n b w r,_,o,z=>by obtain⟨p,h,u,y,e,c,d,f,a⟩:=z;rw[e];exact Iq (·+1) (qv o.2 a)
theorem y7(p:aI)(k:Nat):p.map V.int++[V.int (k:Int)]=(p++[(k:Int)]).map V.int:=by rw[Hs];rfl
inductive ue(n:Nat)(d:List V)(H:Hp)(Q:VK)(a:XK):Prop
 |mk(b:Addr)(c:aI)(w:Sk)(u:V)(_:d=[.ref b,u])(_:H b=some (.tup (c.map V.int)))(_:c.length+n<=100)(_:em H w u [])(_:w.ok false)(_:w.dep < n)(_:w.size<=1000)(_:∀(r:Addr) (xs:List V) (H':Hp),H r=none->H' r=some (.lst xs)->df CB H' ((c,w)::w.ws c 0) xs->ae H H'->Q (.ref r) H')
inductive gu(n:Nat)(g:List V)(H:Hp)(Q:VK)(b:XK):Prop
 |mk(d:Addr)(e:aI)(f:Str)(c:List Int)(s:Sk)(a:Int)(u:V)(_:g=[.ref d,u])(_:H d=some (.tup (e.map V.int)))(_:e.length+n+1<=100)(_:l7 H f c s a u)(_:s.ok true)(_:s.dep < n)(_:s.size<=1000)(_:∀(r:Addr) (xs:List V) (H':Hp),H r=none->H' r=some (.lst xs)->df CB H' (s.ws e 0) xs->ae H H'->Q (.ref r) H')
inductive Ga(h k:Addr)(j:aI)(u:V)(s:Sk)(H:Hp)(i:Nat)(m:_L.St)(a:Hp):Prop
 |mk(f g:Option V)(l:List V)(b:m=[some (.ref h),some u,some (.ref k),f,g])(c:a k=some (.lst l))(d:df CB a (mn (s.steps.take i) j 0) l)(e:ae H a)
noncomputable def Bu(p:aI)(w:Sk):List aI:=p::(w.ws p 0).map (·.1)
theorem yE:ak ["path","what","within"] ["path","what"] (aa xk):=bL
theorem Be(F:aJ K "whats_at" "whats_at" xk f fd)(cI:Cl P w K mg base (2*n+2) fI f0 ["path","chain"] (gu n) "whats_in"):aj P w K mg base aA (2*n+3) f fd ["path","what"] (ue$ n+1):=by
 refine F.ok yE ?_ λc0 A O s H vs Q E hr h=>?_
 ·rintro _ _ _ _ ⟨j,v,w,u,rfl,_⟩;rfl
 obtain⟨j,v,w,u,rfl,U,h0,D,k,W,hz,q⟩:=h;refine#[_,(je (jx 2 yE.nd$ ze (kh$ jz$ pv 1) (cI.e hr.m$ ja (pv 0)$ ja (jz$ pv 1) jb)$ jE jb)$ jg$ jo$ jv zI (jE$ ja (jh$ ja (pv 0)$ ja (pv 1) jb) jb)$ pv 2),?_];have b0:=aF;have fl:=Km k v 0;refine ai λF1 G=>?_;suffices X:∀(l:Addr) (x:List V) (d:Hp),d l=some (.lst x)->df CB d (w.ws v 0) x->ae H d->F1 [some$ .ref j,some u,some$ .ref l] d by
  clear G;cases w with
  |nil |st=>exact k.elim
  |ask b |rd c i |wr c i=>obtain⟨p,rfl,y⟩:=D;exact(js y Z #[Z,_,Z,aO RW #[ig,λl Y=>X l [] _ jc Z (jd Y)]])
  |cl f is s a=>obtain⟨p,c,g,e,ss,rfl,y,h2,h3,h4,h5⟩:=D;have W:s.dep+1 < n+1:=W;exact(js y Z #[Z,_,Z,bQ RW #[_,Z,js y Z #[j,v,f,is,s,a,.ref c,Z,U,RU,#[c,g,e,ss,Z,h2,h3,h4,h5],k,RU,hz,λl x d Y I B S=>X l x d I B S]]])
 intro l x d I B S;refine G _ _ ?_;clear G;have lx:=B.len;refine#[_,Z,_,Z,bo,λt J=>#[gH,λL N=>#[_,Z,L,l,_,_,Z,Z,jc,am (am I J) N,by show 1+x.length<=_;omega,λr M=>?_]]];have C:ae d (af (af (af d t$ .tup [.ref j,u]) L$ .lst [.ref t]) r$ .lst ([.ref t]++x)):=((jd J).trans$ jd N).trans (jd M);have ht:af (af (af d t$ .tup [.ref j,u]) L$ .lst [.ref t]) r (.lst ([.ref t]++x)) t=some (.tup [.ref j,u]):=am (am jc N) M;have R:H r=none:=by
  cases z:H r with
  |none=>rfl
  |some o=>have:=((jd (o:=.lst [.ref t]) N) _ _ ((jd (o:=.tup [.ref j,u]) J) _ _ (S _ _ z)));rw[M]at this;cases this
 exact q r _ _ R jc #[.ref t,x,Z,#[t,j,u,Z,ht,C _ _$ S _ _ U,D.mono$ ae.tm$ S.trans C],B.mono lH$ ae.tm C] (S.trans C)
theorem nY:ak ["path","chain","told","number","step"] ["path","chain"] (aa xo):=bL
theorem Bf(F:aJ K "whats_in" "whats_in" xo f fd)(cA:Cl P w K mg base (2*n+1) fA f2 ["path","what"] (ue n) "whats_at")(U:mg "enumerate"=none):aj P w K mg base aA (2*n+2) f fd ["path","chain"] (gu n):=by
 refine F.ok nY ?_ λc0 A V s H vs Q E Y h=>?_
 ·rintro _ _ _ _ ⟨pa,k,f,is,s,a,u,rfl,_⟩;rfl
 obtain⟨pa,k,f,is,s,a,u,rfl,hp,h6,hc,d,hd,hz,q⟩:=h;refine#[_,(je (jx 2 nY.nd$ jE jb)$ je (j9 HM Z (Xx Z U$ ja (jz$ pv 1) jb) (kU (n:=2) Z$ jy (ju (i:=3) nY.nd Z$ Or.inl Z)$ jy (ju (i:=4) nY.nd Z$ Or.inl Z) j5)$ jg$ jP$ ki Hj Lz Ly Jw (pv 2)$ ja (cA.e Y.m$ ja (jv jV (pv 0)$ jh$ ja (pv 3) jb)$ ja (jz$ pv 4) jb) jb)$ jg$ jo$ pv 2),?_];have b0:=aF;obtain⟨c,g,e,ss,rfl,h1,h2,h3,h4⟩:=hc;have fl:=Km d k 0;rw[QT d]at fl;have lt:=qv d h4;refine ai λF1 v=>#[ig,λT N=>v _ _ ?_];clear v;have s1:ae H (af H T$ .lst []):=jd N;refine ai λF1 v=>dN λJ j=>(js (s1 _ _ h1) Z #[e,Z,#[_,ax.of$ s1 _ _ h3],j _ _ ?_]);clear j;refine KJ (K:=K) (xs:=ss) (Ga pa T k (.ref c) s H) #[none,none,[],Z,jc,Z,s1] (λi σ Hx _ h=>?_) ?_ (λσ Hx h=>v _ _ ?_)
 ·obtain⟨_,_,_,_,_,_,y⟩:=h;exact ax.of$ y _ _ h3
 ·intro E hE i x B σ O hx np f0 Gq l h;clear v;obtain⟨o3,o4,xs,rfl,R,W,y⟩:=h;have C:ae O (af O B$ .tup [.int i,x]):=jd np;have e8:af O B (.tup [.int i,x]) B=some (.tup [.int i,x]):=jc;refine l ?_;clear l;generalize af O B (.tup [.int i,x])=H8 at C e8 ⊢;have S8:=y.trans C;obtain⟨n1,D,w,p,hh,u,ht,o1,d0,s2,rfl,h0,h7,hw⟩:=QU d (h4.mono$ ae.tm S8) hx;refine#[B,_,Z,ax.of e8,Z,_,_,Z,_,_,Z,Z,?_];refine#[_,Z,.inl #[Z,_,aB.of$ C _ _ R],_,Z,_,Z,gH,λt nt=>#[pa,t,_,_,Z,Z,am (S8 _ _ hp) nt,jc,by rw[GQ];show _+1<=_;omega,λr9 H9 e9 s9=>?_]];have S9:=(jd (o:=.tup [.int i]) nt).trans s9;rw[y7]at e9;refine(js (S9 _ _ h0) Z #[r9,_,w,u,Z,e9,by rw[GU];show _+1+_<=_;omega,hw.mono$ ae.tm S9,o1,RU,RU,λr X G nr Y I s0=>?_]);have S:=S9.trans s0;have L:=S _ _ (C _ _ R);have lx:=W.len;have l0:=I.len;have bl:=Cn s.steps (i+1) k 0;have h5:i < s.steps.length:=(List.getElem?_eq_some_iff.mp ht).1;have et:s.steps.take (i+1)=s.steps.take i++[(n1,D,w)]:=by rw[ID,ht];rfl
  have eb:mn [(n1,D,w)] k (0+(s.steps.take i).length)=(k++[(i:Int)],w)::w.ws (k++[(i:Int)]) 0:=by rw[HF,La$ Ld h5,MK];show(_::_)++[]=_;rw[Md]
  rw[fl,et,J4,eb]at bl;rw[GU]at bl;have M:ah G (af G T$ .lst$ xs++X):=λb ys e=>by rw[ji$ jN e L (by intro z;cases z)];exact e
  refine#[T,r,_,_,Z,Z,L,Y,RU,f0 _ _ #[_,_,xs++X,Z,jc,?_,λb o e=>?_]]
  ·rw[et,J4,eb];exact(I.mono lH M).app ((W.mono lH$ ae.tm$ C.trans S).mono lH M)
  ·rw[ji$ jm e N];exact S _ _$ S8 _ _ e
 ·obtain⟨o3,o4,xs,rfl,R,W,y⟩:=h;rw[lt,HY,<- QT d]at W;exact#[_,Z,q T xs Hx N R W y]
theorem AO:aj P w K mg base aA k f c ["path","chain"] (gu 0):=by
 have n:∀v H Q E,¬gu 0 v H Q E:=λv H Q E h=>by obtain⟨p,d,f,i,s,a,u,_,_,_,_,_,z,_⟩:=h;omega
 exact#[λv H Q E h=>absurd h (n v H Q E),λA o s H b U v Q E _ _ _ _ h=>absurd h (n v H Q E)]
theorem Ep(F:aJ K "whats_at" "whats_at" xk g a)(B:ay K a ["path","what"] [])(M:mg "whats_at"=some (.ref g))(b:aJ K "whats_in" "whats_in" xo c f)(d:ay K f ["path","chain"] [])(e:mg "whats_in"=some (.ref c))(m:mg "enumerate"=none):∀n,aj P w K mg base aA (2*n+2) c f ["path","chain"] (gu n)
 |0=>AO
 |n+1=>by have h:=Ep F B M b d e m n;have H:=Be F #[h,d,b.kp,e];exact Bf b #[H,B,F.kp,M] m
noncomputable abbrev BJ:Stmt:=bM 10
inductive oj(d:List V)(H:Hp)(Q:VK)(b:XK):Prop
 |mk(f:Str)(c:List Int)(s:Sk)(a:Int)(u:V)(_:d=[u])(_:l7 H f c s a u)(_:s.ok true)(_:s.dep<=15)(_:s.size<=60)(_:∀(r:Addr) (xs:List V) (H':Hp),H r=none->H' r=some (.lst xs)->df CB H' (s.ws [] 0) xs->ae H H'->Q (.ref r) H')
theorem D4:ak ["chain"] ["chain"] (aa BJ):=bL
theorem Bg(F:aJ K "whats" "whats" BJ f j)(C:Cl P w K mg base 34 M l ["path","chain"] (gu 16) "whats_in"):aj P w K mg base aA 35 f j ["chain"] oj:=by
 refine F.ok D4 ?_ λp A O s H V Q E b h=>?_
 ·rintro _ _ _ _ ⟨f,i,s,a,u,rfl,_⟩;rfl
 obtain⟨f,i,s,a,u,rfl,v,d,T,U,q⟩:=h;refine#[_,(jg$ jo$ C.e b.m$ ja (jh jb)$ ja (pv 0) jb),?_];refine#[ig,λt n=>#[_,Z,t,[],f,i,s,a,u,Z,jc,by show 0+16+1<=100;decide,?_,d,RU,RU,λr x y N b B S=>q r x y (by cases z:H r with |none=>rfl |some o=>rw[am z n]at N;cases N) b B ((jd n).trans S)]];obtain⟨c,g,e,D,rfl,G,I,J,L⟩:=v;exact#[c,g,e,D,Z,am G n,am I n,am J n,L.mono$ ae.tm$ jd n]
noncomputable abbrev xf:Stmt:=bM 11
noncomputable def aG:Sk->aI->Option gK
 |_,[]=>none
 |s,i::r=>if 0<=i then (match s.steps[i.toNat]? with
  |none=>none
  |some st=>match r with
   | []=>some st
   |_::_=>match st.2.2 with
    | .cl _ _ S _=>aG S r
    |_=>none) else none
theorem zo(h:¬0<=i):aG s (i::r)=none:=by unfold aG;rw[Ho h]
theorem kP{s:Sk}{i:Int}(h:s.steps[i.toNat]?=none):aG s (i::r)=none:=by
 unfold aG;by_cases z:0<=i
 ·rw[Hm z,h]
 ·rw[Ho z]
theorem qW{s:Sk}{st:gK}(H:0<=i)(h:s.steps[i.toNat]?=some st):aG s [i]=some st:=by unfold aG;rw[Hm H,h]
theorem zV{s:Sk}(H:0<=i)(h:s.steps[i.toNat]?=some (n,c,.cl f I b a)):aG s (i::j::r)=aG b (j::r):=by
 conv=>lhs;unfold aG
 rw[Hm H,h]
theorem Js{s:Sk}{w:Sk}(H:0<=i)(h:s.steps[i.toNat]?=some (n,c,w))(b:∀f I S a,w≠ .cl f I S a):aG s (i::j::r)=none:=by
 unfold aG;rw[Hm H,h];cases w with
 |cl f I S a=>exact absurd Z (b f I S a)
 |_=>rfl
theorem mG{w:V}:du (v::u::w::y) 2=some w:=jQ (j:=2) Z
theorem pI(x:V)(X:List V):aD (x::X) (some 1) none=X:=by unfold aD HT.sIx;simp
theorem QK:∀l:List Int,(l.map V.int).all cp=true
 | []=>rfl
 |_::l=>QK l
theorem pP(x:V)(X:List V):mK (x::X) []=false:=by unfold mK;simp
inductive hX(b:Addr)(n:Nat)(g:List V)(H:Hp)(Q:VK)(E:XK):Prop
 |mk(f:Str)(c:List Int)(s:Sk)(a:Int)(u:V)(d:Addr)(e:aI)(_:g=[u,.ref d])(_:l7 H f c s a u)(_:s.ok true)(_:s.size<=60)(_:H d=some (.tup (e.map V.int)))(_:e.length < n)(_:∀(k:Int) (hs:List Int) (w:Sk) (p h:Addr) (v:V) (H':Hp),aG s e=some (k,hs,w)->H' p=some (.tup [.int k,.ref h,v])->H' h=some (.tup (hs.map V.int))->em H' w v []->w.ok false->w.size<=60->ae H H'->Q (.ref p) H')(_:aG s e=none->Fl E b (Kp H))
theorem yC:ak ["chain","path","step"] z5z (aa xf):=bL
theorem A8(F:aJ K "step_at" "step_at" xf f fd)(X:XM K mg "NoStep" M)(ml:mg "len"=none)(GS:aj P w K mg base (dD P w) n fS f0 z5z (hX M n))(bS:ay K f0 z5z [])(kS:keepIn K (.ref fS)=true)(mS:mg "step_at"=some (.ref fS)):aj P w K mg base (dD P w) (n+1) f fd z5z (hX M$ n+1):=by
 refine F.ok1 yC ?_ λc0 A o1 s H vs Q E hr h=>?_
 ·rintro _ _ _ _ ⟨f,is,s,a,u,R,ps,rfl,_⟩;rfl
 obtain⟨f,is,s,a,u,R,ps,rfl,hc,U,hz,t,B,q,y⟩:=h;refine#[_,(je (jw (PW.pt$ Qm (jA (sd$ Mq$ zF hr) (pv 1) (jh jb)$ aE _)$ Jj$ Bt$ @sD _ _ _ _ _ _ _ _ _ _ _ _ yu qL jf (jz$ pv 1) (jI jD Z ml HR$ ja (jz$ pv 0) jb) (by with_unfolding_all rfl)) (jg$ @ql _ _ _ _ _ Z zR$ @zQ _ _ _ _ _ X.ex X.kp Z X.m RT) jp)$ je (jx 2 yC.nd$ jr jR (jz$ pv 0) (jz$ pv 1) (λ_ _=>Z))$ je (jw (kJ$ jI jD Z ml HR$ ja (pv 1) jb) (jg$ jo$ pv 2) jp)$ je (jw (jA YK (jz$ jr jR (pv 2) jf (λ_ _=>Z)) jk$ aE _) (jg$ @ql _ _ _ _ _ Z zR$ @zQ _ _ _ _ _ X.ex X.kp Z X.m RT) jp)$ jg$ jo$ ke GS hr.m Z mS kS bS .nil kY$ ja (jz$ jr jR (pv 2) jf (λ_ _=>Z))$ ja (jJ zj (pv 1) (jH jf) j3) jb),?_];have b0:=aF;obtain⟨c,g,e,ss,rfl,h1,h2,h3,h4⟩:=id hc;have ls:=qv U h4;cases ps with
 |nil=>exact ai λW l=>#[_,Z,ig,λY N=>#[R,Y,[],[],Z,Z,ax.of$ am t N,ax.of jc,Z,Z,_,Z,bQ Z$ bQ Z λx I=>#[x,M,none,Z,jc,X.xc,X.ty,λT J=>y Z () _ (Kp.of_same ((jd N).trans$ zg I J))]]]
 |cons i r=>
  have t:H R=some (.tup (.int i::r.map V.int)):=t;have B:r.length+1 < n+1:=B;refine ai λW l=>#[_,Z,ig,λY N=>#[R,Y,_,[],Z,Z,ax.of$ am t N,ax.of jc,QK (i::r),Z,_,Z,aO (pP _ _) ?_]];have S:ae H (af H Y$ .tup []):=jd N;generalize af H Y (.tup [])=H1 at S ⊢;have d:=S _ _ t;refine(js d dH #[_,_,Z,Z,_,Z,?_]);by_cases G:(0:Int)<=i
  ·obtain⟨m,rfl⟩:∃m:Nat,i=m:=#[i.toNat,(M7 G).symm];refine bQ (Hl G)$ js (S _ _ h1) mG #[e,_,Z,.inr$ ax.of$ S _ _ h3,_,_,Z,Z,_,Z,?_];by_cases hl:(m:Int) < (ss.length:Int)
   ·refine aO (by rw[Hl hl];rfl)$ l _ _ ?_;clear l;have hm:m < ss.length:=by omega
    obtain⟨k,hs,w,p,h,v,o,O,d0,s0,ex,hp,hh,hw⟩:=QU U h4 (GN hm);have hk:ss[m]?=some (.ref p):=by rw[<- ex];exact GN hm
    have o:s.steps[((m:Int)).toNat]?=some (k,hs,w):=o;refine ai λW l=>(js (S _ _ h1) mG$ js d dH #[e,_,_,_,Z,Z,ax.of$ S _ _ h3,jQ hk,l _ _ ?_]);clear l;have C:=S _ _ hp;have L:=hw.mono (ae.tm S);refine ai λW l=>#[_,Z,R,_,Z,.inr$ ax.of d,Z,_,Z,?_];cases r with
    |nil=>exact bQ (Hl Z) #[_,Z,q k hs w p h v H1 (qW G o) C (S _ _ hh) L O RU S]
    |cons j r=>
     have B:r.length+1+1 < n+1:=B;refine aO (G8 λz=>?_)$ l _ _ ?_
     ·injection z with z;have z:((r.length+1+1:Nat):Int)=1:=by rw[<- z];simp
      omega
     clear l;cases w with
     |nil |st _ _ _ _=>exact O.elim
     |ask b |rd b b' |wr b b'=>obtain⟨p',rfl,g1⟩:=L;exact ai λW l=>(js C mG #[p',_,_,_,Z,Z,ax.of g1,dH,Z,_,Z,bQ RW λx I=>#[x,M,none,Z,jc,X.xc,X.ty,λT J=>y (Js G o (λ_ _ _ _ z=>by cases z)) () _ (Kp.of_same$ S.trans$ zg I J)]])
     |cl f' i0 s' a'=>obtain⟨p',c1,g',e1,y0,rfl,g1,g2,g3,g4,g5⟩:=L;refine ai λW l=>(js C mG #[p',_,_,_,Z,Z,ax.of g1,dH,Z,_,Z,aO RW$ l _ _ ?_]);clear l;refine(js C mG #[p',_,_,_,Z,Z,ax.of g1,iH,_,Z,_,Z,R,_,Z,d,λr1 H2 e2 s2=>?_]);rw[pI]at e2;have D:=ae.tm s2;have S2:=S.trans s2;refine#[f',i0,s',a',.ref c1,r1,j::r,Z,#[c1,g',e1,y0,Z,D _ _ g2,D _ _ g3,D _ _ g4,g5.mono D],O,by have:s'.size+1<=s.size:=s0;omega,e2,by show r.length+1 < n;omega,λk2 h0 w2 p2 h2 v2 H3 es x1 x2 x3 x4 x5 s3=>q k2 h0 w2 p2 h2 v2 H3 (by rw[zV G o];exact es) x1 x2 x3 x4 x5 (S2.trans s3),λhn=>((y (by rw[zV G o];exact hn)).mono λH' kk=>(Kp.of_same S2).trans kk).nextK]
   ·refine bQ (by rw[G8 hl];rfl) λx I=>#[x,M,none,Z,jc,X.xc,X.ty,λT J=>y (kP$ HU (by show s.steps.length<=m;omega)) () _ (Kp.of_same$ S.trans$ zg I J)]
  ·exact aO (G8 G) #[_,Z,bQ Z λx I=>#[x,M,none,Z,jc,X.xc,X.ty,λT J=>y (zo G) () _ (Kp.of_same$ S.trans$ zg I J)]]
noncomputable abbrev wZ:Stmt:=bM 74
theorem Zk{w:Sk}(o:w.ok false)(h:em H w u []):∃p v r,u= .ref p/\H p=some (.tup (.str v::r))/\(v="call"↔∃f i s a,w= .cl f i s a):=by
 cases w with
 |nil |st _ _ _ _=>exact o.elim
 |ask b |rd b c |wr b c=>obtain⟨p,e,h⟩:=h;exact#[p,_,_,e,h,λe=>absurd e RT,λ#[_,_,_,_,e]=>nomatch e]
 |cl f i s a=>obtain⟨p,c,g,E,S,e,h,_⟩:=h;exact#[p,_,_,e,h,λ_=>#[_,_,_,_,Z],λ_=>Z]
theorem Zl:decide (V.str a=V.str b)=decide (a=b):=by
 by_cases h:a=b
 ·rw[Hl h,Hl (by rw[h])]
 ·rw[G8 h,G8 λz=>h (by injection z)]
theorem X5{H:Hp}{o:HO}(h:H a=some (.lst x)):ah H (af H a o):=λb y e=>by rw[ji$ jN e h (by intro z;cases z)];exact e
noncomputable def Sk.rws:Sk->aI->Nat->List (aI×gK)
 | .st n h w r,p,k=>((p++[(k:Int)],(n,h,w))::w.rws (p++[(k:Int)]) 0)++r.rws p (k+1)
 | .cl _ _ s _,p,_=>s.rws p 0
 |_,_,_=>[]
noncomputable def lI:List gK->aI->Nat->List (aI×gK)
 | [],_,_=>[]
 |s::r,p,k=>((p++[(k:Int)],s)::s.2.2.rws (p++[(k:Int)]) 0)++lI r p (k+1)
theorem QV:∀{s:Sk},s.ok true->∀p k,s.rws p k=lI s.steps p k
 | .nil,_,_,_=>rfl
 | .st n h w r,o,p,k=>by show _++r.rws p (k+1)=_++lI r.steps p (k+1);rw[QV o.2]
theorem Q9:∀(a b:List gK) (p:aI) (k:Nat),lI (a++b) p k=lI a p k++lI b p (k+a.length)
 | [],_,_,_=>rfl
 |s::a,b,p,k=>by show((_::_)++lI (a++b) p (k+1))=((_::_)++lI a p (k+1))++lI b p (k+(a.length+1));rw[Q9 a b p$ k+1,Lc,show k+(a.length+1)=k+1+a.length by omega]
theorem qj:∀{b:Bool} {s:Sk},s.ok b->∀(p:aI) (k:Nat),(s.rws p k).length=s.size
 |true,.nil,_,_,_=>rfl
 |true,.st n h w r,o,p,k=>by have H:=qj (b:=false) (s:=w) o.1 (p++[(k:Int)]) 0;have a:=qj (b:=true) (s:=r) o.2 p (k+1);show(((p++[(k:Int)],(n,h,w))::w.rws (p++[(k:Int)]) 0)++r.rws p (k+1)).length=w.size+r.size+1;rw[GU,Hv,H,a];omega
 |false,.cl _ _ s _,o,p,_=>qj (b:=true) (s:=s) o p 0
 |false,.ask _,_,_,_=>rfl
 |false,.rd _ _,_,_,_=>rfl
 |false,.wr _ _,_,_,_=>rfl
theorem Bx(a:List gK)(i:Nat)(p:aI)(k:Nat):(lI (a.take i) p k).length<=(lI a p k).length:=by have:=Iq List.length (Q9 (a.take i) (a.drop i) p k);rw[Ln,GU]at this;omega
def Ey:RA (aI×gK):=λH x w=>∃q p st h v,x= .ref q/\H q=some (.tup [.ref p,.ref st])/\H p=some (.tup$ w.1.map V.int)/\H st=some (.tup [.int w.2.1,.ref h,v])/\H h=some (.tup$ w.2.2.1.map V.int)/\em H w.2.2.2 v []
theorem iB:CW Ey:=λ_ _ _ _ k #[q,p,st,h,v,e,H,a,b,c,d]=>#[q,p,st,h,v,e,k _ _ H,k _ _ a,k _ _ b,k _ _ c,d.mono k]
inductive fu(n:Nat)(e:List V)(H:Hp)(Q:VK)(b:XK):Prop
 |mk(d:Addr)(p:aI)(f:Str)(c:List Int)(s:Sk)(a:Int)(u:V)(_:e=[u,.ref d])(_:H d=some (.tup (p.map V.int)))(_:p.length+n<=100)(_:l7 H f c s a u)(_:s.ok true)(_:s.dep < n)(_:s.size<=1000)(_:∀(l:Addr) (xs:List V) (H':Hp),H l=none->H' l=some (.lst xs)->df Ey H' (s.rws p 0) xs->ae H H'->Q (.ref l) H')
inductive FY(h j:Addr)(p:aI)(u:V)(s:Sk)(H:Hp)(i:Nat)(l:_L.St)(a:Hp):Prop
 |mk(f g:Option V)(k:List V)(b:l=[some u,some (.ref h),some (.ref j),f,g])(c:a j=some (.lst k))(d:df Ey a (lI (s.steps.take i) p 0) k)(e:ae H a)
theorem nW:ak ["_law_chain_here","_law_ahead","_law_found","_law_k","_law_step"] z14z (aa wZ):=bL
theorem A7(F:aJ K "_law_rows" "_law_rows" wZ f fd)(cS:Cl P w K mg base (n+1) fS f2 z14z (fu n) "_law_rows")(m0:mg "enumerate"=none):aj P w K mg base aA (n+2) f fd z14z (fu$ n+1):=by
 refine F.ok nW ?_ λc0 A o1 s H vs Q E hr h=>?_
 ·rintro _ _ _ _ ⟨Y,p,f,is,s,a,u,rfl,_⟩;rfl
 obtain⟨Y,p,f,is,s,a,u,rfl,hp,h8,hc,r,hd,hz,q⟩:=h;refine#[_,(je (jx 2 nW.nd$ jE jb)$ je (j9 HM Z (Xx Z m0$ ja (jz$ pv 0) jb) (kU (n:=2) Z$ jy (ju (i:=3) nW.nd Z$ Or.inl Z)$ jy (ju (i:=4) nW.nd Z$ Or.inl Z) j5)$ je (jP$ ki Hj Hz Hw jM (pv 2)$ ja (jh$ ja (jv jV (pv 1)$ jh$ ja (pv 3) jb)$ ja (pv 4) jb) jb)$ jg$ jw (kh$ jz$ jr jR (pv 4) jf (λ_ _=>Z)) (jg$ jP$ ki Hj Lz Ly Jw (pv 2)$ ja (cS.e hr.m$ ja (jz$ jr jR (pv 4) jf (λ_ _=>Z))$ ja (jv jV (pv 1)$ jh$ ja (pv 3) jb) jb) jb) jp)$ jg$ jo$ pv 2),?_];have b1:=aF;obtain⟨c,g,e,ss,rfl,h1,h2,h3,h4⟩:=hc;have lt:=qv r h4;have fl:=qj r p 0;rw[QV r]at fl;refine ai λF1 L=>#[ig,λd N=>L _ _ ?_];clear L;have s1:ae H (af H d$ .lst []):=jd N;refine ai λF1 L=>dN λJ j=>(js (s1 _ _ h1) mG #[e,Z,#[_,ax.of$ s1 _ _ h3],j _ _ ?_]);clear j;refine KJ (K:=K) (xs:=ss) (FY Y d p (.ref c) s H) #[none,none,[],Z,jc,Z,s1] (λi σ Hx _ h=>?_) ?_ (λσ Hx h=>L _ _ ?_)
 ·obtain⟨_,_,_,_,_,_,s7⟩:=h;exact ax.of$ s7 _ _ h3
 ·intro E hE i x pp σ H7 hx np f0 Gq kq h;clear L;obtain⟨o3,o4,xs,rfl,w1,w2,s7⟩:=h;have s8:ae H7 (af H7 pp$ .tup [.int i,x]):=jd np;have e8:af H7 pp (.tup [.int i,x]) pp=some (.tup [.int i,x]):=jc;refine kq ?_;clear kq;generalize af H7 pp (.tup [.int i,x])=H8 at s8 e8 ⊢;have S8:=s7.trans s8;obtain⟨n1,v,w,q,hh,u,ht,O,d0,s0,rfl,M,h5,hw⟩:=QU r (h4.mono$ ae.tm S8) hx;refine#[pp,_,Z,ax.of e8,Z,_,_,Z,_,_,Z,Z,?_];have h6:i < s.steps.length:=(List.getElem?_eq_some_iff.mp ht).1;have et:s.steps.take (i+1)=s.steps.take i++[(n1,v,w)]:=by rw[ID,ht];rfl
  have eb:lI (s.steps.take$ i+1) p 0=lI (s.steps.take i) p 0++((p++[(i:Int)],(n1,v,w))::w.rws (p++[(i:Int)]) 0):=by rw[et,Q9,HF,La$ Ld h6,MK];show _++(_++[])=_;rw[Md]
  have bl:=Bx s.steps (i+1) p 0;have b0:=Iq List.length eb;rw[GU,Hv,qj O]at b0;have lx:=w2.len;rw[fl]at bl;show gj _ (lv _ _ _) E [some$ .ref c,some$ .ref Y,some$ .ref d,some$ .int i,some$ .ref q] H8;refine ai λF1 L=>#[_,Z,.inl #[Z,_,aB.of$ s8 _ _ w1],_,Z,_,Z,gH,λt nt=>#[Y,t,_,_,Z,Z,am (S8 _ _ hp) nt,jc,by rw[GQ];show _+1<=_;omega,λU W e9 s9=>?_]];have S9:ae H8 W:=(jd (o:=.tup [.int i]) nt).trans s9;have e9:W U=some (.tup$ p.map V.int++[.int (i:Int)]):=e9;rw[y7]at e9;have w9:=S9 _ _ (s8 _ _ w1);refine#[_,Z,bo,λk n2=>?_];have sA:ae W (af W k$ .tup [.ref U,.ref q]):=jd n2;have eA:af W k (.tup [.ref U,.ref q]) k=some (.tup [.ref U,.ref q]):=jc;generalize af W k (.tup [.ref U,.ref q])=X at sA eA;have wA:=sA _ _ w9;refine#[d,xs,_,Z,Z,wA,RU,L _ _ ?_];clear L;have B:ah X (af X d$ .lst$ xs++[.ref k]):=X5 wA;have y:af X d (.lst$ xs++[.ref k]) d=some (.lst$ xs++[.ref k]):=jc;have k0:∀b o,b≠d->X b=some o->af X d (.lst$ xs++[.ref k]) b=some o:=λb o nb e=>by rw[ji nb];exact e
  generalize af X d (.lst$ xs++[.ref k])=C at B y k0;have T:ah H8 C:=(ae.tm$ S9.trans sA).trans B;have R:ae H C:=λb o e=>k0 _ _ (jm e N) (sA _ _$ S9 _ _$ S8 _ _ e);have x0:df Ey C (lI (s.steps.take i) p 0++[(p++[(i:Int)],(n1,v,w))]) (xs++[.ref k]):=df.app (df.one #[k,U,q,hh,u,Z,B _ _ eA,B _ _$ sA _ _ e9,T _ _ M,T _ _ h5,hw.mono T]) (((w2.mono iB$ ae.tm s8).mono iB T));obtain⟨p3,v3,r3,eu,h7,h0⟩:=Zk O (hw.mono T);subst eu;refine rf λG1 yT yF=>(js (T _ _ M) mG #[p3,_,_,_,Z,Z,ax.of h7,dH,Z,_,Z,?_]);rw[Zl];by_cases hv:v3="call"
  ·obtain⟨g',I,z,a',rfl⟩:=h0.mp hv;rw[Hl hv];obtain⟨x1,c1,g1,e1,s2,e2,k1,k2,k3,k4,k5⟩:=hw.mono T;cases e2;have d0:z.dep+1<=s.dep:=d0;have s0:z.size+1<=s.size:=s0;refine yT _ #[_,Z,.inl #[Z,_,aB.of y],js (T _ _ M) mG #[p3,_,_,_,Z,Z,ax.of k1,iH,_,Z,_,Z,gH,λt2 n0=>#[Y,t2,_,_,Z,Z,am (R _ _ hp) n0,jc,by rw[GQ];show _+1<=_;omega,λr0 H0 D s3=>?_]]];have S:ae C H0:=(jd (o:=.tup [.int i]) n0).trans s3;have D:H0 r0=some (.tup$ p.map V.int++[.int (i:Int)]):=D;rw[y7]at D;refine#[r0,_,g',I,z,a',.ref c1,Z,D,by rw[GU];show _+1+_<=_;omega,#[c1,g1,e1,s2,Z,S _ _ k2,S _ _ k3,S _ _ k4,k5.mono$ ae.tm S],O,RU,RU,λl zs H1 nl hl hz s4=>?_];have G:=S.trans s4;have lz:=hz.len;rw[qj (show z.ok true from O)]at lz;have ez:(xs++[V.ref k]).length=xs.length+1:=by rw[GU];rfl
   have s5:(Sk.cl g' I z a').size=z.size:=rfl;refine#[d,l,_,_,Z,Z,G _ _ y,hl,RU,f0 _ _ #[_,_,_,Z,jc,?_,λb o e=>?_]]
   ·rw[eb];have t0:ah H1 (af H1 d$ .lst$ xs++[.ref k]++zs):=X5 (G _ _ y);rw[show(p++[(i:Int)],(n1,v,Sk.cl g' I z a'))::(Sk.cl g' I z a').rws (p++[(i:Int)]) 0=[(p++[(i:Int)],(n1,v,Sk.cl g' I z a'))]++z.rws (p++[(i:Int)]) 0 from Z,<- Lc];exact(df.app hz$ x0.mono iB$ ae.tm G).mono iB t0
   ·rw[ji$ jm e N];exact G _ _$ R _ _ e
  ·rw[G8 hv];refine yF _$ f0 _ _ #[_,_,_,Z,y,?_,R];rw[eb];have e0:w.rws (p++[(i:Int)]) 0=[]:=by
    cases w with
    |nil |st _ _ _ _=>exact O.elim
    |cl f is s a=>exact absurd (h0.mpr #[f,is,s,a,Z]) hv
    |_=>rfl
   rw[e0];exact x0
 ·obtain⟨o3,o4,xs,rfl,w1,w2,s7⟩:=h;rw[lt,HY,<- QV r]at w2;exact#[_,Z,q d xs Hx N w1 w2 s7]
noncomputable abbrev Fo:Stmt:=bM 75
noncomputable abbrev lK:Stmt:=bM 78
theorem AQ:NX (.lst x):=λa z=>by cases z
theorem AR:NX (.tup x):=λa z=>by cases z
theorem Kp.tm(k:Kp H h):ah H h:=λb x e=>k b _ AR e
theorem Kp.seq{K:Frag}(e:Kp H b)(h:aB K H a x):aB K b a x:=by
 rcases h with (h | ⟨o,h⟩) |h
 ·exact .inl$ .inl$ e _ _ AQ h
 ·exact .inl$ .inr #[o,e _ _ (by intro c z;cases z) h]
 ·exact .inr h
structure Xs(K:Frag)(mg:Str->Option Value)(TL TD:Addr):Prop where
 gL:mg "TooLong"=some (.ref TL)
 hL:clsIn K TL≠none
 tL:typeIn K (.ref TL)=some (.type "type")
 mL:mroIn K TL (.type "BaseException")=some true
 gD:mg "TooDeep"=some (.ref TD)
 hD:clsIn K TD≠none
 tD:typeIn K (.ref TD)=some (.type "type")
 mD:mroIn K TD (.type "BaseException")=some true
 LL:mroIn K TL (.ref TL)=some true
 DL:mroIn K TD (.ref TL)=some false
 DD:mroIn K TD (.ref TD)=some true
inductive xB(K:Frag)(e:List V)(H:Hp)(Q:VK)(c:XK):Prop
 |mk(a:Addr)(d:List Int)(_:e=[.ref a])(_:aB K H a (d.map V.int))(_:d.length<=63)(_:∀(f:Str) (is:List Int) (s:Sk) (b:Int) (u:V) (H':Hp),l7 H' f is s b u->s.ok true->s.dep<=15->s.size<=60->Kp H H'->Q u H')
inductive lR(K:Frag)(d:List V)(H:Hp)(Q:VK)(b:XK):Prop
 |mk(a:Addr)(c:List Int)(_:d=[.ref a])(_:aB K H a (c.map V.int))(_:c.length<=63)(_:∀H',Q (.bl true) H')
theorem Bm{H:Hp}{D:List Df}{n:List Nat}(h:ma H D n){i:Nat}{d:Df}{p:List Str}(a:D[i]?=some d)(c:H d.pa=some (.tup$ p.map V.str)):n[i]?=some p.length:=by have f:i < D.length:=(List.getElem?_eq_some_iff.mp a).1;have b:n[i]?=some (n[i]'(by rw[<- h.1];exact f)):=GN _;obtain⟨g,e,l,_⟩:=h.2 i d _ a b;rw[c]at e;injection e with e;injection e with e;have:=Iq List.length e;rw[GQ,GQ]at this;rw[b,<- l,this]
theorem iy:ak ["_law_script","_law_box_here","_law_chain_here","_law_program","_law_f","_law_args"] ["_law_script"] (aa Fo):=bL
theorem DA(F:aJ K "_law_any_book" "_law_any_book" Fo f fd)(cB:Cl P w K mg base 1 fB f3 ["_law_script","_law_k"] (n8 K) "_law_box")(cT:Cl P w K mg base 1 fT f4 z0z aL "_law_take")(cK:Cl P w K mg base 23 fK f5 z1z i7 "_law_case")(cM:Cl P w K mg base 65 fM f6 ["program"] (i8 K nA) "made")(cC:Cl P w K mg base 3 fC f7 z1z gG "_law_cells")(GR:aj P w K mg base (dD P w) 45 fR f0 z26z (oi TL TD nA))(bR:ay K f0 z26z [])(kR:keepIn K (.ref fR)=true)(mR:mg "run"=some (.ref fR))(cY:Cl P w K mg base 37 fY f9 z1z oe "_law_book")(X:Xs K mg TL TD):aj P w K mg base aA 66 f fd ["_law_script"] (xB K):=by
 refine F.ok iy ?_ λc0 A o1 s H vs Q E j h=>?_
 ·rintro _ _ _ _ ⟨a,ns,rfl,_⟩;rfl
 obtain⟨a,ns,rfl,hS,a2,q⟩:=h;refine#[_,(je (jx 1 iy.nd$ cB.e j.m$ ja (pv 0)$ ja jf jb)$ je (jx 2 iy.nd$ @QM _ _ _)$ je (jw (kJ$ cT.e j.m$ ja (pv 1)$ ja jf jb) (je (kW (cK.e j.m$ ja (pv 1) jb)$ kU (n:=3) Z$ jy (ju (i:=3) iy.nd Z$ Or.inl Z)$ jy (ju (i:=4) iy.nd Z$ Or.inl Z)$ jy (ju (i:=5) iy.nd Z$ Or.inl Z) j5)$ jg$ @wL _ _ _ _ _ _ _ _ _ _ _ _ _ _ _ _ _ _ Z Z (@Y1 _ _ _ _ (2) _ _ iy.nd Z (Or.inl Z) (@Xt _ _ _ _ _ _ _ _ _ _ _ _ _ _ GR j.m Z mR kR bR .nil (ja (cM.e j.m$ ja (pv 3) jb)$ ja (pv 4)$ ja (pv 5)$ ja (cC.e j.m$ ja (cB.e j.m$ ja (pv 0)$ ja jf jb) jb)$ ja jf jb) RT RX RX) RX (by first |exact .inl Z |exact .inr Z)) Z X.gL X.hL X.tL X.mL Z X.gD X.hD X.tD X.mD (λ_=>(jg$ jx 2 iy.nd$ @QM _ _ _)) (λ_=>(jg$ jx 2 iy.nd$ @QM _ _ _)) RT RT) jp)$ je (jw (sE$ @Bo _ _ _ _ _$ pv 2) (jg$ jx 2 iy.nd$ cY.e j.m$ ja (cB.e j.m$ ja (pv 0)$ ja jf jb) jb) jp)$ jg$ jo$ pv 2),?_];have b0:=aF;refine ai λB g=>#[_,Z,a,ns,1,Z,hS,RT,RT,λp H1 np B1 e1=>g _ _ ?_];clear g;have s1:ae H H1:=λb o e=>by rw[e1 b$ jm e np];exact e
 refine ai λB g=>g _ _ ?_;clear g;refine ai λB g=>?_;suffices m:(∀(O J L:Option V) (k:Hp),Kp H k->B [some$ .ref a,some$ .ref p,some .non,O,J,L] k)/\∀(O J L:Option V) (f:Str) (I:List Int) (s:Sk) (b:Int) (c:Addr) (k:Hp),l7 k f I s b (.ref c)->s.ok true->s.dep<=15->s.size<=60->Kp H k->B [some$ .ref a,some$ .ref p,some$ .ref c,O,J,L] k by
  clear g;refine#[_,Z,p,2,Z,B1,RT,RT,λd2 H2 d0 d1 B2 q2=>#[Z,_,Z,?_]];have s2:ae H H2:=λb o e=>by rw[q2 b$ jm e np];exact s1 _ _ e
  by_cases c:d2=0
  ·refine bQ (Hl (by rw[c])) ?_;refine ai λF2 f2=>#[_,Z,p,Z,B2,λt r v2 v3 ds M H3 ht j hD h1 h8 nl hN R h0 B3 k3=>#[t,_,Z,ax.of ht,Z,_,_,Z,_,_,Z,_,_,Z,Z,f2 _ _ ?_]];clear f2;have s3:ae H H3:=λb o e=>k3 _ _ (jm e np) (s2 _ _ e);obtain⟨d,ps,ta,I,hd,rfl,h2,rfl,h3,h4,h5,h6⟩:=h0;show yJ _ _ _ _ _ _ _ [some$ .ref a,some$ .ref p,some .non,some$ .ref r,some$ .str d.f,some$ .ref ta] H3;refine#[_,Z,r,ds,M,Z,j,hD,RU,λd hd=>(hN.1 d hd).1,λv H4 hv s4=>?_];obtain⟨pA,S,rfl,h7,h'⟩:=J2 hv;have S4:=s3.trans s4;refine#[_,Z,_,Z,_,Z,a,ns,2,Z,S4.seq hS,RT,RT,λp5 H5 U B5 e5=>#[p5,Z,B5,λcA Cs H6 n1 a0 gC lC B6 k6=>?_]];have s6:ae H4 H6:=λb o e=>k6 _ _ (jm e U) (by rw[e5 b$ jm e U];exact e);have S6:=S4.trans s6;have l:=ae.tm (s4.trans s6);obtain⟨i,hi,ei⟩:=List.mem_iff_getElem.mp hd;have W:ds[i]?=some d:=by rw[<- ei];exact GN hi
   have hP:Ps H6 nA pA ds nl S:=#[s6 _ _ h7,h'.mono$ ae.tm s6,#[M,hD.mono l],hN,R.mono l];have Y:=Bm R W h2;rw[<- h4]at Y;have kS:Kp H H6:=Kp.of_same S6;refine#[pA,ta,cA,i,Cs,d,ds,nl,S,I,Z,hP,W,Y,l _ _ h3,h6,a0,gC,λu sk b H7 D ok dp sz s7=>?_,?_,?_]
   ·obtain⟨c',z⟩:=id D;obtain⟨_,_,_,rfl,_⟩:=z;exact m.2 _ _ _ d.f I sk b c' H7 D ok dp sz$ kS.trans$ Kp.of_same s7
   ·intro _ H7 k7 x C T eC hx hT a1;cases eC;refine .inl #[X.LL,λT' y=>?_];exact m.1 _ _ _ _ λb o N e=>qV (H:=H) (k7 _ _ N$ kS _ _ N e) N hx y
   ·intro _ H7 k7 x C T eC hx hT a1;cases eC;refine .inr #[X.DL,X.DD,λT' y=>?_];exact m.1 _ _ _ _ λb o N e=>qV (H:=H) (k7 _ _ N$ kS _ _ N e) N hx y
  ·exact aO (G8 λz=>c (by injection z))$ m.1 _ _ _ _$ Kp.of_same s2
 refine#[λO J L k G=>g _ _ ?_,λO J L f I s b c k D ok dp sz G=>g _ _ ?_]
 ·clear g;refine ai λB g=>#[_,Z,_,Z,bQ (Hl Z) #[_,Z,a,ns,3,Z,G.seq hS,RT,RT,λp8 H8 n0 B8 e8=>#[p8,Z,B8,λf I s b u H9 D ok dp sz B9 k9=>g _ _ ?_]]];clear g;exact#[_,Z,q f I s b u H9 D ok dp sz λb o N e=>k9 _ _ (jm (G _ _ N e) n0) (by rw[e8 b$ jm (G _ _ N e) n0];exact G _ _ N e)]
 ·clear g;exact ai λB g=>#[_,Z,_,Z,aO (G8 (by intro z;cases z))$ g _ _ #[_,Z,q f I s b (.ref c) k D ok dp sz G]]
theorem Ql{X:Cx}{K:Frag}(h:X.K=K):dm X (.builtin "isinstance") (λx H Q=>∃a C f y c b,x=[.ref a,y]/\C5 y=some c/\uW H a C f/\io K C/\kitOne K (.ref C) c=some b/\Q (.bl b) H):=by subst h;exact Xd
theorem QW:∀(q:aI) (s:Sk),aG s (q++[-1])=none
 | [],s=>zo RT
 |i::q,s=>by
  by_cases H:0<=i
  ·cases h:s.steps[i.toNat]? with
   |none=>exact kP h
   |some st=>
    obtain⟨n,c,w⟩:=st;obtain⟨j,r,e⟩:∃j r,q++[(-1:Int)]=j::r:=by
     cases q with
     |nil |cons a b=>exact#[_,_,Z]
    show aG s (i::(q++[-1]))=none;cases w with
    |cl f I S a=>rw[e,zV H h,<- e];exact QW q S
    |nil |st _ _ _ _ |ask _ |rd _ _ |wr _ _=>rw[e];exact Js H h (λ_ _ _ _ z=>by cases z)
  ·exact zo H
noncomputable def Sk.many:Sk->Nat
 | .cl _ _ s _=>s.steps.length
 |_=>0
theorem Zm:∀{p:aI} {s:Sk} {n:Int} {c:List Int} {w:Sk},aG s p=some (n,c,w)->aG s (p++[(w.many:Int)])=none
 | [],s,n,c,w,h=>by cases h
 | [i],s,n,c,w,h=>by
  by_cases H:0<=i
  ·cases b:s.steps[i.toNat]? with
   |none=>rw[kP b]at h;cases h
   |some st=>
    rw[qW H b]at h;cases h;show aG s (i::(w.many:Int)::[])=none;cases w with
    |cl f I S a=>rw[zV H b];exact kP$ HU$ GV _
    |nil |st _ _ _ _ |ask _ |rd _ _ |wr _ _=>exact Js H b (λ_ _ _ _ z=>by cases z)
  ·rw[zo H]at h;cases h
 |i::j::p,s,n,c,w,h=>by
  by_cases H:0<=i
  ·cases b:s.steps[i.toNat]? with
   |none=>rw[kP b]at h;cases h
   |some st=>
    obtain⟨N,d,W⟩:=st;cases W with
    |cl f I S a=>rw[zV H b]at h;show aG s (i::j::(p++[(w.many:Int)]))=none;rw[zV H b];exact Zm h
    |nil |st _ _ _ _ |ask _ |rd _ _ |wr _ _=>rw[Js H b (λ_ _ _ _ z=>by cases z)]at h;cases h
  ·rw[zo H]at h;cases h
theorem Zn:∀(a:List gK) (k:Nat),x∈lI a b k->∃(i:Nat) (st:gK),a[i]?=some st/\(x=(b++[((k+i:Nat):Int)],st)∨x∈st.2.2.rws (b++[((k+i:Nat):Int)]) 0)
 | [],k,h=>by cases h
 |st::a,k,h=>by
  have h:x∈((b++[(k:Int)],st)::st.2.2.rws (b++[(k:Int)]) 0)++lI a b (k+1):=h;rcases List.mem_append.mp h with h |h
  ·refine#[0,st,Z,?_];rcases List.mem_cons.mp h with h |h
   ·exact .inl h
   ·exact .inr h
  ·obtain⟨i,s,H,c⟩:=Zn a (k+1) h;refine#[i+1,s,by simpa using H,?_];rw[show k+(i+1)=k+1+i by omega];exact c
theorem Jt:∀{s:Sk},s.ok true->∀{i:Nat} {st:gK},s.steps[i]?=some st->st.2.2.ok false/\st.2.2.size+1<=s.size/\st.2.2.dep<=s.dep
 | .nil,_,i,st,h=>by simp [Sk.steps]at h
 | .st n H w r,o,0,st,h=>by cases h;exact#[o.1,by show w.size+1<=w.size+r.size+1;omega,Mg _ _]
 | .st n H w r,o,i+1,st,h=>by have z:=Jt (s:=r) o.2 (i:=i) (st:=st) (by simpa [Sk.steps] using h);exact#[z.1,by show _<=w.size+r.size+1;omega,Hh z.2.2$ L9 _ _]
theorem By:∀(n:Nat) (s:Sk),s.ok true->s.size<=n->∀(b:aI) (x:aI×gK),x∈s.rws b 0->∃p,x.1=b++p/\aG s p=some x.2/\p.length<=s.dep+1:=by
 intro n;induction n with
 |zero=>intro s o h b x H;have z:=qj o b 0;have e:s.rws b 0=[]:=List.eq_nil_of_length_eq_zero RU;rw[e]at H;cases H
 |succ n I=>
  intro s o h b x H;rw[QV o]at H;obtain⟨i,st,k,h2⟩:=Zn _ _ H;rw[MK]at h2;obtain⟨O,S,d⟩:=Jt o k;have l:(0:Int)<=(i:Int):=by omega
  have c:s.steps[((i:Int)).toNat]?=some st:=k;rcases h2 with h2 |h2
  ·exact#[[(i:Int)],by rw[h2],by rw[h2];exact qW l c,by show 1<=_;omega]
  ·obtain⟨m,r,w⟩:=st;cases w with
   |cl f t g a=>
    have d:g.dep+1<=s.dep:=d;have S:g.size+1<=s.size:=S;obtain⟨p,q,E,u⟩:=I g O RU _ x h2;refine#[(i:Int)::p,by rw[q,Lc];rfl,?_,by show p.length+1<=_;omega];cases p with
    |nil=>cases E
    |cons j p=>rw[zV l c];exact E
   |nil |st _ _ _ _=>exact O.elim
   |ask _ |rd _ _ |wr _ _=>cases h2
theorem Xa{s:Sk}(o:s.ok true)(h:x∈s.rws [] 0):aG s x.1=some x.2/\x.1.length<=s.dep+1:=by obtain⟨p,e,E,a⟩:=By s.size s o (GV _) [] x h;have e:x.1=p:=e;rw[e];exact#[E,a]
noncomputable def mh:Sk->Tr
 | .nil=>.nil
 | .st n h w r=>.cons (ba [aV n,ba (h.map aV),mh w]) (mh r)
 | .ask b=>ba [bh "ask",aV b]
 | .rd c i=>ba [bh "read",aV c,aV i]
 | .wr c i=>ba [bh "write",aV c,aV i]
 | .cl f I s a=>ba [bh "call",ba [bh f,ba (I.map aV),.tp (mh s),aV a]]
theorem YO:∀{b:Bool} {s:Sk},s.ok b->(mh s).isL=b
 |true,.nil,_=>rfl
 |true,.st _ _ _ _,_=>rfl
 |false,.cl _ _ _ _,_=>rfl
 |false,.ask _,_=>rfl
 |false,.rd _ _,_=>rfl
 |false,.wr _ _,_=>rfl
theorem QX{H:Hp}{a:List Int}(e:H h=some (.tup$ a.map V.int)):aS H (ba$ a.map aV) (.ref h) []:=jC e J1
theorem YQ:∀{b:Bool} {s:Sk} {u:V} {X:List V},s.ok b->em H s u X->(b=false->X=[])->(b=true->u= .non)->aS H (mh s) u X
 |true,.nil,_,_,_,h,_,_=>h
 |true,.st n t w r,_,_,o,q,_,z=>by obtain⟨p,h,u,y,e,d,j,k,l⟩:=q;rw[e,z Z];exact#[Z,YO o.2,_,_,Z,jC d$ jl Z kc$ jl Z (QX j)$ jl (YO o.1) (YQ o.1 k (λ_=>Z) (λx=>nomatch x)) jB,YQ o.2 l (λx=>nomatch x) (λ_=>Z)]
 |false,.ask b,_,_,_,q,z,_=>by obtain⟨p,e,h⟩:=q;rw[e,z Z];exact jC h (jl Z jO (jl Z kc jB))
 |false,.rd c i,_,_,_,q,z,_=>by obtain⟨p,e,h⟩:=q;rw[e,z Z];exact jC h (jl Z jO (jl Z kc (jl Z kc jB)))
 |false,.wr c i,_,_,_,q,z,_=>by obtain⟨p,e,h⟩:=q;rw[e,z Z];exact jC h (jl Z jO (jl Z kc (jl Z kc jB)))
 |false,.cl f I s a,_,_,o,q,z,_=>by obtain⟨p,c,g,e,S,E,d,j,k,l,m⟩:=q;rw[E,z Z];exact jC d$ jl Z jO$ jl Z (jC j$ jl Z jO$ jl Z (QX k)$ jl Z #[YO o,e,S,Z,l,YQ (b:=true) o m (λx=>nomatch x) (λ_=>Z)] (jl Z kc jB)) jB
theorem qo:∀i:List Int,(aC$ i.map aV).dep=0
 | []=>rfl
 |_::i=>by show max 0 (aC (i.map aV)).dep=0;rw[qo i];rfl
theorem QY:∀{b:Bool} {s:Sk},s.ok b->(mh s).dep<=4*s.dep+(if b=true then 2 else 1)
 |true,.nil,_=>Hg _
 |true,.st n H w r,o=>by have h:=QY (b:=false) (s:=w) o.1;have c:=QY (b:=true) (s:=r) o.2;have d:=qo H;have h:(mh w).dep<=4*w.dep+1:=h;have c:(mh r).dep<=4*r.dep+2:=c;show max (max 0 (max ((aC$ H.map aV).dep+1)$ max (mh w).dep 0)+1) (mh r).dep<=4*max w.dep r.dep+2;omega
 |false,.ask _,_=>GV 1
 |false,.rd _ _,_=>GV 1
 |false,.wr _ _,_=>GV 1
 |false,.cl f i s a,o=>by have h:=QY (b:=true) (s:=s) o;have d:=qo i;have h:(mh s).dep<=4*s.dep+2:=h;show max 0 (max (max 0 (max ((aC$ i.map aV).dep+1)$ max ((mh s).dep+1)$ max 0 0)+1) 0)+1<=4*(s.dep+1)+1;omega
noncomputable def C2(f:Str)(i:List Int)(s:Sk)(a:Int):Tr:=aC [bh f,ba$ i.map aV,.tp$ mh s,aV a]
theorem C4(h:l7 H f i s a u)(o:s.ok true):aS H (.tp$ C2 f i s a) u []:=by obtain⟨c,g,e,S,rfl,d,j,k,l⟩:=h;exact jC d$ jl Z jO$ jl Z (QX j)$ jl Z #[YO o,e,S,Z,k,YQ (b:=true) o l (λx=>nomatch x) (λ_=>Z)] (jl Z kc jB)
theorem Aa{f:Str}{is:List Int}{s:Sk}{a:Int}(o:s.ok true)(d:s.dep<=15):(C2 f is s a).dep < 100:=by have h:=QY (b:=true) (s:=s) o;have H:=qo is;have h:(mh s).dep<=4*s.dep+2:=h;show max 0 (max ((aC$ is.map aV).dep+1)$ max ((mh s).dep+1)$ max 0 0) < 100;omega
end _K
namespace _K
open PySem PySem.Spec PyProof.Rows _L
variable {P:Program}{w:World}{K:Frag}{mg:Str->Option Value}{base:Heap}
noncomputable def Az:V->Bool
 | .int _=>true
 | .str _=>true
 |_=>false
noncomputable def _root_._L.Tr.In:Tr->Prop
 | .lf v=>Az v=true
 | .tp l=>l.In
 | .nil=>True
 | .cons h t=>h.In/\t.In
noncomputable def _root_._L.Tr.items:Tr->List Tr
 | .cons h t=>h::t.items
 |_=>[]
theorem QZ{H:Hp}:∀{t u:Tr} {x:V} {xs:List V},aS H t x xs->aS H u x xs->t.isL=u.isL->t.In->u.In->t=u
 | .lf v,.lf w,_,_,h,k,_,_,_=>by rw[<- h.1,<- k.1]
 | .lf v,.tp m,_,_,h,k,_,i,_=>by obtain⟨_,a,_,e,_⟩:=k;have E:=h.1;rw[e]at E;rw[<- E]at i;cases i
 | .tp l,.lf v,_,_,k,h,_,_,i=>by obtain⟨_,a,_,e,_⟩:=k;have E:=h.1;rw[e]at E;rw[<- E]at i;cases i
 | .tp l,.tp m,_,_,h,k,_,i,j=>by obtain⟨o,a,xs,e,p,q⟩:=h;obtain⟨r,b,Y,c,d,f⟩:=k;rw[e]at c;cases c;rw[p]at d;cases d;rw[QZ q f (o.trans r.symm) i j]
 | .nil,.nil,_,_,_,_,_,_,_=>rfl
 | .nil,.cons _ _,_,_,h,k,_,_,_=>by obtain⟨_,_,_,_,e,_⟩:=k;have h:_=[]:=h;rw[e]at h;cases h
 | .cons _ _,.nil,_,_,k,h,_,_,_=>by obtain⟨_,_,_,_,e,_⟩:=k;have h:_=[]:=h;rw[e]at h;cases h
 | .cons h t,.cons G T,_,_,k,s,_,i,j=>by obtain⟨A,B,y,Y,e,d,f⟩:=k;obtain⟨C,D,I,F,c,g,n⟩:=s;rw[e]at c;cases c;rw[QZ d g (A.trans C.symm) i.1 j.1,QZ f n (B.trans D.symm) i.2 j.2]
 | .lf _,.nil,_,_,_,_,z,_,_=>nomatch z
 | .lf _,.cons _ _,_,_,_,_,z,_,_=>nomatch z
 | .tp _,.nil,_,_,_,_,z,_,_=>nomatch z
 | .tp _,.cons _ _,_,_,_,_,z,_,_=>nomatch z
 | .nil,.lf _,_,_,_,_,z,_,_=>nomatch z
 | .nil,.tp _,_,_,_,_,z,_,_=>nomatch z
 | .cons _ _,.lf _,_,_,_,_,z,_,_=>nomatch z
 | .cons _ _,.tp _,_,_,_,_,z,_,_=>nomatch z
theorem Kx:∀{l:Tr} {X:List V},l.isL=true->l.In->aS H l .non X->X.length=l.items.length/\∀(j:Nat) (x:V),X[j]?=some x->∃t,l.items[j]?=some t/\t.isL=false/\t.In/\t.dep<=l.dep/\aS H t x []
 | .nil,X,_,_,h=>by have h:X=[]:=h;rw[h];exact#[Z,λj x z=>by simp at z]
 | .cons a t,X,_,i,h=>by
  obtain⟨A,c,y,Y,e,k,d⟩:=h;subst e;obtain⟨L,f⟩:=Kx c i.2 d;refine#[Iq (·+1) L,λj x b=>?_];cases j with
  |zero=>cases b;exact#[a,Z,A,i.1,Mg _ _,k]
  |succ j=>obtain⟨u,g,m,n,o,p⟩:=f j x (by simpa using b);exact#[u,by simpa [_L.Tr.items] using g,m,n,Hh o$ L9 _ _,p]
 | .lf _,_,z,_,_=>nomatch z
 | .tp _,_,z,_,_=>nomatch z
theorem XG:∀{l m:Tr} {x y:List V},l.isL=true->m.isL=true->aS H l .non x->aS H m .non y->(l=m↔l.items=m.items)
 | .nil,.nil,_,_,_,_,_,_=>#[λ_=>Z,λ_=>Z]
 | .nil,.cons _ _,_,_,_,_,_,_=>#[λz=>(nomatch z),λz=>(nomatch z)]
 | .cons _ _,.nil,_,_,_,_,_,_=>#[λz=>(nomatch z),λz=>(nomatch z)]
 | .cons a t,.cons b u,_,_,_,_,h,k=>by obtain⟨_,A,_,_,_,_,d⟩:=h;obtain⟨_,B,_,_,_,_,c⟩:=k;have i:=XG A B d c;refine#[λz=>by cases z;rfl,λz=>?_];have z:a::t.items=b::u.items:=z;injection z with e f;rw[e,i.mpr f]
 | .lf _,_,_,_,z,_,_,_=>nomatch z
 | .tp _,_,_,_,z,_,_,_=>nomatch z
 | .nil,.lf _,_,_,_,z,_,_=>nomatch z
 | .nil,.tp _,_,_,_,z,_,_=>nomatch z
 | .cons _ _,.lf _,_,_,_,z,_,_=>nomatch z
 | .cons _ _,.tp _,_,_,_,z,_,_=>nomatch z
open Classical in
noncomputable def mj(t u:Tr):Bool:=decide (t=u)
open Classical in
theorem JE(h:t=u):mj t u=true:=by unfold mj;exact Hl h
open Classical in
theorem qe(h:t≠u):mj t u=false:=by unfold mj;exact G8 h
noncomputable def nq(l m:Tr)(j:Nat):Bool:=match l.items[j]?,m.items[j]? with
 |some t,some u=>mj t u
 |_,_=>true
theorem uB{l m:Tr}(a:l.isL=true)(b:m.isL=true)(h:aS H l .non x)(k:aS H m .non y)(d:n=l.items.length)(E:N=m.items.length):((List.range$ min n N).all (nq l m)&&n==N)=mj l m:=by
 by_cases e:l=m
 ·subst e;rw[JE Z,d,E,Le,Bool.and_true,Mw];intro j _;unfold nq;cases l.items[j]? with
  |none=>rfl
  |some t=>exact JE Z
 ·rw[qe e];have f:l.items≠m.items:=λz=>e ((XG a b h k).mpr z);by_cases g:n=N
  ·have z:(List.range$ min n N).all (nq l m)=false:=by rw[OU];intro z;rw[Mw]at z;refine f$ OY RU λj i o=>?_;have:=z j (List.mem_range.mpr RU);unfold nq at this;rw[GN i,GN o]at this;exact Classical.byContradiction λc=>by have C:=qe c;dsimp only at this;rw[C]at this;cases this
   rw[z];rfl
  ·rw[show(n==N)=false from beq_eq_false_iff_ne.mpr g,Mj]
section
open PySem.SeqAt
variable {X:Cx}
theorem Dv{w:V}(H:Az v=true)(h:Az w=true)(R:au v a)(r:au w b):EqAt A s a b (mj (.lf v)$ .lf w):=by
 cases v with
 |int i=>
  obtain⟨T,rfl⟩:=R;cases w with
  |int j=>
   obtain⟨t,rfl⟩:=r;have z:=PU (A:=A) (s:=s) i T j t;by_cases e:i=j
   ·subst e;rw[Le]at z;rw[JE Z];exact z
   ·rw[beq_eq_false_iff_ne.mpr e]at z;rw[qe (λc=>e (by injection c with c;injection c))];exact z
  |str y=>obtain⟨t,rfl⟩:=r;rw[qe (λc=>by injection c with c;cases c)];exact EqAt.int_str _ _ _ _
  |_=>cases h
 |str i=>
  obtain⟨T,rfl⟩:=R;cases w with
  |str j=>
   obtain⟨t,rfl⟩:=r;have z:=Og (A:=A) (s:=s) i T j t;by_cases e:i=j
   ·subst e;rw[Le]at z;rw[JE Z];exact z
   ·rw[beq_eq_false_iff_ne.mpr e]at z;rw[qe (λc=>e (by injection c with c;injection c))];exact z
  |int y=>obtain⟨t,rfl⟩:=r;rw[qe (λc=>by injection c with c;cases c)];exact EqAt.str_int _ _ _ _
  |_=>cases h
 |_=>cases H
theorem DX(I:ap X p σ H s)(n:Nat)(G:∀(t:Tr) {A:Around},t.dep<=n->A.units+n < cLine->t.In->t.isL=false->∀{u:Tr} {x y:V},u.In->u.isL=false->aS H t x []->aS H u y []->∀a b,au x a->au y b->EqAt A s a b (mj t u)){l m:Tr}(hn:l.dep<=n)(hu:A.units+n+1 < cLine)(J:l.In)(L:m.In)(d:l.isL=true)(f:m.isL=true)(M:H g=some (.tup i))(N:H B=some (.tup o))(T:aS H l .non i)(q:aS H m .non o):RcAt A s (.ref g) (.ref B) (mj (.tp l)$ .tp m):=by
 obtain⟨v,r,O,_⟩:=I.tuple (ax.of (K:=X.K) M);obtain⟨C,R,Q,_⟩:=I.tuple (ax.of (K:=X.K) N);obtain⟨S,U⟩:=Kx d J T;obtain⟨W,Y⟩:=Kx f L q;have z:=P0 (A:=A) (e:=nq l m) (show s.heap.IsTuple g v.toArray from O) (show s.heap.IsTuple B C.toArray from Q) RU (λj h1 h2=>?_)
 ·rw[uB d f T q (by rw[GX,<- r.length,S]) (by rw[GX,<- R.length,W])]at z;have E:mj (.tp l) (.tp m)=mj l m:=by
   by_cases c:l=m
   ·rw[JE c,JE (by rw[c])]
   ·rw[qe c,qe (λk=>c (by injection k))]
  rw[E];exact z
 ·have la:=r.length;have lb:=R.length;have D:j < i.length:=by simp at h1;omega
  have h:j < o.length:=by simp at h2;omega
  obtain⟨u1,q1,r1⟩:=r.get (GN D);obtain⟨u2,q2,r2⟩:=R.get (GN h);have e1:v.toArray[j]=u1:=by obtain⟨_,e⟩:=List.getElem?_eq_some_iff.mp q1;simpa using e
  have E:C.toArray[j]=u2:=by obtain⟨_,e⟩:=List.getElem?_eq_some_iff.mp q2;simpa using e
  rw[e1,E];obtain⟨F,g1,g2,g3,g4,g5⟩:=U j _ (GN D);obtain⟨u',k1,k2,k3,k4,k5⟩:=Y j _ (GN h);have et:nq l m j=mj F u':=by unfold nq;rw[g1,k1]
  rw[et];exact G F (A:=A.in1) RU (by show A.units+1+n < cLine;omega) g3 g2 k3 k2 g5 k5 _ _ r1 r2
theorem Ce(I:ap X z Y H s):∀(n:Nat) (t:Tr) {A:Around},t.dep<=n->A.units+n < cLine->t.In->t.isL=false->∀{u:Tr} {x y:V},u.In->u.isL=false->aS H t x []->aS H u y []->∀a b,au x a->au y b->EqAt A s a b (mj t u):=by
 intro n;induction n with
 |zero=>
  intro t A k J i L u x y d g j h a b R r;cases t with
  |tp l=>exact absurd k (by show ¬l.dep+1<=0;omega)
  |nil |cons _ _=>cases L
  |lf v=>
   obtain⟨rfl,_⟩:=j;cases u with
   |nil |cons _ _=>cases g
   |lf w=>obtain⟨rfl,_⟩:=h;exact Dv i d R r
   |tp m=>
    obtain⟨_,B,M,rfl,o,_⟩:=h;cases r;obtain⟨W,N,C,_⟩:=I.tuple (ax.of (K:=X.K) o);rw[qe (λc=>by cases c)];cases x<;>first |cases i |skip
    ·obtain⟨T,rfl⟩:=R;exact EqAt.int_tuple _ _ C RU
    ·obtain⟨T,rfl⟩:=R;exact EqAt.str_tuple _ _ C RU
 |succ n D=>
  intro t A k J i L u x y d g j h a b R r;cases t with
  |nil |cons _ _=>cases L
  |lf v=>exact D (.lf v) (Hg _) RU i L d g j h a b R r
  |tp l=>
   obtain⟨E,p,O,rfl,q,F⟩:=j;cases R;obtain⟨ia,Q,G,_⟩:=I.tuple (ax.of (K:=X.K) q);cases u with
   |nil |cons _ _=>cases g
   |lf w=>
    obtain⟨rfl,_⟩:=h;rw[qe (λc=>by cases c)];cases y<;>first |cases d |skip
    ·obtain⟨T,rfl⟩:=r;exact Pp _ _ G RU
    ·obtain⟨T,rfl⟩:=r;exact EqAt.tuple_str _ _ G RU
   |tp m=>
    have f:=id h;obtain⟨S,B,M,rfl,o,U⟩:=h;cases r;by_cases e:p=B
    ·subst e;rw[JE$ QZ (H:=H) (t:=.tp l) (u:=.tp m) (x:=.ref p) (xs:=[]) #[E,p,O,Z,q,F] f Z i d];exact M4 _
    ·exact PR e$ DX I n D (by have:l.dep+1<=n+1:=k;omega) RU i d E S q o F U
inductive DQ(d:Nat)(x y:V)(H:Hp)(Q:VK):Prop
 |mk(l m:Tr)(_:l.dep < d)(_:l.In)(_:m.In)(_:aS H (.tp l) x [])(_:aS H (.tp m) y [])(_:Q (.bl (mj (.tp l) (.tp m))) H)
theorem Bh(c:X.A.units+d+1 < cLine):eh X (compareOp .Eq) (DQ d):=by intro p s n H x y v u Q I r R h;obtain⟨l,m,o,i,e,⟨f,a,z,rfl,g,t⟩,⟨j,b,B,rfl,k,T⟩,q⟩:=h;cases r;cases R;exact DX I d (Ce I d) RU c i e f j g k t T X.prog X.w _ _ #[.bl _,H,I,Z,q]
end
end _K
namespace _K
open PySem PySem.Spec PyProof.Rows _L
variable {P:Program}{w:World}{K:Frag}{mg:Str->Option Value}{base:Heap}
def xZ(a:aI)(m:Nat)(p:aI):Prop:=∃(j:Nat) (q:aI),m<=j/\p=a++(j:Int)::q
theorem BP(p:aI)(m:Nat):xZ p m (p++[(m:Int)]):=#[m,[],GV _,Z]
theorem xZ.le(h:xZ a m p)(l:M<=m):xZ a M p:=let #[j,q,H,b]:=h;#[j,q,Hh l H,b]
theorem xZ.up{a:aI}{m j i:Nat}{p:aI}(h:xZ (a++[(j:Int)]) i p)(l:m<=j):∃q,p=a++(j:Int)::q/\q≠[]:=by obtain⟨k,q,_,e⟩:=h;exact#[(k:Int)::q,by rw[e,Lc];rfl,λz=>by cases z]
theorem Xo:∀(s:Sk) (p:aI) (k:Nat),∀q∈(s.ws p k).map (·.1),xZ p 0 q
 | .st _ _ w r,p,k,q,h=>by
  have h:q∈(((p++[(k:Int)],w)::w.ws (p++[(k:Int)]) 0)++r.ws p (k+1)).map (·.1):=h;rw[Hs,Ik]at h;rcases List.mem_append.mp h with h |h
  ·rcases List.mem_cons.mp h with rfl |h
   ·exact(BP p k).le (Hg _)
   ·obtain⟨Q,e,_⟩:=(Xo w _ 0 q h).up (m:=0) (Hg _);exact#[k,Q,Hg _,e]
  ·exact Xo r p (k+1) q h
 | .cl _ _ s _,p,_,q,h=>Xo s p 0 q h
 | .nil,_,_,_,h=>nomatch h
 | .ask _,_,_,_,h=>nomatch h
 | .rd _ _,_,_,_,h=>nomatch h
 | .wr _ _,_,_,_,h=>nomatch h
theorem Zo{w:Sk}{p:aI}{k:Nat}{q:aI}(h:q∈Bu (p++[(k:Int)]) w):∃Q,q=p++(k:Int)::Q:=by
 rcases List.mem_cons.mp h with rfl |h
 ·exact#[[],Z]
 ·obtain⟨Q,e,_⟩:=(Xo w _ 0 q h).up (m:=0) (Hg _);exact#[Q,e]
theorem uN(s:gK)(r:List gK)(p:aI)(k:Nat):(mn (s::r) p k).map (·.1)=Bu (p++[(k:Int)]) s.2.2++(mn r p$ k+1).map (·.1):=by show((_::_)++_).map _=_;rw[Hs];rfl
theorem uO:∀(os:List gK) (p:aI) (k:Nat),∀q∈(mn os p k).map (·.1),∃(i:Nat) (Q:aI),k<=i/\i < k+os.length/\q=p++(i:Int)::Q
 | [],_,_,_,h=>nomatch h
 |s::r,p,k,q,h=>by
  rw[uN]at h;rcases List.mem_append.mp h with h |h
  ·obtain⟨Q,e⟩:=Zo h;exact#[k,Q,GV _,by show k < k+(r.length+1);omega,e]
  ·obtain⟨i,Q,H,a,e⟩:=uO r p (k+1) q h;exact#[i,Q,RU,by show i < k+(r.length+1);omega,e]
theorem Xb:∀(p x y:aI),ik (p++x) (p++y)=ik x y
 | [],_,_=>rfl
 |a::p,x,y=>by show(if a=a then ik (p++x) (p++y) else _)=_;rw[Hm Z,Xb p]
theorem vJ{p q Q:aI}{i j:Nat}(h:i < j):ik (p++(i:Int)::q) (p++(j:Int)::Q)=true:=by rw[Xb];show(if (i:Int)=(j:Int) then _ else decide ((i:Int) < (j:Int)))=true;rw[Ho RU];exact Hl RU
theorem vK:ik p (p++(i:Int)::q)=true:=by have:=Xb p [] ((i:Int)::q);rw[Md]at this;exact this
abbrev CC(l:List aI):Prop:=l.Pairwise λa b=>ik a b=true
theorem oX:∀(s:Sk) (p:aI) (k:Nat),s.ok true->∀q∈(s.ws p k).map (·.1),xZ p k q
 |s,p,k,o,q,h=>by rw[QT o]at h;obtain⟨i,Q,H,_,e⟩:=uO _ _ _ q h;exact#[i,Q,H,e]
theorem BV(H:CC a)(c:CC b)(h:∀x∈a,∀y∈b,ik x y=true):CC (a++b):=List.pairwise_append.mpr #[H,c,h]
theorem YR:∀{b:Bool} {s:Sk},s.ok b->∀(p:aI) (k:Nat),CC ((s.ws p k).map (·.1))
 |true,.nil,_,_,_=>List.Pairwise.nil
 |true,.st _ _ w r,o,p,k=>by
  show CC ((((p++[(k:Int)],w)::w.ws (p++[(k:Int)]) 0)++r.ws p (k+1)).map (·.1));rw[Hs];refine BV ?_ (YR o.2 p$ k+1) λx H y h=>?_
  ·rw[Ik];refine List.pairwise_cons.mpr #[λy h=>?_,YR o.1 _ 0];obtain⟨i,q,_,e⟩:=Xo w _ 0 y h;rw[e];exact vK
  ·obtain⟨q,e⟩:=Zo (w:=w) (show x∈Bu (p++[(k:Int)]) w from H);obtain⟨i,Q,a,E⟩:=oX r p (k+1) o.2 y h;rw[e,E];exact vJ a
 |false,.cl _ _ s _,o,p,_=>YR (b:=true) (s:=s) o p 0
 |false,.ask _,_,_,_=>List.Pairwise.nil
 |false,.rd _ _,_,_,_=>List.Pairwise.nil
 |false,.wr _ _,_,_,_=>List.Pairwise.nil
theorem J5:∀i:List Int,(aC$ i.map aV).In
 | []=>trivial
 |_::i=>#[Z,J5 i]
theorem AH:aj P w K mg base aA 1 f c z14z (fu 0):=by
 have n:∀{v:List V} {H:Hp} {Q E},fu 0 v H Q E->False:=by intro v H Q E h;obtain⟨d,p,f,i,s,a,u,_,_,_,_,_,h,_⟩:=h;omega
 exact#[λv H Q E h=>(n h).elim,λA o s H b U v Q E e g j k h=>(n h).elim]
theorem DY(F:aJ K "_law_rows" "_law_rows" wZ f a)(b:ay K a z14z [])(M:mg "_law_rows"=some (.ref f))(m:mg "enumerate"=none):∀n,aj P w K mg base aA (n+1) f a z14z (fu n)
 |0=>AH
 |n+1=>A7 F #[(DY F b M m n),b,F.kp,M] m
theorem AM:aj P w K mg base (dD P w) 0 f c z5z (hX N 0):=by
 have n:∀{v:List V} {H:Hp} {Q E},hX N 0 v H Q E->False:=by intro v H Q E h;obtain⟨f,i,s,a,u,p,d,_,_,_,_,_,h,_⟩:=h;omega
 exact#[λv H Q E h=>(n h).elim,λA o s H b U v Q E e g j k h=>(n h).elim]
theorem DZ(F:aJ K "step_at" "step_at" xf f a)(x:XM K mg "NoStep" N)(m:mg "len"=none)(b:ay K a z5z [])(M:mg "step_at"=some (.ref f)):∀n,aj P w K mg base (dD P w) n f a z5z (hX N n)
 |0=>AM
 |n+1=>A8 F x m (DZ F x m b M n) (b) F.kp M
noncomputable abbrev sW:Stmt:=bM 12
theorem Dr(h:bu k A):A.units+119+1 < cLine:=by have:=h.un;omega
theorem zd(h:l7 H f i s a u)(k:ah H b):l7 b f i s a u:=let #[c,g,e,S,E,d,j,l,m]:=h;#[c,g,e,S,E,k _ _ d,k _ _ j,k _ _ l,m.mono k]
theorem Zp:∀(p q:aI),HT.lexLt p q=ik p q
 | [],[]=>rfl
 | [],_::_=>rfl
 |_::_,[]=>rfl
 |x::p,y::q=>by rw[HT.lexLt_cons,Zp p q];rfl
noncomputable def pd(c:Int):Sk->Bool
 | .wr b _=>decide (b=c)
 |_=>false
noncomputable def iZ(c:Int)(p:aI)(o:Option aI)(x:aI×Sk):Option aI:=if (ik x.1 p&&pd c x.2)=true then some x.1 else o
noncomputable def gc(c:Int)(o:Option aI)(x:aI×Sk):Option aI:=if pd c x.2=true then some x.1 else o
noncomputable def Sk.seen(s:Sk)(c:Int)(p:aI):Option aI:=(s.ws [] 0).foldl (iZ c p) none
def uR(H:Hp)(v:V):Option aI->Prop
 |none=>v= .non
 |some p=>∃a,v= .ref a/\H a=some (.tup (p.map V.int))
theorem uR.mono(k:ah H b):∀{o:Option aI},uR H v o->uR b v o
 |none,h=>h
 |some _,z=>by obtain⟨a,e,h⟩:=z;exact #[a,e,k _ _ h]
theorem qX:∀(s:Sk) (b:aI) (k:Nat),(s.rws b k).map (λx=>(x.1,x.2.2.2))=s.ws b k
 | .st n h w r,b,k=>by show(((b++[(k:Int)],(n,h,w))::w.rws (b++[(k:Int)]) 0)++r.rws b (k+1)).map (λx=>(x.1,x.2.2.2))=((b++[(k:Int)],w)::w.ws (b++[(k:Int)]) 0)++r.ws b (k+1);rw[Hs,Ik,qX w,qX r]
 | .cl _ _ s _,b,_=>qX s b 0
 | .nil,_,_=>rfl
 | .ask _,_,_=>rfl
 | .rd _ _,_,_=>rfl
 | .wr _ _,_,_=>rfl
def CS(s:Sk)(p:aI):Prop:=∀k h c n,aG s p≠some (k,h,.rd c n)
inductive lg(b:Addr)(h:List V)(H:Hp)(Q:VK)(E:XK):Prop
 |mk(f:Str)(d:List Int)(s:Sk)(a:Int)(u:V)(e:Addr)(g:aI)(_:h=[u,.ref e])(_:l7 H f d s a u)(_:s.ok true)(_:s.dep<=15)(_:s.size<=60)(_:H e=some (.tup (g.map V.int)))(_:g.length<=16)(_:∀(k:Int) (hs:List Int) (c n:Int) (v:V) (H':Hp),aG s g=some (k,hs,.rd c n)->uR H' v (s.seen c g)->ae H H'->Q v H')(_:CS s g->Fl E b (Kp H))
inductive F8(u:V)(j h:Addr)(m:List (aI×Sk))(c:Int)(k:aI)(H:Hp)(i:Nat)(n:_L.St)(a:Hp):Prop
 |mk(l:V)(f g:Option V)(b:n=[some u,some (.ref j),some (.ref h),some l,f,g])(d:uR a l ((m.take i).foldl (iZ c k) none))(e:ae H a)
theorem qy{a c:Type}{f:c->a->c}{l:List a}{x:a}{b:c}(h:l[i]?=some x):(l.take$ i+1).foldl f b=f ((l.take i).foldl f b) x:=by rw[Lh,h,OP];rfl
theorem Q0:∀{p:aI} {s:Sk} {st:gK},s.ok true->aG s p=some st->st.2.2.ok false/\st.2.2.size<=s.size
 | [],s,st,o,h=>by cases h
 | [i],s,st,o,h=>by
  by_cases b:0<=i
  ·cases H:s.steps[i.toNat]? with
   |none=>rw[kP H]at h;cases h
   |some S=>rw[qW b H]at h;cases h;have z:=Jt o H;exact#[z.1,RU]
  ·rw[zo b]at h;cases h
 |i::j::p,s,st,o,h=>by
  by_cases b:0<=i
  ·cases H:s.steps[i.toNat]? with
   |none=>rw[kP H]at h;cases h
   |some S=>
    obtain⟨n,d,W⟩:=S;cases W with
    |cl f I c a=>rw[zV b H]at h;have z:=Jt o H;have e:c.ok true:=z.1;have g:c.size+1<=s.size:=z.2.1;have y:=Q0 e h;exact#[y.1,RU]
    |nil |st _ _ _ _ |ask _ |rd _ _ |wr _ _=>rw[Js b H (λ_ _ _ _ z=>by cases z)]at h;cases h
  ·rw[zo b]at h;cases h
theorem Zq:∀{p:aI} {s:Sk} {st:gK},s.ok true->aG s p=some st->st.2.2.dep<=s.dep
 | [],s,st,o,h=>by cases h
 | [i],s,st,o,h=>by
  by_cases b:0<=i
  ·cases H:s.steps[i.toNat]? with
   |none=>rw[kP H]at h;cases h
   |some S=>rw[qW b H]at h;cases h;have z:=Jt o H;exact z.2.2
  ·rw[zo b]at h;cases h
 |i::j::p,s,st,o,h=>by
  by_cases b:0<=i
  ·cases H:s.steps[i.toNat]? with
   |none=>rw[kP H]at h;cases h
   |some S=>
    obtain⟨n,d,W⟩:=S;cases W with
    |cl f I c a=>rw[zV b H]at h;have z:=Jt o H;have e:c.ok true:=z.1;have g:c.dep+1<=s.dep:=z.2.2;have y:=Zq e h;omega
    |nil |st _ _ _ _ |ask _ |rd _ _ |wr _ _=>rw[Js b H (λ_ _ _ _ z=>by cases z)]at h;cases h
  ·rw[zo b]at h;cases h
theorem YS:∀{b:Bool} {s:Sk},s.ok b->(mh s).In
 |true,.nil,_=>trivial
 |true,.st n h w r,o=>#[#[Z,J5 h,YS o.1,trivial],YS o.2]
 |false,.ask _,_=>#[Z,Z,trivial]
 |false,.rd _ _,_=>#[Z,Z,Z,trivial]
 |false,.wr _ _,_=>#[Z,Z,Z,trivial]
 |false,.cl f i s a,o=>#[Z,#[Z,J5 i,YS (b:=true) o,Z,trivial],trivial]
theorem C3{s:Sk}(o:s.ok true):(C2 f i s a).In:=#[Z,J5 i,YS (b:=true) o,Z,trivial]
theorem Co{s:Sk}(o:s.ok true)(h:x∈s.ws [] 0):x.2.ok false/\x.2.dep<=s.dep:=by rw[<- qX]at h;obtain⟨y,H,rfl⟩:=List.mem_map.mp h;have z:=(Xa o H).1;exact#[(Q0 o z).1,Zq o z]
theorem EZ(x y:V)(r:List V):aD (x::y::r) none (some 2)=[x,y]:=by unfold aD HT.sIx;simp
noncomputable def CF:Sk->Tr
 | .ask b=>aC [bh "ask",aV b]
 | .rd c _=>aC [bh "read",aV c]
 | .wr c _=>aC [bh "write",aV c]
 | .cl f i s a=>aC [bh "call",.tp (C2 f i s a)]
 |_=>aC []
theorem Dp{w:Sk}(o:w.ok false)(d:w.dep<=15)(h:em H w u []):∃(p:Addr) (x y:V) (r:List V),u= .ref p/\H p=some (.tup (x::y::r))/\(CF w).dep < 119/\(CF w).In/\(∀c,mj (.tp$ CF w) (.tp$ aC [bh "write",aV c])=pd c w)/\∀(q:Addr) (j:Hp),ah H j->j q=some (.tup [x,y])->aS j (.tp$ CF w) (.ref q) []:=by
 have n:∀{a b:Str} {x y:Tr},a≠b->mj (.tp$ aC [bh a,x]) (.tp$ aC [bh b,y])=false:=λm=>qe λc=>by injection c with c;injection c with c;injection c with c;injection c with c;exact m c
 cases w with
 |nil |st _ _ _ _=>exact o.elim
 |ask b |rd b i=>obtain⟨p,e,h⟩:=h;exact#[p,_,_,_,e,h,by show max 0 (max 0 0) < 119;decide,#[Z,Z,trivial],λc=>n RT,λq j k e=>jC e (jl Z jO$ jl Z kc jB)]
 |wr b i=>
  obtain⟨p,e,h⟩:=h;refine#[p,_,_,_,e,h,by show max 0 (max 0 0) < 119;decide,#[Z,Z,trivial],λc=>?_,λq j k e=>jC e (jl Z jO$ jl Z kc jB)];by_cases l:b=c
  ·subst l;exact(JE Z).trans (Hl Z).symm
  ·refine(qe λz=>?_).trans (G8 l).symm;injection z with z;injection z with _ z;injection z with z _;injection z with z;injection z with z;exact l z
 |cl f is s a=>
  obtain⟨p,C,g,E,S,e,t,v,A,B,D⟩:=h;have d:s.dep+1<=15:=d;have G:=Aa (f:=f) (is:=is) (a:=a) (show s.ok true from o) RU;have F:(CF$ .cl f is s a).dep < 119:=by show max 0 (max ((C2 f is s a).dep+1) 0) < 119;omega
  refine#[p,_,_,_,e,t,F,#[Z,C3 (show s.ok true from o),trivial],λc=>n RT,λq j k e=>jC e (jl Z jO$ jl Z (C4 #[C,g,E,S,Z,k _ _ v,k _ _ A,k _ _ B,D.mono k] o) jB)]
theorem gf:ak ["chain","path","reading","last","other","what"] z5z (aa sW):=bL
theorem wg(F:aJ K "seen" "seen" sW f fd)(X:XM K mg "NoStep" NS)(GS:aj P w K mg base (dD P w) 18 fS f0 z5z (hX NS 17))(bS:ay K f0 z5z [])(kS:keepIn K (.ref fS)=true)(mS:mg "step_at"=some (.ref fS))(cW:Cl P w K mg base 35 fW f2 ["chain"] oj "whats"):aj P w K mg base (dD P w) 36 f fd z5z (lg NS):=by
 refine F.ok1 gf ?_ λc0 A o1 s H vs Q E hr h=>?_
 ·rintro _ _ _ _ ⟨f,is,s,a,u,pa,l,rfl,_⟩;rfl
 obtain⟨f,is,s,a,u,pa,l,rfl,hc,y,hd,hz,M,h2,q,B⟩:=h;refine#[_,(je (jx 2 gf.nd$ jr jR (ke GS hr.m Z mS kS bS .nil kY$ ja (pv 0)$ ja (pv 1) jb) jf (λ_ _=>Z))$ je (jw (jA YK (jz$ pv 2) jk$ aE _) (jg$ @ql _ _ _ _ _ Z zR$ @zQ _ _ _ _ _ X.ex X.kp Z X.m RT) jp)$ je (jx 3 gf.nd$ @QM _ _ _)$ je (j9 Ob Z (zc$ cW.e hr.m$ ja (pv 0) jb) (kU (n:=2) Z$ jy (ju (i:=4) gf.nd Z$ Or.inl Z)$ jy (ju (i:=5) gf.nd Z$ Or.inl Z) j5)$ jg$ jw (PW.pt$ Jk (jA (Bj$ Mq$ zF hr) (pv 4) (pv 1)$ aE _)$ qu$ jA (Bh$ Dr hr) (jJ zj (pv 5) j3$ jH jf) (jh$ ja jk$ ja (jz$ pv 2) jb)$ aE _) (jg$ jx 3 gf.nd$ pv 4) jp)$ jg$ jo$ pv 3),?_];have b0:=aF;refine ai λN d=>#[_,Z,_,Z,f,is,s,a,u,pa,l,Z,hc,y,hz,M,RU,λk hs w p h v H1 es e1 e2 e3 O s0 s1=>#[p,_,_,_,Z,Z,ax.of e1,mG,d _ _ ?_],λhn=>(B λk hs c n z=>by rw[hn]at z;cases z).nextK];clear d;cases w with
 |nil |st _ _ _ _=>exact O.elim
 |ask b |wr b R=>obtain⟨p',rfl,G⟩:=e3;exact ai λN d=>(js G dH #[Z,_,Z,bQ RW λx nx=>#[x,NS,none,Z,jc,X.xc,X.ty,λT nT=>B (λk' h0 c' n' z=>by rw[es]at z;cases z) () _ (Kp.of_same$ s1.trans$ zg nx nT)]])
 |cl f' i0 s' a'=>obtain⟨p',c1,g',e4,y1,rfl,G,g2,g3,g4,g5⟩:=e3;exact ai λN d=>(js G dH #[Z,_,Z,bQ RW λx nx=>#[x,NS,none,Z,jc,X.xc,X.ty,λT nT=>B (λk' h0 c' n' z=>by rw[es]at z;cases z) () _ (Kp.of_same$ s1.trans$ zg nx nT)]])
 |rd c n=>
  obtain⟨p',rfl,G⟩:=e3;refine ai λN d=>(js G dH #[Z,_,Z,aO RW$ d _ _ ?_]);clear d;refine ai λN d=>d _ _ ?_;clear d;refine ai λN d=>dN λJ jj=>#[_,Z,f,is,s,a,u,Z,zd hc$ ae.tm s1,y,hd,hz,λr xs H2 nr S hx s2=>#[r,Z,#[_,aB.of S],jj _ _ ?_]];clear jj;have S2:=s1.trans s2;refine zS (K:=K) (a:=r) (xs:=xs) (F8 u pa p' (s.ws [] 0) c l H2) #[.non,_,_,Z,Z,ae.refl _] (λi σ Hx _ h=>by obtain⟨V,o4,o5,rfl,D,W⟩:=h;exact aB.of$ W _ _ S) ?_ (λσ Hx h=>d _ _ ?_)
  ·clear d;intro E' rt i x σ H3 h1 C Gq L h;obtain⟨V,o4,o5,rfl,D,W⟩:=h;refine L ?_;clear L;obtain⟨⟨t,w⟩,g,q0,po,v,rfl,r1,r2,r3⟩:=(hx.mono lH$ ae.tm W).at h1;obtain⟨O,d0⟩:=Co y (Hf g);obtain⟨pw,x0,y0,rr,rfl,k1,k2,k3,k4,k5⟩:=Dp O (Hh d0 hd) r3;have st:∀o,iZ c l o (t,w)=if (ik t l&&pd c w)=true then some t else o:=λo=>Z;refine#[q0,_,Z,ax.of r1,Z,_,_,Z,_,_,Z,Z,?_];refine rf λG1 yT yF=>#[_,Z,_,Z,po,pa,t,l,Z,Z,ax.of r2,ax.of$ W _ _$ S2 _ _ M,_,Z,?_];rw[Zp];by_cases j:ik t l=true
   ·refine bQ j #[_,Z,_,Z,pw,_,Z,k1,λb1 U e5 k6=>?_];have e5:U b1=some (.tup [x0,y0]):=by rw[EZ]at e5;exact e5
    refine(js (k6 _ _$ W _ _$ s2 _ _ G) iH #[bo,λR n2=>?_]);have a2:ae U (af U R$ .tup [.str "write",.int c]):=jd n2;have e6:af U R (.tup [.str "write",.int c]) R=some (.tup [.str "write",.int c]):=jc;generalize af U R (.tup [.str "write",.int c])=I2 at a2 e6 ⊢;have Y:=k6.trans a2;refine#[CF w,aC [bh "write",aV c],k2,k3,#[Z,Z,trivial],k5 b1 I2 (ae.tm Y)$ a2 _ _ e5,jC e6$ jl Z jO$ jl Z kc jB,_,Z,?_];rw[k4];by_cases I:pd c w=true
    ·rw[show pd c (t,w).2=true from I];refine yT _ #[_,Z,C _ _ #[.ref po,_,_,Z,?_,W.trans Y]];rw[qy g,st,Hm (by rw[j,I];rfl)];exact#[po,Z,Y _ _ r2]
    ·have I:pd c w=false:=by simpa using I
     rw[show pd c (t,w).2=false from I];refine yF _$ C _ _ #[V,_,_,Z,?_,W.trans Y];rw[qy g,st,Ho (by rw[I,Mj];decide)];exact D.mono$ ae.tm Y
   ·have j:ik t l=false:=by simpa using j
    refine aO j$ yF _$ C _ _ #[V,_,_,Z,?_,W];rw[qy g,st,Ho (by rw[j,M0];decide)];exact D
  ·clear d;obtain⟨V,o4,o5,rfl,D,W⟩:=h;have e:(s.ws [] 0).take xs.length=s.ws [] 0:=by rw[hx.len];exact HY
   rw[e]at D;exact#[_,Z,q _ _ c n V Hx es D$ S2.trans W]
noncomputable abbrev tw:Stmt:=bM 76
structure Nx(K:Frag)(NS N1:Addr):Prop where
 x:io K NS
 k1:kitOne K (.ref NS) (.ref N1)=some false
 mb:mroIn K NS (.ref NS)=some true
inductive ll(h:List V)(H:Hp)(Q:VK)(b:XK):Prop
 |mk(f:Str)(d:List Int)(s:Sk)(a:Int)(u:V)(e:Addr)(g:aI)(_:h=[u,.ref e])(_:l7 H f d s a u)(_:s.ok true)(_:s.dep<=15)(_:s.size<=60)(_:H e=some (.tup (g.map V.int)))(_:g.length<=16)(_:∀(k:Int) (hs:List Int) (c n:Int) (v:V) (t:Addr) (H':Hp),aG s g=some (k,hs,.rd c n)->uR H' v (s.seen c g)->H' t=some (.tup [.str "told",v])->Kp H H'->Q (.ref t) H')(_:CS s g->∀(t:Addr) (H':Hp),H' t=some (.tup [.str "step",.bl false])->Kp H H'->Q (.ref t) H')
theorem iY:ak ["_law_chain_here","_law_path","_law_found","e"] ["_law_chain_here","_law_path"] (aa tw):=bL
theorem wt(F:aJ K "_law_told" "_law_told" tw f Y)(V:aj P w K mg base (dD P w) 36 z g z5z (lg N))(W:ay K g z5z [])(X:keepIn K (.ref z)=true)(mS:mg "seen"=some (.ref z))(i:Nx K N B)(g0:mg "NoStep"=some (.ref N))(h0:clsIn K N≠none)(t0:typeIn K (.ref N)=some (.type "type"))(m0:mroIn K N (.type "BaseException")=some true)(g1:mg "NoName"=some (.ref B))(M:mg "isinstance"=none):aj P w K mg base aA 37 f Y ["_law_chain_here","_law_path"] ll:=by
 refine F.ok iY ?_ λc0 A O s H vs Q E hr h=>?_
 ·rintro _ _ _ _ ⟨f,I,s,a,u,D,G,rfl,_⟩;rfl
 obtain⟨f,I,s,a,u,D,G,rfl,hc,j,hd,hz,l,q,qa,qb⟩:=h;refine#[_,(je (@wK _ _ _ _ _ _ _ _ _ _ _ _ (3) _ Z Z (@Y1 _ _ _ _ (2) _ _ iY.nd Z (Or.inl Z) (@sj _ _ _ _ _ _ _ jk (@Xt _ _ _ _ _ _ _ _ _ _ _ _ _ _ V hr.m Z mS X W .nil (ja (pv 0)$ ja (pv 1) jb) RT RX RX) RX) RX (by first |exact .inl Z |exact .inr Z)) Z g0 h0 t0 m0 iY.nd Z Z (λ_=>(jg$ jx 2 iY.nd$ jh$ ja jk$ ja (jI (Ql (K:=K) RX) Z M boot_isinstance$ ja (pv 3)$ ja (qt (v:=.ref B) Z g1 Z) jb) jb)) RT)$ jg$ jo$ pv 2),?_];refine ai λF1 L=>#[_,Z,_,Z,f,I,s,a,u,D,G,Z,hc,j,hd,hz,l,q,λk hs c n v H' es rv sm p R=>L _ _ #[_,Z,qa k hs c n v p _ es (rv.mono$ ae.tm$ jd R) jc$ Kp.of_same$ sm.trans$ jd R],λhn=>?_];intro _ r k7 x C T eC hx hT h1;cases eC;refine#[i.mb,λd y=>?_];have S:Kp H (af (af r d$ dJ d) x$ dW N none d x):=λb o n e=>qV (H:=H) (k7 _ _ n e) n hx y;have U:uW (af (af r d$ dJ d) x$ dW N none d x) x N []:=.inl #[Z,d,jc];generalize af (af r d$ dJ d) x (dW N none d x)=H3 at S U;exact#[_,Z,x,N,_,_,_,_,Z,Z,U,i.x,i.k1,bo,λt nt=>L _ _ #[_,Z,qb hn t _ jc$ S.trans$ Kp.of_same$ jd nt]]
noncomputable abbrev wT:Stmt:=bM 77
theorem Zr{lo:Option Int}(h:x∈aD a lo H):x∈a:=MZ (HZ h)
theorem C9(xs:List V):(aD xs none$ some 12).length<=12:=by unfold aD HT.sIx;simp;omega
theorem Ae(p:aI):∃q:aI,aD (p.map V.int) none (some (-1))=q.map V.int:=by refine#[p.take ((-1+(p.length:Int)).toNat),?_];unfold aD HT.sIx;simp [Ma]
def EO(s:Sk)(q:List aI):Prop:=∀p∈q,aG s p=none
inductive FP(c:Addr)(s:Sk)(H:Hp)(i:Nat)(p:_L.St)(a:Hp):Prop
 |mk(l:Addr)(j k m:Option V)(o:List V)(n:List aI)(b:p=[some (.ref c),some (.ref l),j,k,m])(d:a l=some (.lst o))(e:df CA a n o)(f:EO s n)(g:o.length<=4+3*i)(h:ae H a)
inductive n6(d:List V)(H:Hp)(Q:VK)(b:XK):Prop
 |mk(f:Str)(c:List Int)(s:Sk)(a:Int)(u:V)(_:d=[u])(_:l7 H f c s a u)(_:s.ok true)(_:s.dep<=15)(_:s.size<=60)(_:∀(l:Addr) (xs:List V) (qs:List aI) (H':Hp),H l=none->H' l=some (.lst xs)->df CA H' qs xs->EO s qs->(∀p∈qs,p.length<=16)->xs.length<=40->ae H H'->Q (.ref l) H')
theorem YG{K:Frag}{a:Addr}{xs:List V}{t:TT}{Q:List V->Hp->Prop}(A:xs.length<=sizeLine)(Pv:Nat->List V->Hp->Prop)(n:Pv 0 [] H)
  (o:∀i Y h,Pv i Y h->aB K h a xs/\Y.length<=i) (q:∀i x Y h,xs[i]?=some x->Pv i Y h->t (some x::c) h λb d=>if b=true then T (some x::c) d λy r=>Pv (i+1) (Y++[y]) r else Pv (i+1) Y d) (s:∀Y h,Pv xs.length Y h->Q Y h):
  eB (uY K a) 1 c (bp 0) t T Q H:=by
 refine#[λi m Y h=>m=xs.length - i/\i<=xs.length/\Pv i Y h,#[xs.length,RV,Hg _,n],?_];intro i m Y h g;obtain⟨rfl,B,p⟩:=g;obtain⟨j,C⟩:=o i Y h p;by_cases f:i < xs.length
 ·refine .inr #[#[xs,xs[i],j,GN f],RU,Pv$ i+1,λu d z=>#[xs.length - (i+1),RU,Z,f,z],λv d D k y=>?_];obtain⟨e,y⟩:=y;subst e;obtain⟨w,rfl⟩:=rE k;exact#[#[[some _],Z,Z],q i v Y d (y xs j) p]
 ·have e:i=xs.length:=by omega
  subst e;exact .inl #[#[xs,j,GV _],s Y h p]
theorem y8(p:aI)(k:Int):p.map V.int++[V.int k]=(p++[k]).map V.int:=by rw[Hs];rfl
theorem gU:ak z39z ["_law_chain_here"] (aa wT):=bL
noncomputable def YH:Scope:=#[.function,[(".0",.local),("_law_path",.local),("len",.globalImplicit)],false,false,[]]
theorem vM:(["_law_path"]:List Str).Nodup:=by decide+kernel
theorem vj:aZ z39z (aa wT) YH ["_law_path"] 1 []:=nC
theorem AT(F:aJ K "_law_bad" "_law_bad" wT f fd)(cR:Cl P w K mg base 17 fR f2 z14z (fu 16) "_law_rows")(ml:mg "len"=none):aj P w K mg base aA 18 f fd ["_law_chain_here"] n6:=by
 refine F.ok gU ?_ λc0 A o1 s H vs Q E hr h=>?_
 ·rintro _ _ _ _ ⟨f,is,s,a,u,rfl,_⟩;rfl
 obtain⟨f,is,s,a,u,rfl,hc,G,hd,hz,q⟩:=h;refine#[_,(je (jx 1 gU.nd$ jE$ ja (jh jb)$ ja (jh$ ja (jI jD Z ml HR$ ja (jz$ pv 0) jb) jb)$ ja (jh$ ja (Qn Jl jf) jb)$ ja (jh$ ja (jv jZ (jI jD Z ml HR$ ja (jz$ pv 0) jb) jf) jb) jb)$ je (j9 HM Z (zc$ jJ kf (cR.e hr.m$ ja (pv 0)$ ja (jh jb) jb) j3$ jH jf) (kU (n:=2) Z$ jy (ju (i:=2) gU.nd Z$ Or.inl Z)$ jy (ju (i:=3) gU.nd Z$ Or.inl Z) j5)$ je (jx 4 gU.nd jf)$ je (jw (kh$ jz$ jr jR (pv 3) jf (λ_ _=>Z)) (jg$ jx 4 gU.nd$ jI jD Z ml HR$ ja (jz$ jr jR (jr jR (pv 3) jf (λ_ _=>Z)) jf (λ_ _=>Z)) jb) jp)$ jg$ jx 1 gU.nd$ jv zI (pv 1)$ jE$ ja (jv jV (pv 2)$ jh$ ja (pv 4) jb)$ ja (jv jV (pv 2)$ jh$ ja (Qn Jl jf) jb)$ ja (jv jV (jJ zj (pv 2) j3$ jH$ Qn Jl jf)$ jh$ ja (Qn Jl jf) jb) jb)$ jg$ jo$ @kE _ _ _ _ _ _ _ (["_law_path"]) (1) ([]) _ _ _ _ Z (zc$ pv 1) vj (λ_ _ _ _ _=>(ju (i:=0) vM Z$ Or.inl Z)) (λ_ _ _ _ _=>(@sq _ _ _$ jA yu (jI (Z0 (K:=K) RX) Z ml HR$ ja (pv 0) jb) jf Z)) (λ_ _ _ _ _=>(pv 0)) (by intro _;rfl)),?_];have b0:=aF;obtain⟨c,g,e,S,rfl,h1,h2,h3,h4⟩:=hc;have ln:=qv G h4;refine ai λF1 k=>#[ig,λT n0=>(js (am h1 n0) mG #[e,_,Z,.inr$ ax.of$ am h3 n0,gH,λB Y=>#[_,Z,gH,λC n2=>(js (am (am (am h1 n0) Y) n2) mG #[e,_,Z,.inr$ ax.of$ am (am (am h3 n0) Y) n2,_,_,Z,Z,gH,λD n3=>#[oW,λl nl=>k _ _ ?_]])]])];clear k;have a0:ae H (af H T$ .tup []):=jd n0;have g0:af H T (.tup []) T=some (.tup []):=jc;generalize af H T (.tup [])=H1 at a0 g0 Y n2 n3 nl ⊢;have a1:ae H1 (af H1 B$ .tup [.int (S.length:Int)]):=jd Y;have g1:af H1 B (.tup [.int (S.length:Int)]) B=some (.tup [.int (S.length:Int)]):=jc;generalize af H1 B (.tup [.int (S.length:Int)])=H2 at a1 g1 n2 n3 nl ⊢;have a2:ae H2 (af H2 C$ .tup [.int (-1)]):=jd n2;have g2:af H2 C (.tup [.int (-1)]) C=some (.tup [.int (-1)]):=jc;generalize af H2 C (.tup [.int (-1)])=H3 at a2 g2 n3 nl ⊢;have a3:ae H3 (af H3 D$ .tup [.int ((S.length:Int)+9)]):=jd n3;have g3:af H3 D (.tup [.int ((S.length:Int)+9)]) D=some (.tup [.int ((S.length:Int)+9)]):=jc;generalize af H3 D (.tup [.int ((S.length:Int)+9)])=H4 at a3 g3 nl ⊢;have M:ae H4 (af H4 l$ .lst [.ref T,.ref B,.ref C,.ref D]):=jd nl;have g4:af H4 l (.lst [.ref T,.ref B,.ref C,.ref D]) l=some (.lst [.ref T,.ref B,.ref C,.ref D]):=jc;generalize af H4 l (.lst [.ref T,.ref B,.ref C,.ref D])=H5 at M g4 ⊢;have S5:ae H H5:=(((a0.trans a1).trans a2).trans a3).trans M;have l0:df CA H5 [[],[(S.length:Int)],[-1],[(S.length:Int)+9]] [.ref T,.ref B,.ref C,.ref D]:=#[_,_,Z,#[T,Z,M _ _$ a3 _ _$ a2 _ _$ a1 _ _ g0],_,_,Z,#[B,Z,M _ _$ a3 _ _$ a2 _ _ g1],_,_,Z,#[C,Z,M _ _$ a3 _ _ g2],_,_,Z,#[D,Z,M _ _ g3],Z];have n':EO s [[],[(S.length:Int)],[-1],[(S.length:Int)+9]]:=by
  intro p hp;simp only[II,HG,Mh]at hp;rcases hp with rfl |rfl |rfl |rfl
  ·rfl
  ·exact kP$ HU RU
  ·exact QW [] s
  ·exact kP$ HU RU
 refine ai λF1 k=>dN λJ jj=>#[_,Z,ig,λtz nz=>#[tz,[],f,is,s,a,_,Z,jc,RT,#[c,g,e,S,Z,am (S5 _ _ h1) nz,am (S5 _ _ h2) nz,am (S5 _ _ h3) nz,(h4.mono$ ae.tm S5).mono$ ae.tm$ jd nz],G,RU,RU,λlr R Hr b5 h7 h8 sR=>#[_,Z,lr,R,Z,aB.of h7,λsl a5=>#[sl,Z,#[_,aB.of jc],jj _ _ ?_]]]];clear jj;have aR:ae H5 Hr:=(jd nz).trans sR;have M:=M.trans aR;have g4:=aR _ _ g4;have l0:=l0.mono nG (ae.tm aR);have S5:=S5.trans aR;have a6:ae Hr (af Hr sl$ .lst$ aD R none$ some 12):=jd a5;have g6:af Hr sl (.lst$ aD R none$ some 12) sl=some (.lst$ aD R none$ some 12):=jc;generalize af Hr sl (.lst$ aD R none$ some 12)=H6 at a6 g6 ⊢;have S6:=S5.trans a6;have c2:=C9 R;refine zS (K:=K) (a:=sl) (xs:=aD R none (some 12)) (FP c s H6) #[l,_,_,_,_,_,Z,a6 _ _ g4,l0.mono nG$ ae.tm a6,n',GV 4,ae.refl _] (λi σ Hx _ h=>by obtain⟨l,o4,o5,o6,xs,qs,rfl,w1,w2,w3,w4,N⟩:=h;exact aB.of$ N _ _ g6) ?_ (λσ Hx h=>k _ _ ?_)
 ·clear k;intro E rt i x σ H7 h0 f0 Gq kq h;obtain⟨l,o4,o5,o6,xs,qs,rfl,w1,w2,w3,w4,N⟩:=h;refine kq ?_;clear kq;have hi:i < (aD R none$ some 12).length:=(List.getElem?_eq_some_iff.mp h0).1;have hm:x∈R:=Zr (Hf h0);obtain⟨j,hj⟩:=List.mem_iff_getElem?.mp hm;have S7:=S6.trans N;obtain⟨⟨d,Y,h',w⟩,h5,q0,pa,st,hh,v,rfl,r1,r2,r3,r4,r5⟩:=(h8.mono iB$ ae.tm$ a6.trans N).at hj;obtain⟨I,s0⟩:=Xa G (Hf h5);have I:aG s d=some (Y,h',w):=I;have s0:d.length<=s.dep+1:=s0;have r2:H7 pa=some (.tup$ d.map V.int):=r2;have r3:H7 st=some (.tup [.int Y,.ref hh,v]):=r3;have r5:em H7 w v []:=r5;obtain⟨O,s1⟩:=Q0 G I;have O:w.ok false:=O;refine#[q0,_,Z,ax.of r1,Z,_,_,Z,_,_,Z,Z,?_];refine ai λF1 k=>k _ _ ?_;clear k;refine ai λF1 k=>?_;have nx:F1 [some$ .ref c,some$ .ref l,some$ .ref pa,some$ .ref st,some$ .int (w.many:Int)] H7:=by
   refine k _ _ ?_;refine#[_,Z,_,Z,_,Z,gH,λu1 m1=>#[pa,u1,_,_,Z,Z,am r2 m1,jc,by rw[GQ];show _+1<=_;omega,λU I1 e1 k1=>?_]];have K1:ae H7 I1:=(jd (o:=.tup [.int (w.many:Int)]) m1).trans k1;have e1:I1 U=some (.tup$ d.map V.int++[.int (w.many:Int)]):=e1;rw[y8]at e1;refine#[_,Z,_,Z,gH,λu2 m2=>#[pa,u2,_,_,Z,Z,am (K1 _ _ r2) m2,jc,by rw[GQ];show _+1<=_;omega,λW I2 e2 k2=>?_]];have K2:ae I1 I2:=(jd (o:=.tup [.int (-1)]) m2).trans k2;have e2:I2 W=some (.tup$ d.map V.int++[.int (-1)]):=e2;rw[y8]at e2;refine#[_,Z,_,Z,_,Z,pa,_,Z,K2 _ _$ K1 _ _ r2,λb3 I3 e3 k3=>?_];obtain⟨q',e5⟩:=Ae d;have e3:I3 b3=some (.tup$ aD (d.map V.int) none$ some (-1)):=e3;have lq:q'.length<=16:=by
    have z:(aD (d.map V.int) none$ some (-1)).length<=(d.map V.int).length:=by unfold aD;simp;omega
    rw[e5,GQ,GQ]at z;omega
   rw[e5]at e3;refine#[_,Z,gH,λu4 m4=>#[b3,u4,_,_,Z,Z,am e3 m4,jc,by rw[GQ];show _+1<=_;omega,λX I4 e4 k4=>?_]];have K4:ae I3 I4:=(jd (o:=.tup [.int (-1)]) m4).trans k4;have e4:I4 X=some (.tup$ q'.map V.int++[.int (-1)]):=e4;rw[y8]at e4;have KA:ae H7 I4:=((K1.trans K2).trans k3).trans K4;refine#[dZ,λl2 n4=>#[l,l2,xs,_,Z,Z,am (KA _ _ w1) n4,jc,by show _+3<=_;omega,λl3 n5=>f0 _ _ ?_]];have k5:ae I4 (af I4 l2$ .lst [.ref U,.ref W,.ref X]):=jd n4;generalize af I4 l2 (.lst [.ref U,.ref W,.ref X])=I5 at k5 n5 ⊢;have k6:ae I5 (af I5 l3$ .lst$ xs++[.ref U,.ref W,.ref X]):=jd n5;have r:=k5.trans k6;have l1:df CA (af I5 l3$ .lst$ xs++[.ref U,.ref W,.ref X]) [d++[(w.many:Int)],d++[-1],q'++[-1]] [.ref U,.ref W,.ref X]:=#[_,_,Z,#[U,Z,r _ _$ K4 _ _$ k3 _ _$ K2 _ _ e1],_,_,Z,#[W,Z,r _ _$ K4 _ _$ k3 _ _ e2],_,_,Z,#[X,Z,r _ _ e4],Z];refine#[l3,_,_,_,xs++[.ref U,.ref W,.ref X],qs++[d++[(w.many:Int)],d++[-1],q'++[-1]],Z,jc,df.app l1$ w2.mono nG$ ae.tm$ KA.trans r,?_,?_,N.trans$ KA.trans r]
   ·intro p hp;rcases List.mem_append.mp hp with hp |hp
    ·exact w3 p hp
    ·simp only[II,HG,Mh]at hp;rcases hp with rfl |rfl |rfl
     ·exact Zm I
     ·exact QW _ s
     ·exact QW _ s
   ·rw[GU];show _+3<=_;omega
  obtain⟨p3,v3,r6,eu,a9,h6⟩:=Zk O r5;subst eu;refine(js r3 mG #[p3,_,_,_,Z,Z,ax.of a9,dH,Z,_,Z,?_]);rw[Zl];by_cases hv:v3="call"
  ·obtain⟨g',i0,s',a',rfl⟩:=h6.mp hv;obtain⟨x1,c1,y1,z1,s2,e6,k1,k2,k3,k4,k5⟩:=r5;cases e6;have l4:=qv (show s'.ok true from O) k5;refine bQ (Hl hv)$ js r3 mG #[p3,_,_,_,Z,Z,ax.of k1,iH,c1,_,_,_,Z,Z,ax.of k2,mG,z1,_,Z,.inr$ ax.of k4,?_];rw[l4];exact nx
  ·have e0:w.many=0:=by
    cases w with
    |cl f is s a=>exact absurd (h6.mpr #[f,is,s,a,Z]) hv
    |_=>rfl
   rw[e0]at nx;exact aO (G8 hv) nx
 ·clear k;obtain⟨l,o4,o5,o6,xs,qs,rfl,w1,w2,w3,w4,N⟩:=h;refine#[_,Z,l,Z,#[_,aB.of w1],?_];refine YG (K:=K) (a:=l) (xs:=xs) RU (λi zs Hy=>Hy=Hx/\zs.length<=i/\∃ps,df CA Hx ps zs/\∀p∈ps,p∈qs/\p.length<=16) #[Z,GV 0,[],Z,λp hp=>by cases hp] (λi zs Hy h=>#[by rw[h.1];exact aB.of w1,h.2.1]) ?_ ?_
  ·intro i x zs Hy hx h;obtain⟨rfl,lz,ps,L,t⟩:=h;obtain⟨p,hp,b,rfl,hb⟩:=w2.at hx;refine#[_,Z,b,_,Z,.inr$ ax.of hb,_,_,Z,Z,_,Z,?_];rw[GQ];show if decide ((p.length:Int)<=16)=true then _ else _;by_cases hl:(p.length:Int)<=16
   ·rw[Hl hl];exact oB #[_,Z,Z,by rw[GU];show _+1<=_;omega,ps++[p],df.app (df.one #[b,Z,hb]) L,λy hy=>(List.mem_append.mp hy).elim (t y) λhy=>by
     cases List.mem_singleton.mp hy;exact#[Hf hp,RU]]
   ·rw[G8 hl];exact oA #[Z,RU,ps,L,t]
  ·intro zs H8 h gl n7;obtain⟨rfl,l5,ps,L,t⟩:=h;have a8:ae H8 (af H8 gl$ .lst zs):=jd n7;exact q gl zs ps _ (none_of (S6.trans N) n7) jc (L.mono nG$ ae.tm a8) (λp hp=>w3 p (t p hp).1) (λp hp=>(t p hp).2) RU ((S6.trans N).trans a8)
theorem yk(h:bu k A):A.units+100 < cLine:=by have:=h.un;omega
theorem se{X:Cx}{K:Frag}{d:Nat}(e:X.K=K)(h:X.A.units+d < cLine):eh X (compareOp .Eq) (nJ K d true):=by subst e;exact wz h
theorem oV{l:List (aI×Sk)}(s:CC (l.map (·.1))){w:Sk}(h:l[i]?=some (p,w))(c:Int):l.foldl (iZ c p) none=(l.take i).foldl (gc c) none:=by
 have m:∀(a b:Nat) (x y:aI×Sk),a < b->l[a]?=some x->l[b]?=some y->ik x.1 y.1=true:=by intro a b x y k H f;obtain⟨n,E⟩:=List.getElem?_eq_some_iff.mp H;obtain⟨q,r⟩:=List.getElem?_eq_some_iff.mp f;have z:=List.pairwise_iff_getElem.mp s a b (by simpa using n) (by simpa using q) k;simp only[List.getElem_map]at z;rw[E,r]at z;exact z
 have F:∀(t:List (aI×Sk)) (o:Option aI),(∀x∈t,ik x.1 p=true)->t.foldl (iZ c p) o=t.foldl (gc c) o:=by
  intro t;induction t with
  |nil=>intro o _;rfl
  |cons x t I=>
   intro o H;rw[Nu,Nu,I _ λy f=>H y (HD _ f)];have e:iZ c p o x=gc c o x:=by unfold iZ gc;rw[H x Hq,Bool.true_and]
   rw[e]
 have u:∀(t:List (aI×Sk)) (o:Option aI),(∀x∈t,ik x.1 p=false)->t.foldl (iZ c p) o=o:=by
  intro t;induction t with
  |nil=>intro o _;rfl
  |cons x t I=>intro o H;rw[Nu,I _ λy f=>H y (HD _ f)];unfold iZ;rw[H x Hq,M0];rfl
 conv=>lhs;rw[<- Ln i l,OP]
 rw[u,F]
 ·intro x H;obtain⟨j,d⟩:=List.mem_iff_getElem?.mp H;have g:j < i:=by have z:=(List.getElem?_eq_some_iff.mp d).1;rw[HF]at z;omega
  rw[N0 g]at d;exact m j i x _ g d h
 ·intro x H;obtain⟨j,d⟩:=List.mem_iff_getElem?.mp H;rw[OC]at d;cases j with
  |zero=>
   rw[Rg,h]at d;cases d;exact(by
    by_cases z:ik p p=true
    ·have y:=Kt z;rw[z]at y;cases y
    ·simpa using z:ik p p=false)
  |succ j=>exact Kt (m i (i+(j+1)) _ x RU h d)
theorem EW(x:List V):(aD x none$ some 1).length<=1:=by unfold aD HT.sIx;simp;omega
theorem El{H:Hp}{o:HO}(h:H a=some (.dK k)):ah H (af H a o):=λb y e=>by rw[ji$ jN e h (by intro z;cases z)];exact e
noncomputable def mJ(s:Sk)(p:aI):Sk->Option (Option aI)
 | .rd c _=>some (s.seen c p)
 |_=>none
noncomputable def oT:Option aI->Tr
 |none=>.lf .non
 |some p=>ba (p.map aV)
noncomputable def dT:Option (Option aI)->Tr
 |none=>aC [bh "step",.lf (.bl false)]
 |some o=>aC [bh "told",oT o]
theorem X6(o:Option (Option aI)):(dT o).dep < 100:=by
 cases o with
 |none=>decide
 |some o=>
  cases o with
  |none=>decide
  |some p=>have z:=qo p;show max 0 (max ((aC$ p.map aV).dep+1) 0) < 100;omega
def eL(H:Hp)(x:Addr):Option (Option aI)->Prop
 |none=>H x=some (.tup [.str "step",.bl false])
 |some o=>∃v,H x=some (.tup [.str "told",v])/\uR H v o
theorem eL.mono(k:ah H a):∀{o:Option (Option aI)},eL H x o->eL a x o
 |none,h=>k _ _ h
 |some _,z=>by obtain⟨v,h,r⟩:=z;exact #[v,k _ _ h,r.mono k]
theorem eL.tr:∀{o:Option (Option aI)},eL H x o->aS H (.tp$ dT o) (.ref x) []
 |none,h=>jC h (jl Z jO (jl Z #[Z,Z] jB))
 |some none,z=>by obtain⟨v,h,r⟩:=z;cases (show v= .non from r);exact jC h (jl Z jO (jl Z #[Z,Z] jB))
 |some (some p),z=>by obtain⟨v,h,⟨a,e,r⟩⟩:=z;cases e;exact jC h (jl Z jO (jl Z (QX r) jB))
def ph:RA (aI×Option (Option aI)):=λH x d=>∃q p o,x= .ref q/\H q=some (.tup [.ref p,.ref o])/\H p=some (.tup$ d.1.map V.int)/\eL H o d.2
theorem eF:CW ph:=λ_ _ _ _ k #[q,p,o,e,h,H,a]=>#[q,p,o,e,k _ _ h,k _ _ H,a.mono k]
def FR(s:Sk)(d:aI×Option (Option aI)):Prop:=d.1.length<=16/\∃k h w,aG s d.1=some (k,h,w)/\d.2=mJ s d.1 w
theorem Ai{w:Sk}(h:mJ s p w=some o):∃c n,w= .rd c n/\o=s.seen c p:=by
 cases w with
 |rd c n=>exact#[c,n,Z,by injection h with h;exact h.symm]
 |_=>cases h
inductive FT(z u:V)(e A r:Addr)(y:List V)(s:Sk)(H:Hp)(i:Nat)(C:_L.St)(b:Hp):Prop
 |mk(t v w x:Option V)(a:cq)(B:List V)(f:List (aI×Option (Option aI)))(g:C=[some z,some u,some (.ref e),some (.ref A),t,v,w,x])(h:b r=some (.lst y))(j:b e=some (.dK a))(k:b A=some (.lst B))(l:df ph b f B)(m:∀d∈f,FR s d)(n:B.length=i)(o:a.length<=i)(p:∀c:Int,uR b ((bG a (.inl c)).getD .non) (((s.ws [] 0).take i).foldl (gc c) none))(q:ah H b)
theorem fg:ak z40z ["_law_script"] (aa lK):=bL
noncomputable def YI:Scope:=#[.function,[(".0",.local),("_law_path",.local),("_law_told",.globalImplicit),("_law_chain_here",.free)],false,false,[]]
theorem vO:(["_law_path","_law_chain_here"]:List Str).Nodup:=by decide+kernel
theorem vm:aZ z40z (aa lK) YI ["_law_path","_law_chain_here"] 1 [1]:=nC
theorem AZ(F:aJ K "law" "law" lK f fd)(cA:Cl P w K mg base 70 fA f2 ["_law_script"] (xB K) "_law_any_book")(cR:Cl P w K mg base 17 fR f3 z14z (fu 16) "_law_rows")(cF:Cl P w K mg base 37 fF f4 ["_law_chain_here","_law_path"] ll "_law_told")(cB:Cl P w K mg base 18 fB f5 ["_law_chain_here"] n6 "_law_bad")(m0:mg "all"=none):aj P w K mg base aA 71 f fd ["_law_script"] (lR K):=by
 refine F.ok fg ?_ λc0 A o8 s H vs Q E hr h=>?_
 ·rintro _ _ _ _ ⟨a,ns,rfl,_⟩;rfl
 obtain⟨a,ns,rfl,hS,hn,q⟩:=h;refine#[_,(je (kL (i:=1) fg.nd Z (Or.inr Z)$ cA.e hr.m$ ja (pv 0) jb)$ je (jx 2 fg.nd Kq)$ je (jx 3 fg.nd$ jE jb)$ je (j9 HM Z (zc$ cR.e hr.m$ ja (pv 1)$ ja (jh jb) jb) (kU (n:=2) Z$ jy (ju (i:=4) fg.nd Z$ Or.inl Z)$ jy (ju (i:=5) fg.nd Z$ Or.inl Z) j5)$ je (jx 6 fg.nd$ jz$ pv 5)$ je (jw (kh$ jz$ pv 6) (jg$ jP$ ki Hj Hz Hw jM (pv 3)$ ja (jh$ ja (pv 4)$ ja (jh$ ja jk$ ja (@sh _ _ _ _ _ _ _ (zF hr) (pv 2) (jz$ pv 6) #[RX,RX,RX,RX]) jb) jb) jb)$ jg$ jP$ ki Hj Hz Hw jM (pv 3)$ ja (jh$ ja (pv 4)$ ja (jh$ ja jk$ ja (@sg _ _ _ _) jb) jb) jb)$ jg$ jw (kh$ jz$ pv 6) (jg$ qQ (zF hr) (pv 2) (jz$ pv 6) (pv 4) Z) jp)$ je (j9 HM Z (zc$ jv zI (pv 3)$ jJ kf (pv 3) j3$ jH jf) (kU (n:=2) Z$ jy (ju (i:=4) fg.nd Z$ Or.inl Z)$ jy (ju (i:=7) fg.nd Z$ Or.inl Z) j5)$ jg$ jw (jA (wB (d:=100)$ yk hr) (cF.e hr.m$ ja (pv 1)$ ja (pv 4) jb) (pv 7)$ aE _) (jg$ jo$ @sg _ _ _ _) jp)$ jg$ jo$ jI (pq Z) Z m0 boot_all$ ja (@kE _ _ _ _ _ _ _ (["_law_path","_law_chain_here"]) (1) ([1]) _ _ _ _ Z (zc$ cB.e hr.m$ ja (pv 1) jb) vm (λ_ _ _ _ _=>(ju (i:=0) vO Z$ Or.inl Z)) (λ_ _ _ _ _=>(@zi _)) (λ_ _ _ _ _=>(JS (se (K:=K) (d:=100) RX$ yk hr) (cF.e hr.m$ ja (pv 1)$ ja (pv 0) jb) (jh$ ja jk$ ja (@sg _ _ _ _) jb) Z)) (by intro _;rfl)) jb),?_];have b9:=aF;refine ai λF1 g=>#[_,Z,a,ns,Z,hS,hn,λf is s b u H1 hc L hd hz W=>g _ _ ?_];clear g;refine ai λF1 g=>λdl n3=>g _ _ ?_;clear g;refine ai λF1 g=>#[ig,λU n0=>g _ _ ?_];clear g;have s1:ae H1 (af H1 dl$ .dK []):=jd n3;have g1:af H1 dl (.dK []) dl=some (.dK []):=jc;generalize af H1 dl (.dK [])=H2 at s1 g1 n0 ⊢;have s2:ae H2 (af H2 U$ .lst []):=jd n0;have g2:af H2 U (.lst []) U=some (.lst []):=jc;have g1:=s2 _ _ g1;have h2:=zd hc (ae.tm$ s1.trans s2);generalize af H2 U (.lst [])=H3 at s2 g1 g2 h2 ⊢;clear s2 s1 n0 n3;refine ai λF1 g=>dN λJ jj=>#[_,Z,ig,λtz nz=>#[tz,[],f,is,s,b,u,Z,jc,RT,zd h2$ ae.tm$ jd nz,L,RU,RU,λlr rs H4 n4 h3 h5 sR=>#[lr,Z,#[_,aB.of h3],jj _ _ ?_]]];clear jj;have s4:ae H3 H4:=(jd nz).trans sR;have l0:U≠lr:=λz=>by rw[z]at g2;rw[am g2 nz]at n4;cases n4
 have a3:=zd h2 (ae.tm s4);have d4:=s4 _ _ g1;have u4:=s4 _ _ g2;have d1:dl≠U:=jN d4 u4 (by intro z;cases z);have d2:dl≠lr:=jN d4 h3 (by intro z;cases z);have l1:=h5.len;rw[qj L]at l1;have a4:=YR L [] 0;clear g1 g2 sR;refine zS (K:=K) (a:=lr) (xs:=rs) (FT (.ref a) u dl U lr rs s H4) #[_,_,_,_,[],[],[],Z,h3,d4,u4,Z,λd h=>by(cases h),Z,GV 0,λc=>Z,λx o e=>e] (λi σ Hx _ h=>by obtain⟨o4,o5,o6,o7,kvs,xs,ds,rfl,w1,w2,w3,w4,w5,w6,w7,w8,w9⟩:=h;exact aB.of w1) ?_ (λσ Hx h=>g _ _ ?_)
 ·clear g;intro E rt i x σ C h0 f0 Gq kq h;obtain⟨o4,o5,o6,o7,kvs,xs,ds,rfl,w1,w2,w3,w4,w5,w6,w7,w8,w9⟩:=h;refine kq ?_;clear kq;have hi:i < rs.length:=(List.getElem?_eq_some_iff.mp h0).1;obtain⟨⟨l,X,h6,w⟩,h1,q0,I,st,hh,v,rfl,r1,r2,r3,r4,r5⟩:=(h5.mono iB w9).at h0;have r2:C I=some (.tup$ l.map V.int):=r2;have r3:C st=some (.tup [.int X,.ref hh,v]):=r3;have r5:em C w v []:=r5;obtain⟨D,s0⟩:=Xa L (Hf h1);have D:aG s l=some (X,h6,w):=D;have s0:l.length<=s.dep+1:=s0;have o9:w.ok false:=(Q0 L D).1;have h7:(s.ws [] 0)[i]?=some (l,w):=by rw[<- qX,Hu,h1];rfl
  have a8:FR s (l,mJ s l w):=#[by show l.length<=16;omega,X,h6,w,D,Z];have t0:∀{T B:Addr} {o1 o2:HO} {ys zs:List V},C T=none->(af C T o1) B=none->o1= .tup ys->o2= .tup zs->ah C (af (af C T o1) B o2)/\af (af C T o1) B o2 lr=some (.lst rs)/\af (af C T o1) B o2 dl=some (.dK kvs)/\af (af C T o1) B o2 U=some (.lst xs)/\df ph (af (af C T o1) B o2) ds xs:=by intro T B o1 o2 ys zs X Y _ _;have S:=(jd (o:=o1) X).trans (jd (o:=o2) Y);exact#[ae.tm S,S _ _ w1,S _ _ w2,S _ _ w3,w4.mono eF$ ae.tm S]
  have a0:∀{G:Hp} {d:V},ah C G->G lr=some (.lst rs)->G dl=some (.dK kvs)->G U=some (.lst xs)->df ph G ds xs->ah G (af G U$ .lst$ xs++[d])/\af G U (.lst$ xs++[d]) lr=some (.lst rs)/\af G U (.lst$ xs++[d]) dl=some (.dK kvs)/\af G U (.lst$ xs++[d]) U=some (.lst$ xs++[d])/\df ph (af G U$ .lst$ xs++[d]) ds xs:=by intro G d _ z1 z2 z3 z4;have t:=X5 (o:=.lst (xs++[d])) z3;exact#[t,by rw[ji l0.symm];exact z1,by rw[ji d1];exact z2,jc,z4.mono eF t]
  have done:∀(G:Hp) (M:cq) (d:V) (o6 o7:Option V),ah C G->G lr=some (.lst rs)->G dl=some (.dK M)->G U=some (.lst$ xs++[d])->df ph G ds xs->ph G d (l,mJ s l w)->M.length<=i+1->(∀c:Int,uR G ((bG M$ .inl c).getD .non)$ gc c (((s.ws [] 0).take i).foldl (gc c) none) (l,w))->E.nx [some$ .ref a,some u,some$ .ref dl,some$ .ref U,some$ .ref I,some$ .ref st,o6,o7] G:=by
   intro G M d o6 o7 z1 z2 z3 z4 z5 z6 z7 z8;refine f0 _ _ #[_,_,_,_,M,xs++[d],ds++[(l,mJ s l w)],Z,z2,z3,z4,df.app (df.one z6) z5,λy hy=>?_,by rw[GU,w6];rfl,z7,λc=>?_,w9.trans z1]
   ·rcases List.mem_append.mp hy with hy |hy
    ·exact w5 y hy
    ·cases List.mem_singleton.mp hy;exact a8
   ·rw[qy h7];exact z8 c
  refine#[q0,_,Z,ax.of r1,Z,_,_,Z,_,_,Z,Z,?_];refine ai λF1 g=>(js r3 mG$ g _ _ ?_);clear g;have o3:∀{G:Hp},ah C G->(∀c,pd c w=false)->∀c:Int,uR G ((bG kvs$ .inl c).getD .non) (gc c (((s.ws [] 0).take i).foldl (gc c) none) (l,w)):=by intro G k no c;unfold gc;rw[show pd c (l,w).2=false from no c];exact(w8 c).mono k
  cases w with
  |nil |st _ _ _ _=>exact o9.elim
  |ask b1=>obtain⟨p',rfl,W⟩:=r5;refine ai λF1 g=>(js W dH #[Z,_,Z,aO RW #[_,Z,.inl #[Z,_,aB.of w3],_,Z,bo,λT X=>#[bo,λB Y=>?_]]]);obtain⟨Tm,x1,x2,x3,x4⟩:=t0 X Y Z Z;have O:eL _ T none:=((jd (o:=.tup [.ref I,.ref T]) Y) _ _ (show af C T (.tup [.str "step",.bl false]) T=some (.tup [.str "step",.bl false]) from jc));have r:ph _ (.ref B) (l,none):=#[B,I,T,Z,jc,Tm _ _ r2,O];refine#[U,_,_,Z,Z,x3,RU,g _ _ ?_];clear g;obtain⟨y0,y1,y2,y3,y4⟩:=a0 Tm x1 x2 x3 x4;have r:=eF _ _ _ _ y0 r;have N:=Tm.trans y0;exact(js (N _ _ W) dH #[Z,_,Z,aO RW$ done _ kvs _ _ _ N y1 y2 y3 y4 r RU$ o3 N λc=>Z])
  |cl g i0 s1 a1=>obtain⟨p',c1,g1,e1,s3,rfl,W,k2,k3,k4,k5⟩:=r5;refine ai λF1 g=>(js W dH #[Z,_,Z,aO RW #[_,Z,.inl #[Z,_,aB.of w3],_,Z,bo,λT X=>#[bo,λB Y=>?_]]]);obtain⟨Tm,x1,x2,x3,x4⟩:=t0 X Y Z Z;have O:eL _ T none:=((jd (o:=.tup [.ref I,.ref T]) Y) _ _ (show af C T (.tup [.str "step",.bl false]) T=some (.tup [.str "step",.bl false]) from jc));have r:ph _ (.ref B) (l,none):=#[B,I,T,Z,jc,Tm _ _ r2,O];refine#[U,_,_,Z,Z,x3,RU,g _ _ ?_];clear g;obtain⟨y0,y1,y2,y3,y4⟩:=a0 Tm x1 x2 x3 x4;have r:=eF _ _ _ _ y0 r;have N:=Tm.trans y0;exact(js (N _ _ W) dH #[Z,_,Z,aO RW$ done _ kvs _ _ _ N y1 y2 y3 y4 r RU$ o3 N λc=>Z])
  |wr c n=>
   obtain⟨p',rfl,W⟩:=r5;refine ai λF1 g=>(js W dH #[Z,_,Z,aO RW #[_,Z,.inl #[Z,_,aB.of w3],_,Z,bo,λT X=>#[bo,λB Y=>?_]]]);obtain⟨Tm,x1,x2,x3,x4⟩:=t0 X Y Z Z;have O:eL _ T none:=((jd (o:=.tup [.ref I,.ref T]) Y) _ _ (show af C T (.tup [.str "step",.bl false]) T=some (.tup [.str "step",.bl false]) from jc));have r:ph _ (.ref B) (l,none):=#[B,I,T,Z,jc,Tm _ _ r2,O];refine#[U,_,_,Z,Z,x3,RU,g _ _ ?_];clear g;obtain⟨y0,y1,y2,y3,y4⟩:=a0 Tm x1 x2 x3 x4;have r:=eF _ _ _ _ y0 r;have N:=Tm.trans y0;refine(js (N _ _ W) dH #[Z,_,Z,bQ RW #[_,Z,_,Z,js (N _ _ W) iH #[dl,_,Z,mq.k (k:=.inl c) y2 RU,?_]]]);have tm:ah _ _:=El (o:=.dK (bq kvs (.inl c)$ .ref I)) y2;refine done _ (bq kvs (.inl c)$ .ref I) _ _ _ (N.trans tm) (by rw[ji d2.symm];exact y1) jc (by rw[ji d1.symm];exact y3) (y4.mono eF tm) (eF _ _ _ _ tm r) (by have:=zP (kvs:=kvs) (k:=.inl c) (v:=.ref I);omega) λc'=>?_;rw[uG];by_cases h4:c=c'
   ·subst h4;unfold gc;rw[show pd c (l,Sk.wr c n).2=true from Hl Z,Hm Z,Hm Z];exact#[I,Z,tm _ _$ N _ _ r2]
   ·unfold gc;rw[show pd c' (l,Sk.wr c n).2=false from G8 h4,Ho (λz=>h4 (by injection z with z;exact z.symm)),Ho RT];exact((w8 c').mono N).mono tm
  |rd c n=>obtain⟨p',rfl,W⟩:=r5;have e0:s.seen c l=((s.ws [] 0).take i).foldl (gc c) none:=oV a4 h7 c;refine ai λF1 g=>(js W dH #[Z,_,Z,bQ RW #[_,Z,.inl #[Z,_,aB.of w3],_,Z,_,Z,dl,Z,.inl #[kvs,.inl w2],js W iH #[_,dM.k (k:=.inl c) w2,bo,λT X=>#[bo,λB Y=>?_]]]]);obtain⟨Tm,x1,x2,x3,x4⟩:=t0 X Y Z Z;have O:eL _ T (some$ s.seen c l):=#[_,((jd (o:=.tup [.ref I,.ref T]) Y) _ _ (show af C T (.tup [.str "told",((bG kvs$ .inl c).getD .non)]) T=some (.tup [.str "told",((bG kvs$ .inl c).getD .non)]) from jc)),by rw[e0];exact(w8 c).mono Tm];have r:ph _ (.ref B) (l,some$ s.seen c l):=#[B,I,T,Z,jc,Tm _ _ r2,O];refine#[U,_,_,Z,Z,x3,RU,g _ _ ?_];clear g;obtain⟨y0,y1,y2,y3,y4⟩:=a0 Tm x1 x2 x3 x4;have r:=eF _ _ _ _ y0 r;have N:=Tm.trans y0;exact(js (N _ _ W) dH #[Z,_,Z,aO RW$ done _ kvs _ _ _ N y1 y2 y3 y4 r RU$ o3 N λc=>Z])
 ·clear g;obtain⟨o4,o5,o6,o7,kvs,xs,ds,rfl,w1,w2,w3,w4,w5,w6,w7,w8,w9⟩:=h;have a':=zd a3 w9;clear w8 w2;refine ai λF1 g=>dN λJ jj=>#[_,Z,_,Z,_,Z,U,xs,Z,aB.of w3,λsl n5=>#[U,sl,xs,_,Z,Z,am w3 n5,jc,by have:=(EW xs);omega,λl3 n7=>#[l3,Z,#[_,aB.of jc],jj _ _ ?_]]];clear jj;have a5:ae Hx (af Hx sl$ .lst$ aD xs none$ some 1):=jd n5;generalize af Hx sl (.lst$ aD xs none$ some 1)=H8 at a5 n7 ⊢;have a6:ae H8 (af H8 l3$ .lst$ xs++aD xs none (some 1)):=jd n7;have g6:af H8 l3 (.lst$ xs++aD xs none (some 1)) l3=some (.lst$ xs++aD xs none (some 1)):=jc;generalize af H8 l3 (.lst$ xs++aD xs none (some 1))=H9 at a6 g6 ⊢;have S9:=a5.trans a6;have h8:=zd a' (ae.tm S9);have w0:=w4.mono eF (ae.tm S9);refine zS (K:=K) (a:=l3) (xs:=xs++aD xs none (some 1)) (λ_ σ H'=>(∃o4 o5 o6 o7,σ=[some$ .ref a,some u,some$ .ref dl,some$ .ref U,o4,o5,o6,o7])/\Kp H9 H') #[#[_,_,_,_,Z],Kp.of_same$ ae.refl _] (λi σ H' _ h=>h.2.seq (aB.of g6)) ?_ (λσ Hy h=>g _ _ ?_)
  ·clear g;intro E rt i x σ C h0 f0 Gq kq h;obtain⟨⟨o4,o5,o6,o7,rfl⟩,k7⟩:=h;refine kq ?_;clear kq;have hm:x∈xs:=by
    rcases List.mem_append.mp (Hf h0) with h |h
    ·exact h
    ·exact Zr h
   obtain⟨j,hj⟩:=List.mem_iff_getElem?.mp hm;obtain⟨⟨l,d0⟩,b0,q0,I,O,rfl,r1,r2,r3⟩:=(w0.mono eF k7.tm).at hj;obtain⟨l2,k,hs,w,D,R⟩:=w5 _ (Hf b0);have D:aG s l=some (k,hs,w):=D;have R:d0=mJ s l w:=R;have r3:eL C O d0:=r3;refine#[q0,_,Z,ax.of r1,Z,_,_,Z,_,_,Z,Z,?_];refine rf λG1 yT yF=>#[_,Z,_,Z,f,is,s,b,u,I,l,Z,zd h8 k7.tm,L,hd,hz,r2,l2,λk' b2 c n v t H8 es rv ht k8=>?_,λn' t H8 ht k8=>?_]
   ·rw[D]at es;cases es;have R:d0=some (s.seen c l):=R;subst R;exact#[_,Z,dT$ some$ s.seen c l,X6 _,(eL.tr (o:=some (s.seen c l)) #[v,ht,rv]).at,(r3.mono k8.tm).tr.at,_,Z,yF _$ f0 _ _ #[#[_,_,_,_,Z],k7.trans k8]]
   ·have R:d0=none:=by
     cases e:mJ s l w with
     |none=>rw[R,e]
     |some o=>obtain⟨c,n,rfl,_⟩:=Ai e;exact absurd D$ n' _ _ c n
    subst R;exact#[_,Z,dT none,X6 _,(eL.tr (o:=none) ht).at,(r3.mono k8.tm).tr.at,_,Z,yF _$ f0 _ _ #[#[_,_,_,_,Z],k7.trans k8]]
  ·clear g;obtain⟨⟨o4,o5,o6,o7,rfl⟩,k7⟩:=h;have h':=zd h8 k7.tm;refine#[_,Z,f,is,s,b,u,Z,h',L,hd,hz,λlb xb qs H8 b' a2 b3 b4 l4 l5 s8=>#[lb,Z,#[_,aB.of a2],QF (K:=K) (a:=lb) (xs:=xb) RU (λi ys Hy=>Kp H8 Hy/\ys=(List.replicate i true).map V.bl) #[Kp.of_same$ ae.refl _,Z] (λi ys Hy h=>#[h.1.seq$ aB.of a2,by rw[h.2];simp]) (λi x ys Hy hx h=>?_) λys Hy h gl c2=>?_]]
   ·obtain⟨ky,rfl⟩:=h;obtain⟨p,hp,I,rfl,b5⟩:=b3.at hx;have np:=b4 p (Hf hp);refine#[_,Z,_,Z,f,is,s,b,u,I,p,Z,zd (zd h'$ ae.tm s8) ky.tm,L,hd,hz,ky.tm _ _ b5,l4 p$ Hf hp,(λk' b2 c n v t H9 es=>by rw[np]at es;cases es),λ_ t H9 ht k9=>#[bo,λB b7=>?_]];have a9:ae H9 (af H9 B$ .tup [.str "step",.bl false]):=jd b7;refine#[dT none,X6 _,(eL.tr (o:=none)$ a9 _ _ ht).at,(eL.tr (o:=none) (show af H9 B (.tup [.str "step",.bl false]) B=_ from jc)).at,ky.trans$ k9.trans$ Kp.of_same a9,?_];rw[List.replicate_succ',Hs];rfl
   obtain⟨ky,rfl⟩:=h;refine#[gl,List.replicate xb.length true,Z,aB.of jc,?_];have e:(List.replicate xb.length true).all id=true:=by simp
   exact(by simpa using q _)
@[elab_as_elim] theorem Gz{P:List Value->Prop}(u:List Value)(h:u.length=1)(q:∀a,P [a]):P u:=by
 cases u with
 |nil=>cases h
 |cons a r=>
  cases r with
  |nil=>exact q a
  |cons _ _=>cases h
theorem _root_._L.aJ.b1{K:Frag}{st:Stmt}{p:List Str}(F:aJ K x q st f g)(h:∀(kV d b:Value) (A:Option Addr) (c C a:Value),bindArgs (fnOf x q (bE st) (bg st) (aa st) .none kV d b A c C) #[[a],[]]=pure (p.zip [a]):=by intros;rfl)(e:p.length=1:=by rfl):ay K g p []:=F.binds λkV d b A c C u H=>Gz u (H.trans e) λa=>h kV d b A c C a
@[elab_as_elim] theorem GF{P:List Value->Prop}(u:List Value)(h:u.length=2)(q:∀a b,P [a,b]):P u:=by
 cases u with
 |nil=>cases h
 |cons a r=>
  cases r with
  |nil=>cases h
  |cons b R=>
   cases R with
   |nil=>exact q a b
   |cons _ _=>cases h
theorem _root_._L.aJ.b2{K:Frag}{st:Stmt}{p:List Str}(F:aJ K x q st f i)(h:∀(kV d g:Value) (A:Option Addr) (c C a b:Value),bindArgs (fnOf x q (bE st) (bg st) (aa st) .none kV d g A c C) #[[a,b],[]]=pure (p.zip [a,b]):=by intros;rfl)(e:p.length=2:=by rfl):ay K i p []:=F.binds λkV d g A c C u H=>GF u (H.trans e) λa b=>h kV d g A c C a b
@[elab_as_elim] theorem GG{P:List Value->Prop}(u:List Value)(h:u.length=3)(q:∀a b c,P [a,b,c]):P u:=by
 cases u with
 |nil=>cases h
 |cons a r=>
  cases r with
  |nil=>cases h
  |cons b R=>
   cases R with
   |nil=>cases h
   |cons c d=>
    cases d with
    |nil=>exact q a b c
    |cons _ _=>cases h
theorem _root_._L.aJ.b3{K:Frag}{st:Stmt}{p:List Str}(F:aJ K x q st f j)(h:∀(kV d g:Value) (A:Option Addr) (C i a b c:Value),bindArgs (fnOf x q (bE st) (bg st) (aa st) .none kV d g A C i) #[[a,b,c],[]]=pure (p.zip [a,b,c]):=by intros;rfl)(e:p.length=3:=by rfl):ay K j p []:=F.binds λkV d g A C i u H=>GG u (H.trans e) λa b c=>h kV d g A C i a b c
@[elab_as_elim] theorem GH{P:List Value->Prop}(u:List Value)(h:u.length=4)(q:∀a b c d,P [a,b,c,d]):P u:=by
 cases u with
 |nil=>cases h
 |cons a r=>
  cases r with
  |nil=>cases h
  |cons b R=>
   cases R with
   |nil=>cases h
   |cons c e=>
    cases e with
    |nil=>cases h
    |cons d f=>
     cases f with
     |nil=>exact q a b c d
     |cons _ _=>cases h
theorem _root_._L.aJ.b4{K:Frag}{st:Stmt}{p:List Str}(F:aJ K x q st f j)(h:∀(kV D g:Value) (A:Option Addr) (C i a b c d:Value),bindArgs (fnOf x q (bE st) (bg st) (aa st) .none kV D g A C i) #[[a,b,c,d],[]]=pure (p.zip [a,b,c,d]):=by intros;rfl)(e:p.length=4:=by rfl):ay K j p []:=F.binds λkV D g A C i u H=>GH u (H.trans e) λa b c d=>h kV D g A C i a b c d
@[elab_as_elim] theorem GJ{P:List Value->Prop}(u:List Value)(h:u.length=5)(q:∀a b c d e,P [a,b,c,d,e]):P u:=by
 cases u with
 |nil=>cases h
 |cons a r=>
  cases r with
  |nil=>cases h
  |cons b R=>
   cases R with
   |nil=>cases h
   |cons c f=>
    cases f with
    |nil=>cases h
    |cons d g=>
     cases g with
     |nil=>cases h
     |cons e i=>
      cases i with
      |nil=>exact q a b c d e
      |cons _ _=>cases h
theorem _root_._L.aJ.b5{K:Frag}{st:Stmt}{p:List Str}(F:aJ K x q st f j)(h:∀(kV D g:Value) (A:Option Addr) (C i a b c d e:Value),bindArgs (fnOf x q (bE st) (bg st) (aa st) .none kV D g A C i) #[[a,b,c,d,e],[]]=pure (p.zip [a,b,c,d,e]):=by intros;rfl)(e:p.length=5:=by rfl):ay K j p []:=F.binds λkV D g A C i u H=>GJ u (H.trans e) λa b c d e=>h kV D g A C i a b c d e
def eJ(K:Frag)(p q:Str)(st:Stmt)(f:Addr):Prop:=∃(o:Value) (O:Option Addr) (kV d a:Value) (A:Option Addr) (c C:Value) (s:Array (Option Value)),K.lookup f=some #[o,O,.func$ fnOf p q (bE st) (bg st) (aa st) .none kV d a A c C,s]/\codeIn K c q=true/\keepIn K (.ref f)=true
def bZ(K:Frag)(p:Str)(st:Stmt)(f:Addr):Prop:=nsIn K mainGlobals p=some (some$ .ref f)/\eJ K p p st f
section
variable {K:Frag}{py q:Str}{st:Stmt}{f:Addr}{oc:Value}{od:Option Addr}{kV dc pm:Value}{an:Option Addr}{cd ct:Value}{sl:Array (Option Value)}
theorem Gd(l:K.lookup f=some #[oc,od,.func$ fnOf py q (bE st) (bg st) (aa st) .none kV dc pm an cd ct,sl])(c:codeIn K cd q=true)(k:keepIn K (.ref f)=true):eJ K py q st f:=#[_,_,_,_,_,_,_,_,_,l,c,k]
theorem FK(a:nsIn K mainGlobals py=some (some$ .ref f))(l:K.lookup f=some #[oc,od,.func$ fnOf py py (bE st) (bg st) (aa st) .none kV dc pm an cd ct,sl])(c:codeIn K cd py=true)(k:keepIn K (.ref f)=true):bZ K py st f:=#[a,Gd l c k]
theorem eJ.go(h:eJ K py q st f):∃F,aJ K py q st f F/\keepIn K (.ref f)=true:=by obtain⟨oc,od,kV,dc,pm,an,cd,ct,sl,l,c,k⟩:=h;exact#[_,pW l c k,k]
theorem bZ.go{mg:Str->Option Value}(t:bZ K py st f)(X:K.In h)(G:h.Ns mainGlobals mg):∃a,aJ K py py st f a/\keepIn K (.ref f)=true/\mg py=some (.ref f):=by obtain⟨a,F,k⟩:=t.2.go;exact#[a,F,k,Nl X G t.1]
end
theorem yX{l:PySem.W.OpenLaw}{w:World}{K:Frag}{mg:Str->Option Value}(X:K.In h)(G:h.Ns mainGlobals mg)(l5:mg "law"=some (.ref fa))
                 
  (t3:bZ K "names_in" dQ f0)
  (t4:bZ K "own_terms" BE l6)
  (t5:bZ K "used_behind_terms" tE fUb)
  (t7:bZ K "used_ahead_of" xh f1)
  (t8:bZ K "used_ahead" xg fUa)
  (t9:bZ K "bodies_in" BA l9)
  (t':bZ K "many_cuts" sT l')
  (n2:bZ K "deed_of" sQ n3)
  (n4:bZ K "place_of_give" iW f2)
  (n5:bZ K "place_of_set" sV n7)
  (n':bZ K "part_made" sU o1)
  (o2:bZ K "made" nP o3)
  (o4:bZ K "_law_box" BB o5)
  (uS:bZ K "_law_take" tq o6)
  (o7:bZ K "_law_number" iT o8)
  (o9:bZ K "_law_names" gR o')
  (p0:bZ K "_law_term" nS p1)
  (p2:bZ K "_law_spot" sX p3)
  (p4:bZ K "_law_statement" sY fSt)
  (p5:bZ K "_law_body" nM p6)
  (p8:bZ K "_law_any" Bz p9)
  (dG:bZ K "_law_op" Fq p')
  (q0:bZ K "_law_inner" mV q2)
  (q3:bZ K "_law_looped" gB q4)
  (q5:bZ K "_law_ticking" fb q6)
  (q7:bZ K "_law_busy" sN q8)
  (q9:bZ K "_law_case" nO q')
  (r0:bZ K "joined" iR r1)
  (r2:bZ K "worth" iX r3)
  (r4:bZ K "named" iS r5)
  (r6:bZ K "begun" mO r7)
  (r8:bZ K "deeper" iO r9)
  (r':bZ K "part_of" iV s0)
  (s1:bZ K "cut_at" mQ s2)
  (s3:bZ K "held_at" iQ s4)
  (s5:bZ K "worths" gE s6)
  (s7:bZ K "deed_at" iN s8)
  (s9:bZ K "found_in" gQ s')
  (u0:bZ K "end_of" iP u1)
  (u2:bZ K "first_of" gO u3)
  (u4:bZ K "onward" iU u8)
  (u9:bZ K "run" BG u')
  (v2:bZ K "whats_at" xk fWa)
  (v3:bZ K "whats_in" xo v4)
  (v5:bZ K "whats" BJ v7)
  (v8:bZ K "step_at" xf fSa)
  (v9:bZ K "seen" sW v')
  (w0:bZ K "_law_cells" mP w1)
  (w2:bZ K "_law_what" wX fLw)
  (w3:bZ K "_law_chain" oN w4)
  (w5:bZ K "_law_book" BD w6)
  (w7:bZ K "_law_rows" wZ w8)
  (w9:bZ K "_law_any_book" Fo w')
  (x1:bZ K "_law_told" tw x2)
  (x3:bZ K "_law_bad" wT x4)
  (tZ:bZ K "law" lK fZ)
  (x5:nsIn K mainGlobals "NOUGHT"=some (some$ .ref y)) (x7:K.lookup y=some #[.type "tuple",odN,.seq (List.toArray [.str "num" rN0,.int 0 rN1]) nN,slN]) (x8:nsIn K mainGlobals "Cutting"=some (some$ .ref C)) (v1:nsIn K mainGlobals "TOP"=some (some$ .int 1000000000000000000 tTop)) (vD:nsIn K mainGlobals "DEEPEST"=some (some$ .int 15 tD)) (vR:nsIn K mainGlobals "BookRun"=some (some$ .ref c)) (vT:nsIn K mainGlobals "Turns"=some (some$ .ref c0))
  (x9:nsIn K mainGlobals "TooLong"=some (some$ .ref x))
  (x':nsIn K mainGlobals "TooDeep"=some (some$ .ref t))
  (y0:nsIn K mainGlobals "NoStep"=some (some$ .ref u))
  (y1:nsIn K mainGlobals "NoName"=some (some$ .ref xN))
  (y2:K.lookup x=some #[ocxL,odxL,.cls cdxL,slxL]) (t0:typeIn K (.ref x)=some (.type "type")) (m8:mroIn K x (.type "BaseException")=some true) (k4:keepIn K (.ref x)=true)
  (y3:K.lookup t=some #[ocxD,odxD,.cls cdxD,slxD]) (t1:typeIn K (.ref t)=some (.type "type")) (m9:mroIn K t (.type "BaseException")=some true) (k5:keepIn K (.ref t)=true)
  (y4:K.lookup u=some #[ocxS,odxS,.cls cdxS,slxS]) (t2:typeIn K (.ref u)=some (.type "type")) (m':mroIn K u (.type "BaseException")=some true) (k6:keepIn K (.ref u)=true)
  (y5:mroIn K x (.ref x)=some true) (y':mroIn K t (.ref x)=some false) (z7:mroIn K t (.ref t)=some true) (z8:mroIn K u (.ref u)=some true)
  (e0:excIn K x mH "ValueError.__new__"=true) (e1:excIn K t mH "ValueError.__new__"=true) (e2:excIn K u mH "ValueError.__new__"=true)
  (a4:io K x) (a5:io K t) (X':io K u)
  (rk:RK K c) (z':Mk K c f3) (tm:yN K c0 "__init__" f4) (a6:bY K c "take_turn" f5) (a8:bY K c "number_in" f6) (m3:bY K c "chain_of" A') (a9:bY K c "what_of" B1)
  (ck:CK K C) (mk:Mk K C f7) (a':bY K C "place_of_body" f9) (B2:bY K C "place_of" B3) (B4:bY K C "place_of_cut" B5) (B6:bY K C "ways_of" B7)
  (B8:eJ K "__init__" "Cutting.__init__" sS f7)
  (B9:eJ K "place_of_body" "Cutting.place_of_body" wU f9)
  (B':eJ K "place_of" "Cutting.place_of" wY B3)
  (C':eJ K "place_of_cut" "Cutting.place_of_cut" wV B5)
  (D':eJ K "ways_of" "Cutting.ways_of" xj B7)
  (E1:eJ K "__init__" "Turns.__init__" sZ f4)
  (E2:eJ K "take_turn" "Turns.take_turn" mX f5)
  (E3:eJ K "number_in" "Turns.number_in" tj f6)
  (E4:eJ K "__init__" "BookRun.__init__" sM f3)
  (E5:eJ K "chain_of" "BookRun.chain_of" wR A')
  (E6:eJ K "what_of" "BookRun.what_of" wS B1)
  (z2:nsIn K mainGlobals "len"=some none)
  (z3:nsIn K mainGlobals "int"=some none)
  (Q:nsIn K mainGlobals "range"=some none)
  (z0:nsIn K mainGlobals "list"=some none)
  (p:nsIn K mainGlobals "reversed"=some none)
  (i:nsIn K mainGlobals "isinstance"=some none)
  (R:nsIn K mainGlobals "tuple"=some none)
  (A:nsIn K mainGlobals "sorted"=some none)
  (z4:nsIn K mainGlobals "set"=some none)
  (z5:nsIn K mainGlobals "zip"=some none)
  (z1:nsIn K mainGlobals "dict"=some none)
  (z6:nsIn K mainGlobals "all"=some none)
  (o:nsIn K mainGlobals "enumerate"=some none)
  (q1:kitOne K (.ref u) (.ref xN)=some false)
  :∃fd:FuncData,(∀(s:Shared) (v:Value),BindsTo s fd #[[v],[]] [("_law_script",v)])/\∀base:Heap,K.In base->base.Ns mainGlobals mg->aj l.prog w K mg base aA 71 fa fd ["_law_script"] (lR K):=by
 have e:=l5.symm.trans (Nl X G tZ.1);cases e;obtain⟨E7,q,S,M⟩:=t3.go X G;obtain⟨dOw,b0,E8,E9⟩:=t4.go X G;obtain⟨dUb,b7,kUb,E'⟩:=t5.go X G;obtain⟨dUo,T,k7,m4⟩:=t7.go X G;obtain⟨dUa,b9,kUa,H0⟩:=t8.go X G;obtain⟨dBi,b',H1,H2⟩:=t9.go X G;obtain⟨dMc,F3,k8,c1⟩:=t'.go X G;obtain⟨dDe,c2,H3,H4⟩:=n2.go X G;obtain⟨dPg,U,k9,c3⟩:=n4.go X G;obtain⟨dPs,c4,H5,H6⟩:=n5.go X G;obtain⟨dPm,c5,H7,H8⟩:=n'.go X G;obtain⟨dMa,c6,H9,H'⟩:=o2.go X G;obtain⟨dBx,c9,I1,I2⟩:=o4.go X G;obtain⟨dTk,F,k,m⟩:=uS.go X G;obtain⟨dNu,B,V,Y⟩:=o7.go X G;obtain⟨dNm,F0,k2,m5⟩:=o9.go X G;obtain⟨dTm,F1,k',m6⟩:=p0.go X G;obtain⟨dPo,c',I3,I4⟩:=p2.go X G;obtain⟨dSt,d0,kSt,I5⟩:=p4.go X G;obtain⟨dBo,F4,I6,d1⟩:=p5.go X G;obtain⟨dAn,d2,I7,I'⟩:=p8.go X G;obtain⟨dOp,D,k0,m0⟩:=dG.go X G;obtain⟨dIn,d3,J0,K1⟩:=q0.go X G;obtain⟨dLo,d4,K2,K3⟩:=q3.go X G;obtain⟨dTi,d5,K4,K5⟩:=q5.go X G;obtain⟨dBu,d6,L0,L1⟩:=q7.go X G;obtain⟨dCa,d7,L3,L4⟩:=q9.go X G;obtain⟨dJo,d8,L5,L6⟩:=r0.go X G;obtain⟨dWo,E,k3,m1⟩:=r2.go X G;obtain⟨dNd,F5,d9,d'⟩:=r4.go X G;obtain⟨dBe,e3,L7,L8⟩:=r6.go X G;obtain⟨dDp,e4,L',N1⟩:=r8.go X G;obtain⟨dPf,e5,N2,N3⟩:=r'.go X G;obtain⟨dCu,I,k1,m2⟩:=s1.go X G;obtain⟨dHe,F6,e6,e7⟩:=s3.go X G;obtain⟨dWs,e8,N',O'⟩:=s5.go X G;obtain⟨dDa,e9,P1,P4⟩:=s7.go X G;obtain⟨dFo,e',Q',R0⟩:=s9.go X G;obtain⟨dEn,F7,f',g0⟩:=u0.go X G;obtain⟨dFi,g1,R1,R3⟩:=u2.go X G;obtain⟨dOn,g2,R4,R5⟩:=u4.go X G;obtain⟨dRu,g4,R6,R7⟩:=u9.go X G;obtain⟨dWa,g5,kWa,R8⟩:=v2.go X G;obtain⟨dWi,F9,R9,g6⟩:=v3.go X G;obtain⟨dWt,g7,R',S0⟩:=v5.go X G;obtain⟨dSa,a0,S1,g8⟩:=v8.go X G;obtain⟨dSe,g',S2,S3⟩:=v9.go X G;obtain⟨dCe,h0,S4,S5⟩:=w0.go X G;obtain⟨dLw,h1,kLw,S6⟩:=w2.go X G;obtain⟨dLc,a1,S7,h2⟩:=w3.go X G;obtain⟨dLb,h3,S8,S9⟩:=w5.go X G;obtain⟨dLr,F2,h4,m7⟩:=w7.go X G;obtain⟨dAb,h5,S',T0⟩:=w9.go X G;obtain⟨dTo,h6,T1,T2⟩:=x1.go X G;obtain⟨dBa,h7,T3,T4⟩:=x3.go X G;obtain⟨dmI,h8,kmI⟩:=B8.go;obtain⟨dmB,a2,kmB⟩:=B9.go;obtain⟨dmO,h',kmO⟩:=B'.go;obtain⟨dmC,i0,kmC⟩:=C'.go;obtain⟨dmW,i1,kmW⟩:=D'.go;obtain⟨dTI,i2,kTI⟩:=E1.go;obtain⟨dTT,i3,kTT⟩:=E2.go;obtain⟨dTN,i4,kTN⟩:=E3.go;obtain⟨dRI,j0,kRI⟩:=E4.go;obtain⟨dRC,a3,kRC⟩:=E5.go;obtain⟨dRW,j1,kRW⟩:=E6.go;obtain⟨ocZ,odZ,T5,T6,T7,T8,T9,T',slZ,lZ,cZ,kZ⟩:=tZ.2;have FZ:=pW (st:=lK) lZ cZ kZ;have N:=K' X G z2;have r:=K' X G z3;have b:=K' X G Q;have J:=K' X G z0;have a:=K' X G p;have j:=K' X G i;have n:=K' X G R;have f:=K' X G A;have L:=K' X G z4;have n0:=K' X G z5;have O:=K' X G z1;have n1:=K' X G z6;have d:=K' X G o;have j2:my K y:=λH=>.inr #[_,_,_,x7,Z,Z,bo,(.cons #[_,Z] (.cons #[_,Z] .nil))];refine#[fnOf "law" "law" (bE lK) (bg lK) (aa lK) .none T5 T6 T7 T8 T9 T',λs v=>.of_eq Z,λbase _ _=>?_];have g:aj l.prog w K mg base aA 1 o6 _ _ aL:=wm F;have U0:aj l.prog w K mg base aA 1 o5 _ _ (n8 K):=AW c9 N r;have G0:aj l.prog w K mg base aA 2 o8 _ _ eG:=ZZ B #[g,F.b2,k,m];have G3:aj l.prog w K mg base aA 2 o' _ _ dY:=rS F0 g F.b2 k m b;have G5:aj l.prog w K mg base aA 6 p1 _ _ (cy 4):=yK (P:=l.prog) (w:=w) (base:=base) F1 F1.b3 m6 #[g,F.b2,k,m] #[G0,B.b1,V,Y] N 4;have U1:aj l.prog w K mg base aA 7 p3 _ _ hZ:=wj c' #[g,F.b2,k,m] #[G5,F1.b3,k',m6];have SS:=D9 (P:=l.prog) (w:=w) (base:=base) d0 F4 #[g,F.b2,k,m] #[G5,F1.b3,k',m6] #[U1,c'.b2,I3,I4] d0.b5 I5 F4.b5 d1 N n b;have U2:aj l.prog w K mg base aA 21 p6 _ _ (gg 6):=(SS 6).2;have U3:aj l.prog w K mg base aA 22 p9 _ _ nZ:=AS d2 #[g,F.b2,k,m] #[G3,F0.b2,k2,m5] #[U2,F4.b5,I6,d1] N b n r;have G1:aj l.prog w K mg base aA 2 p' _ _ lS:=DE D #[g,F.b2,k,m];have U4:aj l.prog w K mg base aA 3 q2 _ _ (c8 2):=rR d3 #[g,F.b2,k,m] #[G1,D.b3,k0,m0];have U5:aj l.prog w K mg base aA 3 q4 _ _ (c8 1):=Z3 d4 #[g,F.b2,k,m] #[G1,D.b3,k0,m0] r n;have U6:aj l.prog w K mg base aA 3 q6 _ _ (c8 1):=YC d5 #[g,F.b2,k,m] #[G1,D.b3,k0,m0] r n;have U7:aj l.prog w K mg base aA 4 q8 _ _ i6:=vX d6 #[g,F.b2,k,m] #[G1,D.b3,k0,m0] #[G3,F0.b2,k2,m5] #[U5,d4.b4,K2,K3] #[U6,d5.b4,K4,K5] #[U4,d3.b4,J0,K1];have U8:aj l.prog w K mg base aA 23 q' _ _ i7:=vY d7 #[g,F.b2,k,m] #[G0,B.b1,V,Y] #[U7,d6.b1,L0,L1] #[U3,d2.b3,I7,I'] N n;have NS:=yt (P:=l.prog) (w:=w) (base:=base) q q.b1 M L f;have G6:aj l.prog w K mg base aA 7 f0 _ _ (db 6):=NS 6;have U9:aj l.prog w K mg base aA 7 f0 _ _ (og K):=A3 (fN:=f0) (fdN:=E7) q #[NS 5,q.b1,S,M] L f;have U':aj l.prog w K mg base aA 1 l6 _ _ lT:=A4 b0;have US:=Em (P:=l.prog) (w:=w) (base:=base) b9 b7 T b9.b2 H0 b7.b2 E' T.b2 m4 #[U',b0.b1,E8,E9] #[G6,q.b1,S,M] J L f a;have V0:aj l.prog w K mg base aA 31 f1 _ _ (fQ 7):=(US 7).2;have V1:aj l.prog w K mg base aA 10 f1 _ _ (fQ 0):=(US 0).2;have V2:aj l.prog w K mg base aA 1 l9 _ _ lP:=AV b';have G7:aj l.prog w K mg base aA 2 l' _ _ gi:=v6 F3 #[V2,b'.b1,H1,H2] J;have V3:aj l.prog w K mg base aA 1 n3 _ _ gZ:=vZ c2;have V4:aj l.prog w K mg base aA 8 f2 _ _ fq:=rV U #[G6,q.b1,S,M];have V5:aj l.prog w K mg base aA 8 f2 _ _ (oh K):=A5 U #[U9,q.b1,S,M];have V6:aj l.prog w K mg base aA 11 n7 _ _ hV:=wf c4 #[V1,T.b2,k7,m4];have V7:aj l.prog w K mg base aA 63 f9 _ _ (lU C 8):=Gf (P:=l.prog) (w:=w) (base:=base) ck a2 h' i0 i1 a2.b3 a' h'.b3 B2 i0.b3 B4 i1.b4 B6 #[G7,F3.b1,k8,c1] #[V0,T.b2,k7,m4] #[V3,c2.b1,H3,H4] #[V4,U.b1,k9,c3] #[V6,c4.b2,H5,H6] N n a 8 (GV _);have V8:aj l.prog w K mg base aA 3 f7 _ _ (n9 C):=AY h8 ck #[G7,F3.b1,k8,c1];have V9:aj l.prog w K mg base aA 64 o1 _ _ (j' K y):=wc c5 ck mk V8 h8.b2 (Nl X G x8) (Nl X G x5) j2 V7 a2.b3 a' #[V5,U.b1,k9,c3] n a;have V':aj l.prog w K mg base aA 65 o3 _ _ (i8 K y):=v0 c6 #[V9,c5.b3,H7,H8] n;have W0:aj l.prog w K mg base aA 1 r1 _ _ hG:=Z6 d8 (Nl X G v1);have G4:aj l.prog w K mg base aA 7 r3 _ _ (cg K 6):=uL (P:=l.prog) (w:=w) (base:=base) E E.b2 m1 #[W0,d8.b3,L5,L6] 6;have G2:aj l.prog w K mg base aA 1 s2 _ _ (gY y):=rO I;have G9:aj l.prog w K mg base aA 2 s4 _ _ (g9 y):=Z8 F6 #[G2,I.b2,k1,m2] O n0;have W1:aj l.prog w K mg base aA 8 s6 _ _ fV:=oI e8 #[G4,E.b2,k3,m1] n;have W2:aj l.prog w K mg base aA 9 s8 _ _ (fi y):=oE e9 #[G9,F6.b3,e6,e7] #[G2,I.b2,k1,m2] #[G4,E.b2,k3,m1] #[W1,e8.b2,N',O'];have W3:aj l.prog w K mg base aA 1 s' _ _ dX:=rQ e';have G':aj l.prog w K mg base aA 8 u1 _ _ (lQ y):=rP F7 #[G2,I.b2,k1,m2] #[G4,E.b2,k3,m1] n j2;have W4:aj l.prog w K mg base aA 9 u3 _ _ (fj y):=YE g1 #[G',F7.b3,f',g0] O n0;have W5:aj l.prog w K mg base aA 9 u8 _ _ (t6 y):=Z9 g2 #[G2,I.b2,k1,m2] #[G9,F6.b3,e6,e7] #[W3,e'.b1,Q',R0] #[G',F7.b3,f',g0];have W6:clsIn K x≠none:=by
  unfold clsIn;rw[y2];intro z;cases z
 have W7:clsIn K t≠none:=by unfold clsIn;rw[y3];intro z;cases z
 have l0:=Nl X G x9;have l1:=Nl X G x';have W8:XM K mg "TooLong" x:=#[e0,k4,a4,t0,l0];have W9:XM K mg "TooDeep" t:=#[e1,k5,a5,t1,l1];have l2:aj l.prog w K mg base aA 1 r5 _ _ i9:=oG F5;have W':aj l.prog w K mg base aA 2 s0 _ _ i9:=oH e5 #[l2,F5.b2,d9,d'];have Y':aj l.prog w K mg base aA 2 r7 _ _ gF:=rM e3 #[l2,F5.b2,d9,d'] N;have Z':aj l.prog w K mg base (dD l.prog w) 1 r9 _ _ (dS t):=oF e4 (Nl X G vD) W9;have GTI:aj l.prog w K mg base aA 1 f4 _ _ (lh c):=wo i2 rk;have GTT:aj l.prog w K mg base (dD l.prog w) 1 f5 _ _ (h9 c x):=rW i3 rk W8;have GTN:aj l.prog w K mg base aA 1 f6 _ _ (fo c):=wq i4 rk;have GRI:aj l.prog w K mg base aA 2 f3 _ _ (i' c):=we j0 rk GTI i2.b3 (Nl X G vT) tm;have GRC:=C0 (P:=l.prog) (w:=w) (base:=base) rk a3 a3.b4 m3 j1 j1.b3 a9 #[W4,g1.b2,R1,R3] #[W2,e9.b3,P1,P4] #[W5,g2.b2,R4,R5] GTT i3.b1 a6 GTN i4.b2 a8 (Z') e4.b1 L' N1 #[W',e5.b2,N2,N3] n 16;have GRu:aj l.prog w K mg base (dD l.prog w) 45 u' _ _ (oi x t y):=A6 g4 rk z' GRI j0.b4 (Nl X G vR) #[Y',e3.b3,L7,L8] GRC a3.b4 m3;have GCe:aj l.prog w K mg base aA 3 w1 _ _ gG:=rN h0 #[g,F.b2,k,m] #[G0,B.b1,V,Y] b;have GLc:aj l.prog w K mg base aA 36 w4 _ _ (gr 16):=Du (P:=l.prog) (w:=w) (base:=base) a1 a1.b4 h2 h1 h1.b4 S6 #[g,F.b2,k,m] #[G0,B.b1,V,Y] N b n 16;have GLb:aj l.prog w K mg base aA 37 w6 _ _ oe:=A0 h3 #[g,F.b2,k,m] #[G3,F0.b2,k2,m5] #[GLc,a1.b4,S7,h2];have GWi:aj l.prog w K mg base aA 34 v4 _ _ (gu 16):=Ep (P:=l.prog) (w:=w) (base:=base) g5 g5.b2 R8 F9 F9.b2 g6 d 16;have GWt:aj l.prog w K mg base aA 35 v7 _ _ oj:=Bg g7 #[GWi,F9.b2,R9,g6];have hxS:clsIn K u≠none:=by unfold clsIn;rw[y4];intro z;cases z
 have l3:=Nl X G y0;have x0:XM K mg "NoStep" u:=#[e2,k6,X',t2,l3];have SA:=DZ (P:=l.prog) (w:=w) (base:=base) a0 x0 N a0.b2 g8;have l4:aj l.prog w K mg base aA 17 w8 _ _ (fu 16):=DY (P:=l.prog) (w:=w) (base:=base) F2 F2.b2 m7 d 16;have GAb:aj l.prog w K mg base aA 70 w' _ _ (xB K):=(DA h5 #[U0,c9.b2,I1,I2] #[g,F.b2,k,m] #[U8,d7.b1,L3,L4] #[V',c6.b1,H9,H'] #[GCe,h0.b1,S4,S5] (GRu) g4.b5 R6 R7 #[GLb,h3.b1,S8,S9] #[l0,W6,t0,m8,l1,W7,t1,m9,y5,y',z7]).mono RT;have GSe:aj l.prog w K mg base (dD l.prog w) 36 v' _ _ (lg u):=wg g' x0 ((SA 17).mono RT) a0.b2 S1 g8 #[GWt,g7.b1,R',S0];have GTo:aj l.prog w K mg base aA 37 x2 _ _ ll:=wt h6 (GSe) g'.b2 S2 S3 #[X',q1,z8] l3 hxS t2 m' (Nl X G y1) j;have GBa:aj l.prog w K mg base aA 18 x4 _ _ n6:=AT h7 #[l4,F2.b2,h4,m7] N;exact AZ FZ #[GAb,h5.b1,S',T0] #[l4,F2.b2,h4,m7] #[GTo,h6.b2,T1,T2] #[GBa,h7.b1,T3,T4] n1
theorem FM{l:PySem.W.OpenLaw}{Y:World->Heap->Prop}{d:DefRec}{K:Params->Frag}(e:l.most=some 63)(H:d.params.defaults=[])
  (g:∀(w:World) (h:Heap),Y w h->(K w.params).In h)
  (F:∀(w:World) (mg:Str->Option Value) (b:Addr) (h:Heap),(K w.params).In h->h.Ns mainGlobals mg->mg d.name=some (.ref b)->
   ∃c:FuncData,(∀(s:Shared) (u:Value),BindsTo s c #[[u],[]] [("_law_script",u)])/\∀base:Heap,(K w.params).In base->base.Ns mainGlobals mg->aj l.prog w (K w.params) mg base aA 71 b c ["_law_script"] (lR$ K w.params)):
  PySem.W.WalkO q L m Y l.row.toRowW d [] (λf v=>PySem.call f v):=
 _L.xM (n:=63) (k:=71) (x:="_law_script") (CX:=λ_=>aA) (sp:=λw=>lR (K w.params)) e RT H #[Z,RT,RT] g F (λ_ _ a N i _ j=>#[a,N,Z,j,i,λ_=>Z]) λ_ _ _ _ _ z=>z
end _K
structure PySem.W.Fast:Prop where(tw5338334975021123782 tw13075869414587347622 tw15323646113866155054 tw15287979446955144980 tw2971697898173568473 tw10791413039436059020 tw16977002752699314740 tw14043786563996846223 tw2284706762013090430 tw13647152540821413300 tw11802532762725433006 tw17823219333100728712 tw4610123229790551710 tw8001173603655777349 tw275118648931436407 tw5469702823808006751 tw4699949320430439702 tw17087097541344677314 tw11282177964049389295 tw7193260571779576349 tw18331260475530017892 tw18231617843525017984 tw15115554114271299177 tw10803573065954592521 tw909494687554594725 tw9033361772440363493 tw12749570708757242936 tw6004289269889852811 tw2254425661796341798 tw668146429523961756 tw15410055708724508705 tw4079823929796114721 tw237076524656996926 tw9591714537539316837 tw5476512681907608549 tw16331624952507148792 tw13348735965418143515 tw2178774015182420648 tw4259647782767303054 tw415439957773973164 tw2533901904394071321 tw11502736396873174377 tw5748184118676910862 tw9543187811021458939 tw8864182168371759019 tw1489026441113498660 tw7557509165934727018 tw6664628362555730204 tw12948237692401274877 tw6575589561207495744 tw3318840327387525131 tw17057387538690828000 tw7346766290952024770 tw15222609431437442762 tw18007677983989653035 tw225432459985041128 tw5602931223608933458 tw3053763925154589851 tw10510257409529239864 tw7855219813426061880 tw13400874153013129610 tw15597021763897166653 tw18055039171905191372 tw15994581147704277029 tw13508121603692934629 tw10969645227576995849 tw2046769716380142540 tw17709232447098378515 tw7477996324579150054 tw9740327024980657025 tw11099974870238396096 tw7126871634264997161 tw16213982809243466284 tw10891077062331177998 tw1601076362579582213 tw7953152132311199487 tw12487156795341231966 tw10291972573224455627 tw4868818060483690622 tw4859555604731797648 tw14183828909634668257 tw8480069302874369793 tw17617122287833819270 tw16012737242828005693 tw8928513540230300842 tw12529775866346434426 tw1819445885538660540 tw13615138191641488092 tw4924775370050502430 tw15649018999035912934 tw14870353119071355325 tw16941445407199741105 tw7098643169057950839 tw8471181570591353059 tw8556443393584819089 tw10886227018676598388 tw12826125863366852988 tw12389417931893157048 tw13257603724929061691 tw16850238242253331987 tw9710573749513826422 tw17528443952860342743 tw4079855084278119601 tw2044647110518466590 tw13668023330302173887 tw3814180982097438527 tw8246191699929613720 tw9251405782510233072 tw13171436405076111000 tw17460069637451932362 tw15841917120967884436 tw11469049965664386105 tw10968773250220143999 tw14181661539260299920 tw3162672963302541086 tw12564613875915964617 tw3069643794831785595 tw6039171275732753193 tw13779049553926137200 tw13953338266755662262 tw972348799822349259 tw15071256838240975758 tw9683626208144626947 tw14307967574514011175 tw2348941915495279098 tw4190763559770458380 tw15223647347239044534 tw6595898965025669710 tw3183120547344719845 tw12802541552602181234 tw5849646725914315857 tw1165055851221985962 tw999242243169975395 tw6386345874088460197 tw13678691825156753645 tw3106611467670174840 tw5436220273696463012 tw8189058950884720356 tw15335973013128414249 tw5942366793373851220 tw11721835134114706640 tw13855011862949351633 tw9464589576999341171 tw14524875037648353933 tw16748986532808582428 tw11163255820385462247 tw3756085625720530758 tw107838391792530331 tw16035823731139999198 tw12308878524682541804 tw12076664418817038216 tw11544482583364516880 tw3670852068384102094 tw8793827201774265701 tw15780437762333899404 tw740736732396381349 tw1580098890168562661 tw17298696889674110795 tw18254381220211154006 tw6435452308682837131 tw7121981933982651188 tw4374933716226931260 tw459534801542788426 tw2423851461742760778 tw9134761692434194724 tw4882084208539751168 tw1507487531423373186 tw15519684882342350201 tw7567284663115873915 tw15625039463616834917 tw3613132478142302610 tw12693844491926244346 tw10908926121836629154 tw12622895317949477927 tw10861369273173408661 tw11049940362197343085 tw9414381699843107823 tw7018099121151029733 tw5043879042613067183 tw2467155987496400929 tw17794457807033918963 tw7286114764204493122 tw9374725059623075790 tw4468924107273439469 tw18138198716411469651 tw6411260614859435062 tw14300891004858668310 tw3748069278205590449 tw7624867386013052737 tw11659052208458885664 tw18115790213035633971 tw5542763231379393848 tw3788572057709150348 tw8010256391640176315 tw4281809327603195776 tw10883337170884158322 tw16907853190405601879 tw134295242781196023 tw13819188762924412536 tw3327087778304645731 tw4220591679266056965 tw10471339053630320041 tw9516922663251762205 tw9009125193943383182 tw571229739168039590 tw17845748731240716286 tw7056222307509396847 tw1778748882182823640 tw5712225327155660509 tw10371853216320392319 tw8060159288357510724 tw10695081705034420267 tw16094398967640885768 tw9635679530132774505 tw10213276069238383385 tw1383244697488736309 tw89330226448300212 tw7781002993887565462 tw10548164305017092986 tw478412675435973456 tw15796914701799755017 tw6625692199019341654 tw7637337579352336829 tw11687366141789224091 tw7218616089728024399 tw12475429301067665712 tw329517396901737692 tw13876167541946601938 tw614270068676239571 tw17395210085239146257 tw793463768042230530 tw11873206338080620258 tw12633701193267639462 tw1872222273019008404 tw4724571038782701877 tw14095732910865349479 tw13693246880846561243:True)
open PySem PySem.W PyProof.Rows PySem.W.X
theorem _K.Eo {q : Program} {loose : List PySem.Str} {XP : (PySem.Str → Option Value) → Heap → Prop} {K : Params → Frag} {as : List Addr} {n t : Nat} {r : RowW} {d : DefRec} {kwd : List (PySem.Str × PySem.Expr)} {run : Value → List Value → Sem Value}
    (e : ∀ P, as = (K P).map (·.1)) (h : WalkO q loose XP (InK K) r d kwd run) : WalkX q loose XP (obsZ as) (valZ K n t) r d kwd run :=
  fun w s₀ s₁ mg mb G Y a o pm cd doc dV kV h1 h2 h3 h4 h5 h6 args vals as' L => h w s₀ s₁ mg mb G (InK.keeps w _ _ (z_facts e Y).2.1 L.keeps) a o pm cd doc dV kV h1 h2 h3 h4 h5 h6 args vals as'
set_option maxRecDepth 100000 in
set_option maxHeartbeats 0 in
theorem PySem.Challenge.cw_againbook_k27_what_reads_see_holds : PySem.Challenge.rw_againbook_k27_what_reads_see.Holds := by
  w_on; o_law; z_head; (case hw => w_witness2)
  refine _K.Eo (fun _ => by rfl)$ _K.FM (l := PySem.Challenge.rw_againbook_k27_what_reads_see) rfl rfl (fun w h Y => Y) ?F
  case F =>
    intro w mg fa h KX G hmg
    apply _K.yX KX G hmg
    iterate 56 (apply _K.FK;iterate 4 k_is)
    iterate 27 k_is
    iterate 3 k_exc
    iterate 3 (constructor<;>k_is)
    refine ⟨⟨?_,?_,?_,?_⟩,?_,?_,?_,?_,?_⟩;iterate 4 k_is
    iterate 5 (unfold _L.bK;k_is)
    iterate 2 (constructor;iterate 4 k_is)
    iterate 4 (constructor;iterate 3 k_is)
    refine ⟨⟨?_,?_,?_,?_⟩,?_,?_⟩;iterate 4 k_is
    iterate 2 (unfold _L.bK;k_is)
    constructor;iterate 4 k_is
    iterate 4 (constructor;iterate 3 k_is)
    iterate 11 (apply _K.Gd;iterate 3 k_is)
    iterate 13 k_is
    kit_is
